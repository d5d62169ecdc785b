import PyProof.Rows.All
import Wide.All
import OpenK.AllK
import Wide.FinOn
import Lean
import PyProof.EqAt
import PyProof.EqKinds
import PyProof.TupleCall
import PySem.Challenge.RW_coinrows_k14_first_replies_on_boards
set_option Elab.async false
set_option linter.all false
set_option maxRecDepth 100000
namespace L2
open PySem PySem.Spec PyProof.Rows
noncomputable abbrev Key := Sum Int Str
noncomputable def keyIs : Key → Value → Bool
  | .inl k, v => Value.isInt k v
  | .inr x, v => Value.isStrOf x v
noncomputable def keyH (w : World) : Key → Int
  | .inl k => hashInt k
  | .inr x => hashStr w x
theorem keyIs_shape : ∀ {k : Key} {v : Value}, keyIs k v = true → (∃ i t, k = Sum.inl i ∧ v = Value.int i t) ∨ (∃ x t, k = Sum.inr x ∧ v = Value.str x t)
  | .inl i, v, h => by
    obtain ⟨t, e⟩ := Value.isInt_shape (k := i) (v := v) h
    exact .inl ⟨i, t, rfl, e⟩
  | .inr x, v, h => by
    obtain ⟨t, e⟩ := Value.isStrOf_shape (x := x) (v := v) h
    exact .inr ⟨x, t, rfl, e⟩
theorem keyIs_int (i : Int) (t : Tok) : keyIs (.inl i) (.int i t) = true := by simp [keyIs, Value.isInt]
theorem keyIs_str (x : Str) (t : Tok) : keyIs (.inr x) (.str x t) = true := by simp [keyIs, Value.isStrOf]
theorem key_ll (a b : Int) : decide ((Sum.inl a : Key) = Sum.inl b) = (a == b) := by
  by_cases e : a = b
  · subst e; simp
  · have h : ¬ (Sum.inl a : Key) = Sum.inl b := fun q => e (Sum.inl.inj q)
    rw [decide_eq_false h]
    exact (beq_eq_false_iff_ne.mpr e).symm
theorem key_rr (a b : Str) : decide ((Sum.inr a : Key) = Sum.inr b) = decide (a = b) := by
  by_cases e : a = b
  · subst e; simp
  · have h : ¬ (Sum.inr a : Key) = Sum.inr b := fun q => e (Sum.inr.inj q)
    rw [decide_eq_false h, decide_eq_false e]
theorem key_lr (a : Int) (b : Str) : decide ((Sum.inl a : Key) = Sum.inr b) = false := decide_eq_false (fun q => nomatch q)
theorem key_rl (a : Str) (b : Int) : decide ((Sum.inr a : Key) = Sum.inl b) = false := decide_eq_false (fun q => nomatch q)
noncomputable def mixKind (prog : Program) (w : World) : PySem.KeyKind prog w Key where
  is := keyIs
  hash := keyH w
  inj := fun v a b ha hb => by
    rcases keyIs_shape ha with ⟨i, t, rfl, rfl⟩ | ⟨x, t, rfl, rfl⟩
    · rcases keyIs_shape hb with ⟨j, u, rfl, e⟩ | ⟨y, u, rfl, e⟩
      · injection e with e1 _; rw [e1]
      · exact nomatch e
    · rcases keyIs_shape hb with ⟨j, u, rfl, e⟩ | ⟨y, u, rfl, e⟩
      · exact nomatch e
      · injection e with e1 _; rw [e1]
  byValue := fun k v h => by
    rcases keyIs_shape h with ⟨i, t, rfl, rfl⟩ | ⟨x, t, rfl, rfl⟩ <;> rfl
  pyHash := fun hv h => by
    rcases keyIs_shape hv with ⟨i, t, rfl, rfl⟩ | ⟨x, t, rfl, rfl⟩
    · exact wpAny_pyHash_int h
    · exact wpAny_pyHash_str h
  eqBool := fun hu hv h => by
    rcases keyIs_shape hu with ⟨i, t, rfl, rfl⟩ | ⟨x, t, rfl, rfl⟩
    · rcases keyIs_shape hv with ⟨j, u, rfl, rfl⟩ | ⟨y, u, rfl, rfl⟩
      · rw [key_ll] at h; exact wpAny_eqBool_int h
      · rw [key_lr] at h; exact SeqAt.EqAt.int_str i t y u _ _ _ _ h
    · rcases keyIs_shape hv with ⟨j, u, rfl, rfl⟩ | ⟨y, u, rfl, rfl⟩
      · rw [key_rl] at h; exact SeqAt.EqAt.str_int x t j u _ _ _ _ h
      · rw [key_rr] at h; exact wpAny_eqBool_str h
  «strs» := fun k x t v h => by
    rcases keyIs_shape h with ⟨i, u, rfl, e⟩ | ⟨y, u, rfl, e⟩
    · exact nomatch e
    · injection e with e1 _
      subst e1
      cases v <;> rfl
theorem mixKind_int (prog : Program) (w : World) (i : Int) (t : Tok) : (mixKind prog w).is (.inl i) (.int i t) = true := keyIs_int i t
theorem mixKind_str (prog : Program) (w : World) (x : Str) (t : Tok) : (mixKind prog w).is (.inr x) (.str x t) = true := keyIs_str x t
end L2
namespace L2
open PySem PySem.Spec PyProof.Rows
inductive V where
  | non | bl (b : Bool) | int (i : Int) | str (x : Str) | byt (b : Array UInt8) | flt (b : UInt64) | ref (a : Addr) | ty (n : String)
  deriving DecidableEq
noncomputable def RelV : V → Value → Prop
  | .non, u => u = Value.none
  | .bl b, u => u = Value.bool b
  | .int i, u => ∃ t, u = Value.int i t
  | .str x, u => ∃ t, u = Value.str x t
  | .byt b, u => ∃ t, u = Value.bytes b t
  | .flt b, u => ∃ t, u = Value.float b t
  | .ref a, u => u = Value.ref a
  | .ty n, u => u = Value.type n
noncomputable abbrev Vals : List V → List Value → Prop := Paired RelV
theorem Vals.length {xs : List V} {us : List Value} (r : Vals xs us) : xs.length = us.length := Paired.length r
theorem Vals.get : ∀ {xs : List V} {us : List Value} {i : Nat} {x : V}, Vals xs us → xs[i]? = some x → ∃ u, us[i]? = some u ∧ RelV x u
  | _, _, _, _, .nil, e => by simp at e
  | _, _, 0, _, .cons r _, e => by simp at e; subst e; exact ⟨_, rfl, r⟩
  | _, _, i + 1, x, .cons _ t, e => by
    obtain ⟨u, h1, h2⟩ := Vals.get (i := i) (x := x) t (by simpa using e)
    exact ⟨u, by simpa using h1, h2⟩
theorem Vals.append : ∀ {xs ys : List V} {us ws : List Value}, Vals xs us → Vals ys ws → Vals (xs ++ ys) (us ++ ws)
  | _, _, _, _, .nil, s => s
  | _, _, _, _, .cons r t, s => .cons r (Vals.append t s)
theorem Vals.take : ∀ {xs : List V} {us : List Value} (n : Nat), Vals xs us → Vals (xs.take n) (us.take n)
  | _, _, 0, _ => .nil
  | _, _, _ + 1, .nil => .nil
  | _, _, n + 1, .cons r t => .cons r (Vals.take n t)
theorem Vals.drop : ∀ {xs : List V} {us : List Value} (n : Nat), Vals xs us → Vals (xs.drop n) (us.drop n)
  | _, _, 0, r => r
  | _, _, _ + 1, .nil => .nil
  | _, _, n + 1, .cons _ t => Vals.drop n t
noncomputable def RelO : Option V → Option Value → Prop
  | some v, some u => RelV v u
  | none, none => True
  | _, _ => False
noncomputable def KV {κ : Type} : List (κ × V) → List (κ × Value) → Prop := Paired fun (p : κ × V) (q : κ × Value) => p.1 = q.1 ∧ RelV p.2 q.2
noncomputable def kV : Key → V
  | .inl i => .int i
  | .inr x => .str x
inductive HO where
    | lst (xs : List V)
    | tup (xs : List V)
    | dK (kvs : List (Key × V)) | dT (kvs : List (List Key × V))
    | set (S : Int → Bool) (n : Nat)
    | ins (C dx : Addr) (fs : List (Str × V))
    | own (x : Addr)
    | xd (fs : List (Str × V))
    | met (f x : Addr)
    | rng (lo hi : Int)
    | frz (o : Obj) (u : HO)
    | tbl (ps : Array Value)
    | ext (φ : Heap → Prop)
noncomputable abbrev Hp := Addr → Option HO
noncomputable def upd (H : Hp) (a : Addr) (o : HO) : Hp := fun b => if b = a then some o else H b
theorem upd_same {H : Hp} {a : Addr} {o : HO} : upd H a o a = some o := by unfold upd; rw [if_pos rfl]
theorem upd_ne {H : Hp} {a b : Addr} {o : HO} (h : b ≠ a) : upd H a o b = H b := by unfold upd; rw [if_neg h]
theorem upd_upd {H : Hp} {a : Addr} {o u : HO} : upd (upd H a o) a u = upd H a u := by
  funext b; unfold upd; split <;> rfl
theorem ne_of {H : Hp} {a b : Addr} {o u : HO} (h : H a = some o) (h' : H b = some u) (d : o ≠ u) : a ≠ b := by
  intro e; subst e; rw [h] at h'; exact d (Option.some.inj h')
theorem ne_of_none {H : Hp} {a b : Addr} {o : HO} (h : H a = some o) (h' : H b = none) : a ≠ b := by
  intro e; subst e; rw [h] at h'; cases h'
section
variable (P : Program) (w : World)
noncomputable def ObjOk (H : Hp) (h : Heap) (a : Addr) : HO → Prop
  | .lst xs => xs.length ≤ sizeLine ∧ ∃ (its : List Value) (n : Nat), Vals xs its ∧ h.get? a = some { cls := .type "list", data := .seq its.toArray n }
  | .tup xs => xs.length ≤ sizeLine ∧ ∃ its : List Value, Vals xs its ∧ IsTup h a its.toArray
  | .dK kvs => kvs.length ≤ sizeLine ∧ (a == sysModules) = false ∧ ∃ vs, KV kvs vs ∧ h.DictOf (mixKind P w) a vs
  | .dT kvs => kvs.length ≤ sizeLine ∧ (a == sysModules) = false ∧ ∃ xs : List (List Key × Addr × Value),
      Paired (fun (p : List Key × V) (q : List Key × Addr × Value) => p.1 = q.1 ∧ H q.2.1 = some (.tup (p.1.map kV)) ∧ RelV p.2 q.2.2) kvs xs ∧
      ∃ o es ep, h.get? a = some o ∧ o.ExactDict ∧ o.data = .dict es ep ∧ es.toList = xs.map (entryOfKey (tupleKind (mixKind P w))) ∧ (xs.map (·.1)).Nodup
  | .set S n => h.SetOf (intKind P w) a S n
  | .ins C dx fs => H dx = some (.own a) ∧ fs.length ≤ 1000 ∧ dx ≠ a ∧ h.get? a = some (PySem.W.instObj C dx) ∧
      ∃ mA, h.Ns1 dx mA ∧ (∀ f, RelO (fs.lookup f) (mA f)) ∧ PySem.Within mA (fs.map (·.1))
  | .own _ => ∃ o, h.get? a = some o
  | .xd fs => ∃ mA, h.Ns1 a mA ∧ ∀ f, RelO (fs.lookup f) (mA f)
  | .rng lo hi => ∃ t u v, h.get? a = some { cls := .type "range", data := .fields #[.int lo t, .int hi u, .int 1 v] }
  | .frz o u => h.get? a = some o ∧ ObjOk H h a u
  | .tbl ps => h.get? a = some { cls := .none, data := .fields ps }
  | .met f x => h.get? a = some (PySem.W.methodObj (.ref f) (.ref x))
  | .ext φ => φ h ∧ (∃ o, h.get? a = some o) ∧ ∀ h1 h2 : Heap, φ h1 → (∀ o, h1.get? a = some o → h2.get? a = some o) → φ h2
noncomputable def HOk (H : Hp) (h : Heap) : Prop := ∀ a o, H a = some o → ObjOk P w H h a o
end
section
variable {P : Program} {w : World} {H H' : Hp} {h h' : Heap} {a : Addr} {o : HO}
theorem ObjOk.lt (x : ObjOk P w H h a o) : a < h.objs.size := by
  cases o with
  | lst xs => obtain ⟨_, _, _, _, e⟩ := x; exact Heap.lt_size e
  | tup xs => obtain ⟨_, _, _, p⟩ := x; exact p.lt
  | dK kvs => obtain ⟨_, _, _, _, o, _, _, e, _⟩ := x; exact Heap.lt_size e
  | dT kvs => obtain ⟨_, _, _, _, o, _, _, e, _⟩ := x; exact Heap.lt_size e
  | set S n => obtain ⟨o, _, _, _, e, _⟩ := x; exact Heap.lt_size e
  | ins C dx fs => obtain ⟨_, _, _, e, _⟩ := x; exact Heap.lt_size e
  | own y => obtain ⟨_, e⟩ := x; exact Heap.lt_size e
  | xd fs => obtain ⟨_, ⟨_, _, _, e, _⟩, _⟩ := x; exact Heap.lt_size e
  | rng lo hi => obtain ⟨_, _, _, e⟩ := x; exact Heap.lt_size e
  | frz ob u => obtain ⟨e, _⟩ := x; exact Heap.lt_size e
  | tbl ps => exact Heap.lt_size (show h.get? a = some _ from x)
  | met f y => exact Heap.lt_size (show h.get? a = some _ from x)
  | ext φ => obtain ⟨_, ⟨_, e⟩, _⟩ := x; exact Heap.lt_size e
theorem Paired.mapP {α β : Type} {F G : α → β → Prop} : ∀ {l₁ : List α} {l₂ : List β}, Paired F l₁ l₂ → (∀ a b, F a b → G a b) → Paired G l₁ l₂
  | _, _, .nil, _ => .nil
  | _, _, .cons r t, f => .cons (f _ _ r) (Paired.mapP t f)
theorem ObjOk.stay (x : ObjOk P w H h a o) (k : ∀ b u, (b = a ∨ H b = some (.own a)) → h.get? b = some u → h'.get? b = some u)
    (ho : ∀ b, H b = some (.own a) → H' b = some (.own a)) (ht : ∀ b xs, H b = some (.tup xs) → H' b = some (.tup xs)) : ObjOk P w H' h' a o := by
  induction o with
  | lst xs => obtain ⟨z, its, n, r, e⟩ := x; exact ⟨z, its, n, r, k _ _ (.inl rfl) e⟩
  | tup xs => obtain ⟨z, its, r, ob, e, c⟩ := x; exact ⟨z, its, r, ob, k _ _ (.inl rfl) e, c⟩
  | dK kvs => obtain ⟨z, y, vs, r, ob, es, ep, e, c⟩ := x; exact ⟨z, y, vs, r, ob, es, ep, k _ _ (.inl rfl) e, c⟩
  | dT kvs =>
    obtain ⟨z, y, xs, r, ob, es, ep, e, c⟩ := x
    exact ⟨z, y, xs, Paired.mapP r fun p q z => ⟨z.1, ht _ _ z.2.1, z.2.2⟩, ob, es, ep, k _ _ (.inl rfl) e, c⟩
  | set S n => obtain ⟨ob, es, ep, t, e, c⟩ := x; exact ⟨ob, es, ep, t, k _ _ (.inl rfl) e, c⟩
  | ins C dx fs =>
    obtain ⟨d, z, ne, e, mA, ⟨od, es, ep, e2, c⟩, r⟩ := x
    exact ⟨ho _ d, z, ne, k _ _ (.inl rfl) e, mA, ⟨od, es, ep, k _ _ (.inr d) e2, c⟩, r⟩
  | own y => obtain ⟨ob, e⟩ := x; exact ⟨ob, k _ _ (.inl rfl) e⟩
  | xd fs => obtain ⟨mA, ⟨od, es, ep, e, c⟩, r⟩ := x; exact ⟨mA, ⟨od, es, ep, k _ _ (.inl rfl) e, c⟩, r⟩
  | rng lo hi => obtain ⟨t, u, v, e⟩ := x; exact ⟨t, u, v, k _ _ (.inl rfl) e⟩
  | frz ob u ih => obtain ⟨e, q⟩ := x; exact ⟨k _ _ (.inl rfl) e, ih q⟩
  | tbl ps =>
    have e : h.get? a = some { cls := .none, data := .fields ps } := x
    show h'.get? a = some { cls := .none, data := .fields ps }
    exact k a _ (.inl rfl) e
  | met f y =>
    have e : h.get? a = some (PySem.W.methodObj (.ref f) (.ref y)) := x
    show h'.get? a = some (PySem.W.methodObj (.ref f) (.ref y))
    exact k a _ (.inl rfl) e
  | ext φ => obtain ⟨p, ⟨o, e⟩, st⟩ := x; exact ⟨st _ _ p fun o q => k _ _ (.inl rfl) q, ⟨o, k _ _ (.inl rfl) e⟩, st⟩
theorem HOk.lt (x : HOk P w H h) (e : H a = some o) : a < h.objs.size := (x a o e).lt
theorem HOk.fresh (x : HOk P w H h) (e : h.objs.size ≤ a) : H a = none := by
  cases q : H a with
  | none => rfl
  | some u => exact absurd (Nat.lt_of_lt_of_le (x.lt q) e) (Nat.lt_irrefl _)
theorem HOk.kept (x : HOk P w H h) (k : ∀ b u, h.get? b = some u → h'.get? b = some u) : HOk P w H h' := fun a o e =>
  (x a o e).stay (fun b u _ q => k b u q) (fun _ q => q) fun _ _ q => q
theorem HOk.laid (x : HOk P w H h) (k : ∀ b u, h.get? b = some u → h'.get? b = some u) (hp : h.objs.size ≤ a) (new : ObjOk P w (upd H a o) h' a o) : HOk P w (upd H a o) h' := fun b u e => by
  have hn := x.fresh hp
  by_cases hb : b = a
  · subst hb; rw [upd_same] at e; cases e; exact new
  · rw [upd_ne hb] at e
    exact (x b u e).stay (fun c v _ q => k c v q) (fun c q => by rw [upd_ne (ne_of_none q hn)]; exact q) fun c xs q => by rw [upd_ne (ne_of_none q hn)]; exact q
end
noncomputable def Rd (H : Hp) (a : Addr) (u : HO) : Prop := H a = some u ∨ ∃ o, H a = some (.frz o u)
theorem Rd.ok {P : Program} {w : World} {H : Hp} {h : Heap} {a : Addr} {u : HO} (r : Rd H a u) (x : HOk P w H h) : ObjOk P w H h a u := by
  rcases r with r | ⟨o, r⟩
  · exact x a u r
  · obtain ⟨_, q⟩ := x a _ r
    exact q
noncomputable def Mut : Option HO → Prop
  | some (.lst _) => True
  | some (.dK _) => True
  | some (.dT _) => True
  | some (.set _ _) => True
  | some (.ins _ _ _) => True
  | some (.ext _) => True
  | _ => False
section
variable {P : Program} {w : World} {H : Hp} {h h' : Heap} {x e : Addr} {o' : HO}
theorem HOk.write (ok : HOk P w H h) (mu : Mut (H x)) (he : e = x ∨ H e = some (.own x)) (k : ∀ b u, b ≠ e → h.get? b = some u → h'.get? b = some u) (heo : ∃ u, h'.get? e = some u)
    (new : ObjOk P w (upd H x o') h' x o') : HOk P w (upd H x o') h' := fun b u q => by
  have nown : ∀ c y, H c = some (.own y) → c ≠ x := fun c y r z => by subst z; rw [r] at mu; exact mu
  have ntup : ∀ c xs, H c = some (.tup xs) → c ≠ x := fun c xs r z => by subst z; rw [r] at mu; exact mu
  by_cases hb : b = x
  · subst hb; rw [upd_same] at q; cases q; exact new
  · rw [upd_ne hb] at q
    by_cases hbe : b = e
    · have q' : H b = some (.own x) := by
        rcases he with z | z
        · exact absurd (hbe.trans z) hb
        · rw [hbe]; exact z
      rw [q] at q'; cases q'
      obtain ⟨v, hv⟩ := heo
      exact ⟨v, by rw [hbe]; exact hv⟩
    · refine (ok b u q).stay (fun c v hc r => k c v ?_ r) (fun c r => by rw [upd_ne (nown c b r)]; exact r) fun c xs r => by rw [upd_ne (ntup c xs r)]; exact r
      rcases hc with rfl | hc
      · exact hbe
      · rintro rfl
        rcases he with z | z
        · exact nown c b hc z
        · rw [hc] at z; cases z; exact hb rfl
end
structure Un (fs ex : List Addr) (H H' : Hp) (h h' : Heap) : Prop where
  keep : ∀ b o, h.get? b = some o → H b = none → b ∉ fs → b ∉ ex → h'.get? b = some o
  slot : ∀ b o, h.get? b = some o → H b = none → b ∈ fs → b ∉ ex → ∃ sl, h'.get? b = some { o with slots := sl }
  free : ∀ b o, h.get? b = some o → H b = none → b ∉ ex → H' b = none
  there : ∀ b o, h.get? b = some o → b ∉ ex → ∃ o', h'.get? b = some o'
  tups : ∀ b xs, H b = some (.tup xs) → H' b = some (.tup xs)
  frzs : ∀ b o u, H b = some (.frz o u) → H' b = some (.frz o u)
  tbls : ∀ b ps, H b = some (.tbl ps) → ∃ more, H' b = some (.tbl (ps ++ more))
section
variable {fs fs' ex ex' : List Addr} {H H1 H2 : Hp} {h h1 h2 h' : Heap} {a x e : Addr} {o : HO}
theorem Un.any (u : Un fs ex H H1 h h1) {b : Addr} {ob : Obj} (q : h.get? b = some ob) (n : H b = none) (hx : b ∉ ex) : ∃ sl, h1.get? b = some { ob with slots := sl } := by
  by_cases hb : b ∈ fs
  · exact u.slot b ob q n hb hx
  · exact ⟨ob.slots, u.keep b ob q n hb hx⟩
theorem Un.kept (k : ∀ b u, h.get? b = some u → h'.get? b = some u) : Un fs ex H H h h' :=
  ⟨fun b ob q _ _ _ => k b ob q, fun b ob q _ _ _ => ⟨ob.slots, k b ob q⟩, fun _ _ _ n _ => n, fun b ob q _ => ⟨ob, k b ob q⟩, fun _ _ q => q, fun _ _ _ q => q, fun _ ps q => ⟨#[], by rw [q]; simp⟩⟩
theorem Un.refl : Un fs ex H H h h := Un.kept fun _ _ q => q
theorem Un.laid (k : ∀ b u, h.get? b = some u → h'.get? b = some u) (hp : h.objs.size ≤ a) (hn : H a = none) : Un fs ex H (upd H a o) h h' where
  keep := fun b u q _ _ _ => k b u q
  slot := fun b u q _ _ _ => ⟨u.slots, k b u q⟩
  free := fun b u q n _ => by rw [upd_ne (Nat.ne_of_lt (Nat.lt_of_lt_of_le (Heap.lt_size q) hp))]; exact n
  there := fun b u q _ => ⟨u, k b u q⟩
  tups := fun b xs q => by rw [upd_ne (ne_of_none q hn)]; exact q
  frzs := fun b u xs q => by rw [upd_ne (ne_of_none q hn)]; exact q
  tbls := fun b ps q => ⟨#[], by rw [upd_ne (ne_of_none q hn), q]; simp⟩
theorem Un.write (mu : Mut (H x)) (he : e = x ∨ H e = some (.own x)) (k : ∀ b u, b ≠ e → h.get? b = some u → h'.get? b = some u) (heo : ∃ u, h'.get? e = some u) : Un fs ex H (upd H x o) h h' := by
  have hx : ∀ b, H b = none → b ≠ x := fun b n z => by subst z; rw [n] at mu; exact mu
  have hb : ∀ b, H b = none → b ≠ e := fun b n z => by
    subst z
    rcases he with r | r
    · exact hx b n r
    · rw [n] at r; cases r
  have hm : ∀ b u, H b = some u → ¬ Mut (some u) → b ≠ x := fun b u q nm z => by subst z; rw [q] at mu; exact nm mu
  refine ⟨fun b u q n _ _ => k b u (hb b n) q, fun b u q n _ _ => ⟨u.slots, k b u (hb b n) q⟩, fun b u q n _ => by rw [upd_ne (hx b n)]; exact n, fun b u q _ => ?_,
    fun b xs q => by rw [upd_ne (hm b _ q fun z => z)]; exact q, fun b u xs q => by rw [upd_ne (hm b _ q fun z => z)]; exact q, fun b ps q => ⟨#[], by rw [upd_ne (hm b _ q fun z => z), q]; simp⟩⟩
  by_cases hbe : b = e
  · subst hbe; exact heo
  · exact ⟨u, k b u hbe q⟩
end
noncomputable def trk (h : Heap) (H : Hp) : List Addr := (List.range h.objs.size).filter fun a => (H a).isSome
noncomputable def hidT (h : Heap) (H : Hp) : Heap := PySem.W.hideAll h (trk h H)
theorem hidT_size (h : Heap) (H : Hp) : (hidT h H).objs.size = h.objs.size := PySem.W.hideAll_size _ _
theorem hidT_get {h : Heap} {H : Hp} {b : Addr} {o : Obj} (e : h.get? b = some o) (n : H b = none) : (hidT h H).get? b = some o :=
  PySem.W.hideAll_get _ e fun hm => by
    have q : (H b).isSome = true := (List.mem_filter.mp hm).2
    rw [n] at q; simp at q
theorem of_hidT {h : Heap} {H : Hp} {b : Addr} {o : Obj} (e : (hidT h H).get? b = some o) : h.get? b = some o ∧ H b = none := by
  have e' : h.get? b = some o := PySem.W.of_hideAll (trk h H) e
  refine ⟨e', ?_⟩
  cases q : H b with
  | none => rfl
  | some x =>
    have hm : b ∈ trk h H := List.mem_filter.mpr ⟨List.mem_range.mpr (Heap.lt_size e'), by simp [q]⟩
    have z : (hidT h H).get? b = none := PySem.W.hideAll_none (trk h H) hm
    rw [z] at e; cases e
noncomputable def allNews (g h : Heap) (L : Addr) : List (Addr × Obj) := (List.range h.objs.size).filterMap fun a => if a = L ∨ (g.get? a).isSome = true then none else (h.get? a).map fun o => (a, o)
noncomputable def rest (g h : Heap) (L d : Addr) : List (Addr × Obj) := (allNews g h L).filter fun p => decide (p.1 ≠ d)
end L2
namespace L2
open PySem PySem.Spec PyProof.Rows
structure Mod (K : PySem.W.Frag) (mg : Str → Option Value) (base : Heap) : Prop where
  kin : K.In base
  glob : base.Ns mainGlobals mg
  blt : ∃ mb, base.Ns builtinsNs mb ∧ ∀ x : Str, x ≠ "__name__" → mb x = bootBuiltins x
  nolimit : base.NoLimit
structure Cx where
  prog : Program
  w : World
  K : PySem.W.Frag
  mg : Str → Option Value
  base : Heap
  A : Around
  N : List Str
  s₀ : Shared
  H₀ : Hp
  env : Env
  outer : List Env
  stack : List Env
  ex : List Addr
  fn : Str → Bool
  calm : Bool
  pn : List (Addr × Obj)
  xe : Value → Shared → Prop
noncomputable def frs (l : List Env) : List Addr := l.filterMap (·.frame)
noncomputable abbrev Cx.fs (X : Cx) : List Addr := frs X.outer
noncomputable def Vis (sc : Scope) (x : Str) : Prop := sc.names.lookup x = some .local ∨ sc.names.lookup x = some .cell ∨ sc.names.lookup x = some .free
noncomputable def Loc (sc : Scope) (x : Str) : Prop := sc.names.lookup x = some .local ∨ sc.names.lookup x = some .cell
noncomputable def Look (env : Env) (h : Heap) (m : Str → Option Value) (x : Str) (u : Value) : Prop :=
  (env.kindOf x = some .local ∧ m x = some u) ∨ ((env.kindOf x = some .cell ∨ env.kindOf x = some .free) ∧ ∃ c, env.cells.lookup x = some c ∧ h.IsCell c (some u))
structure Cx.Ok (X : Cx) : Prop where
  mod : Mod X.K X.mg X.base
  kind : X.env.scope.kind = .function
  glob : X.env.globals = mainGlobals
  blt : X.env.builtins = builtinsNs
  above : X.s₀.heap.objs.size ≤ X.env.locals
  inj : ∀ x y c, X.env.cells.lookup x = some c → X.env.cells.lookup y = some c → x = y
  has : ∀ x, (X.env.kindOf x = some .cell ∨ X.env.kindOf x = some .free) → ∃ c, X.env.cells.lookup x = some c
  cab : ∀ x c, X.fn x = true → X.env.cells.lookup x = some c → X.s₀.heap.objs.size ≤ c
  hd : X.calm = true → X.A.handled = none
  frames : X.A.frames = some X.stack
  stk : X.stack = X.outer ∨ (X.stack = X.env :: X.outer ∧ X.env.frame = some X.env.locals)
  exf : ∀ b ∈ X.ex, b ≠ X.env.locals ∧ ∀ x c, X.env.cells.lookup x = some c → c ≠ b
  bs : ∀ b o, X.base.get? b = some o → X.s₀.heap.get? b = some o ∧ X.H₀ b = none
  bsz : X.base.objs.size ≤ X.s₀.heap.objs.size
  noex : ∀ b o, X.base.get? b = some o → b ∉ X.ex
  exfs : ∀ b ∈ X.ex, b ∉ X.fs
  funs : X.s₀.heap.FunFrames X.base X.outer
  frf : ∀ b ∈ X.fs, X.H₀ b = none
structure Inv (X : Cx) (pins : List (Addr × Obj)) (σ : List (Option V)) (H : Hp) (s : Shared) : Prop where
  ok : X.Ok
  os : s.os = X.s₀.os
  bare : AllBare s.gens
  base : Un X.fs X.ex X.H₀ H X.s₀.heap s.heap
  loc : ∃ m, s.heap.Ns X.env.locals m ∧ ∀ (i : Nat) (x : Str) (v : V), X.N[i]? = some x → σ[i]? = some (some v) → Vis X.env.scope x → ∃ u, RelV v u ∧ Look X.env s.heap m x u
  cell : ∀ x c, X.env.cells.lookup x = some c → ∃ v, s.heap.IsCell c v
  free : H X.env.locals = none
  freeC : ∀ x c, X.env.cells.lookup x = some c → H c = none
  pin : ∀ p ∈ X.pn ++ pins, s.heap.get? p.1 = some p.2 ∧ H p.1 = none ∧ p.1 ≠ X.env.locals ∧ p.1 ∉ X.fs ∧ ∀ v, p.2.data ≠ .cell v
  hok : HOk X.prog X.w H s.heap
  len : σ.length = X.N.length
section
variable {X : Cx} {pins : List (Addr × Obj)} {σ : List (Option V)} {H H' : Hp} {s : Shared} {h' : Heap}
theorem Cx.Ok.nofr (ok : X.Ok) {b : Addr} {o : Obj} (e : X.base.get? b = some o) : b ∉ X.fs := fun hb => by
  have := (ok.funs.mem hb).1
  rw [e] at this; cases this
theorem Inv.bs (I : Inv X pins σ H s) : ∀ b o, X.base.get? b = some o → s.heap.get? b = some o ∧ H b = none := fun b o e =>
  ⟨I.base.keep b o (I.ok.bs b o e).1 (I.ok.bs b o e).2 (I.ok.nofr e) (I.ok.noex b o e), I.base.free b o (I.ok.bs b o e).1 (I.ok.bs b o e).2 (I.ok.noex b o e)⟩
theorem Inv.bk (I : Inv X pins σ H s) : ∀ b o, X.base.get? b = some o → s.heap.get? b = some o := fun b o e => (I.bs b o e).1
theorem Inv.mod (I : Inv X pins σ H s) : Mod X.K X.mg X.base := I.ok.mod
theorem Inv.kIn (I : Inv X pins σ H s) : X.K.In s.heap := I.ok.mod.kin.keeps I.bk
theorem Inv.lt (I : Inv X pins σ H s) : X.env.locals < s.heap.objs.size := let ⟨_, hn, _⟩ := I.loc; hn.lt
theorem Inv.sz (I : Inv X pins σ H s) : X.s₀.heap.objs.size ≤ s.heap.objs.size := Nat.le_trans I.ok.above (Nat.le_of_lt I.lt)
theorem Inv.nofs (I : Inv X pins σ H s) {a : Addr} (h : s.heap.objs.size ≤ a) : a ∉ X.fs := fun hb => by
  obtain ⟨_, o, ho, _⟩ := I.ok.funs.mem hb
  exact absurd (Nat.lt_of_lt_of_le (Heap.lt_size ho) (Nat.le_trans I.sz h)) (Nat.lt_irrefl _)
theorem Inv.cne (I : Inv X pins σ H s) : ∀ x c, X.env.cells.lookup x = some c → c ≠ X.env.locals := fun x c e z => by
  obtain ⟨v, o, ho, hd⟩ := I.cell x c e
  obtain ⟨m, ⟨o', es, ep, ho', hd', _⟩, _⟩ := I.loc
  rw [z, ho'] at ho; cases ho; rw [hd'] at hd; cases hd
theorem Inv.funs (I : Inv X pins σ H s) : s.heap.FunFrames X.base X.outer := by
  have all : ∀ (l : List Env), (∀ b ∈ frs l, b ∈ X.fs) → X.s₀.heap.FunFrames X.base l → s.heap.FunFrames X.base l := by
    intro l
    induction l with
    | nil => intro _ _; trivial
    | cons env r ih =>
      intro hs hl
      obtain ⟨hk, ⟨L, o, hf, hn, ho, hd⟩, hr⟩ := hl
      have hL : L ∈ X.fs := hs L (by unfold frs; rw [List.filterMap_cons, hf]; exact List.mem_cons_self)
      obtain ⟨sl, e⟩ := I.base.slot L o ho (I.ok.frf L hL) hL fun z => I.ok.exfs L z hL
      exact ⟨hk, ⟨L, _, hf, hn, e, hd⟩, ih (fun b hb => hs b (by unfold frs; rw [List.filterMap_cons, hf]; exact List.mem_cons_of_mem _ hb)) hr⟩
  exact all X.outer (fun _ hb => hb) I.ok.funs
theorem Inv.stack (I : Inv X pins σ H s) : s.heap.FunFrames X.base X.stack := by
  rcases I.ok.stk with e | ⟨e, hf⟩
  · rw [e]; exact I.funs
  · rw [e]
    obtain ⟨m, hn, _⟩ := I.loc
    refine .cons (by rw [I.ok.kind]; decide) hf hn ?_ I.funs
    exact Heap.get?_none_of_le (Nat.le_trans I.ok.bsz I.ok.above)
theorem Inv.stkSub (I : Inv X pins σ H s) : ∀ b ∈ frs X.stack, b ∈ X.env.locals :: X.fs := fun b hb => by
  rcases I.ok.stk with e | ⟨e, hf⟩
  · rw [e] at hb; exact List.mem_cons_of_mem _ hb
  · rw [e] at hb
    unfold frs at hb
    rw [List.filterMap_cons, hf] at hb
    exact hb
theorem Inv.stkFree (I : Inv X pins σ H s) : ∀ b ∈ frs X.stack, H b = none := fun b hb => by
  rcases List.mem_cons.mp (I.stkSub b hb) with e | hb
  · rw [e]; exact I.free
  · obtain ⟨_, o, ho, _⟩ := I.ok.funs.mem hb
    exact I.base.free b o ho (I.ok.frf b hb) fun z => I.ok.exfs b z hb
theorem Inv.step {g' : Array GenState} {t' : Nat} {d' : Drawn} {ch : List Addr} (I : Inv X pins σ H s)
    (hch : ∀ b ∈ ch, (b ∈ X.ex ∨ X.s₀.heap.objs.size ≤ b) ∧ b ≠ X.env.locals ∧ (∀ x c, X.env.cells.lookup x = some c → c ≠ b) ∧ ∀ p ∈ X.pn ++ pins, p.1 ≠ b)
    (keep : ∀ b o, b ≠ X.env.locals → b ∉ X.fs → b ∉ ch → s.heap.get? b = some o → H b = none → h'.get? b = some o)
    (slot : ∀ b o, b ≠ X.env.locals → b ∈ X.fs → b ∉ ch → s.heap.get? b = some o → H b = none → ∃ sl, h'.get? b = some { o with slots := sl }) (free : ∀ b o, b ∉ ch → s.heap.get? b = some o → H b = none → H' b = none)
    (there : ∀ b o, b ∉ ch → s.heap.get? b = some o → ∃ o', h'.get? b = some o')
    (tups : ∀ b xs, H b = some (.tup xs) → H' b = some (.tup xs)) (frzs : ∀ b o u, H b = some (.frz o u) → H' b = some (.frz o u)) (tbls : ∀ b ps, H b = some (.tbl ps) → ∃ more, H' b = some (.tbl (ps ++ more)))
    (ns : ∀ m, s.heap.Ns X.env.locals m → h'.Ns X.env.locals m) (hok : HOk X.prog X.w H' h') (hg : AllBare g') :
    Inv X pins σ H' { s with heap := h', gens := g', drawn := d', toks := t' } := by
  have neL : ∀ b o, X.s₀.heap.get? b = some o → b ≠ X.env.locals := fun b o e => Nat.ne_of_lt (Nat.lt_of_lt_of_le (Heap.lt_size e) I.ok.above)
  have neC : ∀ b o, X.s₀.heap.get? b = some o → b ∉ X.ex → b ∉ ch := fun b o e hx hb => by
    rcases (hch b hb).1 with z | z
    · exact hx z
    · exact absurd (Nat.lt_of_lt_of_le (Heap.lt_size e) z) (Nat.lt_irrefl _)
  have cellK : ∀ x c, X.env.cells.lookup x = some c → ∀ v, s.heap.IsCell c v → h'.IsCell c v := fun x c e v ⟨o, ho, hd⟩ => by
    have nch : c ∉ ch := fun z => (hch c z).2.2.1 x c e rfl
    by_cases hc : c ∈ X.fs
    · obtain ⟨sl, q⟩ := slot c o (I.cne x c e) hc nch ho (I.freeC x c e)
      exact ⟨_, q, hd⟩
    · exact ⟨o, keep c o (I.cne x c e) hc nch ho (I.freeC x c e), hd⟩
  refine ⟨I.ok, I.os, hg, ⟨fun b o e n hb hx => ?_, fun b o e n hb hx => ?_, fun b o e n hx => ?_, fun b o e hx => ?_, fun b xs e => tups b xs (I.base.tups b xs e), fun b o xs e => frzs b o xs (I.base.frzs b o xs e), fun b ps e => ?_⟩, ?_, fun x c e => ?_, ?_, fun x c e => ?_, fun p hp => ?_, hok, I.len⟩
  · exact keep b o (neL b o e) hb (neC b o e hx) (I.base.keep b o e n hb hx) (I.base.free b o e n hx)
  · obtain ⟨sl, e1⟩ := I.base.slot b o e n hb hx
    obtain ⟨sl', e2⟩ := slot b _ (neL b o e) hb (neC b o e hx) e1 (I.base.free b o e n hx)
    exact ⟨sl', e2⟩
  · obtain ⟨o', e1⟩ := I.base.there b o e hx
    exact free b o' (neC b o e hx) e1 (I.base.free b o e n hx)
  · obtain ⟨o', e1⟩ := I.base.there b o e hx
    exact there b o' (neC b o e hx) e1
  · obtain ⟨m1, e1⟩ := I.base.tbls b ps e
    obtain ⟨m2, e2⟩ := tbls b _ e1
    exact ⟨m1 ++ m2, by rw [e2, Array.append_assoc]⟩
  · obtain ⟨m, hn, hl⟩ := I.loc
    refine ⟨m, ns m hn, fun i x v e1 e2 e3 => ?_⟩
    obtain ⟨u, r, l⟩ := hl i x v e1 e2 e3
    refine ⟨u, r, ?_⟩
    rcases l with l | ⟨k, c, e, z⟩
    · exact .inl l
    · exact .inr ⟨k, c, e, cellK x c e _ z⟩
  · obtain ⟨v, z⟩ := I.cell x c e
    exact ⟨v, cellK x c e v z⟩
  · obtain ⟨m, ⟨o, _, _, ho, _⟩, _⟩ := I.loc
    exact free _ o (fun z => (hch _ z).2.1 rfl) ho I.free
  · obtain ⟨v, o, ho, hd⟩ := I.cell x c e
    exact free c o (fun z => (hch c z).2.2.1 x c e rfl) ho (I.freeC x c e)
  · obtain ⟨e, n, ne, nf, d⟩ := I.pin p hp
    have nch : p.1 ∉ ch := fun z => (hch p.1 z).2.2.2 p hp rfl
    exact ⟨keep p.1 p.2 ne nf nch e n, free p.1 p.2 nch e n, ne, nf, d⟩
theorem Inv.un {t' : Nat} (I : Inv X pins σ H s) (u : Un X.fs [] H H' s.heap h') (hok : HOk X.prog X.w H' h') : Inv X pins σ H' { s with heap := h', toks := t' } := by
  obtain ⟨m, ⟨o, es, ep, ho, r⟩, _⟩ := id I.loc
  obtain ⟨sl, hL⟩ := u.any ho I.free (by simp)
  exact I.step (g' := s.gens) (d' := s.drawn) (ch := []) (fun _ z => nomatch z) (fun b o _ hb _ e n => u.keep b o e n hb (by simp)) (fun b o _ hb _ e n => u.slot b o e n hb (by simp)) (fun b o _ e n => u.free b o e n (by simp)) (fun b o _ e => u.there b o e (by simp)) u.tups u.frzs u.tbls (fun m' hm => by
    obtain ⟨o', es', ep', ho', r'⟩ := hm
    rw [ho] at ho'; cases ho'
    exact ⟨_, es', ep', hL, r'⟩) hok I.bare
theorem Inv.call {g' : Array GenState} {t' : Nat} {d' : Drawn} {ch : List Addr} (I : Inv X pins σ H s) (u : Un (frs X.stack) ch H H' s.heap h') (hok : HOk X.prog X.w H' h') (hg : AllBare g')
    (hch : ∀ b ∈ ch, (b ∈ X.ex ∨ X.s₀.heap.objs.size ≤ b) ∧ b ≠ X.env.locals ∧ (∀ x c, X.env.cells.lookup x = some c → c ≠ b) ∧ ∀ p ∈ X.pn ++ pins, p.1 ≠ b) :
    Inv X pins σ H' { s with heap := h', gens := g', drawn := d', toks := t' } := by
  obtain ⟨m, ⟨o, es, ep, ho, r⟩, _⟩ := id I.loc
  obtain ⟨sl, hL⟩ := u.any ho I.free fun z => (hch _ z).2.1 rfl
  exact I.step (ch := ch) hch (fun b o hL hb hc e n => u.keep b o e n (fun z => (List.mem_cons.mp (I.stkSub b z)).elim hL hb) hc) (fun b o _ _ hc e n => u.any e n hc) (fun b o hc e n => u.free b o e n hc) (fun b o hc e => u.there b o e hc) u.tups u.frzs u.tbls (fun m' hm => by
    obtain ⟨o', es', ep', ho', r'⟩ := hm
    rw [ho] at ho'; cases ho'
    exact ⟨_, es', ep', hL, r'⟩) hok hg
theorem Inv.turned {t' : Nat} {it : Addr} (I : Inv X pins σ H s) (k : ∀ b o, b ≠ it → s.heap.get? b = some o → h'.get? b = some o) (hn : H it = none) (hL : it ≠ X.env.locals)
    (h1 : it ∈ X.ex ∨ X.s₀.heap.objs.size ≤ it) (h2 : ∀ x c, X.env.cells.lookup x = some c → c ≠ it) (h3 : ∀ p ∈ X.pn ++ pins, p.1 ≠ it) : Inv X pins σ H { s with heap := h', toks := t' } := by
  have nit : ∀ b u, H b = some u → b ≠ it := fun b u e z => by rw [z, hn] at e; cases e
  refine I.step (g' := s.gens) (d' := s.drawn) (ch := [it]) (fun b hb => ?_) (fun b o _ _ hc e _ => k b o (fun z => hc (by simp [z])) e) (fun b o _ _ hc e _ => ⟨o.slots, k b o (fun z => hc (by simp [z])) e⟩) (fun _ _ _ _ n => n)
    (fun b o hc e => ⟨o, k b o (fun z => hc (by simp [z])) e⟩) (fun _ _ e => e) (fun _ _ _ e => e) (fun b ps e => ⟨#[], by rw [e]; simp⟩) (fun m hm => ?_) (fun b u e => ?_) I.bare
  · have e : b = it := by simpa using hb
    subst e
    exact ⟨h1, hL, h2, h3⟩
  · obtain ⟨o, es, ep, ho, r⟩ := hm
    exact ⟨o, es, ep, k _ o (Ne.symm hL) ho, r⟩
  · refine (I.hok b u e).stay (fun c v hc q => k c v ?_ q) (fun _ q => q) fun _ _ q => q
    rcases hc with z | z
    · rw [z]; exact nit b u e
    · exact nit c _ z
theorem Inv.tok (I : Inv X pins σ H s) (t : Nat) : Inv X pins σ H { s with toks := t } := I.un (h' := s.heap) (t' := t) Un.refl I.hok
theorem Inv.kept {t' : Nat} (I : Inv X pins σ H s) (k : ∀ b u, s.heap.get? b = some u → h'.get? b = some u) : Inv X pins σ H { s with heap := h', toks := t' } := I.un (Un.kept k) (I.hok.kept k)
theorem Inv.laid {a : Addr} {o : HO} {t' : Nat} (I : Inv X pins σ H s) (k : ∀ b u, s.heap.get? b = some u → h'.get? b = some u) (hp : s.heap.objs.size ≤ a) (new : ObjOk X.prog X.w (upd H a o) h' a o) :
    Inv X pins σ (upd H a o) { s with heap := h', toks := t' } := I.un (Un.laid k hp (I.hok.fresh hp)) (I.hok.laid k hp new)
theorem Inv.write {x e : Addr} {o : HO} {t' : Nat} (I : Inv X pins σ H s) (mu : Mut (H x)) (he : e = x ∨ H e = some (.own x)) (k : ∀ b u, b ≠ e → s.heap.get? b = some u → h'.get? b = some u) (heo : ∃ u, h'.get? e = some u)
    (new : ObjOk X.prog X.w (upd H x o) h' x o) : Inv X pins σ (upd H x o) { s with heap := h', toks := t' } := I.un (Un.write mu he k heo) (I.hok.write mu he k heo new)
theorem Inv.weak {σ' : List (Option V)} (I : Inv X pins σ H s) (hl : σ'.length = σ.length) (w : ∀ (i : Nat) v, σ'[i]? = some (some v) → σ[i]? = some (some v)) : Inv X pins σ' H s :=
  ⟨I.ok, I.os, I.bare, I.base, let ⟨m, hn, hl'⟩ := I.loc; ⟨m, hn, fun i x v e1 e2 e3 => hl' i x v e1 (w i v e2) e3⟩, I.cell, I.free, I.freeC, I.pin, I.hok, hl.trans I.len⟩
theorem Inv.pins_of {pins' : List (Addr × Obj)} (I : Inv X pins σ H s) (h : ∀ p ∈ pins', s.heap.get? p.1 = some p.2 ∧ H p.1 = none ∧ p.1 ≠ X.env.locals ∧ p.1 ∉ X.fs ∧ ∀ v, p.2.data ≠ .cell v) : Inv X pins' σ H s :=
  ⟨I.ok, I.os, I.bare, I.base, I.loc, I.cell, I.free, I.freeC, fun p hp => (List.mem_append.mp hp).elim (fun z => I.pin p (List.mem_append_left _ z)) (h p), I.hok, I.len⟩
theorem nodup_ix {N : List Str} (hN : N.Nodup) {i j : Nat} {x : Str} (a : N[i]? = some x) (b : N[j]? = some x) : i = j := by
  obtain ⟨h1, e1⟩ := List.getElem?_eq_some_iff.mp a
  obtain ⟨h2, e2⟩ := List.getElem?_eq_some_iff.mp b
  exact (List.getElem_inj hN).mp (e1.trans e2.symm)
theorem store_ok2 {M : Model} {A : Around} {E : Value → Shared → Prop} {i : Nat} {x : Str} {v : V} {u : Value} {Q : Unit → Shared → Prop} (I : Inv X pins σ H s) (hN : X.N.Nodup) (hi : X.N[i]? = some x) (hx : Loc X.env.scope x) (r : RelV v u)
    (h : ∀ s', Inv X pins (σ.set i (some v)) H s' → (∃ a, Heap.SameBut a s.heap s'.heap ∧ (a = X.env.locals ∨ X.env.cells.lookup x = some a)) → Q () s') (hf : X.fn x = true ∨ X.env.scope.names.lookup x = some .local := by first | exact .inl rfl | exact .inr rfl | assumption) : wpAny M A (storeName X.env x u) Q E s := by
  obtain ⟨m, hn, hl⟩ := id I.loc
  have hcls : (X.env.scope.kind == .class || (X.env.scope.kind == .module && X.env.locals != X.env.globals)) = false := by rw [I.ok.kind]; rfl
  have hiσ : i < σ.length := by rw [I.len]; exact (List.getElem?_eq_some_iff.mp hi).1
  have cne := I.cne
  have tracked : ∀ {a : Addr} {h' : Heap}, (∃ o, s.heap.get? a = some o ∧ H a = none) → Heap.SameBut a s.heap h' → HOk X.prog X.w H h' := fun {a h'} ha hs b ob e => by
    obtain ⟨_, _, hfree⟩ := ha
    refine (I.hok b ob e).stay (fun c w' hc q => (hs.2 c ?_).trans q) (fun _ q => q) fun _ _ q => q
    rintro rfl
    rcases hc with rfl | hc
    · rw [hfree] at e; cases e
    · rw [hfree] at hc; cases hc
  rcases hx with hk | hk
  · refine wpAny_storeName_local hk hn (fun h' hn' hs => ?_) hcls
    obtain ⟨oL, _, _, hoL, _⟩ := id hn
    refine h _ ⟨I.ok, I.os, I.bare, ⟨fun b o e n hb hx => ?_, fun b o e n hb hx => ?_, I.base.free, fun b o e hx => ?_, I.base.tups, I.base.frzs, I.base.tbls⟩, ⟨_, hn', fun j y v' e1 e2 e3 => ?_⟩, fun y c e => ?_, I.free, I.freeC, fun p hp => ?_, tracked ⟨oL, hoL, I.free⟩ hs, by simpa using I.len⟩ ⟨_, hs, .inl rfl⟩
    · exact (hs.2 b (Nat.ne_of_lt (Nat.lt_of_lt_of_le (Heap.lt_size e) I.ok.above))).trans (I.base.keep b o e n hb hx)
    · obtain ⟨sl, e1⟩ := I.base.slot b o e n hb hx
      exact ⟨sl, (hs.2 b (Nat.ne_of_lt (Nat.lt_of_lt_of_le (Heap.lt_size e) I.ok.above))).trans e1⟩
    · obtain ⟨o', e1⟩ := I.base.there b o e hx
      exact ⟨o', (hs.2 b (Nat.ne_of_lt (Nat.lt_of_lt_of_le (Heap.lt_size e) I.ok.above))).trans e1⟩
    · by_cases hj : j = i
      · subst hj
        rw [hi] at e1; cases e1
        rw [List.getElem?_set_self hiσ] at e2
        cases e2
        exact ⟨u, r, .inl ⟨hk, by simp⟩⟩
      · rw [List.getElem?_set_ne (Ne.symm hj)] at e2
        obtain ⟨u', r', q⟩ := hl j y v' e1 e2 e3
        refine ⟨u', r', ?_⟩
        rcases q with ⟨k, e⟩ | ⟨k, c, e, z⟩
        · refine .inl ⟨k, ?_⟩
          have : y ≠ x := fun e => hj (nodup_ix hN e1 (e ▸ hi))
          simp [this, e]
        · exact .inr ⟨k, c, e, z.sameBut hs (cne y c e)⟩
    · obtain ⟨w', z⟩ := I.cell y c e
      exact ⟨w', z.sameBut hs (cne y c e)⟩
    · obtain ⟨e, n, ne, nf, d⟩ := I.pin p hp
      exact ⟨(hs.2 p.1 ne).trans e, n, ne, nf, d⟩
  · have hfn : X.fn x = true := by
      rcases hf with z | z
      · exact z
      · rw [z] at hk; cases hk
    obtain ⟨c, hc⟩ := I.ok.has x (.inl hk)
    obtain ⟨w', z⟩ := I.cell x c hc
    refine wpAny_storeName_cell I.ok.kind hk hc z (fun h' hc' hs => ?_)
    obtain ⟨oc, hoc, hocd⟩ := id z
    refine h { s with heap := h' } ⟨I.ok, I.os, I.bare, ⟨fun b o e n hb hx => ?_, fun b o e n hb hx => ?_, I.base.free, fun b o e hx => ?_, I.base.tups, I.base.frzs, I.base.tbls⟩, ⟨m, hn.sameBut hs (Ne.symm (cne x c hc)), fun j y v' e1 e2 e3 => ?_⟩, fun y c' e => ?_, I.free, I.freeC, fun p hp => ?_, tracked ⟨oc, hoc, I.freeC x c hc⟩ hs, by simpa using I.len⟩ ⟨c, hs, .inr hc⟩
    · exact (hs.2 b (Nat.ne_of_lt (Nat.lt_of_lt_of_le (Heap.lt_size e) (I.ok.cab x c hfn hc)))).trans (I.base.keep b o e n hb hx)
    · obtain ⟨sl, e1⟩ := I.base.slot b o e n hb hx
      exact ⟨sl, (hs.2 b (Nat.ne_of_lt (Nat.lt_of_lt_of_le (Heap.lt_size e) (I.ok.cab x c hfn hc)))).trans e1⟩
    · obtain ⟨o', e1⟩ := I.base.there b o e hx
      exact ⟨o', (hs.2 b (Nat.ne_of_lt (Nat.lt_of_lt_of_le (Heap.lt_size e) (I.ok.cab x c hfn hc)))).trans e1⟩
    · by_cases hj : j = i
      · subst hj
        rw [hi] at e1; cases e1
        rw [List.getElem?_set_self hiσ] at e2
        cases e2
        exact ⟨u, r, .inr ⟨.inl hk, c, hc, hc'⟩⟩
      · rw [List.getElem?_set_ne (Ne.symm hj)] at e2
        obtain ⟨u', r', q⟩ := hl j y v' e1 e2 e3
        refine ⟨u', r', ?_⟩
        rcases q with q | ⟨k, c', e, z'⟩
        · exact .inl q
        · refine .inr ⟨k, c', e, z'.sameBut hs ?_⟩
          rintro rfl
          exact hj (nodup_ix hN e1 (I.ok.inj _ _ _ e hc ▸ hi))
    · by_cases hcc : c' = c
      · subst hcc; exact ⟨_, hc'⟩
      · obtain ⟨w2, z2⟩ := I.cell y c' e
        exact ⟨w2, z2.sameBut hs hcc⟩
    · obtain ⟨e, n, ne, nf, d⟩ := I.pin p hp
      refine ⟨(hs.2 p.1 ?_).trans e, n, ne, nf, d⟩
      intro q
      rw [q, hoc] at e
      have q' : oc = p.2 := Option.some.inj e
      exact d w' (by rw [← q']; exact hocd)
theorem store_ok {M : Model} {A : Around} {E : Value → Shared → Prop} {i : Nat} {x : Str} {v : V} {u : Value} {Q : Unit → Shared → Prop} (I : Inv X pins σ H s) (hN : X.N.Nodup) (hi : X.N[i]? = some x) (hx : Loc X.env.scope x) (r : RelV v u)
    (h : ∀ s', Inv X pins (σ.set i (some v)) H s' → Q () s') (hf : X.fn x = true ∨ X.env.scope.names.lookup x = some .local := by first | exact .inl rfl | exact .inr rfl | assumption) : wpAny M A (storeName X.env x u) Q E s :=
  store_ok2 I hN hi hx r (fun s' I' _ => h s' I') hf
theorem Inv.call' {s' : Shared} {ch : List Addr} (I : Inv X pins σ H s) (ho : s'.os = s.os) (u : Un (frs X.stack) ch H H' s.heap s'.heap) (hok : HOk X.prog X.w H' s'.heap) (hg : AllBare s'.gens)
    (hch : ∀ b ∈ ch, (b ∈ X.ex ∨ X.s₀.heap.objs.size ≤ b) ∧ b ≠ X.env.locals ∧ (∀ x c, X.env.cells.lookup x = some c → c ≠ b) ∧ ∀ p ∈ X.pn ++ pins, p.1 ≠ b) : Inv X pins σ H' s' := by
  obtain ⟨h', g', d', t', o'⟩ := s'
  have e : o' = s.os := ho
  subst e
  exact I.call (g' := g') (t' := t') (d' := d') u hok hg hch
end
noncomputable abbrev XK := Value → Option Addr → Hp → Prop
noncomputable abbrev St := List (Option V)
noncomputable abbrev VK := V → Hp → Prop
noncomputable abbrev TE := St → Hp → VK → Prop
noncomputable abbrev TT := St → Hp → (Bool → Hp → Prop) → Prop
noncomputable abbrev TA := St → Hp → (List V → Hp → Prop) → Prop
structure Ends where
  nx : St → Hp → Prop
  rt : VK
  bk : St → Hp → Prop := fun _ _ => False
  ct : St → Hp → Prop := fun _ _ => False
noncomputable abbrev TS := Ends → St → Hp → Prop
noncomputable def EP (X : Cx) (pins : List (Addr × Obj)) (σ : St) (Q : VK) (u : Value) (s' : Shared) : Prop := ∃ v H', Inv X pins σ H' s' ∧ RelV v u ∧ Q v H'
noncomputable def TP (X : Cx) (pins : List (Addr × Obj)) (σ : St) (Q : Bool → Hp → Prop) (b : Bool) (s' : Shared) : Prop := ∃ H', Inv X pins σ H' s' ∧ Q b H'
noncomputable def AP (X : Cx) (pins : List (Addr × Obj)) (σ : St) (Q : List V → Hp → Prop) (us : List Value) (s' : Shared) : Prop := ∃ vs H', Inv X pins σ H' s' ∧ Vals vs us ∧ Q vs H'
noncomputable def SP (X : Cx) (pins : List (Addr × Obj)) (D : Ends) (f : Flow) (s' : Shared) : Prop :=
  match f with
  | .next => ∃ σ' H', Inv X pins σ' H' s' ∧ D.nx σ' H'
  | .brk => ∃ σ' H', Inv X pins σ' H' s' ∧ D.bk σ' H'
  | .cont => ∃ σ' H', Inv X pins σ' H' s' ∧ D.ct σ' H'
  | .ret u => ∃ v σ' H', Inv X pins σ' H' s' ∧ RelV v u ∧ D.rt v H'
noncomputable def PE (X : Cx) (e : Expr) (t : TE) : Prop :=
  ∀ (pins : List (Addr × Obj)) (s : Shared) (σ : St) (H : Hp) (Q : VK), Inv X pins σ H s → t σ H Q → wpAny (model X.prog X.w) X.A (eval e X.env) (EP X pins σ Q) X.xe s
noncomputable def PT (X : Cx) (e : Expr) (t : TT) : Prop :=
  ∀ (pins : List (Addr × Obj)) (s : Shared) (σ : St) (H : Hp) (Q : Bool → Hp → Prop), Inv X pins σ H s → t σ H Q → wpAny (model X.prog X.w) X.A (isTrue e X.env (eval e X.env)) (TP X pins σ Q) X.xe s
noncomputable def PW (X : Cx) (e : Expr) (t : TT) : Prop :=
  ∀ (whole : Sem Value) (pins : List (Addr × Obj)) (s : Shared) (σ : St) (H : Hp) (Q : Bool → Hp → Prop), Inv X pins σ H s → t σ H Q → wpAny (model X.prog X.w) X.A (isTrue e X.env whole) (TP X pins σ Q) X.xe s
theorem PW.pt {X : Cx} {e : Expr} {t : TT} (h : PW X e t) : PT X e t := h _
noncomputable def PA (X : Cx) (es : List Expr) (t : TA) : Prop :=
  ∀ (pos : Pos) (pins : List (Addr × Obj)) (s : Shared) (σ : St) (H : Hp) (Q : List V → Hp → Prop), Inv X pins σ H s → t σ H Q → wpAny (model X.prog X.w) X.A (spliced (backTo pos (starEach es X.env))) (AP X pins σ Q) X.xe s
noncomputable def PS (X : Cx) (st : Stmt) (t : TS) : Prop :=
  ∀ (pins : List (Addr × Obj)) (s : Shared) (σ : St) (H : Hp) (D : Ends), Inv X pins σ H s → t D σ H → wpAny (model X.prog X.w) X.A (exec st X.env) (SP X pins D) X.xe s
noncomputable def PSs (X : Cx) (st : List Stmt) (t : TS) : Prop :=
  ∀ (pins : List (Addr × Obj)) (s : Shared) (σ : St) (H : Hp) (D : Ends), Inv X pins σ H s → t D σ H → wpAny (model X.prog X.w) X.A (execs st X.env) (SP X pins D) X.xe s
theorem thn {α : Type} {t : Sem α} {Q Q' : α → Shared → Prop} {M : Model} {A : Around} {E : Value → Shared → Prop} {s : Shared} (h : wpAny M A t Q E s) (hQ : ∀ a s, Q a s → Q' a s) : wpAny M A t Q' E s := wpAny_mono h hQ fun _ _ x => x
end L2
namespace L2
open PySem PySem.Spec PyProof.Rows
section
variable {X : Cx}
noncomputable def tVar (i : Nat) : TE := fun σ H Q => ∃ v, σ[i]? = some (some v) ∧ Q v H
noncomputable def tC (v : V) : TE := fun _ H Q => Q v H
theorem pe_var {i : Nat} {x : Str} {pos : Pos} (hN : X.N[i]? = some x) (hv : Vis X.env.scope x) (hd : (x == ("__debug__" : Str)) = false := by decide) (hcd : (x == ("__classdict__" : Str)) = false := by decide) : PE X (.Name x pos) (tVar i) := by
  intro pins s σ H Q I h
  obtain ⟨v, e, h⟩ := h
  obtain ⟨m, hn, hl⟩ := I.loc
  obtain ⟨u, r, l⟩ := hl i x v hN e hv
  have fin : EP X pins σ Q u s := ⟨v, H, I, r, h⟩
  rcases l with ⟨hk, hm⟩ | ⟨hk, c, hc, hcell⟩
  · exact wpAny_Name (wpAny_loadName_local I.ok.kind hk hn hm fin) hd
  · rcases hk with hk | hk
    · exact wpAny_Name (wpAny_loadName_cell I.ok.kind hk hc hcell fin) hd
    · exact wpAny_Name (wpAny_loadName_free I.ok.kind hk hc hcell fin hcd) hd
theorem pe_int {i j pos} : PE X (.Constant (.int i) j pos) (tC (.int i)) := fun _ _ _ H _ I h => wpAny_Constant_int ⟨.int i, H, I.tok _, ⟨_, rfl⟩, h⟩
theorem pe_bl {b j pos} : PE X (.Constant (.bool b) j pos) (tC (.bl b)) := fun _ _ _ H _ I h => Constant_bool ⟨.bl b, H, I, rfl, h⟩
theorem pe_non {j pos} : PE X (.Constant .none j pos) (tC .non) := fun _ _ _ H _ I h => Constant_none ⟨.non, H, I, rfl, h⟩
theorem pe_str {x j pos} : PE X (.Constant (.str x) j pos) (tC (.str x)) := fun _ _ _ H _ I h => Calls.Constant_str ⟨.str x, H, I.tok _, ⟨_, rfl⟩, h⟩
noncomputable def Gl (X : Cx) (x : Str) : Prop := X.env.kindOf x = some .globalImplicit
theorem ld_glob {E : Value → Shared → Prop} {pins : List (Addr × Obj)} {s : Shared} {σ : St} {H : Hp} {x : Str} {u : Value} {pos : Pos} {Q : Value → Shared → Prop} (I : Inv X pins σ H s) (hg : Gl X x) (hm : X.mg x = some u) (h : Q u s)
    (hd : (x == ("__debug__" : Str)) = false := by decide) : wpAny (model X.prog X.w) X.A (eval (.Name x pos) X.env) Q E s :=
  Calls.Name_function_global I.ok.kind hg (Calls.loadGlobal_global (by rw [I.ok.glob]; exact I.mod.glob.keeps I.bk) hm h) hd
theorem ld_blt {E : Value → Shared → Prop} {pins : List (Addr × Obj)} {s : Shared} {σ : St} {H : Hp} {x : Str} {u : Value} {pos : Pos} {Q : Value → Shared → Prop} (I : Inv X pins σ H s) (hg : Gl X x) (hm : X.mg x = none) (hv : bootBuiltins x = some u) (h : Q u s)
    (hn : x ≠ "__name__" := by decide) (hd : (x == ("__debug__" : Str)) = false := by decide) : wpAny (model X.prog X.w) X.A (eval (.Name x pos) X.env) Q E s := by
  obtain ⟨mb, h1, h2⟩ := I.mod.blt
  exact Calls.Name_function_global I.ok.kind hg (Calls.loadGlobal_builtin (by rw [I.ok.glob]; exact I.mod.glob.keeps I.bk) hm (by rw [I.ok.blt]; exact h1.keeps I.bk) ((h2 x hn).trans hv) h) hd
theorem pe_glob {x : Str} {v : V} {u : Value} {pos : Pos} (hg : Gl X x) (hm : X.mg x = some u) (r : RelV v u) (hd : (x == ("__debug__" : Str)) = false := by decide) : PE X (.Name x pos) (tC v) :=
  fun _ _ _ H _ I h => ld_glob I hg hm ⟨v, H, I, r, h⟩ hd
theorem pe_bltn {x : Str} {v : V} {u : Value} {pos : Pos} (hg : Gl X x) (hm : X.mg x = none) (hv : bootBuiltins x = some u) (r : RelV v u) (hn : x ≠ "__name__" := by decide) (hd : (x == ("__debug__" : Str)) = false := by decide) : PE X (.Name x pos) (tC v) :=
  fun _ _ _ H _ I h => ld_blt I hg hm hv ⟨v, H, I, r, h⟩ hn hd
variable {a b : Expr} {ta tb : TE} {pos : Pos}
noncomputable def PC (X : Cx) (op : CmpOp) (a b : Expr) (t : TE) : Prop :=
  ∀ (pins : List (Addr × Obj)) (s : Shared) (σ : St) (H : Hp) (Q : VK), Inv X pins σ H s → t σ H Q →
    wpAny (model X.prog X.w) X.A (eval a X.env) (fun v s₁ => wpAny (model X.prog X.w) X.A (eval b X.env) (fun u s₂ => wpAny (model X.prog X.w) X.A (compareOp op v u) (EP X pins σ Q) X.xe s₂) X.xe s₁) X.xe s
theorem nobehind (b : Expr) {op : CmpOp} (h : op ≠ .In) (h2 : op ≠ .NotIn) : behindInMarks op b = false := by
  have e1 : (op == CmpOp.In) = false := by cases op <;> first | rfl | exact absurd rfl h
  have e2 : (op == CmpOp.NotIn) = false := by cases op <;> first | rfl | exact absurd rfl h2
  cases b <;> simp [behindInMarks, e1, e2]
noncomputable def tB (t : TE) : TT := fun σ H Q => t σ H fun x H1 => ∃ c, x = .bl c ∧ Q c H1
theorem pt_cmp {op : CmpOp} {t : TE} (h : PC X op a b t) (h1 : behindInMarks op b = false := by first | exact nobehind _ (by decide) (by decide) | rfl) : PT X (.Compare a [op] [b] pos) (tB t) := by
  intro pins s σ H Q I hw
  refine wpAny_isTrue_Compare1 (thn (h pins s σ H _ I hw) fun v s1 h1 => thn h1 fun u s2 h2 => thn h2 fun c s3 ⟨x, H1, I1, r1, q1⟩ => ?_) h1
  obtain ⟨d, rfl, q⟩ := q1
  cases r1
  exact wpAny_truthy_bool ⟨H1, I1, q⟩
theorem pt_val {e : Expr} {t : TE} (h : PE X e t) (he : ∀ whole, isTrue e X.env whole = (do let v ← whole; standAt e.pos; holding [v] (truthy v)) := by intro _; rfl) : PT X e (tB t) := by
  intro pins s σ H Q I hw
  refine isTrue_plain (thn (h pins s σ H _ I hw) fun v s1 ⟨x, H1, I1, r1, q1⟩ => ?_) (he _)
  obtain ⟨d, rfl, q⟩ := q1
  cases r1
  exact wpAny_truthy_bool ⟨H1, I1, q⟩
variable {tA tB' : TT} {rest : List Expr}
noncomputable def tAnd (t u : TT) : TT := fun σ H Q => t σ H fun c H1 => if c = true then u σ H1 Q else Q false H1
noncomputable def tOr (t u : TT) : TT := fun σ H Q => t σ H fun c H1 => if c = true then Q true H1 else u σ H1 Q
noncomputable def tNot (t : TT) : TT := fun σ H Q => t σ H fun c H1 => Q (!c) H1
theorem pw_and1 (ha : PT X a tA) : PW X (.BoolOp .And [a] pos) tA := by
  intro wh pins s σ H Q I h
  refine isTrue_and (thn (ha pins s σ H Q I h) fun c s1 e => ?_)
  cases c with
  | true => exact isTrue_and_nil e
  | false => exact e
theorem pw_or1 (ha : PT X a tA) : PW X (.BoolOp .Or [a] pos) tA := by
  intro wh pins s σ H Q I h
  refine isTrue_or (thn (ha pins s σ H Q I h) fun c s1 e => ?_)
  cases c with
  | false => exact isTrue_or_nil e
  | true => exact e
theorem pw_and (ha : PT X a tA) (hb : PW X (.BoolOp .And (b :: rest) pos) tB') : PW X (.BoolOp .And (a :: b :: rest) pos) (tAnd tA tB') := by
  intro wh pins s σ H Q I h
  refine isTrue_and (thn (ha pins s σ H _ I h) fun c s1 ⟨H1, I1, q1⟩ => ?_)
  cases c with
  | true => exact hb wh pins s1 σ H1 Q I1 q1
  | false => exact ⟨H1, I1, q1⟩
theorem pw_or (ha : PT X a tA) (hb : PW X (.BoolOp .Or (b :: rest) pos) tB') : PW X (.BoolOp .Or (a :: b :: rest) pos) (tOr tA tB') := by
  intro wh pins s σ H Q I h
  refine isTrue_or (thn (ha pins s σ H _ I h) fun c s1 ⟨H1, I1, q1⟩ => ?_)
  cases c with
  | true => exact ⟨H1, I1, q1⟩
  | false => exact hb wh pins s1 σ H1 Q I1 q1
theorem pt_not (ha : PT X a tA) : PT X (.UnaryOp .Not a pos) (tNot tA) := by
  intro pins s σ H Q I h
  exact isTrue_not (ha pins s σ H (fun c H1 => Q (!c) H1) I h)
noncomputable def tAndV (ta tb : TE) : TE := fun σ H Q => ta σ H fun x H1 => ∃ c, x = .bl c ∧ if c = true then tb σ H1 Q else Q (.bl false) H1
noncomputable def tOrV (ta tb : TE) : TE := fun σ H Q => ta σ H fun x H1 => ∃ c, x = .bl c ∧ if c = true then Q (.bl true) H1 else tb σ H1 Q
noncomputable def tNotV (ta : TE) : TE := fun σ H Q => ta σ H fun x H1 => ∃ c, x = .bl c ∧ Q (.bl (!c)) H1
theorem pe_not (ha : PE X a ta) : PE X (.UnaryOp .Not a pos) (tNotV ta) := by
  intro pins s σ H Q I h
  refine UnaryOp_ (thn (ha pins s σ H _ I h) fun v s1 ⟨x, H1, I1, r1, q1⟩ => ?_)
  obtain ⟨c, rfl, q1⟩ := q1
  cases r1
  exact not_of (wpAny_truthy_bool ⟨.bl (!c), H1, I1, rfl, q1⟩)
noncomputable def tIf (t : TT) (ta tb : TE) : TE := fun σ H Q => t σ H fun c H1 => if c = true then ta σ H1 Q else tb σ H1 Q
theorem pe_ifExp {c : Expr} (hc : PT X c tA) (ha : PE X a ta) (hb : PE X b tb) : PE X (.IfExp c a b pos) (tIf tA ta tb) := by
  intro pins s σ H Q I h
  refine wpAny_IfExp (thn (hc pins s σ H _ I h) fun d s1 ⟨H1, I1, q1⟩ => ?_)
  cases d with
  | true => exact ha pins s1 σ H1 Q I1 q1
  | false => exact hb pins s1 σ H1 Q I1 q1
end
end L2
namespace L2
open PySem PySem.Spec PyProof.Rows
noncomputable def SqL (K : PySem.W.Frag) (H : Hp) (a : Addr) (xs : List V) : Prop :=
  Rd H a (.lst xs) ∨
    ∃ (o : Obj) (its : Array Value) (n : Nat), K.lookup a = some o ∧ o.cls = .type "list" ∧ o.dict = none ∧ o.data = .seq its n ∧ its.size ≤ sizeLine ∧ Vals xs its.toList
noncomputable def SqT (K : PySem.W.Frag) (H : Hp) (a : Addr) (xs : List V) : Prop :=
  Rd H a (.tup xs) ∨
    ∃ (o : Obj) (its : Array Value) (n : Nat), K.lookup a = some o ∧ o.cls = .type "tuple" ∧ o.data = .seq its n ∧ its.size ≤ sizeLine ∧ Vals xs its.toList
noncomputable def absV : Value → Option V
  | .none => some .non
  | .bool b => some (.bl b)
  | .int i _ => some (.int i)
  | .str x _ => some (.str x)
  | .bytes b _ => some (.byt b)
  | .float b _ => some (.flt b)
  | .ref a => some (.ref a)
  | .type n => some (.ty n)
  | _ => none
theorem RelV.abs {x : V} {u : Value} (r : RelV x u) : absV u = some x := by
  cases x with
  | non => cases r; rfl
  | bl _ => cases r; rfl
  | int _ => obtain ⟨t, rfl⟩ := r; rfl
  | str _ => obtain ⟨t, rfl⟩ := r; rfl
  | byt _ => obtain ⟨t, rfl⟩ := r; rfl
  | flt _ => obtain ⟨t, rfl⟩ := r; rfl
  | ref _ => cases r; rfl
  | ty _ => cases r; rfl
theorem RelV.inj {x y : V} {u : Value} (r : RelV x u) (q : RelV y u) : x = y := Option.some.inj (r.abs.symm.trans q.abs)
theorem Vals.inj : ∀ {xs ys : List V} {us : List Value}, Vals xs us → Vals ys us → xs = ys
  | _, _, _, .nil, .nil => rfl
  | _, _, _, .cons r t, .cons r' t' => by rw [r.inj r', Vals.inj t t']
section
variable {X : Cx} {pins : List (Addr × Obj)} {σ : St} {H : Hp} {s : Shared} {a : Addr} {xs ys : List V}
theorem SqL.of {K : PySem.W.Frag} (h : H a = some (.lst xs)) : SqL K H a xs := .inl (.inl h)
theorem Inv.list (I : Inv X pins σ H s) (h : SqL X.K H a xs) : ∃ its : List Value, Vals xs its ∧ PlainL s.heap a its.toArray ∧ xs.length ≤ sizeLine := by
  rcases h with h | ⟨o, its, n, hk, hc, hd, hs, hz, r⟩
  · obtain ⟨z, its, n, r, e⟩ := h.ok I.hok
    exact ⟨its, r, ⟨_, n, e, rfl, rfl, rfl⟩, z⟩
  · refine ⟨its.toList, r, ⟨o, n, I.kIn a o hk, hc, hd, by simpa using hs⟩, ?_⟩
    have e := r.length
    simp only [Array.length_toList] at e
    omega
theorem Inv.tuple (I : Inv X pins σ H s) (h : SqT X.K H a xs) : ∃ its : List Value, Vals xs its ∧ IsTup s.heap a its.toArray ∧ xs.length ≤ sizeLine := by
  rcases h with h | ⟨o, its, n, hk, hc, hs, hz, r⟩
  · obtain ⟨z, its, r, p⟩ := h.ok I.hok
    exact ⟨its, r, p, z⟩
  · refine ⟨its.toList, r, ⟨o, I.kIn a o hk, hc, n, by simpa using hs⟩, ?_⟩
    have e := r.length
    simp only [Array.length_toList] at e
    omega
theorem Inv.list_inj (I : Inv X pins σ H s) (h : SqL X.K H a xs) (h' : SqL X.K H a ys) : xs = ys := by
  obtain ⟨its, r, ⟨o, n, e, _, _, d⟩, _⟩ := I.list h
  obtain ⟨its', r', ⟨o', n', e', _, _, d'⟩, _⟩ := I.list h'
  rw [e] at e'; cases e'
  rw [d] at d'
  injection d' with d1 _
  have : its = its' := by simpa using congrArg Array.toList d1
  subst this
  exact r.inj r'
theorem Inv.tuple_inj (I : Inv X pins σ H s) (h : SqT X.K H a xs) (h' : SqT X.K H a ys) : xs = ys := by
  obtain ⟨its, r, ⟨o, e, _, n, d⟩, _⟩ := I.tuple h
  obtain ⟨its', r', ⟨o', e', _, n', d'⟩, _⟩ := I.tuple h'
  rw [e] at e'; cases e'
  rw [d] at d'
  injection d' with d1 _
  have : its = its' := by simpa using congrArg Array.toList d1
  subst this
  exact r.inj r'
end
noncomputable abbrev Cx.wish (X : Cx) (E : Value → Shared → Prop) : Cx := { X with xe := E }
noncomputable abbrev Cx.nox (X : Cx) : Cx := X.wish fun _ _ => False
theorem Cx.Ok.wish {X : Cx} (ok : X.Ok) (E : Value → Shared → Prop) : (X.wish E).Ok :=
  ⟨ok.mod, ok.kind, ok.glob, ok.blt, ok.above, ok.inj, ok.has, ok.cab, ok.hd, ok.frames, ok.stk, ok.exf, ok.bs, ok.bsz, ok.noex, ok.exfs, ok.funs, ok.frf⟩
theorem Cx.Ok.unwish {X : Cx} {E : Value → Shared → Prop} (ok : (X.wish E).Ok) : X.Ok :=
  ⟨ok.mod, ok.kind, ok.glob, ok.blt, ok.above, ok.inj, ok.has, ok.cab, ok.hd, ok.frames, ok.stk, ok.exf, ok.bs, ok.bsz, ok.noex, ok.exfs, ok.funs, ok.frf⟩
section
variable {X : Cx} {pins : List (Addr × Obj)} {σ : St} {H : Hp} {s : Shared} {E : Value → Shared → Prop}
theorem Inv.wish (I : Inv X pins σ H s) (E : Value → Shared → Prop) : Inv (X.wish E) pins σ H s := ⟨I.ok.wish E, I.os, I.bare, I.base, I.loc, I.cell, I.free, I.freeC, I.pin, I.hok, I.len⟩
theorem Inv.unwish (I : Inv (X.wish E) pins σ H s) : Inv X pins σ H s := ⟨I.ok.unwish, I.os, I.bare, I.base, I.loc, I.cell, I.free, I.freeC, I.pin, I.hok, I.len⟩
theorem SP.unwish {D : Ends} {f : Flow} {s' : Shared} (h : SP (X.wish E) pins D f s') : SP X pins D f s' := by
  cases f with
  | next => obtain ⟨σ', H', I, q⟩ := h; exact ⟨σ', H', I.unwish, q⟩
  | brk => obtain ⟨σ', H', I, q⟩ := h; exact ⟨σ', H', I.unwish, q⟩
  | cont => obtain ⟨σ', H', I, q⟩ := h; exact ⟨σ', H', I.unwish, q⟩
  | ret u => obtain ⟨v, σ', H', I, r, q⟩ := h; exact ⟨v, σ', H', I.unwish, r, q⟩
theorem PSs.nox {st : List Stmt} {t : TS} (h : PSs X.nox st t) : PSs X st t := fun pins s σ H D I hw =>
  wpAny_mono (h pins s σ H D (I.wish _) hw) (fun _ _ q => q.unwish) fun _ _ z => False.elim z
end
section
variable {X : Cx} {st : Stmt} {rest : List Stmt} {t u : TS} {e : Expr} {te : TE} {pos : Pos}
noncomputable def tNext : TS := fun D σ H => D.nx σ H
noncomputable def tSeq (t u : TS) : TS := fun D σ H => t { D with nx := u D } σ H
theorem pss_nil : PSs X [] tNext := fun _ _ σ H _ I h => wpAny_execs_nil ⟨σ, H, I, h⟩
theorem pss_cons (h1 : PS X st t) (h2 : PSs X rest u) : PSs X (st :: rest) (tSeq t u) := by
  intro pins s σ H D I h
  refine wpAny_execs_cons (thn (h1 pins s σ H { D with nx := u D } I h) fun f s1 q => ?_)
  cases f with
  | next =>
    obtain ⟨σ', H', I', q⟩ := q
    exact h2 pins s1 σ' H' D I' q
  | ret v => exact q
  | brk => exact q
  | cont => exact q
theorem pss_one (h1 : PS X st t) : PSs X [st] t := by
  intro pins s σ H D I h
  refine wpAny_execs_cons (thn (h1 pins s σ H D I h) fun f s1 q => ?_)
  cases f with
  | next => exact wpAny_execs_nil q
  | ret v => exact q
  | brk => exact q
  | cont => exact q
theorem Inv.quiet {pins : List (Addr × Obj)} {σ : St} {H : Hp} {s : Shared} (I : Inv X pins σ H s) : interactive X.env = false := by simp [interactive, I.ok.kind]
noncomputable def tDrop (te : TE) : TS := fun D σ H => te σ H fun _ H1 => D.nx σ H1
theorem ps_expr (he : PE X e te) (hs : swapsWith e none pos.line X.env = pure false := by rfl) : PS X (.Expr e pos) (tDrop te) := by
  intro pins s σ H D I h
  exact wpAny_Expr_any (thn (he pins s σ H _ I h) fun v s1 ⟨x, H1, I1, r1, q1⟩ => ⟨σ, H1, I1, q1⟩) I.quiet hs
noncomputable def tRet (te : TE) : TS := fun D σ H => te σ H D.rt
theorem ps_ret (he : PE X e te) : PS X (.Return (some e) pos) (tRet te) := by
  intro pins s σ H D I h
  exact wpAny_Return_some (thn (he pins s σ H _ I h) fun v s1 ⟨x, H1, I1, r1, q1⟩ => ⟨x, σ, H1, I1, r1, q1⟩)
noncomputable def tRetN : TS := fun D _ H => D.rt .non H
noncomputable def tIfS (c : TT) (t u : TS) : TS := fun D σ H => c σ H fun b H1 => if b = true then t D σ H1 else u D σ H1
theorem ps_if {c : Expr} {a b : List Stmt} {tc : TT} (hc : PT X c tc) (ha : PSs X a t) (hb : PSs X b u) : PS X (.If c a b pos) (tIfS tc t u) := by
  intro pins s σ H D I h
  refine wpAny_If (thn (hc pins s σ H _ I h) fun d s1 ⟨H1, I1, q1⟩ => ?_)
  cases d with
  | true => exact ha pins s1 σ H1 D I1 q1
  | false => exact hb pins s1 σ H1 D I1 q1
noncomputable def tNever : TS := fun _ _ _ => False
theorem ps_never : PS X st tNever := fun _ _ _ _ _ _ h => h.elim
end
noncomputable abbrev TG := V → St → Hp → (St → Hp → Prop) → Prop
noncomputable abbrev TGs := List V → St → Hp → (St → Hp → Prop) → Prop
noncomputable def PG (X : Cx) (target : Expr) (t : TG) : Prop :=
  ∀ (pins : List (Addr × Obj)) (s : Shared) (σ : St) (H : Hp) (v : V) (u : Value) (Q : St → Hp → Prop), Inv X pins σ H s → RelV v u → t v σ H Q →
    wpAny (model X.prog X.w) X.A (assign target X.env u) (fun _ s' => ∃ σ' H', Inv X pins σ' H' s' ∧ Q σ' H') X.xe s
noncomputable def PGs (X : Cx) (ts : List Expr) (t : TGs) : Prop :=
  ∀ (pins : List (Addr × Obj)) (s : Shared) (σ : St) (H : Hp) (vs : List V) (us : List Value) (Q : St → Hp → Prop), Inv X pins σ H s → Vals vs us → t vs σ H Q →
    wpAny (model X.prog X.w) X.A (assignInOrder ((assignEach ts X.env).map (·.2)) us) (fun _ s' => ∃ σ' H', Inv X pins σ' H' s' ∧ Q σ' H') X.xe s
section
variable {X : Cx} {pos : Pos}
noncomputable def gName (i : Nat) : TG := fun v σ H Q => Q (σ.set i (some v)) H
theorem pg_name {i : Nat} {x : Str} (hN : X.N.Nodup) (hi : X.N[i]? = some x) (hx : Loc X.env.scope x) (hf : X.fn x = true ∨ X.env.scope.names.lookup x = some .local := by first | exact .inl rfl | exact .inr rfl | assumption) : PG X (.Name x pos) (gName i) := by
  intro pins s σ H v u Q I r h
  exact wpAny_assign_Name (store_ok I hN hi hx r (fun s' I' => ⟨_, H, I', h⟩) hf)
noncomputable def gNil : TGs := fun vs σ H Q => vs = [] ∧ Q σ H
noncomputable def gCons (t : TG) (u : TGs) : TGs := fun vs σ H Q => ∃ v r, vs = v :: r ∧ t v σ H fun σ' H' => u r σ' H' Q
theorem pgs_nil : PGs X [] gNil := by
  intro pins s σ H vs us Q I r h
  obtain ⟨e, h⟩ := h
  subst e
  cases r
  exact assignInOrder_nil ⟨σ, H, I, h⟩
theorem pgs_cons {e : Expr} {es : List Expr} {t : TG} {u : TGs} (h1 : PG X e t) (h2 : PGs X es u)
    (hs : (assignEach (e :: es) X.env).map (·.2) = assign e X.env :: (assignEach es X.env).map (·.2) := by rfl) : PGs X (e :: es) (gCons t u) := by
  intro pins s σ H vs us Q I r h
  obtain ⟨v, vr, e1, h⟩ := h
  subst e1
  cases r with
  | cons r rr =>
    rw [hs]
    refine assignInOrder_cons (thn (h1 pins s σ H _ _ _ I r h) fun _ s1 ⟨σ1, H1, I1, q1⟩ => ?_)
    exact h2 pins s1 σ1 H1 _ _ Q I1 rr q1
noncomputable def gTup (K : PySem.W.Frag) (n : Nat) (t : TGs) : TG := fun v σ H Q => ∃ a xs, v = .ref a ∧ SqT K H a xs ∧ xs.length = n ∧ t xs σ H Q
theorem pg_tup {es : List Expr} {k : Nat} {t : TGs} {n : Nat} (hc : X.calm = true) (h : PGs X es t)
    (hn : (assignEach es X.env).length = n := by rfl) (hst : (assignEach es X.env).findIdx? (·.1) = none := by rfl) : PG X (.Tuple es k pos) (gTup X.K n t) := by
  intro pins s σ H v u Q I r hw
  obtain ⟨a, xs, e1, hq, hl, hw⟩ := hw
  subst e1
  cases r
  obtain ⟨its, rv, ht, hz⟩ := I.tuple hq
  refine assign_Tuple_tuple (I.ok.hd hc) ht (by simp [hn, ← hl, rv.length]) hst fun h' hx => ?_
  have I1 : Inv X pins σ H { s with heap := h' } := I.kept (t' := s.toks) fun b o e => hx b o (Nat.ne_of_lt (Heap.lt_size e)) e
  exact h pins _ σ H xs _ Q I1 (by simpa using rv) hw
noncomputable def tAsg (te : TE) (g : TG) : TS := fun D σ H => te σ H fun x H1 => g x σ H1 D.nx
theorem ps_set {i : Nat} {x : Str} {e : Expr} {te : TE} {pos' : Pos} (hN : X.N.Nodup) (hi : X.N[i]? = some x) (hx : Loc X.env.scope x) (he : PE X e te) (hs : swapsWith e (some (.Name x pos')) pos.line X.env = pure false := by rfl) (hf : X.fn x = true ∨ X.env.scope.names.lookup x = some .local := by first | exact .inl rfl | exact .inr rfl | assumption) :
    PS X (.Assign [.Name x pos'] e pos) (tAsg te (gName i)) := by
  intro pins s σ H D I h
  refine wpAny_Assign_Name (thn (he pins s σ H _ I h) fun v s1 ⟨y, H1, I1, r1, q1⟩ => ?_) hs
  exact store_ok I1 hN hi hx r1 (fun s2 I2 => ⟨_, H1, I2, q1⟩) hf
end
section
variable {X : Cx} {pos : Pos}
noncomputable def tWhile (c : TT) (tb : TS) : TS := fun D σ H => ∃ W : Nat → St → Hp → Prop, (∃ m, W m σ H) ∧ ∀ m σ H, W m σ H →
  c σ H fun b H1 => if b = true then ∃ N : St → Hp → Prop, (∀ σ' H', N σ' H' → ∃ m', m' < m ∧ W m' σ' H') ∧ tb { D with nx := N, ct := N, bk := D.nx } σ H1 else D.nx σ H1
theorem ps_while {c : Expr} {body : List Stmt} {tc : TT} {tb : TS} (hp : PassesOwn (model X.prog X.w) X.A X.env X.xe) (hc : PT X c tc) (hb : PSs X body tb) : PS X (.While c body [] pos) (tWhile tc tb) := by
  intro pins s σ H D I h
  obtain ⟨W, ⟨m0, w0⟩, turn⟩ := h
  refine wpAny_While (codeAny_whileLoop (fun n s' => ∃ σ' H', Inv X pins σ' H' s' ∧ W n σ' H') ?_ m0 ⟨σ, H, I, w0⟩)
  rintro n s1 ⟨σ1, H1, I1, w1⟩
  refine wpAny_passesOwn hp (thn (hc pins s1 σ1 H1 _ I1 (turn n σ1 H1 w1)) fun b s2 ⟨H2, I2, q2⟩ => ?_)
  cases b with
  | true =>
    obtain ⟨N, hN, q2⟩ := q2
    rw [if_pos rfl]
    refine wpAny_passesOwn hp (thn (hb pins s2 σ1 H2 _ I2 q2) fun f s3 q3 => ?_)
    cases f with
    | next =>
      obtain ⟨σ3, H3, I3, n3⟩ := q3
      obtain ⟨m', hm, w3⟩ := hN σ3 H3 n3
      exact ⟨m', hm, σ3, H3, I3, w3⟩
    | cont =>
      obtain ⟨σ3, H3, I3, n3⟩ := q3
      obtain ⟨m', hm, w3⟩ := hN σ3 H3 n3
      exact ⟨m', hm, σ3, H3, I3, w3⟩
    | brk => exact q3
    | ret v => exact q3
  | false =>
    rw [if_neg Bool.false_ne_true]
    exact wpAny_execs_nil ⟨σ1, H2, I2, q2⟩
end
structure It where
  go : Nat → Hp → Prop
  yld : Nat → Hp → V → Hp → Prop
  stop : Nat → Hp → Prop
noncomputable def FpOk (X : Cx) (pins : List (Addr × Obj)) (H : Hp) (b : Addr) : Prop :=
  H b = none ∧ b ≠ X.env.locals ∧ b ∉ X.fs ∧ (b ∈ X.ex ∨ X.s₀.heap.objs.size ≤ b) ∧ (∀ x c, X.env.cells.lookup x = some c → c ≠ b) ∧ ∀ p ∈ X.pn ++ pins, p.1 ≠ b
theorem Inv.fpOk {X : Cx} {pins : List (Addr × Obj)} {σ : St} {H H' : Hp} {s : Shared} {b : Addr} (I : Inv X pins σ H s) (hb : s.heap.objs.size ≤ b) (hn : H' b = none) : FpOk X pins H' b := by
  refine ⟨hn, Nat.ne_of_gt (Nat.lt_of_lt_of_le I.lt hb), I.nofs hb, .inr (Nat.le_trans I.sz hb), fun x c e z => ?_, fun p hp z => ?_⟩
  · obtain ⟨v, q⟩ := I.cell x c e
    exact absurd (Nat.lt_of_lt_of_le q.lt (by rw [z]; exact hb)) (Nat.lt_irrefl _)
  · exact absurd (Nat.lt_of_lt_of_le (Heap.lt_size (I.pin p hp).1) (by rw [z]; exact hb)) (Nat.lt_irrefl _)
structure Turn (P : Program) (w : World) (K : PySem.W.Frag) (tg : Expr) (J : It) (fp : List Addr) (it : Addr) (tn : Nat → Heap → Prop) : Prop where
  mem : it ∈ fp
  obj : ∀ i h, tn i h → ∀ b ∈ fp, ∃ o, h.get? b = some o ∧ ∀ v, o.data ≠ .cell v
  keep : ∀ i h h', tn i h → (∀ b ∈ fp, ∀ o, h.get? b = some o → h'.get? b = some o) → tn i h'
  item : ∀ (X : Cx), X.prog = P → X.w = w → X.K = K → X.calm = true → ∀ (i : Nat) (pins : List (Addr × Obj)) (s : Shared) (σ : St) (H : Hp) (E : Value → Shared → Prop), Inv X pins σ H s → (∀ b ∈ fp, FpOk X pins H b) → tn i s.heap → J.go i H →
    wpAny (model P w) X.A (pyNext (.ref it)) (fun r s1 => ∃ u, r = some u ∧
      wpAny (model P w) X.A (letOwnedTupleGo tg (.ref it) u) (fun _ s2 => ∃ x H', Inv X pins σ H' s2 ∧ RelV x u ∧ J.yld i H x H' ∧ tn (i + 1) s2.heap ∧ ∀ b ∈ fp, H' b = none) E s1) E s
  done : ∀ (X : Cx), X.prog = P → X.w = w → X.K = K → X.calm = true → ∀ (i : Nat) (pins : List (Addr × Obj)) (s : Shared) (σ : St) (H : Hp) (E : Value → Shared → Prop), Inv X pins σ H s → (∀ b ∈ fp, FpOk X pins H b) → tn i s.heap → J.stop i H →
    wpAny (model P w) X.A (pyNext (.ref it)) (fun r s1 => r = none ∧ Inv X pins σ H s1) E s
  self : ∀ (A : Around) (i : Nat) (s : Shared) (Q : Value → Shared → Prop) (E : Value → Shared → Prop), tn i s.heap → Q (.ref it) s → wpAny (model P w) A (pyIter (.ref it)) Q E s
noncomputable abbrev TI := St → Hp → (It → Hp → Prop) → Prop
noncomputable def PIE (X : Cx) (pins : List (Addr × Obj)) (σ : St) (tg : Expr) (R : It → Hp → Prop) (itv : Value) (s2 : Shared) : Prop :=
  ∃ (it : Addr) (fp : List Addr) (tn : Nat → Heap → Prop) (J : It) (H' : Hp), itv = .ref it ∧ Inv X pins σ H' s2 ∧ Turn X.prog X.w X.K tg J fp it tn ∧ tn 0 s2.heap ∧ (∀ b ∈ fp, FpOk X pins H' b) ∧ R J H'
noncomputable def PI (X : Cx) (tg iter : Expr) (wi : TI) : Prop :=
  ∀ (pins : List (Addr × Obj)) (s : Shared) (σ : St) (H : Hp) (R : It → Hp → Prop), Inv X pins σ H s → wi σ H R →
    wpAny (model X.prog X.w) X.A (eval iter X.env) (fun v s1 => wpAny (model X.prog X.w) X.A (pyIter v) (PIE X pins σ tg R) X.xe s1) X.xe s
theorem go_of {M : Model} {A : Around} {E : Value → Shared → Prop} {s : Shared} {tg : Expr} {it : Addr} {u : Value} {o : Obj} {n : String} {vs : Array Value} {Q : Unit → Shared → Prop} (ho : s.heap.get? it = some o) (hc : o.cls = .type n) (hd : o.data = .fields vs)
    (hn : ["enumerate", "zip", "dict_itemiterator", "dict_reverseitemiterator", "odict_iterator", "itertools.zip_longest", "itertools.pairwise"].contains n = false) (hQ : Q () s) : wpAny M A (letOwnedTupleGo tg (.ref it) u) Q E s := by
  unfold letOwnedTupleGo
  cases tg <;> first
    | exact wpAny_pure hQ
    | (cases u <;> first
        | exact wpAny_pure hQ
        | (refine wpAny_bind (wpAny_load ho ?_)
           rw [hc, hd]
           show wpAny M A (if (["enumerate", "zip", "dict_itemiterator", "dict_reverseitemiterator", "odict_iterator", "itertools.zip_longest", "itertools.pairwise"].contains n && vs[0]? == some (rawInt _)) = true then _ else _) Q E s
           rw [if_neg (by intro h; rw [hn, Bool.false_and] at h; cases h)]
           exact wpAny_pure hQ))
noncomputable def Itl (K : PySem.W.Frag) (a : Addr) : It :=
  ⟨fun i H => ∃ xs x, SqL K H a xs ∧ xs[i]? = some x, fun i H x H' => H' = H ∧ ∀ xs, SqL K H a xs → xs[i]? = some x, fun i H => ∃ xs, SqL K H a xs ∧ xs.length ≤ i⟩
noncomputable def Itr (lo : Int) (n : Nat) : It := ⟨fun i _ => i < n, fun i H x H' => H' = H ∧ x = .int (lo + i), fun i _ => n ≤ i⟩
theorem turn_list {P : Program} {w : World} {K : PySem.W.Frag} {tg : Expr} (a it : Addr) : Turn P w K tg (Itl K a) [it] it (fun i h => h.IsListIter it a i) where
  mem := by simp
  obj := fun i h st b hb => by
    have e : b = it := by simpa using hb
    subst e
    obtain ⟨o, e, c, d⟩ := st
    exact ⟨o, e, fun v z => by rw [d] at z; cases z⟩
  keep := fun i h h' st k => st.at fun o e => k it (by simp) o e
  item := by
    intro X hP hw hK hc i pins s σ H E I hf st hg
    subst hP hw hK
    obtain ⟨xs, x, hq, hx⟩ := hg
    obtain ⟨its, rv, p, hz⟩ := I.list hq
    obtain ⟨u, hu, ru⟩ := rv.get hx
    obtain ⟨f0, f1, f2, f3, f4, f5⟩ := hf it (by simp)
    refine wpAny_pyNext_list_item st p.isList (x := u) (by simpa using hu) fun h' st' sb => ?_
    have I1 : Inv X pins σ H { s with heap := h' } := I.turned (t' := s.toks) (fun b o hb e => (sb.2 b hb).trans e) f0 f1 f3 f4 f5
    obtain ⟨o, e, c, d⟩ := id st'
    exact ⟨u, rfl, go_of (s := { s with heap := h' }) e c d (by decide) ⟨x, H, I1, ru, ⟨rfl, fun ys hy => by rw [I.list_inj hy hq]; exact hx⟩, st', fun b hb => (hf b hb).1⟩⟩
  done := by
    intro X hP hw hK hc i pins s σ H E I hf st hg
    subst hP hw hK
    obtain ⟨xs, hq, hx⟩ := hg
    obtain ⟨its, rv, p, hz⟩ := I.list hq
    obtain ⟨f0, f1, f2, f3, f4, f5⟩ := hf it (by simp)
    have hl := rv.length
    exact wpAny_pyNext_list_end (I.ok.hd hc) st p.isList (by simp; omega) fun h' eb => ⟨rfl, I.turned (t' := s.toks) (fun b o hb e => eb b o hb e) f0 f1 f3 f4 f5⟩
  self := fun _ _ _ _ _ st h => wpAny_pyIter_listiter st h
theorem turn_range {P : Program} {w : World} {K : PySem.W.Frag} {tg : Expr} (it : Addr) (lo : Int) (n : Nat) : Turn P w K tg (Itr lo n) [it] it (fun i h => IsRangeIter h it (lo + (i : Nat) * 1) ((n : Int) - (i : Nat)) 1) where
  mem := by simp
  obj := fun i h st b hb => by
    have e : b = it := by simpa using hb
    subst e
    exact ⟨_, st, fun v z => by
      have z' : Data.fields _ = Data.cell v := z
      cases z'⟩
  keep := fun i h h' st k => k it (by simp) _ st
  item := by
    intro X hP hw hK hc i pins s σ H E I hf st hg
    subst hP hw hK
    obtain ⟨f0, f1, f2, f3, f4, f5⟩ := hf it (by simp)
    have W := Walks.range (prog := X.prog) (w := X.w) (I.ok.hd hc) it lo 1 n
    refine W.item i s _ _ hg st fun v h' tk hv st' kk => ?_
    obtain ⟨t, rfl⟩ := hv
    have I1 : Inv X pins σ H { s with heap := h', toks := tk } := I.turned (fun b o hb e => kk b o (by simpa using hb) e) f0 f1 f3 f4 f5
    refine ⟨_, rfl, go_of (s := { s with heap := h', toks := tk }) (n := "range_iterator") st' rfl rfl (by decide) ⟨.int (lo + i), H, I1, ⟨t, ?_⟩, ⟨rfl, rfl⟩, st', fun b hb => (hf b hb).1⟩⟩
    rw [Int.mul_one]
  done := by
    intro X hP hw hK hc i pins s σ H E I hf st hg
    subst hP hw hK
    obtain ⟨f0, f1, f2, f3, f4, f5⟩ := hf it (by simp)
    exact wpAny_pyNext_range_end (I.ok.hd hc) st (by have : n ≤ i := hg; omega) fun h' eb => ⟨rfl, I.turned (t' := s.toks) (fun b o hb e => eb b o hb e) f0 f1 f3 f4 f5⟩
  self := fun _ _ _ _ _ st h => wpAny_pyIter_rangeiter st h
end L2
namespace L2
open PySem PySem.Spec PyProof.Rows
section
variable {X : Cx} {tg : Expr}
noncomputable def iList (K : PySem.W.Frag) (tl : TE) : TI := fun σ H R => tl σ H fun x H1 => ∃ a, x = .ref a ∧ (∃ xs, SqL K H1 a xs) ∧ R (Itl K a) H1
theorem pi_list {l : Expr} {tl : TE} (hl : PE X l tl) : PI X tg l (iList X.K tl) := by
  intro pins s σ H R I h
  refine thn (hl pins s σ H _ I h) fun v s1 ⟨x, H1, I1, r1, q1⟩ => ?_
  obtain ⟨a, e, ⟨xs, hq⟩, q⟩ := q1
  subst e
  cases r1
  obtain ⟨its, rv, p, hz⟩ := I1.list hq
  refine wpAny_pyIter_list p.isList ?_
  refine ⟨s1.heap.objs.size, [s1.heap.objs.size], _, _, H1, rfl, I1.kept (t' := s1.toks) fun b o e => Heap.get?_push_of_some _ e, turn_list a _, ⟨_, Heap.get?_push_size _ rfl, rfl, rfl⟩, fun b hb => ?_, q⟩
  have e : b = s1.heap.objs.size := by simpa using hb
  subst e
  exact I1.fpOk (Nat.le_refl _) (I1.hok.fresh (Nat.le_refl _))
theorem range_it {pins : List (Addr × Obj)} {σ : St} {H : Hp} {s : Shared} {R : It → Hp → Prop} {E : Value → Shared → Prop} {lo hi : Int} {t u v : Tok} {tk : Nat} (I : Inv X pins σ H s) (h1 : -(2 ^ 62) ≤ lo) (h2 : lo < 2 ^ 62) (h3 : -(2 ^ 62) ≤ hi) (h4 : hi < 2 ^ 62)
    (q : R (Itr lo (hi - lo).toNat) H) : wpAny (model X.prog X.w) X.A (pyIter (.ref s.heap.objs.size)) (PIE X pins σ tg R) E { s with heap := s.heap.push { cls := .type "range", data := .fields #[.int lo t, .int hi u, .int 1 v] }, toks := tk } := by
  refine wpAny_pyIter_range (IsRange.new ..) (small_one h1 h2 h3 h4) ?_
  have I1 : Inv X pins σ H { s with heap := s.heap.push { cls := .type "range", data := .fields #[.int lo t, .int hi u, .int 1 v] }, toks := tk } := I.kept fun b o e => Heap.get?_push_of_some _ e
  refine ⟨(s.heap.push { cls := .type "range", data := .fields #[.int lo t, .int hi u, .int 1 v] }).objs.size, [(s.heap.push { cls := .type "range", data := .fields #[.int lo t, .int hi u, .int 1 v] }).objs.size], _, _, H, rfl,
    I1.kept (t' := tk) fun b o e => Heap.get?_push_of_some _ e, turn_range _ lo (hi - lo).toNat, ?_, fun b hb => ?_, q⟩
  · have e1 : lo + ((0 : Nat) : Int) * 1 = lo := by simp
    have e2 : (((hi - lo).toNat : Nat) : Int) - ((0 : Nat) : Int) = Builtin.Range.rangeSize lo hi 1 := by rw [rangeSize_one]; split <;> omega
    show IsRangeIter _ _ (lo + ((0 : Nat) : Int) * 1) ((((hi - lo).toNat : Nat) : Int) - ((0 : Nat) : Int)) 1
    rw [e1, e2]
    exact Heap.get?_push_size _ rfl
  · have e : b = (s.heap.push { cls := .type "range", data := .fields #[.int lo t, .int hi u, .int 1 v] }).objs.size := by simpa using hb
    subst e
    exact I1.fpOk (Nat.le_refl _) (I1.hok.fresh (Nat.le_refl _))
noncomputable def iRng1 (ta : TA) : TI := fun σ H R => ta σ H fun vs H1 => ∃ j : Int, vs = [.int j] ∧ -(2 ^ 62) ≤ j ∧ j < 2 ^ 62 ∧ R (Itr 0 j.toNat) H1
noncomputable def iRng2 (ta : TA) : TI := fun σ H R => ta σ H fun vs H1 => ∃ i j : Int, vs = [.int i, .int j] ∧ (-(2 ^ 62) ≤ i ∧ i < 2 ^ 62 ∧ -(2 ^ 62) ≤ j ∧ j < 2 ^ 62) ∧ R (Itr i (j - i).toNat) H1
theorem pi_range1 {a : Expr} {ta : TA} {p pos : Pos} (hg : Gl X "range") (hm : X.mg "range" = none) (ha : PA X [a] ta) (hs : starEach [a] X.env = [(false, eval a X.env)] := by rfl) : PI X tg (.Call (.Name "range" p) [a] [] pos) (iRng1 ta) := by
  intro pins s σ H R I h
  refine Call_ (ld_blt I hg hm boot_range (PyProof.Rows.callWith_type1 (thn (ha pos pins s σ H _ I h) fun us s1 ⟨vs, H1, I1, r1, q1⟩ => ?_) hs rfl))
  obtain ⟨j, e, q1, q2, q⟩ := q1
  subst e
  cases r1 with
  | cons r rr =>
    cases rr
    obtain ⟨t, rfl⟩ := r
    exact call_range_1 (range_it I1 (by omega) (by omega) q1 q2 (by simpa using q))
theorem pi_range2 {a b : Expr} {ta : TA} {p pos : Pos} (hg : Gl X "range") (hm : X.mg "range" = none) (ha : PA X [a, b] ta) (hs : starEach [a, b] X.env = [(false, eval a X.env), (false, eval b X.env)] := by rfl) (hs2 : starEach [b] X.env = [(false, eval b X.env)] := by rfl) :
    PI X tg (.Call (.Name "range" p) [a, b] [] pos) (iRng2 ta) := by
  intro pins s σ H R I h
  refine Call_ (ld_blt I hg hm boot_range (PyProof.Rows.callWith_type1 (thn (ha pos pins s σ H _ I h) fun us s1 ⟨vs, H1, I1, r1, q1⟩ => ?_) (by rw [hs, hs2]) (by rw [hs2]; rfl)))
  obtain ⟨i, j, e, ⟨q1, q2, q3, q4⟩, q⟩ := q1
  subst e
  cases r1 with
  | cons r rr =>
    cases rr with
    | cons r' rr =>
      cases rr
      obtain ⟨t, rfl⟩ := r
      obtain ⟨t', rfl⟩ := r'
      exact call_range_2 (range_it I1 q1 q2 q3 q4 q)
noncomputable def tFor (wi : TI) (g : TG) (tb : TS) : TS := fun D σ H => wi σ H fun J H1 => ∃ W : Nat → Nat → St → Hp → Prop, (∃ m, W 0 m σ H1) ∧ ∀ i m σ H, W i m σ H →
  (J.stop i H ∧ D.nx σ H) ∨ (J.go i H ∧ ∃ N : St → Hp → Prop, (∀ σ' H', N σ' H' → ∃ m', m' < m ∧ W (i + 1) m' σ' H') ∧ ∀ x H', J.yld i H x H' → g x σ H' fun σ2 H2 => tb { D with nx := N, ct := N, bk := D.nx } σ2 H2)
noncomputable def pinsAt (fp : List Addr) (h : Heap) : List (Addr × Obj) := fp.filterMap fun b => (h.get? b).map fun o => (b, o)
theorem mem_pinsAt {fp : List Addr} {h : Heap} {b : Addr} {o : Obj} (hb : b ∈ fp) (e : h.get? b = some o) : (b, o) ∈ pinsAt fp h := List.mem_filterMap.mpr ⟨b, hb, by rw [e]; rfl⟩
theorem of_pinsAt {fp : List Addr} {h : Heap} {p : Addr × Obj} (hp : p ∈ pinsAt fp h) : p.1 ∈ fp ∧ h.get? p.1 = some p.2 := by
  obtain ⟨b, hb, e⟩ := List.mem_filterMap.mp hp
  cases q : h.get? b with
  | none => rw [q] at e; cases e
  | some o =>
    rw [q] at e
    have e' : (b, o) = p := Option.some.inj e
    subst e'
    exact ⟨hb, q⟩
theorem Inv.pinned {pins : List (Addr × Obj)} {σ : St} {H : Hp} {s : Shared} {fp : List Addr} (I : Inv X pins σ H s) (hf : ∀ b ∈ fp, FpOk X pins H b) (ho : ∀ b ∈ fp, ∃ o, s.heap.get? b = some o ∧ ∀ v, o.data ≠ .cell v) : Inv X (pins ++ pinsAt fp s.heap) σ H s :=
  I.pins_of fun p hp => (List.mem_append.mp hp).elim (fun z => I.pin p (List.mem_append_right _ z)) fun z => by
    obtain ⟨hb, e⟩ := of_pinsAt z
    obtain ⟨f0, f1, f2, _⟩ := hf p.1 hb
    obtain ⟨o, e', d⟩ := ho p.1 hb
    rw [e] at e'; cases e'
    exact ⟨e, f0, f1, f2, d⟩
theorem Inv.unpinned {pins pl : List (Addr × Obj)} {σ : St} {H : Hp} {s : Shared} (I : Inv X (pins ++ pl) σ H s) : Inv X pins σ H s := I.pins_of fun p hp => I.pin p (List.mem_append_right _ (List.mem_append_left _ hp))
theorem ps_for {iter : Expr} {body : List Stmt} {wi : TI} {g : TG} {tb : TS} {pos : Pos} (hp : PassesOwn (model X.prog X.w) X.A X.env X.xe) (hc : X.calm = true) (hi : PI X tg iter wi) (hg : PG X tg g) (hb : PSs X body tb)
    (hs : ∀ x, foldedSetIterable iter X.env x = pure x := by intro _; rfl) : PS X (.For tg iter body [] pos) (tFor wi g tb) := by
  intro pins s σ H D I h
  refine wpAny_For (thn (hi pins s σ H _ I h) fun v s1 h1 => thn h1 fun itv s2 h2 => ?_) hs
  obtain ⟨it, fp, tn, J, H2, e, I2, T, st2, f2, W, ⟨m0, w0⟩, turn⟩ := h2
  subst e
  have stat : ∀ {H' : Hp}, (∀ b ∈ fp, H' b = none) → ∀ b ∈ fp, FpOk X pins H' b := fun hn b hb => ⟨hn b hb, (f2 b hb).2⟩
  refine codeAny_forLoop_any (fun n s' => ∃ i σ' H', Inv X pins σ' H' s' ∧ tn i s'.heap ∧ (∀ b ∈ fp, H' b = none) ∧ W i n σ' H') ?_ m0 ⟨0, σ, H2, I2, st2, fun b hb => (f2 b hb).1, w0⟩
  rintro n s3 ⟨i, σ3, H3, I3, st3, fr3, w3⟩
  rcases turn i n σ3 H3 w3 with ⟨stop, qn⟩ | ⟨go, N, hN, step⟩
  · refine wpAny_passesOwn hp (thn (T.done X rfl rfl rfl hc i pins s3 σ3 H3 X.xe I3 (stat fr3) st3 stop) fun r s4 ⟨hr, I4⟩ => ?_)
    subst hr
    exact wpAny_execs_nil ⟨σ3, H3, I4, qn⟩
  · refine wpAny_passesOwn hp (thn (T.item X rfl rfl rfl hc i pins s3 σ3 H3 X.xe I3 (stat fr3) st3 go) fun r s4 ⟨u, hr, h4⟩ => ?_)
    subst hr
    refine wpAny_passesOwn hp (thn h4 fun _ s5 ⟨x, H5, I5, r5, y5, st5, fr5⟩ => ?_)
    have I5' := I5.pinned (stat fr5) (T.obj _ _ st5)
    refine wpAny_passesOwn hp (thn (hg _ s5 σ3 H5 x u _ I5' r5 (step x H5 y5)) fun _ s6 ⟨σ6, H6, I6, q6⟩ => ?_)
    refine wpAny_passesOwn hp (thn (hb _ s6 σ6 H6 _ I6 q6) fun f s7 q7 => ?_)
    have again : ∀ {σ7 : St} {H7 : Hp}, Inv X (pins ++ pinsAt fp s5.heap) σ7 H7 s7 → N σ7 H7 → ∃ m, m < n ∧ ∃ i σ' H', Inv X pins σ' H' s7 ∧ tn i s7.heap ∧ (∀ b ∈ fp, H' b = none) ∧ W i m σ' H' := fun {σ7 H7} I7 n7 => by
      obtain ⟨m', hm, w7⟩ := hN σ7 H7 n7
      refine ⟨m', hm, i + 1, σ7, H7, I7.unpinned, T.keep _ _ _ st5 fun b hb o e => (I7.pin (b, o) (List.mem_append_right _ (List.mem_append_right _ (mem_pinsAt hb e)))).1, fun b hb => ?_, w7⟩
      obtain ⟨o, e, d⟩ := T.obj _ _ st5 b hb
      exact (I7.pin (b, o) (List.mem_append_right _ (List.mem_append_right _ (mem_pinsAt hb e)))).2.1
    cases f with
    | next => obtain ⟨σ7, H7, I7, n7⟩ := q7; exact again I7 n7
    | cont => obtain ⟨σ7, H7, I7, n7⟩ := q7; exact again I7 n7
    | brk => obtain ⟨σ7, H7, I7, q7⟩ := q7; exact ⟨σ7, H7, I7.unpinned, q7⟩
    | ret v => obtain ⟨x7, σ7, H7, I7, r7, q7⟩ := q7; exact ⟨x7, σ7, H7, I7.unpinned, r7, q7⟩
end
theorem for_list {K : PySem.W.Frag} {a : Addr} {xs : List V} {g : TG} {tb : TS} {D : Ends} {σ : St} {H : Hp} (Pv : Nat → St → Hp → Prop) (h0 : Pv 0 σ H) (hl : ∀ i σ H, i ≤ xs.length → Pv i σ H → SqL K H a xs)
    (hs : ∀ i x σ H, xs[i]? = some x → Pv i σ H → g x σ H fun σ2 H2 => tb { D with nx := Pv (i + 1), ct := Pv (i + 1), bk := D.nx } σ2 H2) (hd : ∀ σ H, Pv xs.length σ H → D.nx σ H) :
    ∃ W : Nat → Nat → St → Hp → Prop, (∃ m, W 0 m σ H) ∧ ∀ i m σ H, W i m σ H →
      ((Itl K a).stop i H ∧ D.nx σ H) ∨ ((Itl K a).go i H ∧ ∃ N : St → Hp → Prop, (∀ σ' H', N σ' H' → ∃ m', m' < m ∧ W (i + 1) m' σ' H') ∧ ∀ x H', (Itl K a).yld i H x H' → g x σ H' fun σ2 H2 => tb { D with nx := N, ct := N, bk := D.nx } σ2 H2) := by
  refine ⟨fun i m σ H => m = xs.length - i ∧ i ≤ xs.length ∧ Pv i σ H, ⟨xs.length, by simp, Nat.zero_le _, h0⟩, ?_⟩
  rintro i m σ H ⟨rfl, hi, p⟩
  have q := hl i σ H hi p
  by_cases hlt : i < xs.length
  · refine .inr ⟨⟨xs, xs[i], q, by simp [hlt]⟩, Pv (i + 1), fun σ' H' p' => ⟨xs.length - (i + 1), by omega, rfl, hlt, p'⟩, fun x H' y => ?_⟩
    obtain ⟨e, y⟩ := y
    subst e
    exact hs i x σ _ (y xs q) p
  · have e : i = xs.length := by omega
    subst e
    exact .inl ⟨⟨xs, q, Nat.le_refl _⟩, hd σ H p⟩
theorem for_range {lo : Int} {n : Nat} {g : TG} {tb : TS} {D : Ends} {σ : St} {H : Hp} (Pv : Nat → St → Hp → Prop) (h0 : Pv 0 σ H)
    (hs : ∀ i σ H, i < n → Pv i σ H → g (.int (lo + i)) σ H fun σ2 H2 => tb { D with nx := Pv (i + 1), ct := Pv (i + 1), bk := D.nx } σ2 H2) (hd : ∀ σ H, Pv n σ H → D.nx σ H) :
    ∃ W : Nat → Nat → St → Hp → Prop, (∃ m, W 0 m σ H) ∧ ∀ i m σ H, W i m σ H →
      ((Itr lo n).stop i H ∧ D.nx σ H) ∨ ((Itr lo n).go i H ∧ ∃ N : St → Hp → Prop, (∀ σ' H', N σ' H' → ∃ m', m' < m ∧ W (i + 1) m' σ' H') ∧ ∀ x H', (Itr lo n).yld i H x H' → g x σ H' fun σ2 H2 => tb { D with nx := N, ct := N, bk := D.nx } σ2 H2) := by
  refine ⟨fun i m σ H => m = n - i ∧ i ≤ n ∧ Pv i σ H, ⟨n, by simp, Nat.zero_le _, h0⟩, ?_⟩
  rintro i m σ H ⟨rfl, hi, p⟩
  by_cases hlt : i < n
  · refine .inr ⟨hlt, Pv (i + 1), fun σ' H' p' => ⟨n - (i + 1), by omega, rfl, hlt, p'⟩, fun x H' y => ?_⟩
    obtain ⟨e, y⟩ := y
    subst e y
    exact hs i σ _ hlt p
  · have e : i = n := by omega
    subst e
    exact .inl ⟨Nat.le_refl _, hd σ H p⟩
theorem while_by {c : TT} {tb : TS} {D : Ends} {σ : St} {H : Hp} (Pv : St → Hp → Prop) (μ : St → Hp → Nat) (h0 : Pv σ H)
    (hs : ∀ σ H, Pv σ H → c σ H fun b H1 => if b = true then tb { D with nx := fun σ' H' => Pv σ' H' ∧ μ σ' H' < μ σ H, ct := fun σ' H' => Pv σ' H' ∧ μ σ' H' < μ σ H, bk := D.nx } σ H1 else D.nx σ H1)
    (mono : ∀ σ H Q Q', (∀ b H1, Q b H1 → Q' b H1) → c σ H Q → c σ H Q') : tWhile c tb D σ H := by
  refine ⟨fun m σ H => m = μ σ H ∧ Pv σ H, ⟨_, rfl, h0⟩, ?_⟩
  rintro m σ H ⟨rfl, p⟩
  refine mono σ H _ _ (fun b H1 q => ?_) (hs σ H p)
  cases b with
  | true => exact ⟨_, fun σ' H' ⟨p', l⟩ => ⟨_, l, rfl, p'⟩, q⟩
  | false => exact q
end L2
namespace L2
open PySem PySem.Spec PyProof.Rows
noncomputable abbrev R2 := V → V → Hp → VK → Prop
noncomputable def OpR (X : Cx) (f : Value → Value → Sem Value) (r : R2) : Prop :=
  ∀ (pins : List (Addr × Obj)) (s : Shared) (σ : St) (H : Hp) (x y : V) (v u : Value) (Q : VK), Inv X pins σ H s → RelV x v → RelV y u → r x y H Q →
    wpAny (model X.prog X.w) X.A (f v u) (EP X pins σ Q) X.xe s
noncomputable def UnR (X : Cx) (f : Value → Sem Value) (r : V → Hp → VK → Prop) : Prop :=
  ∀ (pins : List (Addr × Obj)) (s : Shared) (σ : St) (H : Hp) (x : V) (v : Value) (Q : VK), Inv X pins σ H s → RelV x v → r x H Q →
    wpAny (model X.prog X.w) X.A (f v) (EP X pins σ Q) X.xe s
noncomputable def CallR (X : Cx) (f : Value) (r : List V → Hp → VK → Prop) : Prop :=
  ∀ (pins : List (Addr × Obj)) (s : Shared) (σ : St) (H : Hp) (xs : List V) (us : List Value) (Q : VK), Inv X pins σ H s → Vals xs us → r xs H Q →
    wpAny (model X.prog X.w) X.A (call f us) (EP X pins σ Q) X.xe s
noncomputable def tOp (r : R2) (ta tb : TE) : TE := fun σ H Q => ta σ H fun x H1 => tb σ H1 fun y H2 => r x y H2 Q
noncomputable def tUn (r : V → Hp → VK → Prop) (ta : TE) : TE := fun σ H Q => ta σ H fun x H1 => r x H1 Q
noncomputable def rI (C : Int → Int → Prop) (g : Int → Int → V) : R2 := fun x y H Q => ∃ i j, x = .int i ∧ y = .int j ∧ C i j ∧ Q (g i j) H
noncomputable def rI0 (g : Int → Int → V) : R2 := fun x y H Q => ∃ i j, x = .int i ∧ y = .int j ∧ Q (g i j) H
noncomputable def rU (g : Int → V) : V → Hp → VK → Prop := fun x H Q => ∃ i, x = .int i ∧ Q (g i) H
section
variable {X : Cx} {a b c : Expr} {ta tb tc : TE} {pos : Pos}
theorem binT (ha : PE X a ta) (hb : PE X b tb) {pins : List (Addr × Obj)} {s : Shared} {σ : St} {H : Hp} {R : V → V → Hp → Prop} (I : Inv X pins σ H s)
    (h : ta σ H fun x H1 => tb σ H1 fun y H2 => R x y H2) {Q : Value → Shared → Prop} {f : Value → Value → Sem Value}
    (hf : ∀ v u s2 x y H2, Inv X pins σ H2 s2 → RelV x v → RelV y u → R x y H2 → wpAny (model X.prog X.w) X.A (f v u) Q X.xe s2) :
    wpAny (model X.prog X.w) X.A (eval a X.env) (fun v s₁ => wpAny (model X.prog X.w) X.A (eval b X.env) (fun u s₂ => wpAny (model X.prog X.w) X.A (f v u) Q X.xe s₂) X.xe s₁) X.xe s := by
  refine thn (ha pins s σ H _ I h) fun v s1 ⟨x, H1, I1, r1, q1⟩ => ?_
  refine thn (hb pins s1 σ H1 _ I1 q1) fun u s2 ⟨y, H2, I2, r2, q2⟩ => ?_
  exact hf v u s2 x y H2 I2 r1 r2 q2
theorem pe_op {op : Operator} {r : R2} (ho : OpR X (binaryOp op) r) (ha : PE X a ta) (hb : PE X b tb) : PE X (.BinOp a op b pos) (tOp r ta tb) := by
  intro pins s σ H Q I h
  exact wpAny_BinOp (binT ha hb I h fun v u s2 x y H2 I2 rx ry q => ho pins s2 σ H2 x y v u Q I2 rx ry q)
theorem pe_un {op : UnaryOp} {r : V → Hp → VK → Prop} (ho : UnR X (unaryOp op) r) (ha : PE X a ta) : PE X (.UnaryOp op a pos) (tUn r ta) := by
  intro pins s σ H Q I h
  exact UnaryOp_ (thn (ha pins s σ H _ I h) fun v s1 ⟨x, H1, I1, r1, q1⟩ => ho pins s1 σ H1 x v Q I1 r1 q1)
theorem opI {f : Value → Value → Sem Value} {C : Int → Int → Prop} {g : Int → Int → Int}
    (rule : ∀ (i j : Int) (t u : Tok) (s : Shared) (Q : Value → Shared → Prop) (E : Value → Shared → Prop), C i j → Q (.int (g i j) s.toks) { s with toks := s.toks + 1 } → wpAny (model X.prog X.w) X.A (f (.int i t) (.int j u)) Q E s) :
    OpR X f (rI C fun i j => .int (g i j)) := by
  intro pins s σ H x y v u Q I rx ry h
  obtain ⟨i, j, rfl, rfl, hc, q⟩ := h
  obtain ⟨t, rfl⟩ := rx
  obtain ⟨t', rfl⟩ := ry
  exact rule i j t t' s _ _ hc ⟨.int (g i j), H, I.tok _, ⟨_, rfl⟩, q⟩
theorem opI0 {f : Value → Value → Sem Value} {g : Int → Int → Int}
    (rule : ∀ (i j : Int) (t u : Tok) (s : Shared) (Q : Value → Shared → Prop) (E : Value → Shared → Prop), Q (.int (g i j) s.toks) { s with toks := s.toks + 1 } → wpAny (model X.prog X.w) X.A (f (.int i t) (.int j u)) Q E s) :
    OpR X f (rI0 fun i j => .int (g i j)) := by
  intro pins s σ H x y v u Q I rx ry h
  obtain ⟨i, j, rfl, rfl, q⟩ := h
  obtain ⟨t, rfl⟩ := rx
  obtain ⟨t', rfl⟩ := ry
  exact rule i j t t' s _ _ ⟨.int (g i j), H, I.tok _, ⟨_, rfl⟩, q⟩
theorem opB0 {f : Value → Value → Sem Value} {g : Int → Int → Bool}
    (rule : ∀ (i j : Int) (t u : Tok) (s : Shared) (Q : Value → Shared → Prop) (E : Value → Shared → Prop), Q (.bool (g i j)) s → wpAny (model X.prog X.w) X.A (f (.int i t) (.int j u)) Q E s) :
    OpR X f (rI0 fun i j => .bl (g i j)) := by
  intro pins s σ H x y v u Q I rx ry h
  obtain ⟨i, j, rfl, rfl, q⟩ := h
  obtain ⟨t, rfl⟩ := rx
  obtain ⟨t', rfl⟩ := ry
  exact rule i j t t' s _ _ ⟨.bl (g i j), H, I, rfl, q⟩
noncomputable def CDiv (i j : Int) : Prop := 0 < j ∧ j < 1073741824
noncomputable def CMul (i j : Int) : Prop := (-(2 ^ 64) < i ∧ i < 2 ^ 64) ∨ (-(2 ^ 64) < j ∧ j < 2 ^ 64)
theorem CMul.ok {i j : Int} (h : CMul i j) : IntMulOk i j := by
  rcases h with ⟨h1, h2⟩ | ⟨h1, h2⟩
  · exact .of_left (intBits_le_64 h1 h2)
  · exact .of_right (intBits_le_64 h1 h2)
theorem op_add : OpR X (binaryOp .Add) (rI0 fun i j => .int (i + j)) := opI0 fun _ _ _ _ _ _ _ q => add_int q
theorem op_sub : OpR X (binaryOp .Sub) (rI0 fun i j => .int (i - j)) := opI0 fun _ _ _ _ _ _ _ q => sub_int q
theorem op_mul : OpR X (binaryOp .Mult) (rI CMul fun i j => .int (i * j)) := opI fun _ _ _ _ _ _ _ hc q => mul_int q hc.ok
theorem op_fdiv : OpR X (binaryOp .FloorDiv) (rI CDiv fun i j => .int (i / j)) := opI fun i j _ _ _ _ _ hc q => by
  have h1 : (0 : Int) < j := hc.1
  have h2 : j < 1073741824 := hc.2
  exact floordiv_int (by omega) (by rw [Int.fdiv_eq_ediv_of_nonneg i (by omega)]; exact q) (.inl (PyProof.noPylong_small (by omega)))
theorem op_mod : OpR X (binaryOp .Mod) (rI (fun _ j => 0 < j) fun i j => .int (i % j)) := opI fun i j _ _ _ _ _ hc q => by
  have h1 : (0 : Int) < j := hc
  exact mod_int' (by omega) (by rw [Int.fmod_eq_emod_of_nonneg i (by omega)]; exact q)
theorem op_xor : OpR X (binaryOp .BitXor) (rI0 fun i j => .int (Builtin.bitXor i j)) := opI0 fun _ _ _ _ _ _ _ q => xor_int q
theorem unI {f : Value → Sem Value} {g : Int → Int}
    (rule : ∀ (i : Int) (t : Tok) (s : Shared) (Q : Value → Shared → Prop) (E : Value → Shared → Prop), Q (.int (g i) s.toks) { s with toks := s.toks + 1 } → wpAny (model X.prog X.w) X.A (f (.int i t)) Q E s) :
    UnR X f (rU fun i => .int (g i)) := by
  intro pins s σ H x v Q I rx h
  obtain ⟨i, rfl, q⟩ := h
  obtain ⟨t, rfl⟩ := rx
  exact rule i t s _ _ ⟨.int (g i), H, I.tok _, ⟨_, rfl⟩, q⟩
theorem un_neg : UnR X (unaryOp .USub) (rU fun i => .int (-i)) := unI fun _ _ _ _ _ q => neg_int q
end
noncomputable def scal : V → V → Bool
  | .non, .non => true | .non, .int _ => true | .int _, .non => true | .non, .bl _ => true | .bl _, .non => true | .non, .str _ => true | .str _, .non => true
  | .int _, .int _ => true | .bl _, .bl _ => true | .str _, .str _ => true | .byt _, .byt _ => true
  | .int _, .str _ => true | .str _, .int _ => true | .bl _, .str _ => true | .str _, .bl _ => true
  | _, _ => false
noncomputable def rEq : R2 := fun x y H Q => scal x y = true ∧ Q (.bl (decide (x = y))) H
noncomputable def rNe : R2 := fun x y H Q => scal x y = true ∧ Q (.bl (!decide (x = y))) H
theorem dec_int {i j : Int} : decide (V.int i = V.int j) = (i == j) := by
  rw [Bool.eq_iff_iff]
  simp
theorem dec_bl {i j : Bool} : decide (V.bl i = V.bl j) = (i == j) := by
  rw [Bool.eq_iff_iff]
  simp
theorem dec_str {i j : Str} : decide (V.str i = V.str j) = (i == j) := by
  rw [Bool.eq_iff_iff]
  simp
theorem dec_byt {i j : Array UInt8} : decide (V.byt i = V.byt j) = (i.toList == j.toList) := by
  rw [Bool.eq_iff_iff]
  cases i
  cases j
  simp
section
variable {X : Cx} {a b c : Expr} {ta tb tc : TE} {pos : Pos}
theorem fin_bl {pins : List (Addr × Obj)} {σ : St} {H : Hp} {s : Shared} {Q : VK} {k k' : Bool} (I : Inv X pins σ H s) (q : Q (.bl k) H) (e : k = k') : EP X pins σ Q (.bool k') s := by
  subst e
  exact ⟨.bl k, H, I, rfl, q⟩
theorem op_eq : OpR X (compareOp .Eq) rEq := by
  intro pins s σ H x y v u Q I rx ry h
  obtain ⟨hs, q⟩ := h
  cases x with
  | non =>
    cases rx
    cases y with
    | non => cases ry; exact PySem.EqNone.eq_none_none (fin_bl I q (by simp))
    | bl j => cases ry; exact PySem.EqNone.eq_none_bool (fin_bl I q (by simp))
    | int j => obtain ⟨t', rfl⟩ := ry; exact PySem.EqNone.eq_none_int (fin_bl I q (by simp))
    | str j => obtain ⟨t', rfl⟩ := ry; exact PySem.EqNone.eq_none_str (fin_bl I q (by simp))
    | _ => exact absurd (show false = true from hs) Bool.false_ne_true
  | bl i =>
    cases rx
    cases y with
    | non => cases ry; exact PySem.EqNone.eq_bool_none (fin_bl I q (by simp))
    | bl j => cases ry; exact eq_bool (fin_bl I q dec_bl)
    | str j => obtain ⟨t', rfl⟩ := ry; exact PySem.EqMixed.eq_bool_str (fin_bl I q (by simp))
    | _ => exact absurd (show false = true from hs) Bool.false_ne_true
  | int i =>
    obtain ⟨t, rfl⟩ := rx
    cases y with
    | non => cases ry; exact PySem.EqNone.eq_int_none (fin_bl I q (by simp))
    | int j => obtain ⟨t', rfl⟩ := ry; exact eq_int (fin_bl I q dec_int)
    | str j => obtain ⟨t', rfl⟩ := ry; exact PySem.EqMixed.eq_int_str (fin_bl I q (by simp))
    | _ => exact absurd (show false = true from hs) Bool.false_ne_true
  | str i =>
    obtain ⟨t, rfl⟩ := rx
    cases y with
    | non => cases ry; exact PySem.EqNone.eq_str_none (fin_bl I q (by simp))
    | bl j => cases ry; exact PySem.EqMixed.eq_str_bool (fin_bl I q (by simp))
    | int j => obtain ⟨t', rfl⟩ := ry; exact PySem.EqMixed.eq_str_int (fin_bl I q (by simp))
    | str j => obtain ⟨t', rfl⟩ := ry; exact eq_str (fin_bl I q dec_str)
    | _ => exact absurd (show false = true from hs) Bool.false_ne_true
  | byt i =>
    obtain ⟨t, rfl⟩ := rx
    cases y with
    | byt j => obtain ⟨t', rfl⟩ := ry; exact PySem.W.eq_bytes (fin_bl I q dec_byt)
    | _ => exact absurd (show false = true from hs) Bool.false_ne_true
  | _ => cases y <;> exact absurd (show false = true from hs) Bool.false_ne_true
theorem op_ne : OpR X (compareOp .NotEq) rNe := by
  intro pins s σ H x y v u Q I rx ry h
  obtain ⟨hs, q⟩ := h
  cases x with
  | non =>
    cases rx
    cases y with
    | non => cases ry; exact PySem.EqNone.ne_none_none (fin_bl I q (by simp))
    | bl j => cases ry; exact PySem.EqNone.ne_none_bool (fin_bl I q (by simp))
    | int j => obtain ⟨t', rfl⟩ := ry; exact PySem.EqNone.ne_none_int (fin_bl I q (by simp))
    | str j => obtain ⟨t', rfl⟩ := ry; exact PySem.EqNone.ne_none_str (fin_bl I q (by simp))
    | _ => exact absurd (show false = true from hs) Bool.false_ne_true
  | bl i =>
    cases rx
    cases y with
    | non => cases ry; exact PySem.EqNone.ne_bool_none (fin_bl I q (by simp))
    | bl j => cases ry; exact ne_bool (fin_bl I q (congrArg not dec_bl))
    | str j => obtain ⟨t', rfl⟩ := ry; exact PySem.EqMixed.ne_bool_str (fin_bl I q (by simp))
    | _ => exact absurd (show false = true from hs) Bool.false_ne_true
  | int i =>
    obtain ⟨t, rfl⟩ := rx
    cases y with
    | non => cases ry; exact PySem.EqNone.ne_int_none (fin_bl I q (by simp))
    | int j => obtain ⟨t', rfl⟩ := ry; exact ne_int (fin_bl I q (congrArg not dec_int))
    | str j => obtain ⟨t', rfl⟩ := ry; exact PySem.EqMixed.ne_int_str (fin_bl I q (by simp))
    | _ => exact absurd (show false = true from hs) Bool.false_ne_true
  | str i =>
    obtain ⟨t, rfl⟩ := rx
    cases y with
    | non => cases ry; exact PySem.EqNone.ne_str_none (fin_bl I q (by simp))
    | bl j => cases ry; exact PySem.EqMixed.ne_str_bool (fin_bl I q (by simp))
    | int j => obtain ⟨t', rfl⟩ := ry; exact PySem.EqMixed.ne_str_int (fin_bl I q (by simp))
    | str j => obtain ⟨t', rfl⟩ := ry; exact ne_str (fin_bl I q (congrArg not dec_str))
    | _ => exact absurd (show false = true from hs) Bool.false_ne_true
  | byt i =>
    obtain ⟨t, rfl⟩ := rx
    cases y with
    | byt j => obtain ⟨t', rfl⟩ := ry; exact PySem.W.ne_bytes (fin_bl I q (congrArg not dec_byt))
    | _ => exact absurd (show false = true from hs) Bool.false_ne_true
  | _ => cases y <;> exact absurd (show false = true from hs) Bool.false_ne_true
theorem op_lt : OpR X (compareOp .Lt) (rI0 fun i j => .bl (decide (i < j))) := opB0 fun _ _ _ _ _ _ _ q => lt_int q
theorem op_le : OpR X (compareOp .LtE) (rI0 fun i j => .bl (decide (i ≤ j))) := opB0 fun _ _ _ _ _ _ _ q => le_int q
theorem op_gt : OpR X (compareOp .Gt) (rI0 fun i j => .bl (decide (j < i))) := opB0 fun _ _ _ _ _ _ _ q => gt_int q
theorem op_isN : OpR X (compareOp .Is) (fun x y H Q => y = .non ∧ Q (.bl (decide (x = .non))) H) := by
  intro pins s σ H x y v u Q I rx ry h
  obtain ⟨rfl, q⟩ := h
  cases ry
  refine is_none_gen (fin_bl I q ?_)
  cases x <;> first
    | (cases rx; rfl)
    | (obtain ⟨t, rfl⟩ := rx; rfl)
theorem op_notN : OpR X (compareOp .IsNot) (fun x y H Q => y = .non ∧ Q (.bl (!decide (x = .non))) H) := by
  intro pins s σ H x y v u Q I rx ry h
  obtain ⟨rfl, q⟩ := h
  cases ry
  refine isnot_none_gen (fin_bl I q ?_)
  cases x <;> first
    | (cases rx; rfl)
    | (obtain ⟨t, rfl⟩ := rx; rfl)
theorem nomark (b : Expr) {op : CmpOp} (h : op ≠ .In := by decide) (h2 : op ≠ .NotIn := by decide) : behindInMarks op b = false := by
  have e1 : (op == CmpOp.In) = false := by cases op <;> first | rfl | exact absurd rfl h
  have e2 : (op == CmpOp.NotIn) = false := by cases op <;> first | rfl | exact absurd rfl h2
  cases b <;> simp [behindInMarks, e1, e2]
theorem pe_cmpR {op : CmpOp} {r : R2} (ho : OpR X (compareOp op) r) (ha : PE X a ta) (hb : PE X b tb) (hm : behindInMarks op b = false) : PE X (.Compare a [op] [b] pos) (tOp r ta tb) := by
  intro pins s σ H Q I h
  exact wpAny_Compare1 (binT ha hb I h fun v u s2 x y H2 I2 rx ry q => ho pins s2 σ H2 x y v u Q I2 rx ry q) hm
noncomputable def tTest (t : TE) : TT := fun σ H Q => t σ H fun x H' => ∃ k, x = .bl k ∧ Q k H'
theorem pt_cmpR {op : CmpOp} {r : R2} (ho : OpR X (compareOp op) r) (ha : PE X a ta) (hb : PE X b tb) (hm : behindInMarks op b = false) : PT X (.Compare a [op] [b] pos) (tTest (tOp r ta tb)) := by
  intro pins s σ H Q I h
  refine wpAny_isTrue_Compare1 (thn (ha pins s σ H _ I h) fun v s1 ⟨x, H1, I1, r1, q1⟩ => thn (hb pins s1 σ H1 _ I1 q1) fun u s2 ⟨y, H2, I2, r2, q2⟩ =>
    thn (ho pins s2 σ H2 x y v u _ I2 r1 r2 q2) fun c s3 ⟨z, H3, I3, r3, k, e, q3⟩ => ?_) hm
  subst e
  cases r3
  exact wpAny_truthy_bool ⟨H3, I3, q3⟩
noncomputable def tChain (r r' : R2) (ta tb tc : TE) : TE := fun σ H Q => ta σ H fun x H1 => tb σ H1 fun y H2 => r x y H2 fun z H3 => ∃ k, z = .bl k ∧
  (if k = true then tc σ H3 fun w' H4 => r' y w' H4 Q else Q (.bl false) H3)
theorem line63 : (sizeLine : Nat) < 2 ^ 63 := by rw [sizeLine_eq]; decide
theorem vals1 {x : V} {us : List Value} (r : Vals [x] us) : ∃ u, us = [u] ∧ RelV x u := by
  cases r with
  | cons r1 r2 => cases r2; exact ⟨_, rfl, r1⟩
theorem vals2 {x y : V} {us : List Value} (r : Vals [x, y] us) : ∃ u w', us = [u, w'] ∧ RelV x u ∧ RelV y w' := by
  cases r with
  | cons r1 r2 =>
    cases r2 with
    | cons r3 r4 => cases r4; exact ⟨_, _, rfl, r1, r3⟩
theorem call_min2 (hc : X.calm = true) : CallR X (.builtin "min") (fun xs H Q => ∃ i j, xs = [.int i, .int j] ∧ Q (.int (if j < i then j else i)) H) := by
  intro pins s σ H xs us Q I r h
  obtain ⟨i, j, rfl, q⟩ := h
  obtain ⟨u, w', rfl, ⟨t, rfl⟩, ⟨t', rfl⟩⟩ := vals2 r
  refine min_two_ints (I.ok.hd hc) fun h' tk k => ⟨_, H, I.kept k, ?_, q⟩
  by_cases hj : j < i
  · rw [if_pos hj, if_pos hj]; exact ⟨_, rfl⟩
  · rw [if_neg hj, if_neg hj]; exact ⟨_, rfl⟩
end
end L2
namespace L2
open PySem PySem.Spec PyProof.Rows
structure ObjM (h : Heap) (x dx C : Addr) (mA : Str → Option Value) : Prop where
  obj : h.get? x = some (PySem.W.instObj C dx)
  ns : h.Ns1 dx mA
  ne : dx ≠ x
theorem lookIn_ns {h : Heap} {dx : Addr} {mA : Str → Option Value} (n : h.Ns1 dx mA) : ∃ od, h.get? dx = some od ∧ ∀ name, PySem.W.lookIn name od = some (mA name) := by
  obtain ⟨o, es, ep, ho, hd, hk, _, hm⟩ := n
  refine ⟨o, ho, fun name => ?_⟩
  have e := hm name
  unfold nsFind findBy at e
  rw [← Array.find?_toList] at e
  unfold PySem.W.lookIn
  rw [hd]
  dsimp only
  split
  · rename_i y q
    rw [q] at e
    exact congrArg some e
  · rename_i q
    rw [q] at e
    have a : es.toList.any (·.refKey) = false := by
      rw [List.any_eq_false]
      intro y hy
      obtain ⟨z, t, hkey⟩ := hk y (Array.mem_toList_iff.mp hy)
      simp [DictEntry.refKey, hkey]
    have a' : ¬ es.toList.any (·.refKey) = true := by rw [a]; exact Bool.false_ne_true
    rw [if_neg a']
    exact congrArg some e
theorem ObjM.look {h : Heap} {x dx C : Addr} {mA : Str → Option Value} (I : ObjM h x dx C mA) : ∃ od, PySem.W.InstAt h x (PySem.W.instObj C dx) C (some od) ∧ ∀ name, PySem.W.lookIn name od = some (mA name) :=
  let ⟨od, ho, hl⟩ := lookIn_ns I.ns
  ⟨od, ⟨I.obj, rfl, rfl, ho⟩, hl⟩
section
variable {prog : Program} {w : World} {A : Around} {E : Value → Shared → Prop} {s : Shared} {K : PySem.W.Frag} {x dx C f : Addr} {mA : Str → Option Value} {name : Str} {v : Value}
end
theorem RelO.some_of {v : V} {o : Option Value} (r : RelO (some v) o) : ∃ u, o = some u ∧ RelV v u := by
  cases o with
  | none => exact (show False from r).elim
  | some u => exact ⟨u, rfl, r⟩
section
variable {P : Program} {w : World} {H H' : Hp} {h h' : Heap} {a C dx : Addr} {fs fs' : List (Str × V)}
theorem ins_get (hok : HOk P w H h) (e : H a = some (.ins C dx fs)) : ∃ mA, ObjM h a dx C mA ∧ (∀ f, RelO (fs.lookup f) (mA f)) ∧ PySem.Within mA (fs.map (·.1)) ∧ fs.length ≤ 1000 ∧ H dx = some (.own a) := by
  obtain ⟨d, z, ne, ob, mA, n, r, q⟩ := (show ObjOk P w H h a (.ins C dx fs) from hok a _ e)
  exact ⟨mA, ⟨ob, n, ne⟩, r, q, z, d⟩
end
structure Cls (K : PySem.W.Frag) (C : Addr) : Prop where
  pg : PySem.W.plainGet K C Str.empty = true
  hd : PySem.W.hasDictIn K C = true
  po : PySem.W.plainOver K C = true
  sa : PySem.W.findIn K (.ref C) "__setattr__" = some (some (.builtin "object.__setattr__"))
theorem Cls.get {K : PySem.W.Frag} {C : Addr} (c : Cls K C) (f : Str) : PySem.W.plainGet K C f = true := c.pg
section
variable {X : Cx} {pins : List (Addr × Obj)} {σ : St} {H : Hp} {s : Shared} {a C dx : Addr} {fs : List (Str × V)} {f : Str} {v : V} {A : Around} {E : Value → Shared → Prop}
end
section
variable {X : Cx} {o e value : Expr} {f : Str} {pos pos' tpos : Pos} {ta tv : TE}
end
section
variable {X : Cx} {pins : List (Addr × Obj)} {σ : St} {H : Hp} {s : Shared} {A : Around} {E : Value → Shared → Prop} {Q : Value → Shared → Prop} {c : Value} {b : Bool}
inductive TyOf (K : PySem.W.Frag) (H : Hp) : V → Value → Prop where
  | non : TyOf K H .non (.type "NoneType")
  | bl (x : Bool) : TyOf K H (.bl x) (.type "bool")
  | int (i : Int) : TyOf K H (.int i) (.type "int")
  | str (x : Str) : TyOf K H (.str x) (.type "str")
  | flt (x : UInt64) : TyOf K H (.flt x) (.type "float")
  | lst {a : Addr} {xs : List V} (e : H a = some (.lst xs)) : TyOf K H (.ref a) (.type "list")
  | frz {a : Addr} {o : Obj} {xs : List V} (e : H a = some (.frz o (.lst xs))) : TyOf K H (.ref a) (.type "list")
  | tup {a : Addr} {xs : List V} (e : H a = some (.tup xs)) : TyOf K H (.ref a) (.type "tuple")
  | dK {a : Addr} {kvs : List (Key × V)} (e : H a = some (.dK kvs)) : TyOf K H (.ref a) (.type "dict")
  | dT {a : Addr} {kvs : List (List Key × V)} (e : H a = some (.dT kvs)) : TyOf K H (.ref a) (.type "dict")
  | ins {a C dx : Addr} {fs : List (Str × V)} (e : H a = some (.ins C dx fs)) (cl : Cls K C) (ha : PySem.W.findIn K (.ref C) "__class__" = some (some (.builtin "object.__class__")))
      (hn : PySem.W.specialIn K (.builtin "object.__class__") "__get__" = some (some (.builtin "getset_descriptor.__get__"))) (htk : PySem.W.takesIn K (.builtin "object.__class__") = some true)
      (hm : PySem.W.mroIn K C (.type "object") = some true) : TyOf K H (.ref a) (.ref C)
theorem isinst_ok {x : V} {u t : Value} (I : Inv X pins σ H s) (rx : RelV x u) (ty : TyOf X.K H x t) (e : PySem.W.kitOne X.K t c = some b) (h : ∀ tk, Q (.bool b) { s with toks := tk }) :
    wpAny (model X.prog X.w) A (call (.builtin "isinstance") [u, c]) Q E s := by
  cases ty with
  | non => cases (show u = Value.none from rx); exact PySem.W.kia_one PySem.W.kitx_none I.kIn True.intro e (fun z => nomatch z) h
  | bl y => cases (show u = Value.bool y from rx); exact PySem.W.kia_one PySem.W.kitx_bool I.kIn True.intro e (fun z => nomatch z) h
  | int i => obtain ⟨t, q⟩ := (show ∃ t, u = Value.int i t from rx); cases q; exact PySem.W.kia_one PySem.W.kitx_int I.kIn True.intro e (fun z => nomatch z) h
  | str y => obtain ⟨t, q⟩ := (show ∃ t, u = Value.str y t from rx); cases q; exact PySem.W.kia_one PySem.W.kitx_str I.kIn True.intro e (fun z => nomatch z) h
  | flt y => obtain ⟨t, q⟩ := (show ∃ t, u = Value.float y t from rx); cases q; exact PySem.W.kia_one PySem.W.kitx_float I.kIn True.intro e (fun z => nomatch z) h
  | @lst a xs ea =>
    cases (show u = Value.ref a from rx)
    obtain ⟨_, _, n, _, h1⟩ := (show ObjOk X.prog X.w H s.heap a (.lst xs) from I.hok a _ ea)
    exact PySem.W.kia_one PySem.W.kitx_list I.kIn ⟨_, h1, rfl⟩ e (fun z => nomatch z) h
  | @frz a ob xs ea =>
    cases (show u = Value.ref a from rx)
    obtain ⟨_, _, _, n, _, h1⟩ := (show ObjOk X.prog X.w H s.heap a (.frz ob (.lst xs)) from I.hok a _ ea)
    exact PySem.W.kia_one PySem.W.kitx_list I.kIn ⟨_, h1, rfl⟩ e (fun z => nomatch z) h
  | @tup a xs ea =>
    cases (show u = Value.ref a from rx)
    obtain ⟨_, _, _, p⟩ := (show ObjOk X.prog X.w H s.heap a (.tup xs) from I.hok a _ ea)
    obtain ⟨o, h1, h2, _⟩ := p
    exact PySem.W.kia_one PySem.W.kitx_tuple I.kIn ⟨o, h1, h2⟩ e (fun z => nomatch z) h
  | @dK a kvs ea =>
    cases (show u = Value.ref a from rx)
    obtain ⟨_, _, vs, _, p⟩ := (show ObjOk X.prog X.w H s.heap a (.dK kvs) from I.hok a _ ea)
    obtain ⟨o, es, ep, h1, h2, _⟩ := p
    exact PySem.W.kia_one PySem.W.kitx_dict I.kIn ⟨o, h1, h2.1⟩ e (fun z => nomatch z) h
  | @dT a kvs ea =>
    cases (show u = Value.ref a from rx)
    obtain ⟨_, _, xs, _, o, es, ep, h1, h2, _⟩ := (show ObjOk X.prog X.w H s.heap a (.dT kvs) from I.hok a _ ea)
    exact PySem.W.kia_one PySem.W.kitx_dict I.kIn ⟨o, h1, h2.1⟩ e (fun z => nomatch z) h
  | @ins a C dx fs ea cl ha hn htk hm =>
    cases (show u = Value.ref a from rx)
    obtain ⟨mA, O, _⟩ := ins_get I.hok ea
    obtain ⟨od, J, _⟩ := O.look
    exact PySem.W.kia_one (PySem.W.kitx_own (cl.get _) cl.hd ha hn htk hm) I.kIn J e (fun z => nomatch z) h
end
end L2
namespace L2
open PySem PySem.Spec PyProof.Rows
structure Room (k : Nat) (A : Around) : Prop where
  hd : A.handled = none
  dp : A.depth + 3 * k + 5 < recursionLimit
  un : A.units + 16 * k + 200 < cLine
theorem Room.mono {j k : Nat} {A : Around} (r : Room k A) (h : j ≤ k) : Room j A := ⟨r.hd, by have := r.dp; omega, by have := r.un; omega⟩
theorem Room.deeper {k : Nat} {A : Around} (r : Room (k + 1) A) (env : Env) : Room k (A.deeper env) :=
  ⟨r.hd, by have := r.dp; show A.depth + 1 + 3 * k + 5 < _; omega, by have := r.un; show A.units + 3 + 16 * k + 200 < _; omega⟩
theorem Room.depth {k : Nat} {A : Around} (r : Room k A) : A.depth < recursionLimit := by have := r.dp; omega
theorem Room.units {k : Nat} {A : Around} (r : Room k A) : A.units + 64 < cLine := by have := r.un; omega
noncomputable def tNil : TA := fun _ H Q => Q [] H
noncomputable def tCons (ta : TE) (tr : TA) : TA := fun σ H Q => ta σ H fun x H1 => tr σ H1 fun xs H2 => Q (x :: xs) H2
section
variable {X : Cx} {e : Expr} {es : List Expr} {te : TE} {t : TA} {pos : Pos}
theorem pa_nil : PA X [] tNil := fun _ _ _ _ H Q I h => Calls.spliced_nil ⟨[], H, I, .nil, h⟩
theorem pa_cons (ha : PE X e te) (hr : PA X es t) (hs : starEach (e :: es) X.env = (false, eval e X.env) :: starEach es X.env := by rfl) : PA X (e :: es) (tCons te t) := by
  intro pos pins s σ H Q I h
  rw [hs]
  show wpAny _ _ (spliced ((false, eval e X.env) :: backTo pos (starEach es X.env))) _ _ s
  refine Calls.spliced_cons (thn (ha pins s σ H _ I h) fun u s1 ⟨x, H1, I1, r1, q1⟩ => ?_)
  exact thn (hr pos pins s1 σ H1 _ I1 q1) fun us s2 ⟨xs, H2, I2, r2, q2⟩ => ⟨x :: xs, H2, I2, .cons r1 r2, q2⟩
noncomputable def tTup (t : TA) : TE := fun σ H Q => t σ H fun xs H1 => xs.length ≤ sizeLine ∧ ∀ p, H1 p = none → Q (.ref p) (upd H1 p (.tup xs))
noncomputable def tLst (t : TA) : TE := fun σ H Q => t σ H fun xs H1 => xs.length ≤ sizeLine ∧ ∀ p, H1 p = none → Q (.ref p) (upd H1 p (.lst xs))
theorem pe_tup {x1} (h : PA X es t) : PE X (.Tuple es x1 pos) (tTup t) := by
  intro pins s σ H Q I hq
  refine wpAny_Tuple_spliced (thn (h pos pins s σ H _ I hq) fun us s1 ⟨xs, H1, I1, r, z, q⟩ => ⟨by rw [← r.length]; exact z, ?_⟩)
  have hf : H1 s1.heap.objs.size = none := I1.hok.fresh (Nat.le_refl _)
  refine ⟨.ref s1.heap.objs.size, upd H1 s1.heap.objs.size (.tup xs), I1.laid (t' := s1.toks) (fun b u e => Heap.get?_push_of_some _ e) (Nat.le_refl _) ?_, rfl, q _ hf⟩
  exact ⟨z, us, r, ⟨_, Heap.get?_push_size _ rfl, rfl, _, rfl⟩⟩
theorem pe_lst (h : PA X es t) : PE X (.List es pos) (tLst t) := by
  intro pins s σ H Q I hq
  refine wpAny_List_spliced (thn (h pos pins s σ H _ I hq) fun us s1 ⟨xs, H1, I1, r, z, q⟩ => ⟨by rw [← r.length]; exact z, ?_⟩)
  have hf : H1 s1.heap.objs.size = none := I1.hok.fresh (Nat.le_refl _)
  refine ⟨.ref s1.heap.objs.size, upd H1 s1.heap.objs.size (.lst xs), I1.laid (t' := s1.toks) (fun b u e => Heap.get?_push_of_some _ e) (Nat.le_refl _) ?_, rfl, q _ hf⟩
  exact ⟨z, us, 0, r, Heap.get?_push_size _ rfl⟩
end
noncomputable abbrev Sp := List V → Hp → VK → XK → Prop
noncomputable abbrev CXT := List Env → Hp → Shared → XK → Value → Shared → Prop
structure Env0 (P : Program) (w : World) (K : PySem.W.Frag) (mg : Str → Option Value) (base : Heap) (A : Around) (outer : List Env) (s : Shared) (H : Hp) : Prop where
  frames : A.frames = some outer
  mod : Mod K mg base
  bs : ∀ b o, base.get? b = some o → s.heap.get? b = some o ∧ H b = none
  bsz : base.objs.size ≤ s.heap.objs.size
  funs : s.heap.FunFrames base outer
  frf : ∀ b ∈ frs outer, H b = none
  hok : HOk P w H s.heap
  bare : AllBare s.gens
noncomputable def CE (outer : List Env) (P : Program) (w : World) (H : Hp) (s : Shared) (Q : VK) (u : Value) (s' : Shared) : Prop :=
  ∃ v H', s'.os = s.os ∧ AllBare s'.gens ∧ Un (frs outer) [] H H' s.heap s'.heap ∧ HOk P w H' s'.heap ∧ RelV v u ∧ Q v H'
noncomputable def CR (CX : CXT) (outer : List Env) (P : Program) (w : World) (H : Hp) (s : Shared) (Q : VK) (E : XK) (r : Result) (s' : Shared) : Prop :=
  match r with
  | .ok (.ret u) => CE outer P w H s Q u s'
  | .ok _ => False
  | .error e => CX outer H s E e s'
structure FnOk (P : Program) (w : World) (K : PySem.W.Frag) (mg : Str → Option Value) (base : Heap) (CX : CXT) (k : Nat) (f : Addr) (fd : FuncData) (ps : List Str) (sp : Sp) : Prop where
  len : ∀ vs H Q E, sp vs H Q E → vs.length = ps.length
  run : ∀ (A : Around) (outer : List Env) (s : Shared) (H : Hp) (args : Args) (us : List Value) (vs : List V) (Q : VK) (E : XK), Room k A → Env0 P w K mg base A outer s H → BindsTo s fd args (ps.zip us) → Vals vs us → sp vs H Q E →
    codeAny (model P w) A (.call (.ref f) args) (CR CX outer P w H s Q E) s
theorem FnOk.mono {P : Program} {w : World} {K : PySem.W.Frag} {mg : Str → Option Value} {base : Heap} {CX : CXT} {j k : Nat} {f : Addr} {fd : FuncData} {ps : List Str} {sp : Sp} (F : FnOk P w K mg base CX j f fd ps sp) (h : j ≤ k) :
    FnOk P w K mg base CX k f fd ps sp := ⟨F.len, fun A outer s H args us vs Q E hr => F.run A outer s H args us vs Q E (hr.mono h)⟩
section
variable {X : Cx} {pins : List (Addr × Obj)} {σ : St} {H : Hp} {s s' : Shared}
theorem Inv.env0 (I : Inv X pins σ H s) : Env0 X.prog X.w X.K X.mg X.base X.A X.stack s H :=
  ⟨I.ok.frames, I.ok.mod, I.bs, Nat.le_trans I.ok.bsz I.sz, I.stack, I.stkFree, I.hok, I.bare⟩
theorem Inv.after {Q : VK} {u : Value} (I : Inv X pins σ H s) (h : CE X.stack X.prog X.w H s Q u s') : EP X pins σ Q u s' := by
  obtain ⟨v, H', os, bare, un, hok, r, q⟩ := h
  obtain ⟨hh, g, d, t, os'⟩ := s'
  obtain rfl : os' = s.os := os
  exact ⟨v, H', I.call (h' := hh) (g' := g) (d' := d) (t' := t) (ch := []) un hok bare (fun b z => absurd z (by simp)), r, q⟩
end
noncomputable def tCall (sp : Sp) (dvs : List V) (E : XK) (t : TA) : TE := fun σ H Q => t σ H fun vs H1 => sp (vs ++ dvs) H1 Q E
noncomputable def Binds (K : PySem.W.Frag) (fd : FuncData) (ps : List Str) (ds : List Value) : Prop :=
  ∀ (s : Shared) (us : List Value), K.In s.heap → (us ++ ds).length = ps.length → BindsTo s fd ⟨us, []⟩ (ps.zip (us ++ ds))
theorem Binds.all {K : PySem.W.Frag} {fd : FuncData} {ps : List Str} (h : ∀ us : List Value, us.length = ps.length → bindArgs fd ⟨us, []⟩ = pure (ps.zip us)) : Binds K fd ps [] := fun s us _ hl => by
  rw [List.append_nil] at hl ⊢
  exact .of_eq (h us hl)
noncomputable def Passes (CX : CXT) (X : Cx) (E : XK) : Prop := ∀ (pins : List (Addr × Obj)) (σ : St) (H : Hp) (s : Shared) (e : Value) (s' : Shared), Inv X pins σ H s → CX X.stack H s E e s' → X.xe e s'
section
variable {X : Cx} {CX : CXT} {k : Nat} {f C : Addr} {fd : FuncData} {ps : List Str} {sp : Sp} {dvs : List V} {ds : List Value} {E : XK} {x m : Str} {p pos apos : Pos} {e o : Expr} {es : List Expr} {ta : TE} {t : TA}
theorem run_fn {pins : List (Addr × Obj)} {σ : St} {H : Hp} {s : Shared} {Q : VK} {us : List Value} {vs : List V} (F : FnOk X.prog X.w X.K X.mg X.base CX k f fd ps sp) (hr : Room k X.A) (hb : Binds X.K fd ps ds) (hd : Vals dvs ds) (hx : Passes CX X E)
    (I : Inv X pins σ H s) (r : Vals vs us) (h : sp (vs ++ dvs) H Q E) : wpAny (model X.prog X.w) X.A (call (.ref f) us) (EP X pins σ Q) X.xe s := by
  have r2 : Vals (vs ++ dvs) (us ++ ds) := r.append hd
  have hl : (us ++ ds).length = ps.length := by rw [← r2.length]; exact F.len _ _ _ _ h
  refine wpAny_call (codeAny_mono (F.run X.A X.stack s H ⟨us, []⟩ (us ++ ds) (vs ++ dvs) Q E hr I.env0 (hb s us I.kIn hl) r2 h) fun r s' hq => ?_)
  cases r with
  | error e => exact hx pins σ H s e s' I hq
  | ok fl =>
    cases fl with
    | ret u => exact I.after hq
    | next => exact False.elim hq
    | brk => exact False.elim hq
    | cont => exact False.elim hq
theorem pe_call (F : FnOk X.prog X.w X.K X.mg X.base CX k f fd ps sp) (hr : Room k X.A) (hg : Gl X x) (hm : X.mg x = some (.ref f)) (hk : PySem.W.keepIn X.K (.ref f) = true) (hb : Binds X.K fd ps ds) (hd : Vals dvs ds) (hx : Passes CX X E)
    (ha : PA X (e :: es) t) (hdb : (x == ("__debug__" : Str)) = false := by decide) (he : starEach (e :: es) X.env = (false, eval e X.env) :: starEach es X.env := by rfl) (hpl : (backTo pos (starEach es X.env)).any (·.1) = false := by rfl) :
    PE X (.Call (.Name x p) (e :: es) [] pos) (tCall sp dvs E t) := by
  intro pins s σ H Q I h
  refine wpAny_Call_Name_kw (ld_glob I hg hm ?_ hdb)
  refine PySem.W.callWith_K (h₀ := X.base) I.ok.mod.kin hk (thn (ha pos pins s σ H _ I h) fun us s1 ⟨vs, H1, I1, r, q⟩ => ⟨I1.kIn, ?_⟩) he hpl
  exact run_fn F hr hb hd hx I1 r q
end
section
variable {X : Cx} {CX : CXT} {k : Nat} {f C : Addr} {fd : FuncData} {ps ks : List Str} {sp : Sp} {E : XK} {x m : Str} {p pos apos kpos : Pos} {e o : Expr} {es : List Expr} {kws : List Keyword} {te ta : TE} {t tk : TA} {nm : Option Str}
variable {g : List Value → List Value → List Value} {gV : List V → List V → List V}
end
structure FnScope (N P : List Str) (sc : Scope) : Prop where
  kind : sc.kind = .function
  co : sc.isCoroutine = false
  gen : sc.isGenerator = false
  nd : N.Nodup
  pre : N.take P.length = P
  par : ∀ x ∈ P, sc.names.lookup x = some .local ∨ sc.names.lookup x = some .cell
  nofree : ∀ y ∈ sc.names, y.2 ≠ .free
theorem bindL_out {kindOf : Str → Option NameKind} {x : Str} : ∀ {binds : List (Str × Value)} {m : Str → Option Value}, (∀ v, (x, v) ∉ binds) → bindL kindOf binds m x = m x
  | [], _, _ => rfl
  | (n, v) :: r, m, h => by
    unfold bindL
    rw [bindL_out fun w hw => h w (List.mem_cons_of_mem _ hw)]
    split
    · have : x ≠ n := by rintro rfl; exact h v List.mem_cons_self
      simp [this]
    · rfl
theorem bindC_out {kindOf : Str → Option NameKind} {x : Str} : ∀ {binds : List (Str × Value)} {m : Str → Option Value}, (∀ v, (x, v) ∉ binds) → bindC kindOf binds m x = m x
  | [], _, _ => rfl
  | (n, v) :: r, m, h => by
    unfold bindC
    rw [bindC_out fun w hw => h w (List.mem_cons_of_mem _ hw)]
    split
    · rfl
    · have : x ≠ n := by rintro rfl; exact h v List.mem_cons_self
      simp [this]
theorem bindL_get {kindOf : Str → Option NameKind} {x : Str} {v : Value} : ∀ {P : List Str} {vs : List Value} {i : Nat} {m : Str → Option Value}, P.Nodup → P[i]? = some x → vs[i]? = some v → kindOf x = some .local →
    bindL kindOf (P.zip vs) m x = some v
  | [], _, _, _, _, h, _, _ => by simp at h
  | _ :: _, [], _, _, _, _, h, _ => by simp at h
  | p :: P, w :: vs, 0, m, nd, h1, h2, hk => by
    simp at h1 h2; subst h1; subst h2
    show bindL kindOf ((p, w) :: P.zip vs) m p = _
    unfold bindL
    rw [bindL_out fun v hv => (List.nodup_cons.mp nd).1 (List.of_mem_zip hv).1, if_pos hk]
    simp
  | p :: P, w :: vs, i + 1, m, nd, h1, h2, hk => by
    show bindL kindOf ((p, w) :: P.zip vs) m x = _
    unfold bindL
    exact bindL_get (i := i) (List.nodup_cons.mp nd).2 (by simpa using h1) (by simpa using h2) hk
theorem bindC_get {kindOf : Str → Option NameKind} {x : Str} {v : Value} : ∀ {P : List Str} {vs : List Value} {i : Nat} {m : Str → Option Value}, P.Nodup → P[i]? = some x → vs[i]? = some v → kindOf x ≠ some .local →
    bindC kindOf (P.zip vs) m x = some v
  | [], _, _, _, _, h, _, _ => by simp at h
  | _ :: _, [], _, _, _, _, h, _ => by simp at h
  | p :: P, w :: vs, 0, m, nd, h1, h2, hk => by
    simp at h1 h2; subst h1; subst h2
    show bindC kindOf ((p, w) :: P.zip vs) m p = _
    unfold bindC
    rw [bindC_out fun v hv => (List.nodup_cons.mp nd).1 (List.of_mem_zip hv).1, if_neg hk]
    simp
  | p :: P, w :: vs, i + 1, m, nd, h1, h2, hk => by
    show bindC kindOf ((p, w) :: P.zip vs) m x = _
    unfold bindC
    exact bindC_get (i := i) (List.nodup_cons.mp nd).2 (by simpa using h1) (by simpa using h2) hk
noncomputable def start (N : List Str) (vs : List V) : St := vs.map some ++ List.replicate (N.length - vs.length) none
noncomputable def cxOf (CX : CXT) (P : Program) (w : World) (K : PySem.W.Frag) (mg : Str → Option Value) (base : Heap) (N : List Str) (qual : Str) (scope : Scope) (f : Addr) (cd : Value) (A : Around) (outer : List Env) (s : Shared) (H : Hp) (E : XK) : Cx where
  prog := P
  w := w
  K := K
  mg := mg
  base := base
  A := A.deeper (envOfC qual scope s.heap.objs.size f cd)
  N := N
  s₀ := s
  H₀ := H
  env := envOfC qual scope s.heap.objs.size f cd
  outer := outer
  stack := envOfC qual scope s.heap.objs.size f cd :: outer
  ex := []
  calm := true
  fn := fun _ => true
  pn := []
  xe := fun e s' => wpAny (model P w) (A.deeper (envOfC qual scope s.heap.objs.size f cd)) (leaving (envOfC qual scope s.heap.objs.size f cd) e) (fun _ s'' => CX outer H s E e s'') (fun e' s'' => CX outer H s E e' s'') s'
theorem cell_has {sc : Scope} {n : Nat} {x : Str} (h : sc.names.lookup x = some .cell) : ∃ c, (cellsFrom n sc.names []).lookup x = some c := by
  have q := PySem.W.cellsFrom_some sc.names n [] (.inl h)
  exact Option.isSome_iff_exists.mp q
theorem inv_start {CX : CXT} {P : Program} {w : World} {K : PySem.W.Frag} {mg : Str → Option Value} {base : Heap} {N ps : List Str} {qual : Str} {scope : Scope} {f : Addr} {cd : Value} {A : Around} {outer : List Env} {s s1 : Shared} {H : Hp} {E : XK} {us : List Value} {vs : List V}
    (S : FnScope N ps scope) (hd : A.handled = none) (e0 : Env0 P w K mg base A outer s H) (hl : vs.length = ps.length) (r : Vals vs us)
    (x : InCallC s s.heap.objs.size (bindL (envOfC qual scope s.heap.objs.size f cd).kindOf (ps.zip us) fun _ => none) (cellsFrom (s.heap.objs.size + 1) scope.names []) (bindC (envOfC qual scope s.heap.objs.size f cd).kindOf (ps.zip us) fun _ => none) s1) :
    Inv (cxOf CX P w K mg base N qual scope f cd A outer s H E) [] (start N vs) H s1 := by
  have hpl : ps.length ≤ N.length := by have := congrArg List.length S.pre; rw [List.length_take] at this; omega
  obtain ⟨h1, tk, rfl, hk⟩ := x.done
  have noA : ∀ b : Addr, b ∉ (cxOf CX P w K mg base N qual scope f cd A outer s H E).ex := fun b z => absurd (show b ∈ ([] : List Addr) from z) (by simp)
  refine ⟨⟨e0.mod, S.kind, rfl, rfl, Nat.le_refl _, fun y z c h1 h2 => ?_, fun y hy => ?_, fun y c _ h => ?_, fun _ => hd, Around.frames_deeper e0.frames, .inr ⟨rfl, rfl⟩, fun b z => absurd z (noA b), e0.bs, e0.bsz, fun b _ _ => noA b, fun b z => absurd z (noA b), e0.funs, e0.frf⟩,
    rfl, e0.bare, Un.kept hk, ⟨_, x.toInCall.ns, fun i y v h1 h2 h3 => ?_⟩, fun y c h => ⟨_, x.cell y c h⟩, e0.hok.fresh (Nat.le_refl _), fun y c h => ?_, fun p hp => absurd (show p ∈ ([] : List (Addr × Obj)) from hp) (by simp), e0.hok.kept hk, ?_⟩
  · exact name_of_addr x.apart (PySem.mem_of_lookup h1) (PySem.mem_of_lookup h2)
  · have hy : scope.names.lookup y = some .cell ∨ scope.names.lookup y = some .free := hy
    rcases hy with hy | hy
    · exact cell_has hy
    · exact absurd rfl (S.nofree _ (PySem.mem_of_lookup hy))
  · exact Nat.le_of_lt (x.above y c (PySem.mem_of_lookup h))
  · have hi : i < vs.length := by
      unfold start at h2
      by_cases hi : i < vs.length
      · exact hi
      · rw [List.getElem?_append_right (by simpa using hi)] at h2
        rw [List.getElem?_replicate] at h2
        split at h2 <;> cases h2
    have ha : vs[i]? = some v := by
      unfold start at h2
      rw [List.getElem?_append_left (by simpa using hi), List.getElem?_map] at h2
      cases e : vs[i]? with
      | none => rw [e] at h2; cases h2
      | some a => rw [e] at h2; cases h2; rfl
    obtain ⟨u, hu, rv⟩ := r.get ha
    have hp : ps[i]? = some y := by
      rw [← S.pre, List.getElem?_take_of_lt (by omega)]; exact h1
    have ndP : ps.Nodup := by rw [← S.pre]; exact S.nd.sublist (List.take_sublist _ _)
    refine ⟨u, rv, ?_⟩
    rcases S.par y (List.mem_of_getElem? hp) with k | k
    · exact .inl ⟨k, bindL_get ndP hp hu k⟩
    · obtain ⟨c, e⟩ := cell_has (n := s.heap.objs.size + 1) k
      refine .inr ⟨.inl k, c, e, ?_⟩
      have q := x.cell y c e
      rw [bindC_get ndP hp hu (by show scope.names.lookup y ≠ _; rw [k]; decide)] at q
      exact q
  · exact e0.hok.fresh (Nat.le_of_lt (x.above y c (PySem.mem_of_lookup h)))
  · unfold start
    show _ = N.length
    rw [List.length_append, List.length_map, List.length_replicate]
    omega
theorem fn_of {CX : CXT} {P : Program} {w : World} {K : PySem.W.Frag} {mg : Str → Option Value} {base : Heap} {k : Nat} {f : Addr} {name qual : Str} {params : Arguments} {body : List Stmt} {scope : Scope} {dV kV doc pm cdv ct oc : Value} {an od : Option Addr}
    {osl : Array (Option Value)} {N ps : List Str} {sp : Sp} (lk : K.lookup f = some ⟨oc, od, .func (PySem.W.fnOf name qual params body scope dV kV doc pm an cdv ct), osl⟩) (hcd : PySem.W.codeIn K cdv qual = true) (S : FnScope N ps scope)
    (len : ∀ vs H Q E, sp vs H Q E → vs.length = ps.length)
    (hbody : ∀ (A : Around) (outer : List Env) (s : Shared) (H : Hp) (vs : List V) (Q : VK) (E : XK), Room k (A.deeper (envOfC qual scope s.heap.objs.size f cdv)) → sp vs H Q E →
      ∃ t, PSs (cxOf CX P w K mg base N qual scope f cdv A outer s H E) body t ∧ t { nx := fun _ H' => Q .non H', rt := Q } (start N vs) H) :
    FnOk P w K mg base CX (k + 1) f (PySem.W.fnOf name qual params body scope dV kV doc pm an cdv ct) ps sp := by
  refine ⟨len, fun A outer s H args us vs Q E hr e0 hb r hsp => ?_⟩
  have hl := len _ _ _ _ hsp
  have KX : K.In s.heap := e0.mod.kin.keeps fun b o e => (e0.bs b o e).1
  have lim : s.heap.NoLimit := e0.mod.nolimit.keeps fun b o e => (e0.bs b o e).1
  have hkind : ∀ y ∈ ps.zip us, scope.names.lookup y.1 = some .local ∨ (scope.names.lookup y.1 = some .cell ∧ ((cellsFrom (s.heap.objs.size + 1) scope.names []).lookup y.1).isSome = true) := fun ⟨n, v⟩ hy => by
    rcases S.par n (List.of_mem_zip hy).1 with q | q
    · exact .inl q
    · exact .inr ⟨q, PySem.W.cellsFrom_some _ _ _ (.inl q)⟩
  refine codeAny_call_function hr.depth (KX _ _ lk) rfl S.co S.gen rfl (PySem.W.codeRec_of KX hcd) (hb _ _ _ _ ?_)
  refine wpAny_newFunctionEnv_cells S.kind hkind fun env he s1 x => ?_
  subst he
  refine ⟨lim.keeps x.toInCall.keep, codeAny_func ?_⟩
  obtain ⟨t, ht, hq⟩ := hbody A outer s H vs Q E (hr.deeper _) hsp
  have I : Inv (cxOf CX P w K mg base N qual scope f cdv A outer s H E) [] (start N vs) H s1 := inv_start S hr.hd e0 hl r x
  refine wpAny_mono (ht [] s1 (start N vs) H _ I hq) (fun fl s' hs => ?_) fun e s' hs => hs
  have fin : ∀ {σ' : St} {H' : Hp} {v : V} {u : Value}, Inv (cxOf CX P w K mg base N qual scope f cdv A outer s H E) [] σ' H' s' → RelV v u → Q v H' → CE outer P w H s Q u s' :=
    fun {σ' H' v u} J rv q => ⟨v, H', J.os, J.bare, J.base, J.hok, rv, q⟩
  cases fl with
  | ret u =>
    obtain ⟨v, σ', H', J, rv, q⟩ := hs
    exact fin J rv q
  | next =>
    obtain ⟨σ', H', J, q⟩ := hs
    exact fin (v := V.non) (u := Value.none) J rfl q
  | brk =>
    obtain ⟨_, _, _, q⟩ := hs
    exact False.elim q
  | cont =>
    obtain ⟨_, _, _, q⟩ := hs
    exact False.elim q
end L2
namespace L2
open PySem PySem.Spec PyProof.Rows
section
variable {X : Cx} {x : Str} {p pos : Pos} {e : Expr} {es : List Expr} {t : TA} {id T : String} {r : List V → Hp → VK → Prop}
noncomputable def tCB (r : List V → Hp → VK → Prop) (t : TA) : TE := fun σ H Q => t σ H fun vs H1 => r vs H1 Q
theorem pe_callB (hc : CallR X (.builtin id) r) (hg : Gl X x) (hm : X.mg x = none) (hv : bootBuiltins x = some (.builtin id)) (ha : PA X (e :: es) t) (hn : x ≠ "__name__" := by decide) (hdb : (x == ("__debug__" : Str)) = false := by decide)
    (he : starEach (e :: es) X.env = (false, eval e X.env) :: starEach es X.env := by rfl) (hpl : (backTo pos (starEach es X.env)).any (·.1) = false := by rfl) : PE X (.Call (.Name x p) (e :: es) [] pos) (tCB r t) := by
  intro pins s σ H Q I h
  refine wpAny_Call_Name_kw (ld_blt I hg hm hv ?_ hn hdb)
  exact PyProof.Rows.callWith_builtin1 (thn (ha pos pins s σ H _ I h) fun us s1 ⟨vs, H1, I1, r1, q1⟩ => hc pins s1 σ H1 vs us Q I1 r1 q1) he hpl
theorem pe_callTy (hc : CallR X (.type T) r) (hg : Gl X x) (hm : X.mg x = none) (hv : bootBuiltins x = some (.type T)) (ha : PA X (e :: es) t) (hn : x ≠ "__name__" := by decide) (hdb : (x == ("__debug__" : Str)) = false := by decide)
    (he : starEach (e :: es) X.env = (false, eval e X.env) :: starEach es X.env := by rfl) (hpl : (backTo pos (starEach es X.env)).any (·.1) = false := by rfl) : PE X (.Call (.Name x p) (e :: es) [] pos) (tCB r t) := by
  intro pins s σ H Q I h
  refine wpAny_Call_Name_kw (ld_blt I hg hm hv ?_ hn hdb)
  exact PyProof.Rows.callWith_type1 (thn (ha pos pins s σ H _ I h) fun us s1 ⟨vs, H1, I1, r1, q1⟩ => hc pins s1 σ H1 vs us Q I1 r1 q1) he hpl
end
end L2
namespace HT
open PySem PyProof.Rows
theorem eqAt_int (A : Around) (s : Shared) (a : Int) (t : Tok) (c : Int) (u : Tok) : ∃ e, SeqAt.EqAt A s (.int a t) (.int c u) e ∧ (e = true ↔ a = c) :=
  ⟨(a == c), SeqAt.EqAt.int_int a t c u, by simp⟩
section
open PySem.SeqAt
open PySem.AutoSeq1 (wpAny_loadPart')
open PySem.MeetsSeq PySem.MeetsSeq2 PySem.MeetsSeq3
end
section
variable {prog : Program} {w : World} {A : Around} {E : Value → Shared → Prop} {s : Shared}
noncomputable def sIx (n d : Nat) : Option Int → Nat
  | none => d
  | some v => if v < 0 then (v + (n : Int)).toNat else min v.toNat n
theorem sIx_none (n d : Nat) : sIx n d none = d := rfl
end
end HT
namespace L2
open PySem PySem.Spec PyProof.Rows
noncomputable abbrev TO := St → Hp → (Option Int → Hp → Prop) → Prop
noncomputable def PO (X : Cx) (e : Option Expr) (t : TO) : Prop :=
  ∀ (pins : List (Addr × Obj)) (s : Shared) (σ : St) (H : Hp) (Q : Option Int → Hp → Prop), Inv X pins σ H s → t σ H Q →
    wpAny (model X.prog X.w) X.A (evalPart e X.env) (fun u s' => ∃ o H', Inv X pins σ H' s' ∧ IsPart u o ∧ Q o H') X.xe s
noncomputable def tNoPart : TO := fun _ H Q => Q none H
noncomputable def tPart (t : TE) : TO := fun σ H Q => t σ H fun x H1 => ∃ i, x = .int i ∧ Q (some i) H1
theorem intsAre_of {ns : List Int} : ∀ {us : List Value}, Vals (ns.map V.int) us → IntsAre us ns := by
  induction ns with
  | nil => intro us r; rw [List.map_nil] at r; cases r; exact .nil
  | cons n ns ih =>
    intro us r
    rw [List.map_cons] at r
    cases r with
    | cons r1 r2 =>
      obtain ⟨t, e⟩ := r1
      subst e
      exact .cons n t (ih r2)
section
variable {X : Cx} {e : Expr} {te : TE} {lo hi : Option Expr} {tl th : TO} {pos p2 : Pos}
theorem po_none : PO X none tNoPart := by
  intro pins s σ H Q I h
  rw [evalPart_none]
  exact wpAny_pure ⟨none, H, I, .none, h⟩
theorem po_some (h : PE X e te) : PO X (some e) (tPart te) := by
  intro pins s σ H Q I hw
  rw [evalPart_some]
  refine thn (h pins s σ H _ I hw) fun u s1 ⟨x, H1, I1, r1, q1⟩ => ?_
  obtain ⟨i, rfl, q⟩ := q1
  obtain ⟨t, rfl⟩ := r1
  exact ⟨some i, H1, I1, .int i t, q⟩
noncomputable def SlR (X : Cx) (r : V → Option Int → Option Int → Hp → VK → Prop) : Prop :=
  ∀ (pins : List (Addr × Obj)) (s : Shared) (σ : St) (H : Hp) (x : V) (v vl vu : Value) (lo hi : Option Int) (sl : Addr) (Q : VK), Inv X pins σ H s → RelV x v → s.heap.IsSliceOf sl vl vu .none → IsPart vl lo → IsPart vu hi → r x lo hi H Q →
    ∃ T id, typeLookup (.type T) "__getitem__" = pure (some (.builtin id)) ∧ s.TypeIs v T ∧ wpAny (model X.prog X.w) X.A (getItem v (.ref sl)) (EP X pins σ Q) X.xe s
noncomputable def tSl (r : V → Option Int → Option Int → Hp → VK → Prop) (te : TE) (tl th : TO) : TE := fun σ H Q => te σ H fun x H1 => tl σ H1 fun l H2 => th σ H2 fun u H3 => r x l u H3 Q
theorem pe_slice {r : V → Option Int → Option Int → Hp → VK → Prop} (hr : SlR X r) (he : PE X e te) (hl : PO X lo tl) (hu : PO X hi th) : PE X (.Subscript e (.Slice lo hi none p2) pos) (tSl r te tl th) := by
  intro pins s σ H Q I h
  refine Subscript_ (thn (he pins s σ H _ I h) fun v s1 ⟨x, H1, I1, r1, q1⟩ => ?_)
  refine wpAny_Slice (thn (hl pins s1 σ H1 _ I1 q1) fun vl s2 ⟨l, H2, I2, pl, q2⟩ => thn (hu pins s2 σ H2 _ I2 q2) fun vu s3 ⟨u, H3, I3, pu, q3⟩ => ?_)
  rw [evalPart_none]
  refine wpAny_pure ?_
  have I4 : Inv X pins σ H3 { s3 with heap := s3.heap.push { cls := .type "slice", data := .fields #[vl, vu, .none] } } := I3.kept (t' := s3.toks) fun b ob q => Heap.get?_push_of_some _ q
  obtain ⟨T, id, hT, ht, hg⟩ := hr pins { s3 with heap := s3.heap.push { cls := .type "slice", data := .fields #[vl, vu, .none] } } σ H3 x v vl vu l u s3.heap.objs.size Q I4 r1 (Heap.IsSliceOf.new ..) pl pu q3
  show wpAny (model X.prog X.w) X.A (subscriptTail e (.Slice lo hi none p2) v (.ref s3.heap.objs.size)) (EP X pins σ Q) X.xe { s3 with heap := s3.heap.push { cls := .type "slice", data := .fields #[vl, vu, .none] } }
  exact tail_any (ops := [.ref s3.heap.objs.size, v]) ht hT hg (by with_unfolding_all rfl)
noncomputable def cutV (xs : List V) (lo hi : Option Int) : List V := (xs.drop (HT.sIx xs.length 0 lo)).take (HT.sIx xs.length xs.length hi - HT.sIx xs.length 0 lo)
theorem cutV_length (xs : List V) (lo hi : Option Int) : (cutV xs lo hi).length ≤ xs.length := by
  unfold cutV
  rw [List.length_take, List.length_drop]
  omega
end
end L2
namespace L2
open PySem PySem.Spec PyProof.Rows
noncomputable def ixN (n : Nat) (i : Int) : Option Nat := if 0 ≤ i then (if i < n then some i.toNat else none) else if -(n : Int) ≤ i then some (i + n).toNat else none
noncomputable def atI {α : Type} (xs : List α) (i : Int) : Option α := (ixN xs.length i).bind fun j => xs[j]?
theorem ixN_seq {n : Nat} {i : Int} {j : Nat} (h : ixN n i = some j) : seqIndex? i n = some j ∧ j < n ∧ -(n : Int) ≤ i ∧ i < n := by
  unfold ixN at h
  by_cases h0 : 0 ≤ i
  · rw [if_pos h0] at h
    by_cases h1 : i < n
    · rw [if_pos h1] at h
      have e : i.toNat = j := Option.some.inj h
      exact ⟨by rw [seqIndex_of h0 h1, e], by omega, by omega, h1⟩
    · rw [if_neg h1] at h; cases h
  · rw [if_neg h0] at h
    by_cases h1 : -(n : Int) ≤ i
    · rw [if_pos h1] at h
      have e : (i + n).toNat = j := Option.some.inj h
      exact ⟨by rw [seqIndex_neg (by omega) h1, e], by omega, h1, by omega⟩
    · rw [if_neg h1] at h; cases h
theorem atI_get {α : Type} {xs : List α} {i : Int} {v : α} (h : atI xs i = some v) : ∃ j, seqIndex? i xs.length = some j ∧ xs[j]? = some v ∧ j < xs.length ∧ -(xs.length : Int) ≤ i ∧ i < xs.length := by
  unfold atI at h
  cases e : ixN xs.length i with
  | none => rw [e] at h; cases h
  | some j =>
    rw [e] at h
    obtain ⟨h1, h2, h3, h4⟩ := ixN_seq e
    exact ⟨j, h1, h, h2, h3, h4⟩
theorem atI_nat {α : Type} {xs : List α} {j : Nat} {v : α} (h : xs[j]? = some v) : atI xs (j : Int) = some v := by
  have hj : j < xs.length := (List.getElem?_eq_some_iff.mp h).1
  have e : ixN xs.length (j : Int) = some j := by
    unfold ixN
    rw [if_pos (by omega), if_pos (by omega)]; simp
  unfold atI; rw [e]; exact h
noncomputable def PlainIx (b : Expr) : Prop := ∀ o i, subscripted b false o i = operate [o, i] (getItem o i)
noncomputable def IxR (X : Cx) (r : R2) : Prop :=
  ∀ (value slice : Expr) (pins : List (Addr × Obj)) (s : Shared) (σ : St) (H : Hp) (x y : V) (v u : Value) (Q : VK), Inv X pins σ H s → RelV x v → RelV y u → r x y H Q →
    subscripted slice false v u = operate [v, u] (getItem v u) → wpAny (model X.prog X.w) X.A (subscriptTail value slice v u) (EP X pins σ Q) X.xe s
noncomputable def MtR (X : Cx) (id : String) (r : V → List V → Hp → VK → Prop) : Prop :=
  ∀ (pins : List (Addr × Obj)) (s : Shared) (σ : St) (H : Hp) (x : V) (xs : List V) (v : Value) (us : List Value) (Q : VK), Inv X pins σ H s → RelV x v → Vals xs us → r x xs H Q →
    wpAny (model X.prog X.w) X.A (call (.builtin id) (v :: us)) (EP X pins σ Q) X.xe s
section
variable {X : Cx} {a b : Expr} {ta tb : TE} {pos : Pos}
theorem pe_ix {r : R2} (hr : IxR X r) (ha : PE X a ta) (hb : PE X b tb) (hs : PlainIx b) : PE X (.Subscript a b pos) (tOp r ta tb) := by
  intro pins s σ H Q I h
  exact Subscript_ (binT ha hb I h fun v u s2 x y H2 I2 rx ry q => hr a b pins s2 σ H2 x y v u Q I2 rx ry q (hs _ _))
noncomputable def rIxL (K : PySem.W.Frag) : R2 := fun x y H Q => ∃ p xs i v, x = .ref p ∧ y = .int i ∧ SqL K H p xs ∧ atI xs i = some v ∧ Q v H
noncomputable def rIxT (K : PySem.W.Frag) : R2 := fun x y H Q => ∃ p xs i v, x = .ref p ∧ y = .int i ∧ SqT K H p xs ∧ atI xs i = some v ∧ Q v H
theorem ix_list : IxR X (rIxL X.K) := by
  intro value slice pins s σ H x y v u Q I rx ry h hs
  obtain ⟨p, xs, i, z, rfl, rfl, hq, he, q⟩ := h
  cases rx
  obtain ⟨t, rfl⟩ := ry
  obtain ⟨its, r, pl, hz⟩ := I.list hq
  obtain ⟨j, h1, h2, h3, h4, h5⟩ := atI_get he
  obtain ⟨w, ew, rw'⟩ := r.get h2
  have hl := r.length
  have hn := line63
  have fin : EP X pins σ Q w s := ⟨z, H, I, rw', q⟩
  by_cases h0 : 0 ≤ i
  · have hj : i.toNat = j := by
      rw [seqIndex_of h0 h5] at h1
      exact Option.some.inj h1
    exact item_listR pl.isList h0 (by omega) (by rw [hj]; simpa using ew) fin hs
  · have hj : (i + (its.toArray.size : Int)).toNat = j := by
      rw [seqIndex_neg (by omega) h4] at h1
      rw [List.size_toArray, ← hl]
      exact Option.some.inj h1
    exact subscriptTail_builtinR (x := w) pl.isList.typeIs slot_list_getitem.lookup
      (wpAny_getItem_list_neg (Q := fun r s' => r = w ∧ EP X pins σ Q r s') pl.isList (by omega) (by rw [List.size_toArray] <;> omega) (by omega) (by rw [hj]; simpa using ew) ⟨rfl, fin⟩) hs
theorem ix_tup : IxR X (rIxT X.K) := by
  intro value slice pins s σ H x y v u Q I rx ry h hs
  obtain ⟨p, xs, i, z, rfl, rfl, hq, he, q⟩ := h
  cases rx
  obtain ⟨t, rfl⟩ := ry
  obtain ⟨its, r, pl, hz⟩ := I.tuple hq
  obtain ⟨j, h1, h2, h3, h4, h5⟩ := atI_get he
  obtain ⟨w, ew, rw'⟩ := r.get h2
  have hl := r.length
  have hn := line63
  have fin : EP X pins σ Q w s := ⟨z, H, I, rw', q⟩
  exact subscriptTail_builtinR (x := w) pl.typeIs slot_tuple_getitem.lookup
    (getItem_tuple (j := j) (Q := fun r s' => r = w ∧ EP X pins σ Q r s') pl (by omega) (by omega) (by rw [List.size_toArray, ← hl]; exact h1) (by simpa using ew) ⟨rfl, fin⟩) hs
theorem slice_bounds (lo hi : Option Int) (n : Nat) : (sliceBounds lo hi none n).1 = ((HT.sIx n 0 lo : Nat) : Int) ∧ (sliceBounds lo hi none n).2.1 = ((HT.sIx n n hi : Nat) : Int) ∧ (sliceBounds lo hi none n).2.2 = 1 := by
  refine ⟨?_, ?_, rfl⟩
  · cases lo with
    | none => simp [sliceBounds, HT.sIx]
    | some i =>
      simp only [sliceBounds, HT.sIx, Option.getD_none, show (1 : Int) > 0 by decide, if_true]
      by_cases h : i < 0
      · simp only [h, if_true] <;> omega
      · simp only [h, if_false] <;> omega
  · cases hi with
    | none => simp [sliceBounds, HT.sIx]
    | some i =>
      simp only [sliceBounds, HT.sIx, Option.getD_none, show (1 : Int) > 0 by decide, if_true]
      by_cases h : i < 0
      · simp only [h, if_true] <;> omega
      · simp only [h, if_false] <;> omega
theorem slicePick_cut (its : List Value) (lo hi : Option Int) : slicePick its.toArray lo hi none = ((its.drop (HT.sIx its.length 0 lo)).take (HT.sIx its.length its.length hi - HT.sIx its.length 0 lo)).toArray := by
  obtain ⟨h1, h2, h3⟩ := slice_bounds lo hi its.toArray.size
  unfold slicePick
  rw [h1, h2, h3]
  simp only [sliceRange_one, pick_run, List.size_toArray] <;> rfl
noncomputable def rSlL (K : PySem.W.Frag) : V → Option Int → Option Int → Hp → VK → Prop := fun x lo hi H Q => ∃ a xs, x = .ref a ∧ SqL K H a xs ∧ ∀ p, H p = none → Q (.ref p) (upd H p (.lst (cutV xs lo hi)))
theorem sl_list : SlR X (rSlL X.K) := by
  intro pins s σ H x v vl vu lo hi sl Q I rx hs pl pu h
  obtain ⟨a, xs, rfl, hx, q⟩ := h
  cases rx
  obtain ⟨its, r, ht, hz⟩ := I.list hx
  have hlen := r.length
  refine ⟨"list", _, slot_list_getitem.lookup, ht.isList.typeIs, ?_⟩
  refine wpAny_getItem_list_slice ht.isList hs pl pu .none (by simp) ?_ (by rw [List.size_toArray] <;> omega)
  rw [slicePick_cut, ← hlen]
  refine ⟨.ref s.heap.objs.size, _, I.laid (t' := s.toks) (o := .lst (cutV xs lo hi)) (fun b ob q => Heap.get?_push_of_some _ q) (Nat.le_refl _) ?_, rfl, q _ (I.hok.fresh (Nat.le_refl _))⟩
  exact ⟨Nat.le_trans (cutV_length xs lo hi) hz, _, 0, (r.drop (HT.sIx xs.length 0 lo)).take (HT.sIx xs.length xs.length hi - HT.sIx xs.length 0 lo), Heap.get?_push_size _ rfl⟩
theorem call_len_seq : CallR X (.builtin "len") (fun xs H Q => ∃ p ys, xs = [.ref p] ∧ (SqL X.K H p ys ∨ SqT X.K H p ys) ∧ Q (.int ys.length) H) := by
  intro pins s σ H xs us Q I r h
  obtain ⟨p, ys, rfl, hq, q⟩ := h
  obtain ⟨u, rfl, rx⟩ := vals1 r
  cases rx
  have hn := line63
  rcases hq with hq | hq
  · obtain ⟨its, r', pl, hz⟩ := I.list hq
    have hlen := r'.length
    exact Calls.call_len_list pl.isList (by simp only [List.size_toArray] <;> omega) ⟨.int ys.length, H, I.tok _, ⟨s.toks + 1, by rw [List.size_toArray, hlen]⟩, q⟩
  · obtain ⟨its, r', pl, hz⟩ := I.tuple hq
    have hlen := r'.length
    exact len_tuple pl (by simp only [List.size_toArray] <;> omega) ⟨.int ys.length, H, I.tok _, ⟨s.toks + 1, by rw [List.size_toArray, hlen]⟩, q⟩
theorem call_list_of : CallR X (.type "list") (fun xs H Q => ∃ p ys, xs = [.ref p] ∧ (SqL X.K H p ys ∨ SqT X.K H p ys) ∧ ∀ l, H l = none → Q (.ref l) (upd H l (.lst ys))) := by
  intro pins s σ H xs us Q I r h
  obtain ⟨p, ys, rfl, hq, q⟩ := h
  obtain ⟨u, rfl, rx⟩ := vals1 r
  cases rx
  have fin : ∀ (its : List Value), Vals ys its → ys.length ≤ sizeLine → ∀ (h' : Heap) (c' : Nat), (∀ b o', s.heap.get? b = some o' → h'.get? b = some o') →
      h'.get? s.heap.objs.size = some { cls := .type "list", dict := none, data := .seq its.toArray c', slots := #[] } → EP X pins σ Q (.ref s.heap.objs.size) { s with heap := h' } := fun its r' hz h' c' kp e =>
    ⟨.ref s.heap.objs.size, _, I.laid (t' := s.toks) kp (Nat.le_refl _) (show ObjOk X.prog X.w _ h' _ (.lst ys) from ⟨hz, its, c', r', e⟩), rfl, q _ (I.hok.fresh (Nat.le_refl _))⟩
  rcases hq with hq | hq
  · obtain ⟨its, r', pl, hz⟩ := I.list hq
    have hlen := r'.length
    obtain ⟨o, ho, hc, n, hd⟩ := pl.isList
    exact call_list_seq p (.inl rfl) ho hc hd (fun h' c' kp e => fin its r' hz h' c' kp e) (by simp only [List.size_toArray] <;> omega)
  · obtain ⟨its, r', pl, hz⟩ := I.tuple hq
    have hlen := r'.length
    obtain ⟨o, ho, hc, n, hd⟩ := pl
    exact call_list_seq p (.inr rfl) ho hc hd (fun h' c' kp e => fin its r' hz h' c' kp e) (by simp only [List.size_toArray] <;> omega)
noncomputable def tyV (K : PySem.W.Frag) (T : String) (x : V) (H : Hp) : Prop := match x with
  | .str _ => T = "str"
  | .int _ => T = "int"
  | .ref p => (T = "list" ∧ ∃ xs, SqL K H p xs) ∨ (T = "tuple" ∧ ∃ o, K.lookup p = some o ∧ o.cls = .type "tuple" ∧ o.dict = none) ∨
      (T = "dict" ∧ ((∃ kvs, H p = some (.dK kvs)) ∨ ∃ kvs, H p = some (.dT kvs))) ∨ (T = "set" ∧ ∃ S n, H p = some (.set S n))
  | _ => False
theorem tyV_is {pins : List (Addr × Obj)} {σ : St} {H : Hp} {s : Shared} {T : String} {x : V} {v : Value} (I : Inv X pins σ H s) (r : RelV x v) (ty : tyV X.K T x H) :
    s.TypeIs v T ∧ ∀ a, v = .ref a → ∃ ob, s.heap.get? a = some ob ∧ ob.dict = none := by
  cases x with
  | str z =>
    obtain ⟨t, rfl⟩ := r
    cases (show T = "str" from ty)
    exact ⟨typeIs_str s z t, fun _ e => nomatch e⟩
  | int i =>
    obtain ⟨t, rfl⟩ := r
    cases (show T = "int" from ty)
    exact ⟨typeIs_int s i t, fun _ e => nomatch e⟩
  | ref p =>
    cases r
    rcases ty with ⟨rfl, xs, hq⟩ | ⟨rfl, o, hk, hc, hd⟩ | ⟨rfl, hk⟩ | ⟨rfl, S, n, hk⟩
    · obtain ⟨its, _, pl, _⟩ := I.list hq
      refine ⟨pl.isList.typeIs, fun a e => ?_⟩
      cases e
      obtain ⟨o, n, e, c, hd, _⟩ := pl
      exact ⟨o, e, hd⟩
    · refine ⟨⟨o, I.kIn p o hk, hc⟩, fun a e => ?_⟩
      cases e
      exact ⟨o, I.kIn _ o hk, hd⟩
    · have z : ∃ o, s.heap.get? p = some o ∧ o.ExactDict := by
        rcases hk with ⟨kvs, hk⟩ | ⟨kvs, hk⟩
        · obtain ⟨_, _, _, _, o, _, _, e, ex, _⟩ := I.hok p _ hk
          exact ⟨o, e, ex⟩
        · obtain ⟨_, _, _, _, o, _, _, e, ex, _⟩ := I.hok p _ hk
          exact ⟨o, e, ex⟩
      obtain ⟨o, e, ex⟩ := z
      refine ⟨⟨o, e, ex.1⟩, fun a e2 => ?_⟩
      cases e2
      exact ⟨o, e, ex.2.1⟩
    · obtain ⟨o, _, _, _, e, ex, _⟩ := I.hok p _ hk
      refine ⟨⟨o, e, ex.1⟩, fun a e2 => ?_⟩
      cases e2
      exact ⟨o, e, ex.2.1⟩
  | _ => exact False.elim ty
noncomputable def tBM (K : PySem.W.Frag) (T : String) (r : V → List V → Hp → VK → Prop) (to : TE) (t : TA) : TE := fun σ H Q => to σ H fun x H1 => tyV K T x H1 ∧ t σ H1 fun xs H2 => r x xs H2 Q
variable {o e : Expr} {es : List Expr} {to : TE} {t : TA} {name : Str} {apos cpos : Pos} {T id : String} {r : V → List V → Hp → VK → Prop}
theorem pe_bm (pa : PlainAttrs T) (slot : Slot T name id) (hty : typeOf (.builtin id) = pure (.type "method_descriptor")) (hm : MtR X id r) (ho : PE X o to) (ha : PA X (e :: es) t)
    (hbase : attributeBase o name X.env (eval o X.env) = eval o X.env := by rfl)
    (hfew : ((backTo cpos (starEach (e :: es) X.env)).all (fun x => !x.1) && (backToKw cpos (keywordEach [] X.env)).all (fun x => x.1.isSome)
      && decide ((e :: es).length + ([] : List Keyword).length + (if ([] : List Keyword).isEmpty then 0 else 1) < 30)) = true := by rfl)
    (hline : (apos.endLine == cpos.line) = true := by rfl) (hs : starEach (e :: es) X.env = (false, eval e X.env) :: starEach es X.env := by rfl) (hplain : (backTo cpos (starEach es X.env)).any (·.1) = false := by rfl) :
    PE X (.Call (.Attribute o name apos) (e :: es) [] cpos) (tBM X.K T r to t) := by
  intro pins s σ H Q I h
  refine wpAny_Call_method_late hbase hfew hline rfl (thn (ho pins s σ H _ I h) fun v s1 ⟨x, H1, I1, r1, ty, q1⟩ => ?_)
  obtain ⟨h1, h2⟩ := tyV_is I1 r1 ty
  refine ⟨T, id, pa, slot, hty, h1, h2, ?_⟩
  have hA := ha cpos pins s1 σ H1 _ I1 q1
  rw [hs] at hA ⊢
  refine Calls.callWith_builtin (by show (false || (backTo cpos (starEach es X.env)).any (·.1)) = false; rw [hplain] <;> rfl) (Calls.evalArgs_plain ?_)
  exact thn hA fun us s2 ⟨vs, H2, I2, r2, q2⟩ => hm pins s2 σ H2 x vs v us Q I2 r1 r2 q2
/- xs.append(e), list.index on a module's tuple .. are MtR facts of 06m -/
end
end L2
namespace L2
open PySem PySem.Spec PyProof.Rows
noncomputable def MtM (X : Cx) (id : String) (r : V → List V → Hp → VK → Prop) : Prop :=
  ∀ (pins : List (Addr × Obj)) (s : Shared) (σ : St) (H : Hp) (x : V) (xs : List V) (v : Value) (us : List Value) (Q : VK), Inv X pins σ H s → RelV x v → Vals xs us → r x xs H Q →
    wpAny (model X.prog X.w) X.A (call (.builtin id) (v :: us)) (EP X pins σ Q) X.xe s
theorem Vals.one : ∀ {x : V} {us : List Value}, Vals [x] us → ∃ u, us = [u] ∧ RelV x u
  | _, _, .cons r .nil => ⟨_, rfl, r⟩
section
variable {X : Cx} {pins : List (Addr × Obj)} {σ : St} {H : Hp} {s : Shared} {l b : Addr} {xs ys zs : List V}
theorem Inv.lset {its its' : List Value} {n : Nat} {f : Array Value → Array Value} {t' : Nat} (I : Inv X pins σ H s) (hH : H l = some (.lst xs))
    (e : s.heap.get? l = some { cls := .type "list", data := .seq its.toArray n }) (hf : f its.toArray = its'.toArray) (hv : Vals ys its') (hz : ys.length ≤ sizeLine) :
    Inv X pins σ (upd H l (.lst ys)) { s with heap := s.heap.update l (Obj.mapSeq f), toks := t' } := by
  have q := PySem.IsL.update e f
  rw [hf] at q
  refine I.write (x := l) (e := l) (by rw [hH]; exact trivial) (.inl rfl) (fun b' u hb hu => (Heap.get?_update_other s.heap (Obj.mapSeq f) (Ne.symm hb)).trans hu) ⟨_, q⟩ ?_
  exact ⟨hz, its', _, hv, q⟩
theorem Inv.lnew {its : List Value} {t' : Nat} (I : Inv X pins σ H s) (hv : Vals ys its) (hz : ys.length ≤ sizeLine) :
    Inv X pins σ (upd H s.heap.objs.size (.lst ys)) { s with heap := s.heap.push { cls := .type "list", data := .seq its.toArray }, toks := t' } :=
  I.laid (fun _ _ q => Heap.get?_push_of_some _ q) (Nat.le_refl _) ⟨hz, its, 0, hv, Heap.get?_push_size _ rfl⟩
theorem Inv.fresh (I : Inv X pins σ H s) : H s.heap.objs.size = none := I.hok.fresh (Nat.le_refl _)
theorem Inv.lstM (I : Inv X pins σ H s) (hH : H l = some (.lst xs)) : xs.length ≤ sizeLine ∧ ∃ (its : List Value) (n : Nat), Vals xs its ∧ xs.length = its.length ∧ s.heap.get? l = some { cls := .type "list", data := .seq its.toArray n } := by
  obtain ⟨z, its, n, r, e⟩ := I.hok l _ hH
  exact ⟨z, its, n, r, r.length, e⟩
theorem notLongL {n : Nat} (h : n ≤ sizeLine) : Builtin.List.listTooLong n = false := by
  unfold Builtin.List.listTooLong
  exact decide_eq_false (by omega)
end
section
variable {X : Cx}
noncomputable def rAppend : V → List V → Hp → VK → Prop := fun x vs H Q => ∃ l xs y, x = .ref l ∧ vs = [y] ∧ H l = some (.lst xs) ∧ xs.length < sizeLine ∧ Q .non (upd H l (.lst (xs ++ [y])))
theorem mt_append : MtM X "list.append" rAppend := by
  intro pins s σ H x vs v us Q I rx rv h
  obtain ⟨l, xs, y, rfl, rfl, hH, hz, q⟩ := h
  cases rx
  obtain ⟨u, rfl, ru⟩ := rv.one
  obtain ⟨z, its, n, r, hl, e⟩ := I.lstM hH
  refine call_meets F.slot_list_append ⟨_, e, rfl⟩ F.entry_list_append (F.args_list_append_2 _ _) (PySem.list_append l its.toArray n u (by rw [List.size_toArray]; omega)) ⟨e, ?_⟩
  refine ⟨.non, _, I.lset (its' := its ++ [u]) hH e (by simp) (r.append (.cons ru .nil)) ?_, rfl, q⟩
  rw [List.length_append, List.length_singleton]
  omega
noncomputable def rExtend : V → List V → Hp → VK → Prop := fun x vs H Q => ∃ l b xs zs, x = .ref l ∧ vs = [.ref b] ∧ H l = some (.lst xs) ∧ H b = some (.lst zs) ∧ xs.length + zs.length ≤ sizeLine ∧ Q .non (upd H l (.lst (xs ++ zs)))
theorem mt_extend : MtM X "list.extend" rExtend := by
  intro pins s σ H x vs v us Q I rx rv h
  obtain ⟨l, b, xs, zs, rfl, rfl, hH, hB, hz, q⟩ := h
  cases rx
  obtain ⟨u, rfl, ru⟩ := rv.one
  cases ru
  obtain ⟨z, its, n, r, hl, e⟩ := I.lstM hH
  obtain ⟨z2, its2, n2, r2, hl2, e2⟩ := I.lstM hB
  have hsz : its.toArray.size + its2.toArray.size ≤ sizeLine := by rw [List.size_toArray, List.size_toArray]; omega
  have hlong : ¬ (!its.toArray.isEmpty && Builtin.List.listTooLong (its.toArray.size + its2.toArray.size)) = true := by
    rw [notLongL hsz, Bool.and_false]
    exact Bool.false_ne_true
  refine call_meets F.slot_list_extend ⟨_, e, rfl⟩ F.entry_list_extend (F.args_list_extend_2 _ _)
    (AutoSeq1.list_extend_list_list_0 l its.toArray n b its2.toArray n2 hlong (by rw [List.size_toArray]; omega) (by omega)) ⟨e, e2, ?_⟩
  refine ⟨.non, _, I.lset (its' := its ++ its2) hH e (by simp) (r.append r2) ?_, rfl, q⟩
  rw [List.length_append]
  omega
noncomputable def rCat : R2 := fun x y H Q => ∃ l b xs zs, x = .ref l ∧ y = .ref b ∧ H l = some (.lst xs) ∧ H b = some (.lst zs) ∧ xs.length + zs.length ≤ sizeLine ∧ ∀ p, H p = none → Q (.ref p) (upd H p (.lst (xs ++ zs)))
theorem op_cat : OpR X (binaryOp .Add) rCat := by
  intro pins s σ H x y v u Q I rx ry h
  obtain ⟨l, b, xs, zs, rfl, rfl, hH, hB, hz, q⟩ := h
  cases rx
  cases ry
  obtain ⟨z, its, n, r, hl, e⟩ := I.lstM hH
  obtain ⟨z2, its2, n2, r2, hl2, e2⟩ := I.lstM hB
  refine PySem.P.add_list e e2 ?_ (by rw [List.size_toArray, List.size_toArray]; omega)
  have ea : its.toArray ++ its2.toArray = (its ++ its2).toArray := by simp
  rw [ea]
  exact ⟨.ref _, _, I.lnew (t' := s.toks) (r.append r2) (by rw [List.length_append]; omega), rfl, q _ I.fresh⟩
end
section
variable {prog : Program} {w : World} {A : Around} {E : Value → Shared → Prop} {s : Shared}
end
section
variable {X : Cx}
end
end L2
namespace L2
open PySem PySem.Spec PyProof.Rows
section
variable {κ : Type} [DecidableEq κ]
noncomputable def valV (kvs : List (κ × V)) (k : κ) : Option V := (kvs.find? fun kv => decide (kv.1 = k)).map (·.2)
noncomputable def putK (kvs : List (κ × V)) (k : κ) (v : V) : List (κ × V) :=
  if (kvs.any fun kv => decide (kv.1 = k)) = true then kvs.map (fun kv => if kv.1 = k then (kv.1, v) else kv) else kvs ++ [(k, v)]
theorem valV_pos {p : κ × V} {r : List (κ × V)} {k : κ} (e : p.1 = k) : valV (p :: r) k = some p.2 := by simp [valV, List.find?_cons, e]
theorem valV_neg {p : κ × V} {r : List (κ × V)} {k : κ} (e : ¬ p.1 = k) : valV (p :: r) k = valV r k := by simp [valV, List.find?_cons, e]
theorem valV_any (k : κ) : ∀ kvs : List (κ × V), (kvs.any fun kv => decide (kv.1 = k)) = (valV kvs k).isSome
  | [] => rfl
  | p :: r => by
    rw [List.any_cons]
    by_cases e : p.1 = k
    · simp only [valV_pos e, decide_eq_true e, Bool.true_or, Option.isSome_some]
    · rw [valV_neg e, decide_eq_false e, Bool.false_or]; exact valV_any k r
theorem valV_map (k j : κ) (y : V) : ∀ kvs : List (κ × V), valV (kvs.map fun kv => if kv.1 = k then (kv.1, y) else kv) j = (valV kvs j).map fun x => if j = k then y else x
  | [] => rfl
  | p :: r => by
    have ih := valV_map k j y r
    rw [List.map_cons]
    by_cases h : p.1 = k
    · rw [if_pos h]
      by_cases e : p.1 = j
      · rw [valV_pos (p := (p.1, y)) e, valV_pos e, Option.map_some, if_pos (e.symm.trans h)]
      · rw [valV_neg (p := (p.1, y)) e, valV_neg e, ih]
    · rw [if_neg h]
      by_cases e : p.1 = j
      · rw [valV_pos (p := p) e, valV_pos e, Option.map_some, if_neg (fun z => h (e.trans z))]
      · rw [valV_neg (p := p) e, valV_neg e, ih]
theorem valV_snoc (k j : κ) (y : V) : ∀ kvs : List (κ × V), valV kvs k = none → valV (kvs ++ [(k, y)]) j = if j = k then some y else valV kvs j
  | [], _ => by
    by_cases e : k = j
    · rw [if_pos e.symm]; exact valV_pos (p := (k, y)) e
    · rw [if_neg (fun z => e z.symm)]; exact valV_neg (p := (k, y)) e
  | p :: r, hn => by
    rw [List.cons_append]
    have hk : ¬ p.1 = k := fun z => by rw [valV_pos z] at hn; cases hn
    rw [valV_neg hk] at hn
    have ih := valV_snoc k j y r hn
    by_cases e : p.1 = j
    · rw [valV_pos e, valV_pos e, if_neg (fun z => hk (e.trans z))]
    · rw [valV_neg e, valV_neg e, ih]
theorem valV_put (kvs : List (κ × V)) (k j : κ) (y : V) : valV (putK kvs k y) j = if j = k then some y else valV kvs j := by
  unfold putK
  by_cases a : (kvs.any fun kv => decide (kv.1 = k)) = true
  · rw [if_pos a, valV_map]
    rw [valV_any] at a
    by_cases e : j = k
    · obtain ⟨x, hx⟩ := Option.isSome_iff_exists.mp a
      rw [if_pos e, e, hx, Option.map_some, if_pos rfl]
    · rw [if_neg e]
      cases valV kvs j with
      | none => rfl
      | some x => rw [Option.map_some, if_neg e]
  · rw [if_neg a]
    refine valV_snoc k j y kvs ?_
    rw [valV_any] at a
    cases q : valV kvs k with
    | none => rfl
    | some x => rw [q] at a; exact (a rfl).elim
theorem length_putK (kvs : List (κ × V)) (k : κ) (v : V) : (putK kvs k v).length ≤ kvs.length + 1 := by
  unfold putK
  split
  · rw [List.length_map]; omega
  · rw [List.length_append, List.length_cons, List.length_nil]; omega
theorem putK_new {kvs : List (κ × V)} {k : κ} (v : V) (h : valV kvs k = none) : putK kvs k v = kvs ++ [(k, v)] := by
  unfold putK
  rw [valV_any, h]
  exact if_neg (by decide)
theorem RelO.isSome_eq {o : Option V} {u : Option Value} (r : RelO o u) : o.isSome = u.isSome := by
  cases o with
  | none => cases u with
    | none => rfl
    | some _ => exact (show False from r).elim
  | some _ => cases u with
    | none => exact (show False from r).elim
    | some _ => rfl
theorem KV.val {kvs : List (κ × V)} {vs : List (κ × Value)} (r : KV kvs vs) (k : κ) : RelO (valV kvs k) (valueAt vs k) := by
  unfold KV at r
  induction r with
  | nil => exact True.intro
  | @cons p q ps qs h t ih =>
    obtain ⟨h1, h2⟩ := h
    by_cases e : p.1 = k
    · have e' : q.1 = k := h1.symm.trans e
      have b : valueAt (q :: qs) k = some q.2 := by simp [valueAt, List.find?_cons, e']
      rw [valV_pos e, b]; exact h2
    · have e' : ¬ q.1 = k := fun z => e (h1.trans z)
      have b : valueAt (q :: qs) k = valueAt qs k := by simp [valueAt, List.find?_cons, e']
      rw [valV_neg e, b]; exact ih
theorem KV.any {kvs : List (κ × V)} {vs : List (κ × Value)} (r : KV kvs vs) (k : κ) : (kvs.any fun kv => decide (kv.1 = k)) = vs.any fun kv => decide (kv.1 = k) := by
  unfold KV at r
  induction r with
  | nil => rfl
  | cons h t ih => rw [List.any_cons, List.any_cons, ih, h.1]
theorem KV.repl {kvs : List (κ × V)} {vs : List (κ × Value)} (r : KV kvs vs) (k : κ) {y : V} {u : Value} (ry : RelV y u) :
    KV (kvs.map fun kv => if kv.1 = k then (kv.1, y) else kv) (vs.map fun kv => if kv.1 = k then (kv.1, u) else kv) := by
  unfold KV at r ⊢
  induction r with
  | nil => exact .nil
  | @cons p q ps qs h t ih =>
    rw [List.map_cons, List.map_cons]
    refine .cons ?_ ih
    obtain ⟨h1, h2⟩ := h
    by_cases e : p.1 = k
    · rw [if_pos e, if_pos (h1.symm.trans e)]; exact ⟨h1, ry⟩
    · rw [if_neg e, if_neg (fun z => e (h1.trans z))]; exact ⟨h1, h2⟩
theorem KV.put {kvs : List (κ × V)} {vs : List (κ × Value)} (r : KV kvs vs) (k : κ) {y : V} {u : Value} (ry : RelV y u) : KV (putK kvs k y) (stored vs k u) := by
  unfold putK stored
  rw [r.any k]
  by_cases e : (vs.any fun kv => decide (kv.1 = k)) = true
  · rw [if_pos e, if_pos e]; exact r.repl k ry
  · rw [if_neg e, if_neg e]; exact Paired.snoc r ⟨rfl, ry⟩
theorem KV.length {kvs : List (κ × V)} {vs : List (κ × Value)} (r : KV kvs vs) : kvs.length = vs.length := Paired.length r
end
theorem kV_is {P : Program} {w : World} {k : Key} {u : Value} (r : RelV (kV k) u) : (mixKind P w).is k u = true := by
  cases k with
  | inl i => obtain ⟨t, e⟩ := (show ∃ t, u = Value.int i t from r); subst e; exact mixKind_int P w i t
  | inr x => obtain ⟨t, e⟩ := (show ∃ t, u = Value.str x t from r); subst e; exact mixKind_str P w x t
theorem items_are {P : Program} {w : World} : ∀ {ks : List Key} {us : List Value}, Vals (ks.map kV) us → ItemsAre (mixKind P w) ks us
  | [], _, r => by rw [List.map_nil] at r; cases r; exact .nil
  | k :: ks, _, r => by
    rw [List.map_cons] at r
    cases r with
    | cons h t => exact .cons (kV_is h) (items_are t)
noncomputable abbrev KT (H : Hp) : List (List Key × V) → List (List Key × Addr × Value) → Prop := Paired fun p q => p.1 = q.1 ∧ H q.2.1 = some (.tup (p.1.map kV)) ∧ RelV p.2 q.2.2
theorem KT.val {H : Hp} {kvs : List (List Key × V)} {xs : List (List Key × Addr × Value)} (r : KT H kvs xs) (k : List Key) : RelO (valV kvs k) ((atKey xs k).map (·.2)) := by
  induction r with
  | nil => exact True.intro
  | @cons p q ps qs h t ih =>
    obtain ⟨h1, _, h2⟩ := h
    by_cases e : p.1 = k
    · have e' : q.1 = k := h1.symm.trans e
      have b : atKey (q :: qs) k = some q.2 := by simp [atKey, List.find?_cons, e']
      rw [valV_pos e, b]; exact h2
    · have e' : ¬ q.1 = k := fun z => e (h1.trans z)
      have b : atKey (q :: qs) k = atKey qs k := by simp [atKey, List.find?_cons, e']
      rw [valV_neg e, b]; exact ih
theorem KT.repl {H : Hp} {kvs : List (List Key × V)} {xs : List (List Key × Addr × Value)} (r : KT H kvs xs) (k : List Key) {y : V} {u : Value} (ry : RelV y u) :
    KT H (kvs.map fun kv => if kv.1 = k then (kv.1, y) else kv) (xs.map (putAt k u)) := by
  induction r with
  | nil => exact .nil
  | @cons p q ps qs h t ih =>
    rw [List.map_cons, List.map_cons]
    refine .cons ?_ ih
    obtain ⟨h1, h2, h3⟩ := h
    unfold putAt
    by_cases e : p.1 = k
    · rw [if_pos e, if_pos (h1.symm.trans e)]; exact ⟨h1, h2, ry⟩
    · rw [if_neg e, if_neg (fun z => e (h1.trans z))]; exact ⟨h1, h2, h3⟩
theorem KT.put {H : Hp} {kvs : List (List Key × V)} {xs : List (List Key × Addr × Value)} (r : KT H kvs xs) (k : List Key) {b : Addr} {y : V} {u : Value} (hb : H b = some (.tup (k.map kV))) (ry : RelV y u) :
    KT H (putK kvs k y) (storedH xs k b u) := by
  have e : (kvs.any fun kv => decide (kv.1 = k)) = (atKey xs k).isSome := by
    rw [valV_any, (r.val k).isSome_eq, Option.isSome_map]
  unfold putK storedH
  rw [e]
  by_cases q : (atKey xs k).isSome = true
  · rw [if_pos q, if_pos q]; exact r.repl k ry
  · rw [if_neg q, if_neg q]; exact Paired.snoc r ⟨rfl, hb, ry⟩
theorem KT.keeps {H H' : Hp} {kvs : List (List Key × V)} {xs : List (List Key × Addr × Value)} (r : KT H kvs xs) (ht : ∀ b ys, H b = some (.tup ys) → H' b = some (.tup ys)) : KT H' kvs xs :=
  Paired.mapP r fun _ _ z => ⟨z.1, ht _ _ z.2.1, z.2.2⟩
section
variable {P : Program} {w : World} {H : Hp} {h : Heap} {a : Addr}
theorem rd_of {u : HO} (ok : HOk P w H h) (e : Rd H a u) : ObjOk P w H h a u := e.ok ok
theorem dk_rd {kvs : List (Key × V)} (ok : HOk P w H h) (e : Rd H a (.dK kvs)) : kvs.length ≤ sizeLine ∧ (a == sysModules) = false ∧ ∃ vs, KV kvs vs ∧ h.DictOf (mixKind P w) a vs :=
  show ObjOk P w H h a (.dK kvs) from rd_of ok e
theorem dk_of {kvs : List (Key × V)} (ok : HOk P w H h) (e : H a = some (.dK kvs)) : kvs.length ≤ sizeLine ∧ (a == sysModules) = false ∧ ∃ vs, KV kvs vs ∧ h.DictOf (mixKind P w) a vs := dk_rd ok (.inl e)
theorem key_of {ks : List Key} (ok : HOk P w H h) (e : H a = some (.tup (ks.map kV))) : (tupleKind (mixKind P w)).is h ks a := by
  obtain ⟨_, its, r, o, h1, h2, n, h3⟩ := (show ObjOk P w H h a (.tup (ks.map kV)) from ok a _ e)
  exact ⟨o, its.toArray, n, h1, h2, h3, by simpa using items_are r⟩
theorem dt_rd {kvs : List (List Key × V)} (ok : HOk P w H h) (e : Rd H a (.dT kvs)) : kvs.length ≤ sizeLine ∧ (a == sysModules) = false ∧
    ∃ xs, KT H kvs xs ∧ h.DictOfH (tupleKind (mixKind P w)) a xs := by
  obtain ⟨z, y, xs, r, o, es, ep, h1, h2, h3, h4, h5⟩ := (show ObjOk P w H h a (.dT kvs) from rd_of ok e)
  refine ⟨z, y, xs, r, o, es, ep, h1, h2, h3, h4, fun x hx => ?_, h5⟩
  have all : ∀ {l : List (List Key × V)} {m : List (List Key × Addr × Value)}, KT H l m → ∀ x ∈ m, (tupleKind (mixKind P w)).is h x.1 x.2.1 := by
    intro l m q
    induction q with
    | nil => intro x hx; exact nomatch hx
    | @cons p q ps qs hq t ih =>
      intro x hx
      rcases List.mem_cons.mp hx with e | hx
      · subst e
        exact key_of ok (by rw [← hq.1]; exact hq.2.1)
      · exact ih x hx
  exact all r x hx
theorem dt_of {kvs : List (List Key × V)} (ok : HOk P w H h) (e : H a = some (.dT kvs)) : kvs.length ≤ sizeLine ∧ (a == sysModules) = false ∧
    ∃ xs, KT H kvs xs ∧ h.DictOfH (tupleKind (mixKind P w)) a xs := dt_rd ok (.inl e)
end
noncomputable def DGet (H : Hp) (a : Addr) (y : V) (r : Option V) : Prop :=
  (∃ kvs k, Rd H a (.dK kvs) ∧ y = kV k ∧ r = valV kvs k) ∨ ∃ kvs k b, Rd H a (.dT kvs) ∧ y = .ref b ∧ H b = some (.tup (k.map kV)) ∧ r = valV kvs k
noncomputable def DPut (H : Hp) (a : Addr) (y v : V) (H' : Hp) : Prop :=
  (∃ kvs k, H a = some (.dK kvs) ∧ y = kV k ∧ kvs.length < sizeLine ∧ H' = upd H a (.dK (putK kvs k v))) ∨
  ∃ kvs k b, H a = some (.dT kvs) ∧ y = .ref b ∧ H b = some (.tup (k.map kV)) ∧ kvs.length < sizeLine ∧ H' = upd H a (.dT (putK kvs k v))
theorem DGet.k {H : Hp} {a : Addr} {kvs : List (Key × V)} {k : Key} (e : H a = some (.dK kvs)) : DGet H a (kV k) (valV kvs k) := .inl ⟨kvs, k, .inl e, rfl, rfl⟩
theorem DGet.t {H : Hp} {a b : Addr} {kvs : List (List Key × V)} {k : List Key} (e : H a = some (.dT kvs)) (eb : H b = some (.tup (k.map kV))) : DGet H a (.ref b) (valV kvs k) := .inr ⟨kvs, k, b, .inl e, rfl, eb, rfl⟩
theorem DPut.k {H : Hp} {a : Addr} {kvs : List (Key × V)} {k : Key} {v : V} (e : H a = some (.dK kvs)) (hl : kvs.length < sizeLine) : DPut H a (kV k) v (upd H a (.dK (putK kvs k v))) := .inl ⟨kvs, k, e, rfl, hl, rfl⟩
theorem DPut.t {H : Hp} {a b : Addr} {kvs : List (List Key × V)} {k : List Key} {v : V} (e : H a = some (.dT kvs)) (eb : H b = some (.tup (k.map kV))) (hl : kvs.length < sizeLine) :
    DPut H a (.ref b) v (upd H a (.dT (putK kvs k v))) := .inr ⟨kvs, k, b, e, rfl, eb, hl, rfl⟩
section
variable {X : Cx} {pins : List (Addr × Obj)} {σ : St} {H : Hp} {s : Shared} {a : Addr} {y v : V} {u r : Value} {o : Option V} {A : Around} {E : Value → Shared → Prop}
theorem Inv.big (I : Inv X pins σ H s) : sysModules < s.heap.objs.size := by
  have h : mainGlobals < s.heap.objs.size := (I.mod.glob.keeps I.bk).lt
  exact Nat.lt_trans (by decide) h
theorem d_getItem {Q : Value → Shared → Prop} (hu : A.units + 1 < cLine) (I : Inv X pins σ H s) (g : DGet H a y (some v)) (ry : RelV y u) (h : ∀ w' s', Inv X pins σ H s' → RelV v w' → Q w' s') :
    wpAny (model X.prog X.w) A (getItem (.ref a) u) Q E s := by
  rcases g with ⟨kvs, k, e, ey, l⟩ | ⟨kvs, k, b, e, ey, eb, l⟩
  · subst ey
    obtain ⟨z, hd, vs, rel, dd⟩ := dk_rd I.hok e
    obtain ⟨w', hw, rw'⟩ := RelO.some_of (v := v) (o := valueAt vs k) (by rw [l]; exact rel.val k)
    exact wpAny_getItem_of (kV_is ry) dd.mapOf hw (h w' _ (I.tok _) rw')
  · subst ey
    cases (show u = Value.ref b from ry)
    obtain ⟨z, hd, xs, rel, dd⟩ := dt_rd I.hok e
    obtain ⟨w', hw, rw'⟩ := RelO.some_of (v := v) (o := (atKey xs k).map (·.2)) (by rw [l]; exact rel.val k)
    obtain ⟨p, hp, hp2⟩ := Option.map_eq_some_iff.mp hw
    refine wpAny_getItem_heap (tupleKind_room_in1 hu) (key_of I.hok eb) dd hp ?_
    rw [hp2]
    exact h w' _ (I.tok _) rw'
theorem d_in {Q : Value → Shared → Prop} (hu : A.units + 1 < cLine) (I : Inv X pins σ H s) (g : DGet H a y o) (ry : RelV y u) (h : ∀ s', Inv X pins σ H s' → Q (.bool o.isSome) s') :
    wpAny (model X.prog X.w) A (compareOp .In u (.ref a)) Q E s := by
  rcases g with ⟨kvs, k, e, ey, l⟩ | ⟨kvs, k, b, e, ey, eb, l⟩
  · subst ey
    obtain ⟨z, hd, vs, rel, dd⟩ := dk_rd I.hok e
    refine wpAny_in_of (kV_is ry) hd dd.mapOf ?_
    rw [← (rel.val k).isSome_eq, ← l]
    exact h _ (I.tok _)
  · subst ey
    cases (show u = Value.ref b from ry)
    obtain ⟨z, hd, xs, rel, dd⟩ := dt_rd I.hok e
    refine wpAny_in_heap (tupleKind_room_in1 hu) (key_of I.hok eb) hd dd ?_
    have q := (rel.val k).isSome_eq
    rw [Option.isSome_map] at q
    rw [← q, ← l]
    exact h _ (I.tok _)
theorem d_notIn {Q : Value → Shared → Prop} (hu : A.units + 1 < cLine) (I : Inv X pins σ H s) (g : DGet H a y o) (ry : RelV y u) (h : ∀ s', Inv X pins σ H s' → Q (.bool (!o.isSome)) s') :
    wpAny (model X.prog X.w) A (compareOp .NotIn u (.ref a)) Q E s := by
  rcases g with ⟨kvs, k, e, ey, l⟩ | ⟨kvs, k, b, e, ey, eb, l⟩
  · subst ey
    obtain ⟨z, hd, vs, rel, dd⟩ := dk_rd I.hok e
    refine wpAny_notIn_of (kV_is ry) hd dd.mapOf ?_
    rw [← (rel.val k).isSome_eq, ← l]
    exact h _ (I.tok _)
  · subst ey
    cases (show u = Value.ref b from ry)
    obtain ⟨z, hd, xs, rel, dd⟩ := dt_rd I.hok e
    refine wpAny_notIn_heap (tupleKind_room_in1 hu) (key_of I.hok eb) hd dd ?_
    have q := (rel.val k).isSome_eq
    rw [Option.isSome_map] at q
    rw [← q, ← l]
    exact h _ (I.tok _)
theorem d_write {h' : Heap} {t' : Nat} {ob : HO} (I : Inv X pins σ H s) (mu : Mut (H a)) (hs : Heap.SameBut a s.heap h') (he : ∃ q, h'.get? a = some q) (new : ObjOk X.prog X.w (upd H a ob) h' a ob) :
    Inv X pins σ (upd H a ob) { s with heap := h', toks := t' } :=
  I.write (x := a) (e := a) mu (.inl rfl) (fun b q hb z => (hs.2 b hb).trans z) he new
theorem dk_new {P : Program} {w : World} {H' : Hp} {h' : Heap} {kvs : List (Key × V)} {vs : List (Key × Value)} (z : kvs.length ≤ sizeLine) (hd : (a == sysModules) = false) (rel : KV kvs vs) (dd : h'.DictOf (mixKind P w) a vs) :
    ObjOk P w H' h' a (.dK kvs) := ⟨z, hd, vs, rel, dd⟩
theorem d_setItem {H' : Hp} {Q : Unit → Shared → Prop} (hu : A.units + 1 < cLine) (I : Inv X pins σ H s) (g : DPut H a y v H') (ry : RelV y u) (rv : RelV v r) (h : ∀ s', Inv X pins σ H' s' → Q () s') :
    wpAny (model X.prog X.w) A (setItem (.ref a) u r) Q E s := by
  rcases g with ⟨kvs, k, e, ey, l, eH⟩ | ⟨kvs, k, b, e, ey, eb, l, eH⟩
  · subst ey eH
    obtain ⟨z, hd, vs, rel, dd⟩ := dk_of I.hok e
    have hz : vs.length ≤ sizeLine := by rw [← rel.length]; exact z
    have hl : (putK kvs k v).length ≤ sizeLine := by have := length_putK kvs k v; omega
    refine wpAny_setItem_pairs (hsz := hz) (kV_is ry) dd fun h' dd' hs => h _ ?_
    have he : ∃ q, h'.get? a = some q := let ⟨q, _, _, hq, _⟩ := dd'; ⟨q, hq⟩
    exact d_write I (by rw [e]; exact True.intro) hs he (dk_new hl hd (rel.put k rv) dd')
  · subst ey eH
    cases (show u = Value.ref b from ry)
    obtain ⟨z, hd, xs, rel, dd⟩ := dt_of I.hok e
    have hz : xs.length ≤ sizeLine := by rw [← Paired.length rel]; exact z
    have hl : (putK kvs k v).length ≤ sizeLine := by have := length_putK kvs k v; omega
    refine wpAny_setItem_heap (hsz := hz) (tupleKind_room_in1 hu) (key_of I.hok eb) dd fun h' dd' hs => h _ ?_
    obtain ⟨q, es, ep, hq, h2, h3, h4, _, h5⟩ := dd'
    refine d_write I (by rw [e]; exact True.intro) hs ⟨q, hq⟩ ⟨hl, hd, _, (rel.put k eb rv).keeps fun c ys ec => ?_, q, es, ep, hq, h2, h3, h4, h5⟩
    rw [upd_ne (ne_of ec e (fun z => nomatch z))]
    exact ec
end
section
variable {X : Cx} {pins : List (Addr × Obj)} {σ : St} {H : Hp} {s : Shared} {a : Addr} {kvs : List (Key × V)} {k : Key} {u : Value} {A : Around} {E : Value → Shared → Prop}
end
noncomputable def NoSl (i : Expr) : Prop := ∀ ov iv, subscripted i false ov iv = operate [ov, iv] (getItem ov iv)
theorem subD_of {prog : Program} {w : World} {A : Around} {E : Value → Shared → Prop} {s : Shared} {env : Env} {value slice : Expr} {pos : Pos} {T id : String} {Q : Value → Shared → Prop}
    (hl : typeLookup (.type T) "__getitem__" = pure (some (.builtin id))) (hs : NoSl slice)
    (h : wpAny (model prog w) A (eval value env) (fun o s₁ => wpAny (model prog w) A (eval slice env) (fun i s₂ => s₂.TypeIs o T ∧ wpAny (model prog w) A (getItem o i) Q E s₂) E s₁) E s) :
    wpAny (model prog w) A (eval (.Subscript value slice pos) env) Q E s := by
  refine Subscript_ (wpAny_mono h (fun o s₁ h₁ => wpAny_mono h₁ (fun i s₂ h₂ => ?_) fun _ _ x => x) fun _ _ x => x)
  obtain ⟨hT, h₂⟩ := h₂
  unfold subscriptTail
  refine wpAny_bind ?_
  rw [getitemInPython_of_ne hT.not_modules]
  refine wpAny_bind (wpAny_specialOf hT hl ?_)
  have fin : wpAny (model prog w) A (subscripted slice false o i) (fun r s₃ => wpAny (model prog w) A (letTemporaryGo value o r >>= fun _ => pure r) Q E s₃) E s₂ := by
    rw [hs o i]
    exact wpAny_operating (wpAny_mono h₂ (fun r s₃ h₃ => wpAny_bind (wpAny_letTemporaryGo (wpAny_pure h₃))) fun _ _ x => x)
  first
    | exact wpAny_pure (wpAny_bind fin)
    | exact wpAny_bind (wpAny_pure (wpAny_bind fin))
    | exact wpAny_bind fin
theorem dict_typeIs {X : Cx} {pins : List (Addr × Obj)} {σ : St} {H : Hp} {s : Shared} {a : Addr} {y : V} {o : Option V} (I : Inv X pins σ H s) (g : DGet H a y o) : s.TypeIs (.ref a) "dict" := by
  rcases g with ⟨kvs, k, e, _, _⟩ | ⟨kvs, k, b, e, _, _, _⟩
  · obtain ⟨_, _, vs, _, dd⟩ := dk_rd I.hok e
    exact dd.typeIs
  · obtain ⟨_, _, xs, _, dd⟩ := dt_rd I.hok e
    exact dd.typeIs
noncomputable def tDGet (td ty : TE) : TE := fun σ H Q => td σ H fun x H1 => ty σ H1 fun y H2 => ∃ a v, x = .ref a ∧ DGet H2 a y (some v) ∧ Q v H2
noncomputable def tDIn (ty td : TE) : TE := fun σ H Q => ty σ H fun y H1 => td σ H1 fun x H2 => ∃ a o, x = .ref a ∧ DGet H2 a y o ∧ Q (.bl o.isSome) H2
noncomputable def tDNotIn (ty td : TE) : TE := fun σ H Q => ty σ H fun y H1 => td σ H1 fun x H2 => ∃ a o, x = .ref a ∧ DGet H2 a y o ∧ Q (.bl (!o.isSome)) H2
noncomputable def sDPut (td ty tv : TE) : TS := fun D σ H => tv σ H fun v H1 => td σ H1 fun x H2 => ty σ H2 fun y H3 => ∃ a H4, x = .ref a ∧ DPut H3 a y v H4 ∧ D.nx σ H4
section
variable {X : Cx} {o i e value : Expr} {pos pos' tpos : Pos} {td ty tv : TE}
theorem pe_dget (hu : X.A.units + 1 < cLine) (ho : PE X o td) (hi : PE X i ty) (hs : NoSl i) : PE X (.Subscript o i pos) (tDGet td ty) := by
  intro pins s σ H Q I h
  refine subD_of PySem.F.slot_dict_getitem.lookup hs (thn (ho pins s σ H _ I h) fun u s1 ⟨x, H1, I1, rx, q1⟩ => thn (hi pins s1 σ H1 _ I1 q1) fun iv s2 ⟨y, H2, I2, ry, a, v, ex, g, q2⟩ => ?_)
  subst ex
  obtain rfl : u = Value.ref a := rx
  exact ⟨dict_typeIs I2 g, d_getItem hu I2 g ry fun w' s3 I3 rw' => ⟨v, H2, I3, rw', q2⟩⟩
theorem pc_din (hu : X.A.units + 1 < cLine) (hi : PE X i ty) (ho : PE X o td) : PC X .In i o (tDIn ty td) := by
  intro pins s σ H Q I h
  refine thn (hi pins s σ H _ I h) fun iv s1 ⟨y, H1, I1, ry, q1⟩ => thn (ho pins s1 σ H1 _ I1 q1) fun u s2 ⟨x, H2, I2, rx, a, ov, ex, g, q2⟩ => ?_
  subst ex
  obtain rfl : u = Value.ref a := rx
  exact d_in hu I2 g ry fun s3 I3 => ⟨.bl ov.isSome, H2, I3, rfl, q2⟩
theorem pc_dnotin (hu : X.A.units + 1 < cLine) (hi : PE X i ty) (ho : PE X o td) : PC X .NotIn i o (tDNotIn ty td) := by
  intro pins s σ H Q I h
  refine thn (hi pins s σ H _ I h) fun iv s1 ⟨y, H1, I1, ry, q1⟩ => thn (ho pins s1 σ H1 _ I1 q1) fun u s2 ⟨x, H2, I2, rx, a, ov, ex, g, q2⟩ => ?_
  subst ex
  obtain rfl : u = Value.ref a := rx
  exact d_notIn hu I2 g ry fun s3 I3 => ⟨.bl (!ov.isSome), H2, I3, rfl, q2⟩
theorem ps_dput (hu : X.A.units + 1 < cLine) (ho : PE X o td) (hi : PE X i ty) (hv : PE X value tv) (hs : swapsWith value (some (.Subscript o i pos')) pos.line X.env = pure false) :
    PS X (.Assign [.Subscript o i pos'] value pos) (sDPut td ty tv) := by
  intro pins s σ H D I h
  refine wpAny_Assign_Subscript (thn (hv pins s σ H _ I h) fun r s1 ⟨v, H1, I1, rv, q1⟩ => thn (ho pins s1 σ H1 _ I1 q1) fun u s2 ⟨x, H2, I2, rx, q2⟩ => thn (hi pins s2 σ H2 _ I2 q2) fun iv s3 ⟨y, H3, I3, ry, a, H4, ex, g, q3⟩ => ?_) hs
  subst ex
  obtain rfl : u = Value.ref a := rx
  exact d_setItem hu I3 g ry rv fun s4 I4 => ⟨σ, H4, I4, q3⟩
end
theorem dk_empty {P : Program} {w : World} {H : Hp} (h : Heap) (hb : sysModules < h.objs.size) : ObjOk P w H (h.push { cls := .type "dict", data := .dict #[] }) h.objs.size (.dK []) :=
  ⟨Nat.zero_le _, beq_eq_false_iff_ne.mpr (Ne.symm (Nat.ne_of_lt hb)), [], .nil, Heap.DictOf.new h⟩
theorem dt_empty {P : Program} {w : World} {H : Hp} (h : Heap) (hb : sysModules < h.objs.size) : ObjOk P w H (h.push { cls := .type "dict", data := .dict #[] }) h.objs.size (.dT []) :=
  ⟨Nat.zero_le _, beq_eq_false_iff_ne.mpr (Ne.symm (Nat.ne_of_lt hb)), [], .nil, _, #[], 0, Heap.get?_push_size _ rfl, ⟨rfl, rfl, rfl⟩, rfl, rfl, List.nodup_nil⟩
noncomputable def tDNewK : TE := fun _ H Q => ∀ p, H p = none → Q (.ref p) (upd H p (.dK []))
noncomputable def tDNewT : TE := fun _ H Q => ∀ p, H p = none → Q (.ref p) (upd H p (.dT []))
section
variable {X : Cx} {pos : Pos}
theorem pe_dnewK : PE X (.Dict [] [] pos) tDNewK := fun pins s σ H Q I h =>
  wpAny_Dict_empty ⟨.ref s.heap.objs.size, _, I.laid (a := s.heap.objs.size) (o := .dK []) (t' := s.toks) (fun _ _ q => Heap.get?_push_of_some _ q) (Nat.le_refl _) (dk_empty s.heap I.big), rfl, h _ (I.hok.fresh (Nat.le_refl _))⟩
theorem pe_dnewT : PE X (.Dict [] [] pos) tDNewT := fun pins s σ H Q I h =>
  wpAny_Dict_empty ⟨.ref s.heap.objs.size, _, I.laid (a := s.heap.objs.size) (o := .dT []) (t' := s.toks) (fun _ _ q => Heap.get?_push_of_some _ q) (Nat.le_refl _) (dt_empty s.heap I.big), rfl, h _ (I.hok.fresh (Nat.le_refl _))⟩
end
section
variable {X : Cx} {pins : List (Addr × Obj)} {σ : St} {H : Hp} {s : Shared} {a : Addr} {y d : V} {u r : Value} {o : Option V} {A : Around} {E : Value → Shared → Prop}
end
section
variable {X : Cx} {o e f : Expr} {apos cpos : Pos} {td ty tx : TE}
end
section
variable {X : Cx} {pins : List (Addr × Obj)} {σ : St} {H : Hp} {s : Shared} {a : Addr} {kvs : List (Key × V)} {A : Around} {E : Value → Shared → Prop}
end
section
variable {X : Cx} {pins : List (Addr × Obj)} {σ : St} {H : Hp} {s : Shared} {a : Addr} {y : V} {u : Value} {A : Around} {E : Value → Shared → Prop}
end
end L2
namespace Att
open PySem PySem.W PySem.Calls PyProof.Rows
theorem ints_of_wellAll {P : Params} {h : Heap} : ∀ (ns : List Int) (vs : List Value), WellAll P h vs (ns.map WData.int) → IntsAre vs ns := by
  intro ns
  induction ns with
  | nil =>
    intro vs w
    rw [List.map_nil] at w
    cases w
    exact .nil
  | cons n ns ih =>
    intro vs w
    rw [List.map_cons] at w
    cases w with
    | cons a b =>
      cases a
      exact .cons _ _ (ih _ b)
theorem script_of {l : OpenLaw} {n : Nat} (hn : l.most = some n) {P : Params} {h : Heap} {args : List WData} {vals : List Value}
    (hpre : l.row.toRowW.claim.pre args = true) (hwl : WellAll P h vals args) :
    ∃ a vs ns, vals = [Value.ref a] ∧ args = [WData.list (ns.map WData.int)] ∧ h.get? a = some { cls := .type "list", data := .seq vs.toArray } ∧ IntsAre vs ns ∧ ns.length ≤ n := by
  have hsh : WShape.hasAll [] args [.list .int] = true := (pre_splitW hpre).1
  have hc : l.pre.holds [] { args := args } = true := (pre_splitW hpre).2
  obtain ⟨d, r, rfl, h1, h2⟩ := hasAllW_cons hsh
  obtain rfl := hasAllW_nil h2
  obtain ⟨xs, rfl, h3⟩ := hasW_list h1
  obtain ⟨ns, rfl⟩ := items_int h3
  have hlen : ns.length ≤ n := by
    unfold OpenLaw.pre at hc
    have h4 : (WTm.not (.lt (.lit (.int (n : Int))) (.len (.arg 0)))).holds [] { args := [.list (ns.map .int)] } = true := by
      have h4 := (holds_andW hc).1
      rw [hn] at h4
      exact h4
    have h5 := condW_of h4 (w_not (w_lt w_lit (w_len_list (w_arg rfl))))
    rw [List.length_map] at h5
    refine Nat.le_of_not_lt fun q => ?_
    have q' : (n : Int) < ((ns.length : Nat) : Int) := by omega
    first
      | (rw [decide_eq_true q'] at h5; exact absurd h5 (by decide))
      | (simp at h5; omega)
  cases hwl with
  | cons w1 w2 =>
    cases w2
    cases w1 with
    | list ho hall => exact ⟨_, _, ns, rfl, rfl, ho, ints_of_wellAll ns _ hall, hlen⟩
theorem post_true (l : OpenLaw) (args : List WData) : l.row.toRowW.claim.post args (.bool true) args = true :=
  postW_of (r := l.row.toRowW) (X := (true == true))
    (show WShape.has [] (.bool true) .bool = true by first | rfl | decide | simp [WShape.has, WShape.arms, WShape.armsAll])
    (show (WTm.eq .res (.lit (.bool true))).value [] { args := args, res := some (.bool true), after := args } = some (.bool (true == true)) from w_eq_bool (w_res rfl) w_lit) rfl
theorem attach_call {l : OpenLaw} {n : Nat} {q : Program} {loose : List Str} {XP : (Str → Option Value) → Heap → Prop} {YP : World → Heap → Prop} {d : DefRec}
    (hn : l.most = some n) (hdf : d.params.defaults = [])
    (call : ∀ (w : World) (s₀ s₁ : Shared) (mg mb : Str → Option Value) (fa : Addr) (o : Obj) (pm cd doc : Value) (a : Addr) (vs : List Value) (ns : List Int),
      Ground q loose [] XP w s₀ mg mb s₁.heap → YP w s₁.heap →
      s₁.heap.get? fa = some o → o.data = .func (docDef d.name d.params d.body d.scope pm cd doc) → s₁.heap.CodeRec cd d.name → mg d.name = some (.ref fa) →
      s₁.heap.get? a = some { cls := .type "list", data := .seq vs.toArray } → IntsAre vs ns → ns.length ≤ n → s₁.gens = #[] →
      codeAny (model l.prog w) callerA (.call (.ref fa) ⟨[.ref a], []⟩) (fun r s' => r = .ok (.ret (.bool true)) ∧ OldK s₁.heap s'.heap ∧ s'.os = s₁.os ∧ AllBare s'.gens) s₁) :
    WalkO q loose XP YP l.row.toRowW d [] (fun f vs => PySem.call f vs) := by
  intro w s₀ s₁ mg mb G Y fa o pm cd doc dV kV ho hd hcd hD hmg hg args vals as hpre hlay hrd hwl hlo
  obtain rfl : dV = .none := Dflts.none hD hdf
  obtain rfl : kV = .none := Dflts.noKw hD
  obtain ⟨a, vs, ns, rfl, rfl, hobj, hints, hlen⟩ := script_of hn hpre hwl
  refine enter_call (codeAny_mono (call w s₀ s₁ mg mb fa o pm cd doc a vs ns G Y ho (fd_plain hd) hcd hmg hobj hints hlen hg) fun r s' hq => ?_)
  obtain ⟨rfl, h2, h3, h4⟩ := hq
  exact ⟨.inl ⟨.bool true, .bool true, [], rfl, fun _ => rfl, .bool true, post_true l _, fun _ => ⟨List.Pairwise.nil, fun _ hm => (nomatch hm)⟩⟩, h2, h3, h4⟩
section
variable {prog : Program} {w : World} {A : Around} {E : Value → Shared → Prop} {s : Shared} {K : Frag}
end
end Att
namespace L2
open PySem PySem.Spec PyProof.Rows
theorem vals_ints : ∀ {vs : List Value} {ns : List Int}, IntsAre vs ns → Vals (ns.map V.int) vs
  | _, _, .nil => .nil
  | _, _, .cons n t h => .cons ⟨t, rfl⟩ (vals_ints h)
noncomputable def Only (H : Hp) : Prop := ∀ b, H b = none ∨ ∃ o xs, H b = some (.frz o (.lst xs))
theorem law_call {P : Program} {w : World} {K : PySem.W.Frag} {mg mb : Str → Option Value} {CX : CXT} {k : Nat} {fa a : Addr} {fd : FuncData} {x : Str} {sp : Sp} {s₁ : Shared} {vs : List Value} {ns : List Int}
    (KX : K.In s₁.heap) (hns : s₁.heap.Ns mainGlobals mg) (hb : s₁.heap.Ns builtinsNs mb) (hbb : ∀ x : Str, x ≠ "__name__" → mb x = bootBuiltins x) (hlim : s₁.heap.NoLimit) (hg : s₁.gens = #[])
    (ha : s₁.heap.get? a = some { cls := .type "list", data := .seq vs.toArray }) (hi : IntsAre vs ns) (hl : ns.length ≤ sizeLine) (hr : Room k callerA)
    (F : ∀ base : Heap, K.In base → base.Ns mainGlobals mg → FnOk P w K mg base CX k fa fd [x] sp) (hbind : ∀ (s : Shared) (u : Value), BindsTo s fd ⟨[u], []⟩ [(x, u)])
    (hsp : ∀ H : Hp, Only H → SqL K H a (ns.map V.int) → sp [.ref a] H (fun v _ => v = .bl true) fun _ _ _ => False)
    (hCX : ∀ H e s', CX [] H s₁ (fun _ _ _ => False) e s' → False) :
    codeAny (model P w) callerA (.call (.ref fa) ⟨[.ref a], []⟩) (fun r s' => r = .ok (.ret (.bool true)) ∧ OldK s₁.heap s'.heap ∧ s'.os = s₁.os ∧ AllBare s'.gens) s₁ := by
  have rv := vals_ints hi
  have lenV := hi.length
  have core : ∀ H : Hp, Only H → SqL K H a (ns.map V.int) → HOk P w H s₁.heap → (∀ b, H b ≠ none → b = a) → (H a ≠ none → K.lookup a = none) →
      codeAny (model P w) callerA (.call (.ref fa) ⟨[.ref a], []⟩) (fun r s' => r = .ok (.ret (.bool true)) ∧ OldK s₁.heap s'.heap ∧ s'.os = s₁.os ∧ AllBare s'.gens) s₁ := by
    intro H hO hS hok hA hK
    have base_of : ∀ {b : Addr} {o : Obj}, s₁.heap.get? b = some o → H b = none → (hidT s₁.heap H).get? b = some o := fun e n => hidT_get e n
    have noA : ∀ {b : Addr} {o : Obj} {es : Array DictEntry} {ep : Nat}, s₁.heap.get? b = some o → o.data = .dict es ep → H b = none := fun {b o es ep} e d => by
      cases q : H b with
      | none => rfl
      | some u =>
        have e' : b = a := hA b (by rw [q]; simp)
        subst e'
        rw [ha] at e; cases e
        have d' : Data.seq vs.toArray _ = Data.dict es ep := d
        cases d'
    have nsK : ∀ {b : Addr} {m : Str → Option Value}, s₁.heap.Ns b m → (hidT s₁.heap H).Ns b m := fun {b m} ⟨o, es, ep, e, d, r⟩ => ⟨o, es, ep, base_of e (noA e d), d, r⟩
    have hKb : K.In (hidT s₁.heap H) := fun b o e => base_of (KX b o e) (by
      cases q : H b with
      | none => rfl
      | some u =>
        have e' : b = a := hA b (by rw [q]; simp)
        subst e'
        rw [hK (by rw [q]; simp)] at e; cases e)
    have hM : Mod K mg (hidT s₁.heap H) := ⟨hKb, nsK hns, ⟨mb, nsK hb, hbb⟩, let ⟨mc, h1, h2⟩ := hlim; ⟨mc, nsK h1, h2⟩⟩
    have e0 : Env0 P w K mg (hidT s₁.heap H) callerA [] s₁ H := ⟨rfl, hM, fun b o e => of_hidT e, Nat.le_of_eq (hidT_size _ _), trivial, fun b hb => absurd (show b ∈ ([] : List Addr) from hb) (by simp), hok, .of_eq hg⟩
    refine codeAny_mono ((F _ hKb (nsK hns)).run callerA [] s₁ H ⟨[.ref a], []⟩ [.ref a] [.ref a] _ _ hr e0 (hbind s₁ (.ref a)) (.cons rfl .nil) (hsp H hO hS)) fun r s' h => ?_
    cases r with
    | error e => exact (hCX H e s' h).elim
    | ok fl =>
      cases fl with
      | next => exact False.elim h
      | brk => exact False.elim h
      | cont => exact False.elim h
      | ret u =>
        obtain ⟨v, H', os, bare, un, hok', r', q⟩ := h
        have q' : v = .bl true := q
        subst q'
        obtain rfl : u = Value.bool true := r'
        refine ⟨rfl, OldK.of_keep fun b o e => ?_, os, bare⟩
        cases q : H b with
        | none => exact un.keep b o e q (by intro z; exact absurd (show b ∈ ([] : List Addr) from z) (by simp)) (by simp)
        | some u =>
          rcases hO b with z | ⟨ob, xs, z⟩
          · rw [q] at z; cases z
          · have z2 := un.frzs b ob _ z
            obtain ⟨e1, _⟩ := hok b _ z
            obtain ⟨e2, _⟩ := hok' b _ z2
            rw [e] at e1; cases e1
            exact e2
  cases hk : K.lookup a with
  | some o =>
    have e := KX a o hk
    rw [ha] at e
    cases e
    refine core (fun _ => none) (fun _ => .inl rfl) (.inr ⟨_, vs.toArray, _, hk, rfl, rfl, rfl, by rw [List.size_toArray, lenV]; exact hl, by simpa using rv⟩) (fun b u z => by have z' : (none : Option HO) = some u := z; cases z') (fun b z => absurd rfl z) fun z => absurd rfl z
  | none =>
    refine core (fun b => if b = a then some (.frz { cls := .type "list", data := .seq vs.toArray } (.lst (ns.map V.int))) else none) (fun b => ?_) (.inl (.inr ⟨{ cls := .type "list", data := .seq vs.toArray }, if_pos rfl⟩)) (fun b u z => ?_) (fun b z => ?_) fun _ => hk
    · by_cases hb : b = a
      · exact .inr ⟨_, _, if_pos hb⟩
      · exact .inl (if_neg hb)
    · by_cases hb : b = a
      · have z' := (if_pos hb).symm.trans z
        cases z'
        subst hb
        exact ⟨ha, by rw [List.length_map]; exact hl, vs, _, rv, ha⟩
      · have z' := (if_neg hb).symm.trans z
        cases z'
    · by_cases hb : b = a
      · exact hb
      · exact absurd (if_neg hb) z
end L2
namespace L2
open PySem PySem.Spec PyProof.Rows
noncomputable abbrev KOf {K : PySem.W.Frag} {h : Heap} (_ : K.In h) : PySem.W.Frag := K
theorem walk_of {l : PySem.W.OpenLaw} {n k : Nat} {q : Program} {loose : List Str} {XP : (Str → Option Value) → Heap → Prop} {YP : World → Heap → Prop} {d : DefRec} {K : Params → PySem.W.Frag} {CX : World → CXT} {sp : World → Sp} {x : Str}
    (hn : l.most = some n) (hn2 : n ≤ sizeLine) (hdf : d.params.defaults = []) (hr : Room k callerA)
    (hY : ∀ (w : World) (h : Heap), YP w h → (K w.params).In h)
    (F : ∀ (w : World) (mg : Str → Option Value) (fa : Addr) (h : Heap), (K w.params).In h → h.Ns mainGlobals mg → mg d.name = some (.ref fa) →
      ∃ fd : FuncData, (∀ (s : Shared) (u : Value), BindsTo s fd ⟨[u], []⟩ [(x, u)]) ∧
        ∀ base : Heap, (K w.params).In base → base.Ns mainGlobals mg → FnOk l.prog w (K w.params) mg base (CX w) k fa fd [x] (sp w))
    (hsp : ∀ (w : World) (H : Hp) (a : Addr) (ns : List Int), ns.length ≤ n → Only H → SqL (K w.params) H a (ns.map V.int) → sp w [.ref a] H (fun v _ => v = .bl true) fun _ _ _ => False)
    (hCX : ∀ (w : World) (H : Hp) (s : Shared) (e : Value) (s' : Shared), CX w [] H s (fun _ _ _ => False) e s' → False) :
    PySem.W.WalkO q loose XP YP l.row.toRowW d [] (fun f vs => PySem.call f vs) := by
  refine Att.attach_call hn hdf fun w s₀ s₁ mg mb fa o pm cd doc a vs ns G Y ho hd hcd hmg hobj hints hlen hg => ?_
  have KX := hY w _ Y
  obtain ⟨fd, hb, hF⟩ := F w mg fa _ KX G.T.g hmg
  exact law_call KX G.T.g G.T.b G.T.builtins G.T.nolimit hg hobj hints (Nat.le_trans hlen hn2) hr hF hb (fun H hO hS => hsp w H a ns hlen hO hS) fun H e s' => hCX w H s₁ e s'
theorem walk_ofK {l : PySem.W.OpenLaw} {n k : Nat} {q : Program} {loose : List Str} {XP : (Str → Option Value) → Heap → Prop} {YP : World → Heap → Prop} {d : DefRec} {K : Params → PySem.W.Frag} {CX : CXT} {sp : PySem.W.Frag → Sp} {x : Str}
    (hn : l.most = some n) (hn2 : n ≤ sizeLine) (hdf : d.params.defaults = []) (hr : Room k callerA)
    (hY : ∀ (w : World) (h : Heap), YP w h → (K w.params).In h)
    (F : ∀ (w : World) (mg : Str → Option Value) (fa : Addr) (h : Heap), (K w.params).In h → h.Ns mainGlobals mg → mg d.name = some (.ref fa) →
      ∃ fd : FuncData, (∀ (s : Shared) (u : Value), BindsTo s fd ⟨[u], []⟩ [(x, u)]) ∧
        ∀ base : Heap, (K w.params).In base → base.Ns mainGlobals mg → FnOk l.prog w (K w.params) mg base CX k fa fd [x] (sp (K w.params)))
    (hsp : ∀ (K : PySem.W.Frag) (H : Hp) (a : Addr) (ns : List Int), ns.length ≤ n → Only H → SqL K H a (ns.map V.int) → sp K [.ref a] H (fun v _ => v = .bl true) fun _ _ _ => False)
    (hCX : ∀ (H : Hp) (s : Shared) (e : Value) (s' : Shared), CX [] H s (fun _ _ _ => False) e s' → False) :
    PySem.W.WalkO q loose XP YP l.row.toRowW d [] (fun f vs => PySem.call f vs) :=
  walk_of (K := K) (CX := fun _ => CX) (sp := fun w => sp (K w.params)) hn hn2 hdf hr hY F (fun w H a ns h1 h2 h3 => hsp (K w.params) H a ns h1 h2 h3) fun _ H s e s' => hCX H s e s'
end L2
/- THE LAST THEOREM (shape; LID, My.* are yours):
   My.Adr: a structure of the addresses that your layer names (classes, functions); My.Txt K t: a structure (Prop) of the equations over K;
   My.txt_mk : {K} {implicit addresses ..} (e1 : nsIn K mainGlobals "law" = some (some (.ref f))) (e2 : K.lookup f = some ⟨oc, od, .func (fnOf "law" "law" params body scope dV kV doc pm an cdv ct), sl⟩) (e3 : codeIn K cdv "law" = true) .. : ∃ t, My.Txt K t
set_option maxRecDepth 100000 in
set_option maxHeartbeats 0 in
theorem PySem.Challenge.cw_LID_holds : PySem.Challenge.rw_LID.Holds := by
  w_on; o_law; k_head; (case hw => w_witness2)
  k_fill
  refine L2.walk_of (l := PySem.Challenge.rw_LID) (n := 63) (k := 40) (x := "script") (CX := fun w => ..) (sp := fun _ => My.sp_law) rfl (by decide) rfl ⟨rfl, by decide, by decide⟩ (fun w h Y => PySem.W.kIn_of Y) ?F ?S ?C
  case F =>
    intro w mg fa h KX G hmg
    have T : ∃ t, My.Txt (L2.KOf KX) t := by
      dsimp only [L2.KOf]                          -- K must stand as «<heap const> w.params» for k_is
      refine' My.txt_mk ?e1 ?e2 ?e3 ..
      (case e1 => PySem.W.k_is)                    -- in the order: a name -> its address -> its object -> its parts
      (case e2 => PySem.W.k_is)
      ..
    obtain ⟨t, T⟩ := T
    have e0 := hmg.symm.trans (PySem.W.mg_of KX G T.law)
    cases e0                                       -- fa is the law's own address
    exact ⟨_, fun s u => .of_eq rfl, fun base kb nb => My.law_fn T kb nb⟩     -- if «.of_eq rfl» comes too early: refine' ⟨_, ?b, fun base kb nb => My.law_fn T kb nb⟩; exact fun s u => .of_eq rfl
  case S => exact fun w H a ns hl hO hS => ..
  case C => exact ..
(the tactic k_is has no namespace: write k_is) -/
namespace L2
open PySem PySem.Spec PyProof.Rows
noncomputable def defArgs (s : Stmt) : Arguments := match s with
  | .FunctionDef _ a _ _ _ _ _ _ _ _ => a
  | _ => { posonlyargs := [], args := [], vararg := none, kwonlyargs := [], kw_defaults := [], kwarg := none, defaults := [] }
noncomputable def defBody (s : Stmt) : List Stmt := match s with
  | .FunctionDef _ _ b _ _ _ _ _ _ _ => b
  | _ => []
noncomputable def defScope (s : Stmt) : Scope := match s with
  | .FunctionDef _ _ _ _ _ _ sc _ _ _ => sc
  | _ => { kind := .function, names := [], isGenerator := false, isCoroutine := false }
noncomputable abbrev CX0 : CXT := fun _ _ _ _ _ _ => False
noncomputable abbrev E0 : XK := fun _ _ _ => False
theorem pass0 {X : Cx} : Passes CX0 X E0 := fun _ _ _ _ _ _ _ h => h.elim
structure Fun (K : PySem.W.Frag) (x qual : Str) (st : Stmt) (f : Addr) (fd : FuncData) : Prop where
  ex : ∃ (oc : Value) (od : Option Addr) (kV doc pm : Value) (an : Option Addr) (cdv ct : Value) (osl : Array (Option Value)),
    fd = PySem.W.fnOf x qual (defArgs st) (defBody st) (defScope st) .none kV doc pm an cdv ct ∧ K.lookup f = some ⟨oc, od, .func fd, osl⟩ ∧ PySem.W.codeIn K cdv qual = true
  kp : PySem.W.keepIn K (.ref f) = true
section
variable {P : Program} {w : World} {K : PySem.W.Frag} {mg : Str → Option Value} {base : Heap}
theorem Fun.ok {x qual : Str} {st : Stmt} {f : Addr} {fd : FuncData} {N ps : List Str} {k : Nat} {sp : Sp} (F : Fun K x qual st f fd) (S : FnScope N ps (defScope st)) (len : ∀ vs H Q E, sp vs H Q E → vs.length = ps.length)
    (hbody : ∀ (cdv : Value) (A : Around) (outer : List Env) (s : Shared) (H : Hp) (vs : List V) (Q : VK) (E : XK), Room k (A.deeper (envOfC qual (defScope st) s.heap.objs.size f cdv)) → sp vs H Q E →
      ∃ t, PSs (cxOf CX0 P w K mg base N qual (defScope st) f cdv A outer s H E).nox (defBody st) t ∧ t { nx := fun _ H' => Q .non H', rt := Q } (start N vs) H) : FnOk P w K mg base CX0 (k + 1) f fd ps sp := by
  obtain ⟨oc, od, kV, doc, pm, an, cdv, ct, osl, rfl, lk, hcd⟩ := F.ex
  refine fn_of lk hcd S len fun A outer s H vs Q E hr hsp => ?_
  obtain ⟨t, h, q⟩ := hbody cdv A outer s H vs Q E hr hsp
  exact ⟨t, h.nox, q⟩
theorem Fun.binds {x qual : Str} {st : Stmt} {f : Addr} {fd : FuncData} {ps : List Str} (F : Fun K x qual st f fd)
    (h : ∀ (kV doc pm : Value) (an : Option Addr) (cdv ct : Value) (us : List Value), us.length = ps.length → bindArgs (PySem.W.fnOf x qual (defArgs st) (defBody st) (defScope st) .none kV doc pm an cdv ct) ⟨us, []⟩ = pure (ps.zip us)) : Binds K fd ps [] := by
  obtain ⟨oc, od, kV, doc, pm, an, cdv, ct, osl, rfl, lk, hcd⟩ := F.ex
  exact .all (h kV doc pm an cdv ct)
theorem fun_mk {x qual : Str} {st : Stmt} {f : Addr} {oc : Value} {od an : Option Addr} {osl : Array (Option Value)} {kV doc pm cdv ct : Value} (l : K.lookup f = some ⟨oc, od, .func (PySem.W.fnOf x qual (defArgs st) (defBody st) (defScope st) .none kV doc pm an cdv ct), osl⟩)
    (c : PySem.W.codeIn K cdv qual = true) (k : PySem.W.keepIn K (.ref f) = true) : Fun K x qual st f (PySem.W.fnOf x qual (defArgs st) (defBody st) (defScope st) .none kV doc pm an cdv ct) := ⟨⟨oc, od, kV, doc, pm, an, cdv, ct, osl, rfl, l, c⟩, k⟩
end
theorem hu_of {A : Around} {k : Nat} (hr : Room k A) : A.units + 1 < cLine := Nat.lt_of_le_of_lt (Nat.add_le_add_left (by decide : 1 ≤ 64) _) hr.units
theorem small1000 {n : Nat} (h : n ≤ 1000) : n < sizeLine := Nat.lt_of_le_of_lt h (by decide)
section
variable {X : Cx}
theorem pv (i : Nat) {x : Str} {pos : Pos} (hN : X.N[i]? = some x := by rfl) (hv : Vis X.env.scope x := by first | exact Or.inl rfl | exact Or.inr (Or.inl rfl) | exact Or.inr (Or.inr rfl)) (hd : (x == ("__debug__" : Str)) = false := by decide)
    (hcd : (x == ("__classdict__" : Str)) = false := by decide) : PE X (.Name x pos) (tVar i) := pe_var hN hv hd hcd
end
theorem ite2 {c A B : Prop} [Decidable c] (h1 : c → A) (h2 : ¬ c → B) : if c then A else B := by
  by_cases h : c
  · rw [if_pos h]
    exact h1 h
  · rw [if_neg h]
    exact h2 h
noncomputable def Same (H H' : Hp) : Prop := ∀ b o, H b = some o → H' b = some o
theorem Same.refl (H : Hp) : Same H H := fun _ _ h => h
theorem Same.trans {H H1 H2 : Hp} (a : Same H H1) (b : Same H1 H2) : Same H H2 := fun c o h => b c o (a c o h)
theorem Same.free {H H' : Hp} (e : Same H H') {l : Addr} (h : H' l = Option.none) : H l = Option.none := by
  cases q : H l with
  | none => rfl
  | some o =>
    rw [e l o q] at h
    cases h
theorem Same.seq {K : PySem.W.Frag} {H H' : Hp} {a : Addr} {xs : List V} (e : Same H H') (h : SqL K H a xs) : SqL K H' a xs := by
  rcases h with (h | ⟨o, h⟩) | h
  · exact .inl (.inl (e _ _ h))
  · exact .inl (.inr ⟨o, e _ _ h⟩)
  · exact .inr h
end L2
namespace L2
open PySem PySem.Spec PyProof.Rows
section
variable {X : Cx}
end
section
variable {κ : Type} [DecidableEq κ]
theorem valV_not {kvs : List (κ × V)} {k : κ} (h : valV kvs k = none) : ¬ k ∈ kvs.map (·.1) := by
  intro m
  obtain ⟨p, hp, e⟩ := List.mem_map.mp m
  have q : (kvs.any fun kv => decide (kv.1 = k)) = true := List.any_eq_true.mpr ⟨p, hp, decide_eq_true e⟩
  rw [valV_any, h] at q
  exact absurd q (by simp)
theorem valV_in {kvs : List (κ × V)} {k : κ} {v : V} (h : valV kvs k = some v) : k ∈ kvs.map (·.1) := by
  have q : (kvs.any fun kv => decide (kv.1 = k)) = true := by
    rw [valV_any, h]
    all_goals rfl
  obtain ⟨p, hp, e⟩ := List.any_eq_true.mp q
  exact List.mem_map.mpr ⟨p, hp, of_decide_eq_true e⟩
end
end L2
set_option Elab.async false
set_option linter.all false
set_option maxRecDepth 100000
set_option maxHeartbeats 4000000
namespace L2
open PySem PySem.Spec PyProof.Rows
noncomputable def clGo (cells : List (Str × Addr)) : List (Str × NameKind) → List (Str × Addr) → List (Str × Addr)
  | [], acc => acc
  | (n, k) :: r, acc => clGo cells r (if k == .free then (n, (cells.lookup n).getD 0) :: acc else acc)
theorem clGo_sound {cells : List (Str × Addr)} : ∀ {names : List (Str × NameKind)} {acc : List (Str × Addr)}, (∀ y ∈ names, y.2 = .free → ∃ c, cells.lookup y.1 = some c) → (∀ y c, acc.lookup y = some c → cells.lookup y = some c) →
    ∀ y c, (clGo cells names acc).lookup y = some c → cells.lookup y = some c
  | [], acc, _, h, y, c, e => h y c e
  | (n, k) :: r, acc, hf, h, y, c, e => by
    refine clGo_sound (names := r) (fun z hz => hf z (List.mem_cons_of_mem _ hz)) ?_ y c e
    intro z d q
    by_cases hk : (k == NameKind.free) = true
    · rw [if_pos hk, List.lookup_cons] at q
      obtain ⟨c', hc'⟩ := hf (n, k) List.mem_cons_self (by simpa using hk)
      cases hz : z == n with
      | true =>
        rw [hz] at q
        have hc' : cells.lookup n = some c' := hc'
        have q : some ((cells.lookup n).getD 0) = some d := q
        have : z = n := by simpa using hz
        rw [this, hc']
        rw [hc'] at q
        exact q
      | false =>
        rw [hz] at q
        exact h z d q
    · rw [if_neg hk] at q
      exact h z d q
theorem clGo_has {cells : List (Str × Addr)} : ∀ {names : List (Str × NameKind)} {acc : List (Str × Addr)} {y : Str}, ((y, NameKind.free) ∈ names ∨ ∃ c, acc.lookup y = some c) → ∃ c, (clGo cells names acc).lookup y = some c
  | [], acc, y, h => by
    rcases h with h | h
    · exact absurd h (by simp)
    · exact h
  | (n, k) :: r, acc, y, h => by
    refine clGo_has (names := r) ?_
    rcases h with h | ⟨c, h⟩
    · rcases List.mem_cons.mp h with e | h
      · right
        cases e
        refine ⟨(cells.lookup n).getD 0, ?_⟩
        rw [if_pos (by rfl), List.lookup_cons]
        simp
      · exact .inl h
    · right
      by_cases hk : (k == NameKind.free) = true
      · rw [if_pos hk, List.lookup_cons]
        cases y == n with
        | true => exact ⟨_, rfl⟩
        | false => exact ⟨c, h⟩
      · rw [if_neg hk]
        exact ⟨c, h⟩
theorem closureFor_is {scope : Scope} {env : Env} (h : ∀ y ∈ scope.names, y.2 = .free → ∃ c, env.cells.lookup y.1 = some c) : closureFor scope env = pure (clGo env.cells scope.names []) := by
  have go : ∀ (names : List (Str × NameKind)) (acc : List (Str × Addr)), (∀ y ∈ names, y.2 = .free → ∃ c, env.cells.lookup y.1 = some c) →
      (forIn names acc fun (x : Str × NameKind) r => (if (x.2 == NameKind.free) = true then cellOf env x.1 >>= fun c => pure (ForInStep.yield ((x.1, c) :: r)) else pure (ForInStep.yield r) : Sem (ForInStep (List (Str × Addr))))) = pure (clGo env.cells names acc) := by
    intro names
    induction names with
    | nil => intro acc _; rfl
    | cons x r ih =>
      intro acc hf
      obtain ⟨n, k⟩ := x
      rw [List.forIn_cons]
      dsimp only
      by_cases hk : (k == NameKind.free) = true
      · obtain ⟨c, hc⟩ := hf (n, k) List.mem_cons_self (by simpa using hk)
        have hc : env.cells.lookup n = some c := hc
        have ec : cellOf env n = pure c := by unfold cellOf; rw [hc]
        rw [if_pos hk, ec]
        have := ih ((n, c) :: acc) fun y hy => hf y (List.mem_cons_of_mem _ hy)
        unfold clGo
        rw [if_pos hk, hc]
        exact this
      · rw [if_neg hk]
        have := ih acc fun y hy => hf y (List.mem_cons_of_mem _ hy)
        unfold clGo
        rw [if_neg hk]
        exact this
  have := go scope.names [] h
  unfold closureFor
  first
    | exact this
    | (rw [← this]; rfl)
    | (simp only [bind_pure]; exact this)
noncomputable def blockCx (X : Cx) (scope : Scope) (Nc : List Str) (C : Addr) (s₀ : Shared) (H₀ : Hp) (fp : List Addr) : Cx :=
  { X with N := Nc, s₀ := s₀, H₀ := H₀, env := compEnvC scope (clGo X.env.cells scope.names []) C X.env, outer := X.stack, ex := fp, fn := fun _ => false, pn := [], xe := fun _ _ => False }
structure Block (sc out : Scope) (N : List Str) (x : Str) (frees : List Str) (ix : List Nat) : Prop where
  kind : sc.kind = .function
  outk : out.kind = .function
  len : frees.length = ix.length
  at' : ∀ (j : Nat) (y : Str), frees[j]? = some y → ∃ i : Nat, ix[j]? = some i ∧ N[i]? = some y ∧ out.names.lookup y = some .cell ∧ sc.names.lookup y = some .free
  loc : sc.names.lookup x = some .local
  nocell : ∀ y ∈ sc.names, y.2 ≠ .cell
  locals : ∀ y ∈ sc.names, y.2 = .local → sc.names.lookup y.1 = some .local
  free : ∀ y ∈ sc.names, y.2 = .free → out.names.lookup y.1 = some .cell
  nd : (x :: frees).Nodup
noncomputable def slots (σ : St) (ix : List Nat) : St := ix.map fun i => (σ[i]?).join
noncomputable def tComp (wi : TI) (ix : List Nat) (tc : TT) (te : TE) : TE := fun σ H Q => wi σ H fun J H1 => ∀ acc, H1 acc = none → ∃ W : Nat → Nat → Hp → Prop, (∃ m, W 0 m (upd H1 acc (.lst []))) ∧ ∀ i m H2, W i m H2 →
  (J.stop i H2 ∧ Q (.ref acc) H2) ∨ (J.go i H2 ∧ ∀ x H3, J.yld i H2 x H3 → tc (some x :: slots σ ix) H3 fun b H4 => if b = true then te (some x :: slots σ ix) H4 fun y H5 => ∃ ys, H5 acc = some (.lst ys) ∧ ys.length < sizeLine ∧
    ∃ m', m' < m ∧ W (i + 1) m' (upd H5 acc (.lst (ys ++ [y]))) else ∃ m', m' < m ∧ W (i + 1) m' H4)
theorem lookup_relabel_free {env : Env} (hk : env.scope.kind = .function) : ∀ {names : List (Str × NameKind)} {y : Str}, names.lookup y = some .free → env.kindOf y = some .cell →
    (names.map fun (n, k) => if (k == NameKind.free && env.scope.kind == .function && env.kindOf n == some .cell) then (n, NameKind.cell) else (n, k)).lookup y = some .cell
  | [], _, h, _ => by simp at h
  | (n, k) :: r, y, h, hc => by
    show List.lookup y ((if (k == NameKind.free && env.scope.kind == .function && env.kindOf n == some .cell) = true then (n, NameKind.cell) else (n, k)) :: _) = _
    cases hy : y == n with
    | true =>
      simp only [List.lookup_cons, hy] at h
      have hk' : k = .free := Option.some.inj h
      have : y = n := by simpa using hy
      subst this
      rw [if_pos (by rw [hk', hk, hc]; rfl)]
      simp [List.lookup_cons]
    | false =>
      simp only [List.lookup_cons, hy] at h
      have ih := lookup_relabel_free hk h hc
      split
      · simp only [List.lookup_cons, hy]; exact ih
      · simp only [List.lookup_cons, hy]; exact ih
theorem compLoop_any {prog : Program} {w : World} {A : Around} {R : Result → Shared → Prop} {s : Shared} {elt target iter : Expr} {ifs : List Expr} {scope : Scope} {pos : Pos} {it acc : Value} {env : Env} (I : Nat → Shared → Prop)
    (turn : ∀ n s, I n s → wpAny (model prog w) A (pyNext it) (fun r s₁ => match r with
      | none => R (.ok .next) s₁
      | some v => wpAny (model prog w) A (letOwnedTupleGo target it v) (fun _ s₁ => wpAny (model prog w) A (assign target env v) (fun _ s₂ =>
          wpAny (model prog w) A (forIn ifs true fun c r => if r = true then do let ok ← isTrue c env (eval c env); pure (ForInStep.yield ok) else pure (ForInStep.yield r)) (fun ok s₃ =>
            if ok = true then wpAny (model prog w) A (eval elt env) (fun x s₄ =>
              wpAny (model prog w) A (call (.builtin "list.append") [acc, x]) (fun _ s₅ => ∃ m, m < n ∧ I m s₅) (notedBy (model prog w) A env fun e s' => R (.error e) s') s₄) (notedBy (model prog w) A env fun e s' => R (.error e) s') s₃
            else ∃ m, m < n ∧ I m s₃) (notedBy (model prog w) A env fun e s' => R (.error e) s') s₂) (notedBy (model prog w) A env fun e s' => R (.error e) s') s₁) (notedBy (model prog w) A env fun e s' => R (.error e) s') s₁) (notedBy (model prog w) A env fun e s' => R (.error e) s') s)
    (n : Nat) (h : I n s) : codeAny (model prog w) A (.compLoop (.ListComp elt [⟨target, iter, ifs, 0⟩] scope pos) 0 it acc env) R s := by
  refine codeAny_loop rfl I (fun n s hI => ?_) n h
  show wpAny _ A ((compTurn (.ListComp elt [⟨target, iter, ifs, 0⟩] scope pos) 0 it acc env).onRaise (fun x => do noteFrame x env; theTreesLotGoes x)) _ _ s
  refine wpAny_noted ?_
  rw [compTurn_list]
  refine wpAny_bind (wpAny_standAt (wpAny_bind (wpAny_mono (turn n s hI) (fun r s₁ h₁ => ?_) fun _ _ h' => h')))
  cases r with
  | none => exact wpAny_pure h₁
  | some v =>
    refine wpAny_bind (wpAny_mono h₁ (fun _ s₁' h₁' => ?_) fun _ _ h' => h')
    refine wpAny_bind (wpAny_mono h₁' (fun _ s₂ h₂ => wpAny_bind (wpAny_mono h₂ (fun ok s₃ h₃ => ?_) fun _ _ h' => h')) fun _ _ h' => h')
    cases ok with
    | false => exact wpAny_pure ⟨rfl, h₃⟩
    | true =>
      exact wpAny_bind (wpAny_bind (wpAny_mono h₃ (fun x s₄ h₄ => wpAny_bind (wpAny_mono h₄ (fun _ s₅ h₅ => wpAny_pure (wpAny_pure ⟨rfl, h₅⟩)) fun _ _ h' => h')) fun _ _ h' => h'))
section
variable {X : Cx} {x : Str} {px pos : Pos} {elt iter : Expr} {ifs : List Expr} {scope : Scope} {frees : List Str} {ix : List Nat} {wi : TI} {tc : TT} {te : TE}
noncomputable def PTs (X : Cx) (ifs : List Expr) (t : TT) : Prop :=
  ∀ (pins : List (Addr × Obj)) (s : Shared) (σ : St) (H : Hp) (Q : Bool → Hp → Prop), Inv X pins σ H s → t σ H Q →
    wpAny (model X.prog X.w) X.A (forIn ifs true fun c r => if r = true then do let ok ← isTrue c X.env (eval c X.env); pure (ForInStep.yield ok) else pure (ForInStep.yield r)) (TP X pins σ Q) X.xe s
noncomputable def tYes : TT := fun _ H Q => Q true H
theorem pts_nil : PTs X [] tYes := fun pins s σ H Q I h => wpAny_pure ⟨H, I, h⟩
theorem pts_one {c : Expr} {t : TT} (hc : PT X c t) : PTs X [c] t := by
  intro pins s σ H Q I h
  rw [List.forIn_cons, if_pos rfl]
  refine wpAny_bind (wpAny_bind (thn (hc pins s σ H Q I h) fun b s1 h1 => wpAny_pure ?_))
  exact wpAny_pure h1
structure Apart (X : Cx) (pins : List (Addr × Obj)) (H : Hp) (C : Addr) : Prop where
  none : H C = none
  loc : C ≠ X.env.locals
  new : X.s₀.heap.objs.size ≤ C
  cell : ∀ x c, X.env.cells.lookup x = some c → c ≠ C
  pin : ∀ p ∈ X.pn ++ pins, p.1 ≠ C
theorem Inv.apart {pins : List (Addr × Obj)} {σ : St} {H H' : Hp} {s : Shared} {C : Addr} (I : Inv X pins σ H s) (h : s.heap.objs.size ≤ C) (n : H' C = none) : Apart X pins H' C := by
  have f := I.fpOk h n
  exact ⟨f.1, f.2.1, Nat.le_trans I.sz h, f.2.2.2.2.1, f.2.2.2.2.2⟩
theorem comp_run {pins : List (Addr × Obj)} {s₂ : Shared} {σ : St} {H₁ : Hp} {it : Addr} {fp : List Addr} {tn : Nat → Heap → Prop} {J : It} {RR : Value → Addr → Result → Shared → Prop} {E : Value → Shared → Prop} {KK : Addr → Hp → Prop}
    (B : Block scope X.env.scope X.N x frees ix) (hc : X.calm = true) (ht : ∀ C s₀ H₀ fp, PTs (blockCx X scope (x :: frees) C s₀ H₀ fp) ifs tc) (he : ∀ C s₀ H₀ fp, PE (blockCx X scope (x :: frees) C s₀ H₀ fp) elt te)
    (I₂ : Inv X pins σ H₁ s₂) (T : Turn X.prog X.w X.K (.Name x px) J fp it tn) (st₂ : tn 0 s₂.heap) (f₂ : ∀ b ∈ fp, FpOk X pins H₁ b)
    (q : ∀ acc, H₁ acc = none → ∃ W : Nat → Nat → Hp → Prop, (∃ m, W 0 m (upd H₁ acc (.lst []))) ∧ ∀ i m H2, W i m H2 →
      (J.stop i H2 ∧ KK acc H2) ∨ (J.go i H2 ∧ ∀ y H3, J.yld i H2 y H3 → tc (some y :: slots σ ix) H3 fun b H4 => if b = true then te (some y :: slots σ ix) H4 fun z H5 => ∃ ys, H5 acc = some (.lst ys) ∧ ys.length < sizeLine ∧
        ∃ m', m' < m ∧ W (i + 1) m' (upd H5 acc (.lst (ys ++ [z]))) else ∃ m', m' < m ∧ W (i + 1) m' H4))
    (hRR : ∀ acc C s' H', Inv X pins σ H' s' → KK acc H' → (∃ m, s'.heap.Ns C m) → Apart X pins H' C → RR (.ref acc) C (.ok .next) s') :
    wpAny (model X.prog X.w) X.A (newList []) (fun acc s₃ => wpAny (model X.prog X.w) X.A (newFunctionEnv scope X.env.globals (clGo X.env.cells scope.names []) [] X.env.qual none .none (some X.env)) (fun cenv s₄ =>
      codeAny (model X.prog X.w) X.A (.compStart (.ListComp elt [⟨.Name x px, iter, ifs, 0⟩] scope pos) 0 (.ref it) acc { cenv with scope := relabel scope X.env }) (RR acc cenv.locals) s₄) E s₃) E s₂ := by
  have frs_ok : ∀ y ∈ scope.names, y.2 = .free → ∃ c, X.env.cells.lookup y.1 = some c := fun y hy hk => I₂.ok.has y.1 (.inl (B.free y hy hk))
  have sound : ∀ y c, (clGo X.env.cells scope.names []).lookup y = some c → X.env.cells.lookup y = some c := clGo_sound frs_ok fun y c h => by simp at h
  refine wpAny_newObj_type ?_
  have hacc : H₁ s₂.heap.objs.size = none := I₂.hok.fresh (Nat.le_refl _)
  obtain ⟨W, ⟨m0, w0⟩, turn⟩ := q _ hacc
  have I₃ : Inv X pins σ (upd H₁ s₂.heap.objs.size (.lst [])) { s₂ with heap := s₂.heap.push { cls := .type "list", data := .seq ([] : List Value).toArray } } :=
    I₂.laid (t' := s₂.toks) (fun b u e => Heap.get?_push_of_some _ e) (Nat.le_refl _) ⟨Nat.zero_le _, [], 0, .nil, Heap.get?_push_size _ rfl⟩
  have f₃ : ∀ b ∈ fp, FpOk X pins (upd H₁ s₂.heap.objs.size (.lst [])) b := fun b hb => by
    obtain ⟨o, ho, _⟩ := T.obj 0 _ st₂ b hb
    have := f₂ b hb
    exact ⟨by rw [upd_ne (Nat.ne_of_lt (Heap.lt_size ho))]; exact this.1, this.2⟩
  have st₃ : tn 0 (s₂.heap.push { cls := .type "list", data := .seq ([] : List Value).toArray }) := T.keep 0 _ _ st₂ fun b hb o e => Heap.get?_push_of_some _ e
  generalize hs3 : ({ s₂ with heap := s₂.heap.push { cls := .type "list", data := .seq ([] : List Value).toArray } } : Shared) = s₃ at I₃
  have st₃ : tn 0 s₃.heap := by rw [← hs3]; exact st₃
  generalize s₂.heap.objs.size = acc at *
  show wpAny _ _ _ _ _ s₃
  generalize upd H₁ acc (.lst []) = H₃ at *
  refine wpAny_newFunctionEnv B.nocell (by intro y hy; simp at hy) (fun h₄ ns₄ sb₄ => ?_) B.kind
  try dsimp only at ns₄ sb₄ ⊢
  have keep₄ : ∀ b o, s₃.heap.get? b = some o → h₄.get? b = some o := fun b o e => (sb₄.2 b (Nat.ne_of_lt (Heap.lt_size e))).trans (Heap.get?_push_of_some _ e)
  have st₄ : tn 0 h₄ := T.keep 0 _ _ st₃ fun b hb o e => keep₄ b o e
  have freshC : H₃ s₃.heap.objs.size = none := I₃.hok.fresh (Nat.le_refl _)
  have objs : ∀ b ∈ fp, b < s₃.heap.objs.size := fun b hb => by
    obtain ⟨o, ho, _⟩ := T.obj 0 _ st₃ b hb
    exact Heap.lt_size ho
  have stk : ∀ b ∈ fp, b ∉ frs X.stack := fun b hb z => by
    have f := f₃ b hb
    rcases List.mem_cons.mp (I₃.stkSub b z) with e | e
    · exact f.2.1 e
    · exact f.2.2.1 e
  have Ok : (blockCx X scope (x :: frees) s₃.heap.objs.size s₃ H₃ fp).Ok := by
    refine ⟨I₃.ok.mod, B.kind, I₃.ok.glob, I₃.ok.blt, Nat.le_refl _, fun y z c h1 h2 => I₃.ok.inj y z c (sound y c h1) (sound z c h2), fun y hy => ?_, fun y c h => (nomatch h), I₃.ok.hd, I₃.ok.frames, .inl rfl,
      fun b hb => ⟨Nat.ne_of_lt (objs b hb), fun y c h => (f₃ b hb).2.2.2.2.1 y c (sound y c h)⟩, I₃.bs, Nat.le_trans I₃.ok.bsz I₃.sz, fun b o e hb => ?_, stk, I₃.stack, I₃.stkFree⟩
    · have hy : (relabel scope X.env).names.lookup y = some .cell ∨ (relabel scope X.env).names.lookup y = some .free := hy
      refine clGo_has (.inl ?_)
      have mem : ∃ k, (k = .cell ∨ k = .free) ∧ (y, k) ∈ (relabel scope X.env).names := by
        rcases hy with q | q
        · exact ⟨_, .inl rfl, PySem.mem_of_lookup q⟩
        · exact ⟨_, .inr rfl, PySem.mem_of_lookup q⟩
      obtain ⟨k, hk, hm⟩ := mem
      obtain ⟨⟨n, k0⟩, h0, e⟩ := List.mem_map.mp hm
      have nc := B.nocell (n, k0) h0
      dsimp only at e
      split at e
      · rename_i hh
        cases e
        have : (k0 == NameKind.free) = true := by
          cases hq : (k0 == NameKind.free) with
          | true => rfl
          | false => rw [hq] at hh; simp at hh
        have : k0 = .free := by simpa using this
        rw [this] at h0
        exact h0
      · cases e
        rcases hk with hk | hk
        · exact absurd hk nc
        · rw [hk] at h0; exact h0
    · rcases (f₃ b hb).2.2.2.1 with z | z
      · exact I₃.ok.noex b o e z
      · exact absurd (Nat.lt_of_lt_of_le (Heap.lt_size e) (Nat.le_trans I₃.ok.bsz z)) (Nat.lt_irrefl _)
  have Ic : Inv (blockCx X scope (x :: frees) s₃.heap.objs.size s₃ H₃ fp) [] (none :: slots σ ix) H₃ { s₃ with heap := h₄, toks := s₃.toks + ([] : List (Str × Value)).length } := by
    refine ⟨Ok, rfl, I₃.bare, Un.kept keep₄, ⟨_, ns₄, fun i y v e1 e2 e3 => ?_⟩, fun y c h => ?_, freshC, fun y c h => I₃.freeC y c (sound y c h), fun p hp => absurd (show p ∈ ([] : List (Addr × Obj)) from hp) (by simp), I₃.hok.kept keep₄, ?_⟩
    · cases i with
      | zero => cases e2
      | succ j =>
        have e1 : frees[j]? = some y := e1
        have e2 : (slots σ ix)[j]? = some (some v) := e2
        obtain ⟨i, hi, hN, hk, hf⟩ := B.at' j y e1
        have hv : σ[i]? = some (some v) := by
          unfold slots at e2
          rw [List.getElem?_map, hi] at e2
          have e2 : some ((σ[i]?).join) = some (some v) := e2
          have e2 := Option.some.inj e2
          cases q : σ[i]? with
          | none => rw [q] at e2; cases e2
          | some o => rw [q] at e2; exact congrArg some e2
        obtain ⟨m, hn, hl⟩ := I₃.loc
        obtain ⟨u, ru, lu⟩ := hl i y v hN hv (.inr (.inl hk))
        refine ⟨u, ru, .inr ⟨.inl ?_, ?_⟩⟩
        · exact lookup_relabel_free B.outk hf hk
        · rcases lu with ⟨k, _⟩ | ⟨_, c, hc', z⟩
          · exact absurd (show some NameKind.cell = some NameKind.local from hk.symm.trans k) (by decide)
          · obtain ⟨c', hc''⟩ := clGo_has (cells := X.env.cells) (acc := []) (.inl (PySem.mem_of_lookup hf))
            have q := sound y c' hc''
            rw [hc'] at q
            cases q
            obtain ⟨o, ho, hd⟩ := z
            exact ⟨c, hc'', o, keep₄ c o ho, hd⟩
    · obtain ⟨v, o, ho, hd⟩ := I₃.cell y c (sound y c h)
      exact ⟨v, o, keep₄ c o ho, hd⟩
    · show (none :: slots σ ix).length = (x :: frees).length
      rw [List.length_cons, List.length_cons, slots, List.length_map, B.len]
  have fpc : ∀ {H' : Hp} {pl : List (Addr × Obj)}, (∀ p ∈ pl, p.1 ∉ fp) → (∀ b ∈ fp, H' b = none) → ∀ b ∈ fp, FpOk (blockCx X scope (x :: frees) s₃.heap.objs.size s₃ H₃ fp) pl H' b := fun hp hn b hb =>
    ⟨hn b hb, Nat.ne_of_lt (objs b hb), stk b hb, .inl hb, fun y c h => (f₃ b hb).2.2.2.2.1 y c (sound y c h), fun p hpl z => hp p hpl (z ▸ hb)⟩
  have hxl : Loc (blockCx X scope (x :: frees) s₃.heap.objs.size s₃ H₃ fp).env.scope x := .inl (lookup_relabel_local B.loc)
  have loop : codeAny (model X.prog X.w) X.A (.compLoop (.ListComp elt [⟨.Name x px, iter, ifs, 0⟩] scope pos) 0 (.ref it) (.ref acc) (blockCx X scope (x :: frees) s₃.heap.objs.size s₃ H₃ fp).env) (RR (.ref acc) s₃.heap.objs.size)
      { s₃ with heap := h₄, toks := s₃.toks + ([] : List (Str × Value)).length } := by
    refine compLoop_any (fun n s' => ∃ i H', Inv (blockCx X scope (x :: frees) s₃.heap.objs.size s₃ H₃ fp) [] (none :: slots σ ix) H' s' ∧ tn i s'.heap ∧ (∀ b ∈ fp, H' b = none) ∧ W i n H') ?_ m0 ⟨0, H₃, Ic, st₄, fun b hb => (f₃ b hb).1, w0⟩
    rintro n s' ⟨i, H', I', st', fr', w'⟩
    rcases turn i n H' w' with ⟨stop, kk⟩ | ⟨go, step⟩
    · refine thn (T.done (blockCx X scope (x :: frees) s₃.heap.objs.size s₃ H₃ fp) rfl rfl rfl hc i [] s' _ H' _ I' (fpc (by simp) fr') st' stop) fun r s1 ⟨hr, I1⟩ => ?_
      subst hr
      obtain ⟨m, hn, _⟩ := I1.loc
      exact hRR acc _ s1 H' (I₃.call' (ch := fp) I1.os I1.base I1.hok I1.bare fun b hb => ⟨(f₃ b hb).2.2.2.1, (f₃ b hb).2.1, (f₃ b hb).2.2.2.2.1, (f₃ b hb).2.2.2.2.2⟩) kk ⟨m, hn⟩ (I₃.apart (Nat.le_refl _) I1.free)
    · refine thn (T.item (blockCx X scope (x :: frees) s₃.heap.objs.size s₃ H₃ fp) rfl rfl rfl hc i [] s' _ H' _ I' (fpc (by simp) fr') st' go) fun r s1 ⟨u, hr, h1⟩ => ?_
      subst hr
      refine thn h1 fun _ s2 ⟨v, H2, I2, rv, yv, st2, fr2⟩ => ?_
      have I2' := I2.pinned (fpc (by simp) fr2) (T.obj _ _ st2)
      have nofail : ∀ {α : Type} {t : Sem α} {Q : α → Shared → Prop} {E' : Value → Shared → Prop} {s : Shared}, wpAny (model X.prog X.w) X.A t Q (fun _ _ => False) s → wpAny (model X.prog X.w) X.A t Q E' s := fun h => wpAny_mono h (fun _ _ x => x) fun _ _ f => f.elim
      refine wpAny_assign_Name (store_ok (X := blockCx X scope (x :: frees) s₃.heap.objs.size s₃ H₃ fp) (i := 0) I2' B.nd rfl hxl rv (fun s3 I3 => ?_) (.inr (lookup_relabel_local B.loc)))
      refine nofail (thn (ht s₃.heap.objs.size s₃ H₃ fp _ s3 (some v :: slots σ ix) H2 _ I3 (step v H2 yv)) fun b s4 ⟨H4, I4, q4⟩ => ?_)
      have again : ∀ {σ7 : St} {H7 : Hp} {s7 : Shared} {k : Nat}, Inv (blockCx X scope (x :: frees) s₃.heap.objs.size s₃ H₃ fp) ([] ++ pinsAt fp s2.heap) (some v :: slots σ ix) H7 s7 → k < n → W (i + 1) k H7 →
          ∃ m, m < n ∧ ∃ i H', Inv (blockCx X scope (x :: frees) s₃.heap.objs.size s₃ H₃ fp) [] (none :: slots σ ix) H' s7 ∧ tn i s7.heap ∧ (∀ b ∈ fp, H' b = none) ∧ W i m H' := fun {σ7 H7 s7 k} I7 hk w7 => by
        refine ⟨k, hk, i + 1, H7, I7.unpinned.weak rfl (fun j z e => ?_), T.keep _ _ _ st2 fun b hb o e => (I7.pin (b, o) (List.mem_append_right _ (List.mem_append_right _ (mem_pinsAt hb e)))).1, fun b hb => ?_, w7⟩
        · cases j with
          | zero => cases e
          | succ j => exact e
        · obtain ⟨o, e, d⟩ := T.obj _ _ st2 b hb
          exact (I7.pin (b, o) (List.mem_append_right _ (List.mem_append_right _ (mem_pinsAt hb e)))).2.1
      cases b with
      | false =>
        rw [if_neg Bool.false_ne_true] at q4 ⊢
        obtain ⟨m', hm, w4⟩ := q4
        exact again (σ7 := []) I4 hm w4
      | true =>
        rw [if_pos rfl] at q4 ⊢
        refine nofail (thn (he s₃.heap.objs.size s₃ H₃ fp _ s4 (some v :: slots σ ix) H4 _ I4 q4) fun ue s5 ⟨z, H5, I5, r5, ys, hys, hlt, m', hm, w5⟩ => ?_)
        refine nofail (thn (mt_append (X := blockCx X scope (x :: frees) s₃.heap.objs.size s₃ H₃ fp) _ s5 _ H5 (.ref acc) [z] (.ref acc) [ue] (fun _ H6 => H6 = upd H5 acc (.lst (ys ++ [z]))) I5 rfl (.cons r5 .nil) ⟨acc, ys, z, rfl, rfl, hys, hlt, rfl⟩) fun _ s6 ⟨_, H6, I6, _, e6⟩ => ?_)
        subst e6
        exact again (σ7 := []) I6 hm w5
  exact codeAny_compStart_list loop (T.self X.A 0 _ _ _ st₄ loop)
theorem pe_comp (B : Block scope X.env.scope X.N x frees ix) (hc : X.calm = true) (hi : PI X (.Name x px) iter wi) (ht : ∀ C s₀ H₀ fp, PTs (blockCx X scope (x :: frees) C s₀ H₀ fp) ifs tc) (he : ∀ C s₀ H₀ fp, PE (blockCx X scope (x :: frees) C s₀ H₀ fp) elt te)
    (hs : ∀ y, foldedSetIterable iter X.env y = pure y := by intro _; rfl) : PE X (.ListComp elt [⟨.Name x px, iter, ifs, 0⟩] scope pos) (tComp wi ix tc te) := by
  intro pins s σ H Q I h
  rw [eval_ListComp]
  refine wpAny_comprehension_free (use := none) rfl hs (closureFor_is fun y hy hk => I.ok.has y.1 (.inl (B.free y hy hk))) B.kind B.locals (thn (hi pins s σ H _ I h) fun v s1 h1 => thn h1 fun itv s2 h2 => ?_)
  obtain ⟨it, fp, tn, J, H2, e, I2, T, st2, f2, q⟩ := h2
  subst e
  refine comp_run (KK := fun acc H' => Q (.ref acc) H') B hc ht he I2 T st2 f2 q fun acc C s' H' I' k hn ap => ?_
  obtain ⟨m, hn⟩ := hn
  exact ⟨m, hn, fun h' sb => ⟨.ref acc, H', I'.turned (it := C) (t' := s'.toks) (fun b o hb e => (sb.2 b hb).trans e) ap.none ap.loc (.inr ap.new) ap.cell ap.pin, rfl, k⟩⟩
end
end L2
set_option Elab.async false
set_option linter.all false
set_option maxRecDepth 100000
set_option maxHeartbeats 4000000
namespace L2
open PySem PySem.Spec PyProof.Rows
structure Callee (P : Program) (w : World) (K : PySem.W.Frag) (mg : Str → Option Value) (base : Heap) (x : Str) (k : Nat) (ps : List Str) (sp : Sp) : Prop where
  ex : ∃ f fd, mg x = some (.ref f) ∧ PySem.W.keepIn K (.ref f) = true ∧ Binds K fd ps [] ∧ FnOk P w K mg base CX0 k f fd ps sp
theorem pe_callC {X : Cx} {x : Str} {k n : Nat} {ps : List Str} {sp : Sp} {e : Expr} {es : List Expr} {t : TA} {p pos : Pos} (C : Callee X.prog X.w X.K X.mg X.base x k ps sp) (hr : Room n X.A) (hk : k ≤ n) (hg : Gl X x) (ha : PA X (e :: es) t)
    (hdb : (x == ("__debug__" : Str)) = false := by decide) (he : starEach (e :: es) X.env = (false, eval e X.env) :: starEach es X.env := by rfl) (hpl : (backTo pos (starEach es X.env)).any (·.1) = false := by rfl) :
    PE X (.Call (.Name x p) (e :: es) [] pos) (tCall sp [] E0 t) := by
  obtain ⟨f, fd, hm, hkp, hb, F⟩ := C.ex
  exact pe_call (F.mono hk) hr hg hm hkp hb .nil pass0 ha hdb he hpl
structure HasDef (K : PySem.W.Frag) (mg : Str → Option Value) (x : Str) (st : Stmt) : Prop where
  ex : ∃ f fd, Fun K x x st f fd ∧ mg x = some (.ref f)
theorem hasDef {K : PySem.W.Frag} {h : Heap} {mg : Str → Option Value} {x : Str} {st : Stmt} {f : Addr} {oc : Value} {od an : Option Addr} {osl : Array (Option Value)} {kV doc pm cdv ct : Value} (X : K.In h) (G : h.Ns mainGlobals mg)
    (a : PySem.W.nsIn K mainGlobals x = some (some (.ref f))) (l : K.lookup f = some ⟨oc, od, .func (PySem.W.fnOf x x (defArgs st) (defBody st) (defScope st) .none kV doc pm an cdv ct), osl⟩)
    (c : PySem.W.codeIn K cdv x = true) (k : PySem.W.keepIn K (.ref f) = true) : HasDef K mg x st := ⟨f, _, fun_mk l c k, PySem.W.mg_of X G a⟩
theorem HasDef.ok {P : Program} {w : World} {K : PySem.W.Frag} {mg : Str → Option Value} {base : Heap} {x : Str} {st : Stmt} {N ps : List Str} {n : Nat} {sp : Sp} (D : HasDef K mg x st) (S : FnScope N ps (defScope st))
    (hb : ∀ (kV doc pm : Value) (an : Option Addr) (cdv ct : Value) (us : List Value), us.length = ps.length → bindArgs (PySem.W.fnOf x x (defArgs st) (defBody st) (defScope st) .none kV doc pm an cdv ct) ⟨us, []⟩ = pure (ps.zip us))
    (len : ∀ vs H Q E, sp vs H Q E → vs.length = ps.length)
    (hbody : ∀ (f : Addr) (cdv : Value) (A : Around) (outer : List Env) (s : Shared) (H : Hp) (vs : List V) (Q : VK) (E : XK), Room n (A.deeper (envOfC x (defScope st) s.heap.objs.size f cdv)) → sp vs H Q E →
      ∃ t, PSs (cxOf CX0 P w K mg base N x (defScope st) f cdv A outer s H E).nox (defBody st) t ∧ t { nx := fun _ H' => Q .non H', rt := Q } (start N vs) H) : Callee P w K mg base x (n + 1) ps sp := by
  obtain ⟨f, fd, F, hm⟩ := D.ex
  exact ⟨f, fd, hm, F.kp, F.binds hb, F.ok S len fun cdv A outer s H vs Q E hr h => hbody f cdv A outer s H vs Q E hr h⟩
theorem call_isi {X : Cx} : CallR X (.builtin "isinstance") (fun xs H Q => ∃ x T t b, xs = [x, .ty T] ∧ TyOf X.K H x t ∧ PySem.W.kitOne X.K t (.type T) = some b ∧ Q (.bl b) H) := by
  intro pins s σ H xs us Q I r h
  obtain ⟨x, T, t, b, rfl, ty, e, q⟩ := h
  obtain ⟨u, v, rfl, ru, rv⟩ := vals2 r
  cases rv
  exact isinst_ok I ru ty e fun tk => ⟨.bl b, H, I.tok tk, rfl, q⟩
noncomputable def GInt (mg : Str → Option Value) (x : Str) (n : Int) : Prop := ∃ t, mg x = some (.int n t)
noncomputable def GTup (K : PySem.W.Frag) (mg : Str → Option Value) (x : Str) (xs : List V) : Prop := ∃ a, mg x = some (.ref a) ∧ ∀ H : Hp, SqT K H a xs
theorem pe_globI {X : Cx} {x : Str} {n : Int} {pos : Pos} (h : GInt X.mg x n) (hg : Gl X x := by rfl) (hd : (x == ("__debug__" : Str)) = false := by decide) : PE X (.Name x pos) (tC (.int n)) := by
  obtain ⟨t, hm⟩ := h
  exact pe_glob hg hm ⟨t, rfl⟩ hd
noncomputable def tGT (K : PySem.W.Frag) (xs : List V) : TE := fun _ H Q => ∀ a, (∀ H, SqT K H a xs) → Q (.ref a) H
theorem pe_globT {X : Cx} {x : Str} {xs : List V} {pos : Pos} (h : GTup X.K X.mg x xs) (hg : Gl X x := by rfl) (hd : (x == ("__debug__" : Str)) = false := by decide) : PE X (.Name x pos) (tGT X.K xs) := by
  obtain ⟨a, hm, hs⟩ := h
  intro pins s σ H Q I q
  exact pe_glob hg hm (v := .ref a) rfl hd pins s σ H Q I (q a hs)
theorem glob_int {K : PySem.W.Frag} {h : Heap} {mg : Str → Option Value} {x : Str} {n : Int} {t : Tok} (X : K.In h) (G : h.Ns mainGlobals mg) (a : PySem.W.nsIn K mainGlobals x = some (some (.int n t))) : GInt mg x n := ⟨t, PySem.W.mg_of X G a⟩
theorem glob_tup {K : PySem.W.Frag} {h : Heap} {mg : Str → Option Value} {x : Str} {a : Addr} {d : Option Addr} {its : Array Value} {n : Nat} {sl : Array (Option Value)} {xs : List V} (X : K.In h) (G : h.Ns mainGlobals mg)
    (e : PySem.W.nsIn K mainGlobals x = some (some (.ref a))) (l : K.lookup a = some ⟨.type "tuple", d, .seq its n, sl⟩) (v : Vals xs its.toList) (z : its.size ≤ sizeLine) : GTup K mg x xs :=
  ⟨a, PySem.W.mg_of X G e, fun H => .inr ⟨_, its, n, l, rfl, rfl, z, v⟩⟩
noncomputable def spLaw (K : PySem.W.Frag) : Sp := fun vs H Q _ => ∃ (a : Addr) (ns : List Int), vs = [.ref a] ∧ SqL K H a (ns.map V.int) ∧ ns.length ≤ 63 ∧ ∀ H', Q (.bl true) H'
noncomputable def cell (ns : List Int) (k : Nat) : Int := ns.getD k 0
noncomputable def spCell (K : PySem.W.Frag) : Sp := fun vs H Q _ => ∃ (a : Addr) (ns : List Int) (k : Nat), vs = [.ref a, .int k] ∧ SqL K H a (ns.map V.int) ∧ Q (.int (cell ns k)) H
theorem law_walk {l : PySem.W.OpenLaw} {q : Program} {loose : List Str} {XP : (Str → Option Value) → Heap → Prop} {YP : World → Heap → Prop} {d : DefRec} {K : Params → PySem.W.Frag} {k : Nat} {st : Stmt} (hr : Room k callerA) (hn : l.most = some 63) (hdf : d.params.defaults = []) (hdn : d.name = "law")
    (hb : ∀ (kV doc pm : Value) (an : Option Addr) (cdv ct : Value) (u : Value), bindArgs (PySem.W.fnOf "law" "law" (defArgs st) (defBody st) (defScope st) .none kV doc pm an cdv ct) ⟨[u], []⟩ = pure [(("script" : Str), u)])
    (hY : ∀ (w : World) (h : Heap), YP w h → (K w.params).In h)
    (F : ∀ (w : World) (mg : Str → Option Value) (h : Heap), (K w.params).In h → h.Ns mainGlobals mg → HasDef (K w.params) mg "law" st ∧
      ∀ (base : Heap) (f : Addr) (fd : FuncData), Fun (K w.params) "law" "law" st f fd → FnOk l.prog w (K w.params) mg base CX0 k f fd ["script"] (spLaw (K w.params))) :
    PySem.W.WalkO q loose XP YP l.row.toRowW d [] (fun f vs => PySem.call f vs) := by
  refine walk_ofK (n := 63) (k := k) (x := "script") (CX := CX0) (sp := spLaw) hn (by decide) hdf hr hY (fun w mg fa h KX G hmg => ?_) (fun K H a ns hl _ hS => ⟨a, ns, rfl, hS, hl, fun _ => rfl⟩) (fun _ _ _ _ z => z)
  obtain ⟨D, ok⟩ := F w mg h KX G
  obtain ⟨f, fd, Fn, hm⟩ := D.ex
  rw [hdn, hm] at hmg
  cases hmg
  refine ⟨fd, fun s u => ?_, fun base _ _ => ok base _ fd Fn⟩
  obtain ⟨oc, od, kV, doc, pm, an, cdv, ct, osl, rfl, lk, hcd⟩ := Fn.ex
  exact .of_eq (hb kV doc pm an cdv ct u)
theorem bt_int : bootBuiltins "int" = some (.type "int") := by decide +kernel
theorem bt_bool : bootBuiltins "bool" = some (.type "bool") := by decide +kernel
theorem bt_list : bootBuiltins "list" = some (.type "list") := by decide +kernel
theorem bt_tuple : bootBuiltins "tuple" = some (.type "tuple") := by decide +kernel
theorem bt_len : bootBuiltins "len" = some (.builtin "len") := by decide +kernel
theorem bt_isinstance : bootBuiltins "isinstance" = some (.builtin "isinstance") := by decide +kernel
theorem bt_min : bootBuiltins "min" = some (.builtin "min") := by decide +kernel
theorem bt_sorted : bootBuiltins "sorted" = some (.builtin "sorted") := by decide +kernel
section
variable {CX : CXT} {P : Program} {w : World} {K : PySem.W.Frag} {mg : Str → Option Value} {base : Heap} {N : List Str} {qual : Str} {scope : Scope} {f : Addr} {cd : Value} {A : Around} {outer : List Env} {s : Shared} {H : Hp} {E : XK}
theorem cxK : (cxOf CX P w K mg base N qual scope f cd A outer s H E).K = K := rfl
theorem bkK {X : Cx} {Nc : List Str} {C : Addr} {s₀ : Shared} {H₀ : Hp} {fp : List Addr} : (blockCx X scope Nc C s₀ H₀ fp).K = X.K := rfl
theorem noxK {X : Cx} : X.nox.K = X.K := rfl
end
theorem pe_ty {X : Cx} {x : Str} {T : String} {pos : Pos} (hm : X.mg x = none) (hv : bootBuiltins x = some (.type T)) (hg : Gl X x := by rfl) (hn : x ≠ "__name__" := by decide) (hd : (x == ("__debug__" : Str)) = false := by decide) : PE X (.Name x pos) (tC (.ty T)) :=
  pe_bltn (v := .ty T) hg hm hv rfl hn hd
theorem same_new {H : Hp} {p : Addr} (h : H p = none) (o : HO) : Same H (upd H p o) := fun b u q => by rw [upd_ne (ne_of_none q h)]; exact q
end L2
set_option Elab.async false
set_option linter.all false
set_option maxRecDepth 100000
set_option maxHeartbeats 4000000
namespace L2
open PySem PySem.Spec PyProof.Rows
noncomputable def blockB (sc out : Scope) (N : List Str) (x : Str) (frees : List Str) (ix : List Nat) : Bool :=
  decide (sc.kind = .function) && decide (out.kind = .function) && decide (frees.length = ix.length) &&
  ((List.range frees.length).all fun j => match frees[j]?, ix[j]? with
    | some y, some i => decide (N[i]? = some y) && decide (out.names.lookup y = some .cell) && decide (sc.names.lookup y = some .free)
    | _, _ => false) &&
  decide (sc.names.lookup x = some .local) &&
  (sc.names.all fun y => decide (y.2 ≠ .cell) && (decide (y.2 ≠ .local) || decide (sc.names.lookup y.1 = some .local)) && (decide (y.2 ≠ .free) || decide (out.names.lookup y.1 = some .cell))) &&
  decide (x :: frees).Nodup
theorem Block.of {sc out : Scope} {N : List Str} {x : Str} {frees : List Str} {ix : List Nat} (h : blockB sc out N x frees ix = true) : Block sc out N x frees ix := by
  unfold blockB at h
  simp only [Bool.and_eq_true, decide_eq_true_eq, List.all_eq_true] at h
  obtain ⟨⟨⟨⟨⟨⟨h1, h2⟩, h3⟩, h4⟩, h5⟩, h6⟩, h7⟩ := h
  refine ⟨h1, h2, h3, fun j y hy => ?_, h5, fun y hy => (h6 y hy).1.1, fun y hy hl => ?_, fun y hy hl => ?_, h7⟩
  · have hj : j < frees.length := (List.getElem?_eq_some_iff.mp hy).1
    have q := h4 j (List.mem_range.mpr hj)
    rw [hy] at q
    cases e : ix[j]? with
    | none => rw [e] at q; cases q
    | some i =>
      rw [e] at q
      simp only [Bool.and_eq_true, decide_eq_true_eq] at q
      exact ⟨i, rfl, q.1.1, q.1.2, q.2⟩
  · have q := (h6 y hy).1.2
    rw [Bool.or_eq_true] at q
    rcases q with q | q
    · exact absurd hl (of_decide_eq_true q)
    · exact of_decide_eq_true q
  · have q := (h6 y hy).2
    rw [Bool.or_eq_true] at q
    rcases q with q | q
    · exact absurd hl (of_decide_eq_true q)
    · exact of_decide_eq_true q
theorem comp_range {wi : TI} {ix : List Nat} {te : TE} {σ : St} {H H1 : Hp} {Q : VK} {lo : Int} {n : Nat} (f : Nat → V) (hw : ∀ R : It → Hp → Prop, R (Itr lo n) H1 → wi σ H R) (hn : n < sizeLine)
    (he : ∀ (i : Nat) (H' : Hp) (R : VK), i < n → Same H1 H' → R (f i) H' → te (some (.int (lo + i)) :: slots σ ix) H' R) (q : ∀ acc, H1 acc = none → Q (.ref acc) (upd H1 acc (.lst ((List.range n).map f)))) :
    tComp wi ix tYes te σ H Q := by
  refine hw _ fun acc hacc => ⟨fun i m H2 => i ≤ n ∧ m = n - i ∧ H2 = upd H1 acc (.lst ((List.range i).map f)), ⟨n, Nat.zero_le _, by simp, by simp⟩, ?_⟩
  rintro i m H2 ⟨hi, rfl, rfl⟩
  by_cases hlt : i < n
  · refine .inr ⟨hlt, ?_⟩
    rintro x H3 ⟨rfl, rfl⟩
    unfold tYes
    dsimp only
    rw [if_pos rfl]
    refine he i _ _ hlt (same_new hacc _) ⟨_, upd_same, ?_, n - (i + 1), by omega, hlt, rfl, ?_⟩
    · rw [List.length_map, List.length_range]; omega
    · rw [upd_upd, List.range_succ, List.map_append]
      rfl
  · have e : i = n := by omega
    subst e
    exact .inl ⟨Nat.le_refl _, q acc hacc⟩
end L2
set_option Elab.async false
set_option linter.all false
set_option maxRecDepth 100000
set_option maxHeartbeats 4000000
namespace L2
open PySem
noncomputable def excRec (cls a0 x1 : Value) : Obj := { cls := cls, data := .fields #[a0, x1, .none, .none, .bool false, .none] }
section
variable {M : Model} {A : Around} {E : Value → Shared → Prop} {s : Shared} {B : Heap} {env : Env} {outer : List Env} {L e : Addr} {cls a0 x1 head fl : Value} {hadNext : Bool} {Q : Unit → Shared → Prop}
end
end L2
set_option Elab.async false
set_option linter.all false
set_option maxRecDepth 100000
set_option maxHeartbeats 4000000
namespace L2
open PySem
section
variable {prog : Program} {w : World} {A : Around} {E : Value → Shared → Prop} {s₁ : Shared}
end
end L2
set_option Elab.async false
set_option linter.all false
set_option maxRecDepth 100000
set_option maxHeartbeats 4000000
namespace L2
open PySem PySem.Spec PyProof.Rows
section
variable {X : Cx} {pins : List (Addr × Obj)} {σ : St} {H H' : Hp} {s s' : Shared} {a C : Addr} {B : Heap}
end
section
variable {P : Program} {w : World} {K : PySem.W.Frag} {mg : Str → Option Value} {base : Heap} {N : List Str} {qual : Str} {scope : Scope} {f : Addr} {cd : Value} {A : Around} {outer : List Env} {s₀ : Shared} {H₀ : Hp} {E : XK}
end
section
variable {X : Cx} {E : XK} {x : Str} {C : Addr} {e : Expr} {es : List Expr} {ta : TA} {np cpos pos : Pos}
noncomputable def tRaise (E : XK) (C : Addr) (ta : TA) : TS := fun _ σ H => ta σ H fun vs H1 => vs.length ≤ sizeLine ∧ E (.ref C) none H1
end
end L2
set_option Elab.async false
set_option linter.all false
set_option maxRecDepth 100000
set_option maxHeartbeats 4000000
namespace L2
open PySem PySem.Spec PyProof.Rows
noncomputable def excO (a C : Addr) (a0 x1 : Value) : HO := .frz (excRec (.ref C) a0 x1) (.ext fun h => ∃ a0 x1, h.get? a = some (excRec (.ref C) a0 x1))
section
variable {X : Cx} {pins pl : List (Addr × Obj)} {σ : St} {H H' : Hp} {s s' : Shared} {a C : Addr} {B : Heap} {xe : Value → Shared → Prop}
end
noncomputable def endsH (D : Ends) (i : Nat) : Ends := { nx := fun σ' H' => D.nx (σ'.set i none) H', rt := D.rt, bk := fun σ' H' => D.bk (σ'.set i none) H', ct := fun σ' H' => D.ct (σ'.set i none) H' }
noncomputable def xTry (K : PySem.W.Frag) (C0 : Addr) (n i : Nat) (ts : Addr → TS) (D : Ends) : XK := fun cls _ H' => ∃ C, cls = .ref C ∧ PySem.W.exmOne K (.ref C) (.ref C0) = some true ∧
  ∀ a a0 x1, H' a = none → ts a (endsH D i) ((List.replicate n none).set i (some (.ref a))) (upd H' a (excO a C a0 x1))
noncomputable def tTry (K : PySem.W.Frag) (C0 : Addr) (n i : Nat) (tb : XK → TS) (ts : Addr → TS) : TS := fun D σ H => tb (xTry K C0 n i ts D) D σ H
section
variable {K : PySem.W.Frag} {prog : Program} {w : World} {A : Around} {E : Value → Shared → Prop} {s : Shared} {x C : Addr} {ox : Obj}
end
end L2
set_option Elab.async false
set_option linter.all false
set_option maxRecDepth 100000
set_option maxHeartbeats 4000000
namespace L2
open PySem PySem.Spec PyProof.Rows
noncomputable def QuietAt (A : Around) (H : Hp) : Prop := ∃ e cls a0 x1 u, A.handled = some (.ref e) ∧ H e = some (.frz (excRec cls a0 x1) u)
section
variable {X : Cx} {tg : Expr}
end
section
variable {P : Program} {w : World} {K : PySem.W.Frag} {mg : Str → Option Value} {base : Heap}
end
noncomputable def tCallH (A : Around) (sp : Sp) (t : TA) : TE := fun σ H Q => t σ H fun vs H1 => QuietAt A H1 ∧ sp (vs ++ []) H1 Q E0
end L2
set_option maxHeartbeats 4000000
namespace Nim
noncomputable def N (d : Nat) : Nat := 2 ^ (2 ^ d)
theorem N_pos (d : Nat) : 0 < N d := Nat.two_pow_pos _
theorem N_succ (d : Nat) : N (d + 1) = N d * N d := by
  unfold N; rw [← Nat.pow_add, Nat.pow_succ]; congr 1; omega
theorem two_le_N (d : Nat) : 2 ≤ N d := by
  unfold N
  calc 2 = 2 ^ 1 := rfl
    _ ≤ 2 ^ (2 ^ d) := Nat.pow_le_pow_right (by decide) (Nat.one_le_two_pow)
theorem xor_lt {d a b : Nat} (ha : a < N d) (hb : b < N d) : a ^^^ b < N d := Nat.xor_lt_two_pow ha hb
theorem xor_div (a b d : Nat) : (a ^^^ b) / N d = a / N d ^^^ b / N d := Nat.xor_div_two_pow
theorem xor_mod (a b d : Nat) : (a ^^^ b) % N d = a % N d ^^^ b % N d := Nat.xor_mod_two_pow
theorem xor_mul (a b d : Nat) : (a ^^^ b) * N d = a * N d ^^^ b * N d := by
  unfold N; rw [← Nat.shiftLeft_eq, ← Nat.shiftLeft_eq, ← Nat.shiftLeft_eq, Nat.shiftLeft_xor_distrib]
theorem pack_div {d x y : Nat} (hy : y < N d) : (x * N d ^^^ y) / N d = x := by
  rw [xor_div, Nat.mul_div_cancel _ (N_pos d), Nat.div_eq_of_lt hy, Nat.xor_zero]
theorem pack_mod {d x y : Nat} (hy : y < N d) : (x * N d ^^^ y) % N d = y := by
  rw [xor_mod, Nat.mul_mod_left, Nat.mod_eq_of_lt hy, Nat.zero_xor]
theorem pack_eq {d x y : Nat} (hy : y < N d) : x * N d ^^^ y = x * N d + y := by
  have h1 := pack_div (x := x) hy
  have h2 := pack_mod (x := x) hy
  have h3 := Nat.div_add_mod (x * N d ^^^ y) (N d)
  rw [h1, h2, Nat.mul_comm] at h3
  exact h3.symm
theorem pack_lt {d x y : Nat} (hx : x < N d) (hy : y < N d) : x * N d ^^^ y < N (d + 1) := by
  rw [pack_eq hy, N_succ]
  have h : (x + 1) * N d ≤ N d * N d := Nat.mul_le_mul_right _ hx
  rw [Nat.add_mul, Nat.one_mul] at h
  omega
theorem unpack {d a : Nat} : (a / N d) * N d ^^^ a % N d = a := by
  rw [pack_eq (Nat.mod_lt _ (N_pos d)), Nat.mul_comm]; exact Nat.div_add_mod a (N d)
theorem div_lt {d a : Nat} (h : a < N (d + 1)) : a / N d < N d := by
  rw [N_succ] at h; exact Nat.div_lt_of_lt_mul h
theorem mod_lt {d a : Nat} : a % N d < N d := Nat.mod_lt _ (N_pos d)
theorem half_lt (d : Nat) : N d / 2 < N d := Nat.div_lt_self (N_pos d) (by decide)
noncomputable def nim : Nat → Nat → Nat → Nat
  | 0, a, b => a * b
  | d + 1, a, b =>
    (nim d (a / N d ^^^ a % N d) (b / N d ^^^ b % N d) ^^^ nim d (a % N d) (b % N d)) * N d
      ^^^ nim d (nim d (a / N d) (b / N d)) (N d / 2) ^^^ nim d (a % N d) (b % N d)
structure Fld (n : Nat) (m : Nat → Nat → Nat) : Prop where
  lt : ∀ {a b}, a < n → b < n → m a b < n
  comm : ∀ {a b}, a < n → b < n → m a b = m b a
  add : ∀ {a b c}, a < n → b < n → c < n → m a (b ^^^ c) = m a b ^^^ m a c
  assoc : ∀ {a b c}, a < n → b < n → c < n → m (m a b) c = m a (m b c)
  one : ∀ {a}, a < n → m 1 a = a
theorem Fld.zero {n m a} (h : Fld n m) (ha : a < n) (hn : 0 < n) : m a 0 = 0 := by
  have e := h.add ha hn hn
  rw [Nat.xor_self, Nat.xor_self] at e
  exact e
theorem xor_cancel (x y : Nat) : (x ^^^ y) ^^^ y = x := by rw [Nat.xor_assoc, Nat.xor_self, Nat.xor_zero]
theorem fld0 : Fld (N 0) (nim 0) := by
  have e : N 0 = 2 := rfl
  have two : ∀ {a : Nat}, a < N 0 → a = 0 ∨ a = 1 := by intro a h; rw [e] at h; omega
  refine ⟨?_, ?_, ?_, ?_, ?_⟩
  · intro a b ha hb; rcases two ha with rfl | rfl <;> rcases two hb with rfl | rfl <;> decide
  · intro a b ha hb; exact Nat.mul_comm a b
  · intro a b c ha hb hc; rcases two ha with rfl | rfl <;> rcases two hb with rfl | rfl <;> rcases two hc with rfl | rfl <;> decide
  · intro a b c ha hb hc; exact Nat.mul_assoc a b c
  · intro a ha; exact Nat.one_mul a
theorem nim_succ {d : Nat} (F : Fld (N d) (nim d)) {a b : Nat} (ha : a < N (d + 1)) (hb : b < N (d + 1)) :
    nim (d + 1) a b = (nim d (a / N d) (b / N d) ^^^ nim d (a / N d) (b % N d) ^^^ nim d (a % N d) (b / N d)) * N d
      ^^^ (nim d (nim d (a / N d) (b / N d)) (N d / 2) ^^^ nim d (a % N d) (b % N d)) := by
  have a1 := div_lt ha
  have a0 : a % N d < N d := mod_lt
  have b1 := div_lt hb
  have b0 : b % N d < N d := mod_lt
  show (nim d (a / N d ^^^ a % N d) (b / N d ^^^ b % N d) ^^^ nim d (a % N d) (b % N d)) * N d
      ^^^ nim d (nim d (a / N d) (b / N d)) (N d / 2) ^^^ nim d (a % N d) (b % N d) = _
  rw [Nat.xor_assoc (_ * N d)]
  congr 2
  rw [F.add (xor_lt a1 a0) b1 b0, F.comm (xor_lt a1 a0) b1, F.comm (xor_lt a1 a0) b0, F.add b1 a1 a0, F.add b0 a1 a0,
    F.comm b1 a1, F.comm b1 a0, F.comm b0 a1, F.comm b0 a0]
  generalize nim d (a / N d) (b / N d) = p
  generalize nim d (a / N d) (b % N d) = q
  generalize nim d (a % N d) (b / N d) = r
  generalize nim d (a % N d) (b % N d) = t
  rw [← Nat.xor_assoc, xor_cancel, Nat.xor_assoc, Nat.xor_assoc, Nat.xor_comm r q]
theorem fldS {d : Nat} (F : Fld (N d) (nim d)) : Fld (N (d + 1)) (nim (d + 1)) := by
  have Hlt : ∀ {a b}, a < N (d + 1) → b < N (d + 1) → nim (d + 1) a b < N (d + 1) := by
    intro a b ha hb
    have a1 := div_lt ha
    have a0 : a % N d < N d := mod_lt
    have b1 := div_lt hb
    have b0 : b % N d < N d := mod_lt
    rw [nim_succ F ha hb]
    exact pack_lt (xor_lt (xor_lt (F.lt a1 b1) (F.lt a1 b0)) (F.lt a0 b1)) (xor_lt (F.lt (F.lt a1 b1) (half_lt d)) (F.lt a0 b0))
  refine ⟨Hlt, ?_, ?_, ?_, ?_⟩
  · intro a b ha hb
    have a1 := div_lt ha
    have a0 : a % N d < N d := mod_lt
    have b1 := div_lt hb
    have b0 : b % N d < N d := mod_lt
    rw [nim_succ F ha hb, nim_succ F hb ha, F.comm a1 b1, F.comm a1 b0, F.comm a0 b1, F.comm a0 b0]
    congr 2
    rw [Nat.xor_assoc, Nat.xor_assoc, Nat.xor_comm (nim d (b % N d) _)]
  · intro a b c ha hb hc
    have a1 := div_lt ha
    have a0 : a % N d < N d := mod_lt
    have b1 := div_lt hb
    have b0 : b % N d < N d := mod_lt
    have c1 := div_lt hc
    have c0 : c % N d < N d := mod_lt
    have k := half_lt d
    rw [nim_succ F ha (xor_lt hb hc), nim_succ F ha hb, nim_succ F ha hc, xor_div, xor_mod,
      F.add a1 b1 c1, F.add a1 b0 c0, F.add a0 b1 c1, F.add a0 b0 c0,
      F.comm (xor_lt (F.lt a1 b1) (F.lt a1 c1)) k, F.add k (F.lt a1 b1) (F.lt a1 c1), F.comm k (F.lt a1 b1), F.comm k (F.lt a1 c1)]
    simp only [xor_mul]
    ac_rfl
  · intro a b c ha hb hc
    have a1 := div_lt ha
    have a0 : a % N d < N d := mod_lt
    have b1 := div_lt hb
    have b0 : b % N d < N d := mod_lt
    have c1 := div_lt hc
    have c0 : c % N d < N d := mod_lt
    have k := half_lt d
    have lab := xor_lt (F.lt (F.lt a1 b1) k) (F.lt a0 b0)
    have lbc := xor_lt (F.lt (F.lt b1 c1) k) (F.lt b0 c0)
    rw [nim_succ F (Hlt ha hb) hc, nim_succ F ha (Hlt hb hc), nim_succ F ha hb, nim_succ F hb hc]
    rw [pack_div lab, pack_mod lab, pack_div lbc, pack_mod lbc]
    generalize a / N d = x1 at *
    generalize a % N d = x0 at *
    generalize b / N d = y1 at *
    generalize b % N d = y0 at *
    generalize c / N d = z1 at *
    generalize c % N d = z0 at *
    generalize N d / 2 = e at *
    have add3 : ∀ {u v w t : Nat}, u < N d → v < N d → w < N d → t < N d → nim d (u ^^^ v ^^^ w) t = nim d u t ^^^ nim d v t ^^^ nim d w t := by
      intro u v w t hu hv hw ht
      rw [F.comm (xor_lt (xor_lt hu hv) hw) ht, F.add ht (xor_lt hu hv) hw, F.add ht hu hv, F.comm hu ht, F.comm hv ht, F.comm hw ht]
    have add3' : ∀ {u v w t : Nat}, u < N d → v < N d → w < N d → t < N d → nim d t (u ^^^ v ^^^ w) = nim d t u ^^^ nim d t v ^^^ nim d t w := by
      intro u v w t hu hv hw ht
      rw [F.add ht (xor_lt hu hv) hw, F.add ht hu hv]
    have add2 : ∀ {u v t : Nat}, u < N d → v < N d → t < N d → nim d (u ^^^ v) t = nim d u t ^^^ nim d v t := by
      intro u v t hu hv ht
      rw [F.comm (xor_lt hu hv) ht, F.add ht hu hv, F.comm hu ht, F.comm hv ht]
    have sw : ∀ {u v : Nat}, u < N d → v < N d → nim d (nim d u e) v = nim d (nim d u v) e := by
      intro u v hu hv
      rw [F.assoc hu k hv, F.comm k hv, ← F.assoc hu hv k]
    have p11 := F.lt a1 b1
    have p10 := F.lt a1 b0
    have p01 := F.lt a0 b1
    have p00 := F.lt a0 b0
    have q11 := F.lt b1 c1
    have q10 := F.lt b1 c0
    have q01 := F.lt b0 c1
    have q00 := F.lt b0 c0
    rw [add3 p11 p10 p01 c1, add3 p11 p10 p01 c0, add2 (F.lt p11 k) p00 c1, add2 (F.lt p11 k) p00 c0,
      add3' q11 q10 q01 a1, add3' q11 q10 q01 a0, F.add a1 (F.lt q11 k) q00, F.add a0 (F.lt q11 k) q00]
    rw [sw p11 c1, sw p11 c0, ← F.assoc a1 q11 k, ← F.assoc a0 q11 k]
    rw [F.assoc a1 b1 c1, F.assoc a1 b0 c1, F.assoc a0 b1 c1, F.assoc a1 b1 c0, F.assoc a1 b0 c0, F.assoc a0 b1 c0, F.assoc a0 b0 c1, F.assoc a0 b0 c0]
    rw [add3 (F.lt a1 q11) (F.lt a1 q01) (F.lt a0 q11) k, add3 (F.lt a1 q11) (F.lt a1 q10) (F.lt a1 q01) k]
    simp only [xor_mul]
    ac_rfl
  · intro a ha
    have a1 := div_lt ha
    have a0 : a % N d < N d := mod_lt
    have one_lt : 1 < N d := by have := two_le_N d; omega
    have o1 : (1 : Nat) < N (d + 1) := by have := two_le_N (d + 1); omega
    rw [nim_succ F o1 ha, Nat.div_eq_of_lt one_lt, Nat.mod_eq_of_lt one_lt]
    have z := N_pos d
    rw [F.comm z a1, F.zero a1 z, F.comm z a0, F.zero a0 z, F.one a1, F.one a0, F.comm z (half_lt d), F.zero (half_lt d) z]
    rw [Nat.xor_zero, Nat.zero_xor, Nat.zero_xor]
    exact unpack
theorem fld : ∀ d, Fld (N d) (nim d)
  | 0 => fld0
  | d + 1 => fldS (fld d)
theorem xor_and_add : ∀ (n a b : Nat), a ≤ n → (a ^^^ b) + 2 * (a &&& b) = a + b := by
  intro n
  induction n with
  | zero => intro a b h; have : a = 0 := by omega
            subst this; simp
  | succ n ih =>
    intro a b h
    by_cases h0 : a = 0
    · subst h0; simp
    · have i := ih (a / 2) (b / 2) (by omega)
      have x1 : (a ^^^ b) / 2 = a / 2 ^^^ b / 2 := Nat.xor_div_two
      have x2 : (a &&& b) / 2 = a / 2 &&& b / 2 := Nat.and_div_two
      have y1 : (a ^^^ b) % 2 = a % 2 ^^^ b % 2 := by
        have := @Nat.xor_mod_two_pow a b 1; simpa using this
      have y2 : (a &&& b) % 2 = a % 2 &&& b % 2 := by
        have := @Nat.and_mod_two_pow a b 1; simpa using this
      rw [← x1, ← x2] at i
      have d1 := Nat.div_add_mod (a ^^^ b) 2
      have d2 := Nat.div_add_mod (a &&& b) 2
      have e : (a % 2 ^^^ b % 2) + 2 * (a % 2 &&& b % 2) = a % 2 + b % 2 := by
        rcases Nat.mod_two_eq_zero_or_one a with p | p <;> rcases Nat.mod_two_eq_zero_or_one b with q | q <;> rw [p, q] <;> decide
      rw [y1] at d1
      rw [y2] at d2
      omega
noncomputable def xI (x y : Int) : Int := ((x.toNat ^^^ y.toNat : Nat) : Int)
theorem xI_nonneg (x y : Int) : 0 ≤ xI x y := Int.natCast_nonneg _
theorem xI_lt {x y : Int} (k : Nat) (hx : x < 2 ^ k) (hy : y < 2 ^ k) : xI x y < 2 ^ k := by
  have e : ((2 ^ k : Nat) : Int) = 2 ^ k := by simp
  have p : 0 < 2 ^ k := Nat.two_pow_pos k
  have a : x.toNat < 2 ^ k := by omega
  have b : y.toNat < 2 ^ k := by omega
  have c := Nat.xor_lt_two_pow a b
  unfold xI
  omega
theorem N4 : N 4 = 65536 := by decide
theorem N3 : N 3 = 256 := by decide
theorem N2 : N 2 = 16 := by decide
theorem N1 : N 1 = 4 := by decide
theorem N0 : N 0 = 2 := by decide
noncomputable def pI (a b d : Int) : Int := ((nim (d.toNat % 5) (a.toNat % N (d.toNat % 5)) (b.toNat % N (d.toNat % 5)) : Nat) : Int)
theorem pI_nonneg (a b d : Int) : 0 ≤ pI a b d := Int.natCast_nonneg _
theorem pI_nat {a b d : Nat} (hd : d < 5) (ha : a < N d) (hb : b < N d) : pI (a : Int) (b : Int) (d : Int) = ((nim d a b : Nat) : Int) := by
  unfold pI
  rw [Int.toNat_natCast, Int.toNat_natCast, Int.toNat_natCast, Nat.mod_eq_of_lt hd, Nat.mod_eq_of_lt ha, Nat.mod_eq_of_lt hb]
theorem pI_lt (a b d : Int) : pI a b d < ((N (d.toNat % 5) : Nat) : Int) := by
  unfold pI
  exact Int.ofNat_lt.mpr ((fld _).lt mod_lt mod_lt)
theorem pI_lt0 (a b : Int) : pI a b 0 < 2 := by have := pI_lt a b 0; simpa [N] using this
theorem pI_lt1 (a b : Int) : pI a b 1 < 4 := by have := pI_lt a b 1; simpa [N] using this
theorem pI_lt2 (a b : Int) : pI a b 2 < 16 := by have := pI_lt a b 2; simpa [N] using this
theorem pI_lt3 (a b : Int) : pI a b 3 < 256 := by have := pI_lt a b 3; simpa [N] using this
theorem small {d a b : Nat} (ha : a < N d) (hb : b < N d) (h : a < 2 ∨ b < 2) : nim d a b = a * b := by
  have F := fld d
  have z := N_pos d
  rcases h with h | h
  · rcases (show a = 0 ∨ a = 1 by omega) with rfl | rfl
    · rw [F.comm z hb, F.zero hb z, Nat.zero_mul]
    · rw [F.one hb, Nat.one_mul]
  · rcases (show b = 0 ∨ b = 1 by omega) with rfl | rfl
    · rw [F.zero ha z, Nat.mul_zero]
    · rw [F.comm ha (by have := two_le_N d; omega), F.one ha, Nat.mul_one]
theorem pI_small {a b d : Int} (a0 : 0 ≤ a) (b0 : 0 ≤ b) (d0 : 0 ≤ d) (hd : d < 5) (ha : a.toNat < N d.toNat) (hb : b.toNat < N d.toNat) (h : a < 2 ∨ b < 2) :
    a * b = pI a b d := by
  obtain ⟨a, rfl⟩ := Int.eq_ofNat_of_zero_le a0
  obtain ⟨b, rfl⟩ := Int.eq_ofNat_of_zero_le b0
  obtain ⟨d, rfl⟩ := Int.eq_ofNat_of_zero_le d0
  simp only [Int.toNat_natCast] at ha hb
  rw [pI_nat (by omega) ha hb, small ha hb (by omega)]
  exact (Int.natCast_mul a b).symm
theorem xI_nat (a b : Nat) : xI (a : Int) (b : Int) = ((a ^^^ b : Nat) : Int) := rfl
theorem pI_turn {a b : Int} (e : Nat) (he : e < 4) (a0 : 0 ≤ a) (b0 : 0 ≤ b) (ha : a.toNat < N (e + 1)) (hb : b.toNat < N (e + 1)) (B : Int) (hB : B = (N e : Nat)) :
    xI (xI (xI (pI (xI (a / B) (a % B)) (xI (b / B) (b % B)) e) (pI (a % B) (b % B) e) * B) (pI (pI (a / B) (b / B) e) (B / 2) e)) (pI (a % B) (b % B) e)
      = pI a b ((e : Int) + 1) := by
  obtain ⟨a, rfl⟩ := Int.eq_ofNat_of_zero_le a0
  obtain ⟨b, rfl⟩ := Int.eq_ofNat_of_zero_le b0
  simp only [Int.toNat_natCast] at ha hb
  subst hB
  have a1 := div_lt ha
  have a2 : a % N e < N e := mod_lt
  have b1 := div_lt hb
  have b2 : b % N e < N e := mod_lt
  have k := half_lt e
  have F := fld e
  have he5 : e < 5 := by omega
  have c1 : ((a : Int) / (N e : Nat)) = ((a / N e : Nat) : Int) := rfl
  have c2 : ((a : Int) % (N e : Nat)) = ((a % N e : Nat) : Int) := rfl
  have c3 : ((b : Int) / (N e : Nat)) = ((b / N e : Nat) : Int) := rfl
  have c4 : ((b : Int) % (N e : Nat)) = ((b % N e : Nat) : Int) := rfl
  have c5 : (((N e : Nat) : Int) / 2) = ((N e / 2 : Nat) : Int) := rfl
  have c6 : ((e : Int) + 1) = ((e + 1 : Nat) : Int) := rfl
  rw [c1, c2, c3, c4, c5, c6, xI_nat, xI_nat, pI_nat he5 (xor_lt a1 a2) (xor_lt b1 b2), pI_nat he5 a2 b2, pI_nat he5 a1 b1, pI_nat he5 (F.lt a1 b1) k,
    xI_nat, ← Int.natCast_mul, xI_nat, xI_nat, pI_nat (by omega) ha hb]
  rfl
theorem turn1 {a b : Int} (a0 : 0 ≤ a) (b0 : 0 ≤ b) (ha : a < 4) (hb : b < 4) :
    xI (xI (xI (pI (xI (a / 2) (a % 2)) (xI (b / 2) (b % 2)) 0) (pI (a % 2) (b % 2) 0) * 2) (pI (pI (a / 2) (b / 2) 0) 1 0)) (pI (a % 2) (b % 2) 0) = pI a b 1 :=
  pI_turn 0 (by decide) a0 b0 (by rw [N1]; omega) (by rw [N1]; omega) 2 (by decide)
theorem turn2 {a b : Int} (a0 : 0 ≤ a) (b0 : 0 ≤ b) (ha : a < 16) (hb : b < 16) :
    xI (xI (xI (pI (xI (a / 4) (a % 4)) (xI (b / 4) (b % 4)) 1) (pI (a % 4) (b % 4) 1) * 4) (pI (pI (a / 4) (b / 4) 1) 2 1)) (pI (a % 4) (b % 4) 1) = pI a b 2 :=
  pI_turn 1 (by decide) a0 b0 (by rw [N2]; omega) (by rw [N2]; omega) 4 (by decide)
theorem turn3 {a b : Int} (a0 : 0 ≤ a) (b0 : 0 ≤ b) (ha : a < 256) (hb : b < 256) :
    xI (xI (xI (pI (xI (a / 16) (a % 16)) (xI (b / 16) (b % 16)) 2) (pI (a % 16) (b % 16) 2) * 16) (pI (pI (a / 16) (b / 16) 2) 8 2)) (pI (a % 16) (b % 16) 2) = pI a b 3 :=
  pI_turn 2 (by decide) a0 b0 (by rw [N3]; omega) (by rw [N3]; omega) 16 (by decide)
theorem turn4 {a b : Int} (a0 : 0 ≤ a) (b0 : 0 ≤ b) (ha : a < 65536) (hb : b < 65536) :
    xI (xI (xI (pI (xI (a / 256) (a % 256)) (xI (b / 256) (b % 256)) 3) (pI (a % 256) (b % 256) 3) * 256) (pI (pI (a / 256) (b / 256) 3) 128 3)) (pI (a % 256) (b % 256) 3) = pI a b 4 :=
  pI_turn 3 (by decide) a0 b0 (by rw [N4]; omega) (by rw [N4]; omega) 256 (by decide)
noncomputable def tI (a b : Int) : Int := pI a b 4
theorem F4 : Fld 65536 (nim 4) := by have := fld 4; rwa [N4] at this
theorem nim_up {d a b : Nat} (ha : a < N d) (hb : b < N d) : nim (d + 1) a b = nim d a b := by
  have F := fld d
  have z := N_pos d
  have h := Nat.mul_le_mul_left (N d) (N_pos d)
  have up : N d ≤ N (d + 1) := by rw [N_succ]; omega
  rw [nim_succ F (by omega) (by omega), Nat.div_eq_of_lt ha, Nat.div_eq_of_lt hb, Nat.mod_eq_of_lt ha, Nat.mod_eq_of_lt hb]
  rw [F.zero z z, F.comm z hb, F.zero hb z, F.zero ha z, F.comm z (half_lt d), F.zero (half_lt d) z]
  simp
end Nim
set_option maxHeartbeats 4000000
namespace Row
noncomputable def xs {α : Type} (f : α → Nat) : List α → Nat
  | [] => 0
  | a :: r => f a ^^^ xs f r
theorem xs_append {α : Type} (f : α → Nat) : ∀ l r : List α, xs f (l ++ r) = xs f l ^^^ xs f r
  | [], r => by simp [xs]
  | a :: l, r => by simp [xs, xs_append f l r, Nat.xor_assoc]
theorem xs_congr {α : Type} {f g : α → Nat} : ∀ {l : List α}, (∀ a ∈ l, f a = g a) → xs f l = xs g l
  | [], _ => rfl
  | a :: l, h => by
    simp only [xs]
    rw [h a List.mem_cons_self, xs_congr fun b hb => h b (List.mem_cons_of_mem _ hb)]
theorem xs_map {α β : Type} (f : β → Nat) (g : α → β) : ∀ l : List α, xs f (l.map g) = xs (fun a => f (g a)) l
  | [] => rfl
  | a :: l => by simp [xs, xs_map f g l]
theorem xs_lt {α : Type} {f : α → Nat} {k : Nat} : ∀ {l : List α}, (∀ a ∈ l, f a < 2 ^ k) → xs f l < 2 ^ k
  | [], _ => Nat.two_pow_pos k
  | a :: l, h => Nat.xor_lt_two_pow (h a List.mem_cons_self) (xs_lt fun b hb => h b (List.mem_cons_of_mem _ hb))
theorem xs_filter_ite {α : Type} (f : α → Nat) (p : α → Bool) : ∀ l : List α, xs f (l.filter p) = xs (fun a => if p a then f a else 0) l
  | [] => rfl
  | a :: l => by
    rw [List.filter_cons]
    cases h : p a <;> simp [xs, h, xs_filter_ite f p l]
theorem xs_xor {α : Type} (f g : α → Nat) : ∀ l : List α, xs (fun a => f a ^^^ g a) l = xs f l ^^^ xs g l
  | [] => by simp [xs]
  | a :: l => by
    simp only [xs, xs_xor f g l]
    ac_rfl
theorem xs_turned {α : Type} (f : α → Nat) (p q : α → Bool) (l : List α) : xs f (l.filter fun a => p a != q a) = xs f (l.filter p) ^^^ xs f (l.filter q) := by
  rw [xs_filter_ite, xs_filter_ite, xs_filter_ite, ← xs_xor]
  apply xs_congr
  intro a _
  cases p a <;> cases q a <;> simp
theorem xs_testBit {α : Type} (f : α → Nat) (i : Nat) : ∀ l : List α, (xs f l).testBit i = true → ∃ a ∈ l, (f a).testBit i = true
  | [], h => by simp [xs] at h
  | a :: l, h => by
    cases e : (f a).testBit i with
    | true => exact ⟨a, List.mem_cons_self, e⟩
    | false =>
      simp only [xs, Nat.testBit_xor, e, Bool.false_xor] at h
      obtain ⟨b, hb, q⟩ := xs_testBit f i l h
      exact ⟨b, List.mem_cons_of_mem _ hb, q⟩
noncomputable def mexGo (S : List Nat) : Nat → Nat → Nat
  | 0, n => n
  | k + 1, n => if n ∈ S then mexGo S k (n + 1) else n
noncomputable def mex (S : List Nat) : Nat := mexGo S S.length 0
theorem len_ge : ∀ (n : Nat) {S : List Nat}, (∀ m, m < n → m ∈ S) → n ≤ S.length
  | 0, _, _ => Nat.zero_le _
  | n + 1, S, h => by
    have hn : n ∈ S := h n (Nat.lt_succ_self n)
    have i := len_ge n (S := S.erase n) fun m hm => (List.mem_erase_of_ne (Nat.ne_of_lt hm)).mpr (h m (Nat.lt_succ_of_lt hm))
    rw [List.length_erase_of_mem hn] at i
    have := List.length_pos_of_mem hn
    omega
theorem mexGo_all {S : List Nat} : ∀ (k n : Nat), (∀ m, m < n → m ∈ S) → ∀ m, m < mexGo S k n → m ∈ S
  | 0, n, h => h
  | k + 1, n, h => by
    unfold mexGo
    by_cases c : n ∈ S
    · rw [if_pos c]
      exact mexGo_all k (n + 1) fun m hm => (Nat.lt_succ_iff_lt_or_eq.mp hm).elim (h m) fun e => e ▸ c
    · rw [if_neg c]
      exact h
theorem mexGo_not {S : List Nat} : ∀ (k n : Nat), (∀ m, m < n → m ∈ S) → S.length ≤ n + k → mexGo S k n ∉ S
  | 0, n, h, hl => by
    unfold mexGo
    intro c
    have := len_ge (n + 1) (S := S) fun m hm => (Nat.lt_succ_iff_lt_or_eq.mp hm).elim (h m) fun e => e ▸ c
    omega
  | k + 1, n, h, hl => by
    unfold mexGo
    by_cases c : n ∈ S
    · rw [if_pos c]
      exact mexGo_not k (n + 1) (fun m hm => (Nat.lt_succ_iff_lt_or_eq.mp hm).elim (h m) fun e => e ▸ c) (by omega)
    · rw [if_neg c]
      exact c
theorem mex_all {S : List Nat} {m : Nat} (h : m < mex S) : m ∈ S := mexGo_all S.length 0 (fun _ h => absurd h (Nat.not_lt_zero _)) m h
theorem mex_not (S : List Nat) : mex S ∉ S := mexGo_not S.length 0 (fun _ h => absurd h (Nat.not_lt_zero _)) (by omega)
theorem mex_le (S : List Nat) : mex S ≤ S.length := len_ge _ fun _ h => mex_all h
theorem mex_is {S : List Nat} {n : Nat} (h1 : ∀ m, m < n → m ∈ S) (h2 : n ∉ S) : mex S = n := by
  rcases Nat.lt_trichotomy (mex S) n with h | h | h
  · exact absurd (h1 _ h) (mex_not S)
  · exact h
  · exact absurd (mex_all h) h2
theorem mex_congr {S T : List Nat} (h : ∀ m, m ∈ S ↔ m ∈ T) : mex S = mex T :=
  mex_is (fun _ hm => (h _).mpr (mex_all hm)) (fun q => mex_not T ((h _).mp q))
noncomputable abbrev Rule := Nat × Nat
noncomputable def shapes (r : Rule) (last : Nat) : List (List Nat) :=
  (List.range' 1 r.2).flatMap fun many =>
    if r.1 = 2 then (if many ≤ last + 1 then [(List.range many).map fun k => last + 1 - many + k] else [])
    else if r.1 = 0 ∨ many = r.2 then
      (if many = 1 then [[last]] else []) ++ (if many = 2 then (List.range last).map fun one => [one, last] else []) ++
      (if many = 3 then (List.range last).flatMap fun one => (List.range' (one + 1) (last - (one + 1))).map fun two => [one, two, last] else [])
    else []
noncomputable def IsShape (last : Nat) (s : List Nat) : Prop := ∃ a : List Nat, s = a ++ [last] ∧ (∀ p ∈ a, p < last) ∧ a.Pairwise (· < ·)
theorem shapes_is {r : Rule} {last : Nat} {s : List Nat} (h : s ∈ shapes r last) : IsShape last s := by
  unfold shapes at h
  obtain ⟨many, hm, h⟩ := List.mem_flatMap.mp h
  rw [List.mem_range'_1] at hm
  by_cases c : r.1 = 2
  · rw [if_pos c] at h
    by_cases d : many ≤ last + 1
    · rw [if_pos d] at h
      have h := List.mem_singleton.mp h
      obtain ⟨k, rfl⟩ : ∃ k, many = k + 1 := ⟨many - 1, by omega⟩
      refine ⟨(List.range k).map fun j => last + 1 - (k + 1) + j, ?_, ?_, ?_⟩
      · rw [h, List.range_succ, List.map_append]
        simp
        omega
      · intro p hp
        obtain ⟨j, hj, rfl⟩ := List.mem_map.mp hp
        have := List.mem_range.mp hj
        omega
      · rw [List.pairwise_map]
        exact List.Pairwise.imp (fun h => by omega) List.pairwise_lt_range
    · rw [if_neg d] at h
      exact absurd h (by simp)
  · rw [if_neg c] at h
    by_cases d : r.1 = 0 ∨ many = r.2
    · rw [if_pos d] at h
      rcases List.mem_append.mp h with h | h
      · rcases List.mem_append.mp h with h | h
        · split at h
          · exact ⟨[], by simpa using h, by simp, by simp⟩
          · exact absurd h (by simp)
        · split at h
          · obtain ⟨one, ho, rfl⟩ := List.mem_map.mp h
            exact ⟨[one], rfl, by simpa using List.mem_range.mp ho, by simp⟩
          · exact absurd h (by simp)
      · split at h
        · obtain ⟨one, ho, h⟩ := List.mem_flatMap.mp h
          obtain ⟨two, ht, rfl⟩ := List.mem_map.mp h
          rw [List.mem_range'_1] at ht
          have ho := List.mem_range.mp ho
          exact ⟨[one, two], rfl, by intro p hp; simp at hp; omega, by simp; omega⟩
        · exact absurd h (by simp)
    · rw [if_neg d] at h
      exact absurd h (by simp)
noncomputable def at0 (told : List Nat) (p : Nat) : Nat := told.getD p 0
noncomputable def reach (r : Rule) (told : List Nat) (last : Nat) : List Nat := (shapes r last).map fun s => xs (at0 told) s.dropLast
noncomputable def nums (r : Rule) : Nat → List Nat
  | 0 => []
  | n + 1 => nums r n ++ [mex (reach r (nums r n) n)]
theorem nums_length (r : Rule) : ∀ n, (nums r n).length = n
  | 0 => rfl
  | n + 1 => by simp [nums, nums_length r n]
noncomputable def num (r : Rule) (p : Nat) : Nat := mex (reach r (nums r p) p)
theorem nums_at (r : Rule) : ∀ {n p : Nat}, p < n → at0 (nums r n) p = num r p
  | 0, p, h => absurd h (Nat.not_lt_zero _)
  | n + 1, p, h => by
    unfold at0
    by_cases c : p < n
    · have ih := nums_at r c
      unfold at0 at ih
      rw [List.getD_eq_getElem?_getD] at ih ⊢
      show ((nums r n ++ _)[p]?).getD 0 = _
      rw [List.getElem?_append_left (by rw [nums_length]; exact c)]
      exact ih
    · have e : p = n := by omega
      subst e
      rw [List.getD_eq_getElem?_getD]
      show ((nums r p ++ [num r p])[p]?).getD 0 = _
      rw [List.getElem?_append_right (by rw [nums_length]; exact Nat.le_refl _), nums_length]
      simp
theorem reach_eq (r : Rule) (last : Nat) {n : Nat} (h : last ≤ n) : reach r (nums r n) last = (shapes r last).map fun s => xs (num r) s.dropLast := by
  unfold reach
  apply List.map_congr_left
  intro s hs
  obtain ⟨a, rfl, hl, _⟩ := shapes_is hs
  rw [List.dropLast_concat]
  exact xs_congr fun p hp => nums_at r (by have := hl p hp; omega)
theorem num_eq (r : Rule) (p : Nat) : num r p = mex ((shapes r p).map fun s => xs (num r) s.dropLast) := by
  rw [num, reach_eq r p (Nat.le_refl _)]
theorem turn_not_zero {r : Rule} {last : Nat} {s : List Nat} (h : s ∈ shapes r last) : xs (num r) s ≠ 0 := by
  obtain ⟨a, rfl, _, _⟩ := shapes_is h
  intro e
  rw [xs_append] at e
  have e2 : xs (num r) a = num r last := by
    have e1 : xs (num r) [last] = num r last := by simp [xs]
    rw [e1] at e
    have := congrArg (· ^^^ num r last) e
    simp only [Nat.xor_assoc, Nat.xor_self, Nat.xor_zero, Nat.zero_xor] at this
    exact this
  have m : num r last ∈ (shapes r last).map fun s => xs (num r) s.dropLast :=
    List.mem_map.mpr ⟨_, h, by simpa using e2⟩
  have := mex_not ((shapes r last).map fun s => xs (num r) s.dropLast)
  rw [← num_eq] at this
  exact this m
theorem xor_lt_self {a v : Nat} (hv : v ≠ 0) (h : a.testBit v.log2 = true) : a ^^^ v < a := by
  have e1 : v / 2 ^ v.log2 = 1 := by
    have l1 := Nat.log2_self_le hv
    have l2 : v < 2 ^ (v.log2 + 1) := Nat.lt_log2_self
    rw [Nat.pow_succ] at l2
    exact Nat.div_eq_of_lt_le (by omega) (by omega)
  have odd : a / 2 ^ v.log2 % 2 = 1 := by
    rw [Nat.testBit_eq_decide_div_mod_eq] at h
    exact of_decide_eq_true h
  generalize v.log2 = k at e1 odd
  have q : (a ^^^ v) / 2 ^ k = a / 2 ^ k ^^^ 1 := by rw [Nat.xor_div_two_pow, e1]
  have q2 : (a / 2 ^ k ^^^ 1) / 2 = a / 2 ^ k / 2 := by rw [Nat.xor_div_two]; simp
  have q3 : (a / 2 ^ k ^^^ 1) % 2 = 0 := by
    have := @Nat.xor_mod_two_pow (a / 2 ^ k) 1 1
    simp only [Nat.pow_one] at this
    rw [this, odd]
    all_goals rfl
  have lt : (a ^^^ v) / 2 ^ k < a / 2 ^ k := by rw [q]; omega
  exact Nat.lt_of_not_le fun z => absurd (Nat.div_le_div_right (c := 2 ^ k) z) (by omega)
end Row
set_option maxHeartbeats 4000000
namespace Nim
theorem nodup_len : ∀ (n : Nat) {L : List Nat}, L.Nodup → (∀ m ∈ L, m < n) → L.length ≤ n
  | 0, L, _, h => by
    cases L with
    | nil => exact Nat.le_refl _
    | cons a r => exact absurd (h a List.mem_cons_self) (Nat.not_lt_zero _)
  | n + 1, L, hn, h => by
    have i := nodup_len n (L := L.erase n) (hn.erase n) fun m hm => by
      have h1 := h m (List.mem_of_mem_erase hm)
      have h2 : m ≠ n := fun e => by
        subst e
        exact absurd hm hn.not_mem_erase
      omega
    have := @List.length_erase Nat _ _ n L
    split at this <;> omega
theorem onto {n : Nat} {f : Nat → Nat} (hf : ∀ a, a < n → f a < n) (inj : ∀ a b, a < n → b < n → f a = f b → a = b) {c : Nat} (hc : c < n) : ∃ a, a < n ∧ f a = c := by
  refine Classical.byContradiction fun no => ?_
  have nd : ((List.range n).map f).Nodup := by
    rw [List.nodup_iff_pairwise_ne, List.pairwise_map]
    refine List.Pairwise.imp_of_mem (fun {a b} ha hb hab e => hab (inj a b (List.mem_range.mp ha) (List.mem_range.mp hb) e)) (List.nodup_iff_pairwise_ne.mp List.nodup_range)
  have nd2 : (c :: (List.range n).map f).Nodup := List.nodup_cons.mpr ⟨fun m => by
    obtain ⟨a, ha, e⟩ := List.mem_map.mp m
    exact no ⟨a, List.mem_range.mp ha, e⟩, nd⟩
  have := nodup_len n nd2 fun m hm => by
    rcases List.mem_cons.mp hm with rfl | hm
    · exact hc
    · obtain ⟨a, ha, rfl⟩ := List.mem_map.mp hm
      exact hf a (List.mem_range.mp ha)
  rw [List.length_cons, List.length_map, List.length_range] at this
  omega
noncomputable def NoZero (n : Nat) (m : Nat → Nat → Nat) : Prop := ∀ a b, a < n → b < n → m a b = 0 → a = 0 ∨ b = 0
noncomputable def NoRoot (d : Nat) : Prop := ∀ t, t < N d → nim d t t ^^^ t ≠ N d / 2
theorem xor_eq_zero {a b : Nat} (h : a ^^^ b = 0) : a = b := by
  have := congrArg (· ^^^ b) h
  simpa [Nat.xor_assoc] using this
theorem noZero0 : NoZero (N 0) (nim 0) := by
  intro a b ha hb h
  exact Nat.mul_eq_zero.mp h
theorem noZeroS {d : Nat} (Z : NoZero (N d) (nim d)) (R : NoRoot d) : NoZero (N (d + 1)) (nim (d + 1)) := by
  have F := fld d
  have G := fld (d + 1)
  have z := N_pos d
  have k := half_lt d
  intro a b ha hb h
  have a1 := div_lt ha
  have a0 : a % N d < N d := mod_lt
  have b1 := div_lt hb
  have b0 : b % N d < N d := mod_lt
  have lc : (a / N d) * N d ^^^ (a % N d ^^^ a / N d) < N (d + 1) := pack_lt a1 (xor_lt a0 a1)
  have e1 : nim (d + 1) ((a / N d) * N d ^^^ (a % N d ^^^ a / N d)) a = nim d (a % N d) (a % N d) ^^^ nim d (a % N d) (a / N d) ^^^ nim d (nim d (a / N d) (a / N d)) (N d / 2) := by
    rw [nim_succ F lc ha, pack_div (xor_lt a0 a1), pack_mod (xor_lt a0 a1)]
    have s1 : nim d (a % N d ^^^ a / N d) (a / N d) = nim d (a % N d) (a / N d) ^^^ nim d (a / N d) (a / N d) := by
      rw [F.comm (xor_lt a0 a1) a1, F.add a1 a0 a1, F.comm a1 a0]
    have s0 : nim d (a % N d ^^^ a / N d) (a % N d) = nim d (a % N d) (a % N d) ^^^ nim d (a % N d) (a / N d) := by
      rw [F.comm (xor_lt a0 a1) a0, F.add a0 a0 a1]
    rw [s1, s0, F.comm a1 a0]
    generalize nim d (a / N d) (a / N d) = p
    generalize nim d (a % N d) (a / N d) = q
    have e : (p ^^^ q ^^^ (q ^^^ p)) = 0 := by rw [Nat.xor_comm q p, Nat.xor_self]
    rw [e, Nat.zero_mul, Nat.zero_xor]
    ac_rfl
  generalize hn : nim d (a % N d) (a % N d) ^^^ nim d (a % N d) (a / N d) ^^^ nim d (nim d (a / N d) (a / N d)) (N d / 2) = n at e1
  have nl : n < N d := by
    rw [← hn]
    exact xor_lt (xor_lt (F.lt a0 a0) (F.lt a0 a1)) (F.lt (F.lt a1 a1) k)
  have up : N d ≤ N (d + 1) := by have h := Nat.mul_le_mul_left (N d) (N_pos d); rw [N_succ]; omega
  have e2 : nim (d + 1) n b = 0 := by
    rw [← e1, G.assoc lc ha hb, h]
    exact G.zero lc (N_pos _)
  rw [nim_succ F (by omega) hb, Nat.div_eq_of_lt nl, Nat.mod_eq_of_lt nl, F.comm z b1, F.zero b1 z, F.comm z b0, F.zero b0 z, F.comm z k, F.zero k z, Nat.zero_xor, Nat.zero_xor, Nat.zero_xor] at e2
  have p1 := pack_div (d := d) (x := nim d n (b / N d)) (F.lt nl b0)
  have p0 := pack_mod (d := d) (x := nim d n (b / N d)) (F.lt nl b0)
  rw [e2, Nat.zero_div] at p1
  rw [e2, Nat.zero_mod] at p0
  rcases Z n (b / N d) nl b1 p1.symm with c | c
  · -- the norm is nought
    left
    rw [c] at hn
    by_cases c1 : a / N d = 0
    · rw [c1, F.zero a0 z, F.zero z z, F.comm z k, F.zero k z, Nat.xor_zero, Nat.xor_zero] at hn
      have c0 := (Z _ _ a0 a0 hn).elim id id
      have := Nat.div_add_mod a (N d)
      rw [c1, c0] at this
      omega
    · exfalso
      obtain ⟨t, ht, et⟩ := onto (n := N d) (f := fun t => nim d t (a / N d)) (fun t ht => F.lt ht a1) (fun u v hu hv e => by
        have e3 : nim d (u ^^^ v) (a / N d) = 0 := by
          rw [F.comm (xor_lt hu hv) a1, F.add a1 hu hv, F.comm a1 hu, F.comm a1 hv]
          have e : nim d u (a / N d) = nim d v (a / N d) := e
          rw [e, Nat.xor_self]
        exact (Z _ _ (xor_lt hu hv) a1 e3).elim xor_eq_zero fun q => absurd q c1) a0
      have et : nim d t (a / N d) = a % N d := et
      generalize a / N d = y at *
      generalize a % N d = x at *
      rw [← et] at hn
      have m1 : nim d (nim d t y) (nim d t y) = nim d (nim d t t) (nim d y y) := by
        rw [F.assoc ht a1 (F.lt ht a1), ← F.assoc a1 ht a1, F.comm a1 ht, F.assoc ht a1 a1, ← F.assoc ht ht (F.lt a1 a1)]
      have m2 : nim d (nim d t y) y = nim d t (nim d y y) := F.assoc ht a1 a1
      have yy := F.lt a1 a1
      rw [m1, m2, F.comm (F.lt ht ht) yy, F.comm ht yy, ← F.add yy (F.lt ht ht) ht, ← F.add yy (xor_lt (F.lt ht ht) ht) k] at hn
      rcases Z _ _ yy (xor_lt (xor_lt (F.lt ht ht) ht) k) hn with q | q
      · exact c1 ((Z _ _ a1 a1 q).elim id id)
      · exact R t ht (xor_eq_zero q)
  · rcases Z n (b % N d) nl b0 p0.symm with c' | c'
    · -- the same norm
      left
      rw [c'] at hn
      by_cases c1 : a / N d = 0
      · rw [c1, F.zero a0 z, F.zero z z, F.comm z k, F.zero k z, Nat.xor_zero, Nat.xor_zero] at hn
        have c0 := (Z _ _ a0 a0 hn).elim id id
        have := Nat.div_add_mod a (N d)
        rw [c1, c0] at this
        omega
      · exfalso
        obtain ⟨t, ht, et⟩ := onto (n := N d) (f := fun t => nim d t (a / N d)) (fun t ht => F.lt ht a1) (fun u v hu hv e => by
          have e3 : nim d (u ^^^ v) (a / N d) = 0 := by
            rw [F.comm (xor_lt hu hv) a1, F.add a1 hu hv, F.comm a1 hu, F.comm a1 hv]
            have e : nim d u (a / N d) = nim d v (a / N d) := e
            rw [e, Nat.xor_self]
          exact (Z _ _ (xor_lt hu hv) a1 e3).elim xor_eq_zero fun q => absurd q c1) a0
        have et : nim d t (a / N d) = a % N d := et
        generalize a / N d = y at *
        generalize a % N d = x at *
        rw [← et] at hn
        have m1 : nim d (nim d t y) (nim d t y) = nim d (nim d t t) (nim d y y) := by
          rw [F.assoc ht a1 (F.lt ht a1), ← F.assoc a1 ht a1, F.comm a1 ht, F.assoc ht a1 a1, ← F.assoc ht ht (F.lt a1 a1)]
        have m2 : nim d (nim d t y) y = nim d t (nim d y y) := F.assoc ht a1 a1
        have yy := F.lt a1 a1
        rw [m1, m2, F.comm (F.lt ht ht) yy, F.comm ht yy, ← F.add yy (F.lt ht ht) ht, ← F.add yy (xor_lt (F.lt ht ht) ht) k] at hn
        rcases Z _ _ yy (xor_lt (xor_lt (F.lt ht ht) ht) k) hn with q | q
        · exact c1 ((Z _ _ a1 a1 q).elim id id)
        · exact R t ht (xor_eq_zero q)
    · right
      have := Nat.div_add_mod b (N d)
      rw [c, c'] at this
      omega
noncomputable def noRootB (d n : Nat) : Bool := (List.range n).all fun t => nim d t t ^^^ t != N d / 2
theorem noRoot_of {d n : Nat} (hn : N d = n) (h : noRootB d n = true) : NoRoot d := by
  intro t ht
  have := List.all_eq_true.mp h t (List.mem_range.mpr (by omega))
  simpa using this
theorem root0 : NoRoot 0 := noRoot_of N0 (by decide +kernel)
theorem root1 : NoRoot 1 := noRoot_of N1 (by decide +kernel)
theorem root2 : NoRoot 2 := noRoot_of N2 (by decide +kernel)
theorem root3 : NoRoot 3 := noRoot_of N3 (by decide +kernel)
theorem noZero : NoZero 65536 (nim 4) := by
  have := noZeroS (noZeroS (noZeroS (noZeroS noZero0 root0) root1) root2) root3
  rw [N4] at this
  exact this
noncomputable def tab : List (List Nat) := [[0, 0, 0, 0, 0, 0, 0, 0, 0, 0, 0, 0, 0, 0, 0, 0, 0],
  [0, 1, 2, 3, 4, 5, 6, 7, 8, 9, 10, 11, 12, 13, 14, 15, 16],
  [0, 2, 3, 1, 8, 10, 11, 9, 12, 14, 15, 13, 4, 6, 7, 5, 32],
  [0, 3, 1, 2, 12, 15, 13, 14, 4, 7, 5, 6, 8, 11, 9, 10, 48],
  [0, 4, 8, 12, 6, 2, 14, 10, 11, 15, 3, 7, 13, 9, 5, 1, 64],
  [0, 5, 10, 15, 2, 7, 8, 13, 3, 6, 9, 12, 1, 4, 11, 14, 80],
  [0, 6, 11, 13, 14, 8, 5, 3, 7, 1, 12, 10, 9, 15, 2, 4, 96],
  [0, 7, 9, 14, 10, 13, 3, 4, 15, 8, 6, 1, 5, 2, 12, 11, 112],
  [0, 8, 12, 4, 11, 3, 7, 15, 13, 5, 1, 9, 6, 14, 10, 2, 128],
  [0, 9, 14, 7, 15, 6, 1, 8, 5, 12, 11, 2, 10, 3, 4, 13, 144],
  [0, 10, 15, 5, 3, 9, 12, 6, 1, 11, 14, 4, 2, 8, 13, 7, 160],
  [0, 11, 13, 6, 7, 12, 10, 1, 9, 2, 4, 15, 14, 5, 3, 8, 176],
  [0, 12, 4, 8, 13, 1, 9, 5, 6, 10, 2, 14, 11, 7, 15, 3, 192],
  [0, 13, 6, 11, 9, 4, 15, 2, 14, 3, 8, 5, 7, 10, 1, 12, 208],
  [0, 14, 7, 9, 5, 11, 2, 12, 10, 4, 13, 3, 15, 1, 8, 6, 224],
  [0, 15, 5, 10, 1, 14, 4, 11, 2, 13, 7, 8, 3, 12, 6, 9, 240],
  [0, 16, 32, 48, 64, 80, 96, 112, 128, 144, 160, 176, 192, 208, 224, 240, 24]]
noncomputable def tb (a b : Nat) : Nat := (tab.getD a []).getD b 0
theorem tab_ok : ((List.range 17).all fun a => (List.range 17).all fun b => tb a b == nim 4 a b) = true := by decide +kernel
theorem tb_eq {a b : Nat} (ha : a < 17) (hb : b < 17) : tb a b = nim 4 a b := by
  have h := List.all_eq_true.mp (List.all_eq_true.mp tab_ok a (List.mem_range.mpr ha)) b (List.mem_range.mpr hb)
  simpa using h
noncomputable def maskD (a b c : Nat) : Nat → Nat
  | 0 => 0
  | d + 1 => maskD a b c d ||| 1 <<< (tb c b ^^^ tb a d ^^^ tb c d)
noncomputable def maskC (a b : Nat) : Nat → Nat
  | 0 => 0
  | c + 1 => maskC a b c ||| maskD a b c b
theorem maskD_bit {a b c w : Nat} : ∀ {d : Nat}, (maskD a b c d).testBit w = true → ∃ e, e < d ∧ tb c b ^^^ tb a e ^^^ tb c e = w
  | 0, h => by simp [maskD] at h
  | d + 1, h => by
    unfold maskD at h
    rw [Nat.testBit_or, Bool.or_eq_true] at h
    rcases h with h | h
    · obtain ⟨e, he, q⟩ := maskD_bit h
      exact ⟨e, by omega, q⟩
    · refine ⟨d, by omega, ?_⟩
      rw [Nat.testBit_shiftLeft, Bool.and_eq_true] at h
      obtain ⟨h1, h2⟩ := h
      have h1 := of_decide_eq_true h1
      have h3 : w - (tb c b ^^^ tb a d ^^^ tb c d) = 0 := Nat.testBit_one_eq_true_iff_self_eq_zero.mp h2
      omega
theorem maskC_bit {a b w : Nat} : ∀ {n : Nat}, (maskC a b n).testBit w = true → ∃ c, c < n ∧ ∃ e, e < b ∧ tb c b ^^^ tb a e ^^^ tb c e = w
  | 0, h => by simp [maskC] at h
  | n + 1, h => by
    unfold maskC at h
    rw [Nat.testBit_or, Bool.or_eq_true] at h
    rcases h with h | h
    · obtain ⟨c, hc, q⟩ := maskC_bit h
      exact ⟨c, by omega, q⟩
    · exact ⟨n, by omega, maskD_bit h⟩
theorem mask_ok : ((List.range 17).all fun a => (List.range 17).all fun b => maskC a b a % 2 ^ tb a b == 2 ^ tb a b - 1) = true := by decide +kernel
theorem reached {a b w : Nat} (ha : a < 17) (hb : b < 17) (hw : w < nim 4 a b) : ∃ c, c < a ∧ ∃ e, e < b ∧ nim 4 c b ^^^ nim 4 a e ^^^ nim 4 c e = w := by
  have h := List.all_eq_true.mp (List.all_eq_true.mp mask_ok a (List.mem_range.mpr ha)) b (List.mem_range.mpr hb)
  have h : maskC a b a % 2 ^ tb a b = 2 ^ tb a b - 1 := by simpa using h
  rw [← tb_eq ha hb] at hw
  have t : (maskC a b a).testBit w = true := by
    have q := congrArg (fun n => n.testBit w) h
    simp only [Nat.testBit_mod_two_pow, Nat.testBit_two_pow_sub_one, decide_eq_true hw, Bool.true_and] at q
    exact q
  obtain ⟨c, hc, e, he, q⟩ := maskC_bit t
  refine ⟨c, hc, e, he, ?_⟩
  rw [← tb_eq (by omega) hb, ← tb_eq ha (by omega), ← tb_eq (by omega) (by omega)]
  exact q
theorem mul_xor {a b c e : Nat} (ha : a < 65536) (hb : b < 65536) (hc : c < 65536) (he : e < 65536) : nim 4 (c ^^^ a) (e ^^^ b) = nim 4 a b ^^^ (nim 4 c b ^^^ nim 4 a e ^^^ nim 4 c e) := by
  have hx : ∀ {u v : Nat}, u < 65536 → v < 65536 → u ^^^ v < 65536 := fun hu hv => Nat.xor_lt_two_pow (n := 16) hu hv
  rw [F4.add (hx hc ha) he hb, F4.comm (hx hc ha) he, F4.comm (hx hc ha) hb, F4.add he hc ha, F4.add hb hc ha, F4.comm he hc, F4.comm he ha, F4.comm hb hc, F4.comm hb ha]
  ac_rfl
end Nim
namespace Row
open Nim
noncomputable def cross (as bs : List Nat) : List (Nat × Nat) := as.flatMap fun x => bs.map fun y => (x, y)
noncomputable def num2 (rx ry : Rule) (p : Nat × Nat) : Nat := nim 4 (num rx p.1) (num ry p.2)
theorem xs_mul {α : Type} {f : α → Nat} {a : Nat} (ha : a < 65536) : ∀ {l : List α}, (∀ b ∈ l, f b < 65536) → xs (fun b => nim 4 a (f b)) l = nim 4 a (xs f l)
  | [], _ => by rw [show xs f [] = 0 from rfl, F4.zero ha (by decide)]; rfl
  | b :: l, h => by
    have h1 := h b List.mem_cons_self
    have h2 : xs f l < 65536 := xs_lt (k := 16) fun c hc => h c (List.mem_cons_of_mem _ hc)
    simp only [xs]
    rw [xs_mul ha fun c hc => h c (List.mem_cons_of_mem _ hc), F4.add ha h1 h2]
theorem xs_cross {rx ry : Rule} {as bs : List Nat} (ha : ∀ p ∈ as, num rx p < 65536) (hb : ∀ p ∈ bs, num ry p < 65536) : xs (num2 rx ry) (cross as bs) = nim 4 (xs (num rx) as) (xs (num ry) bs) := by
  have hB : xs (num ry) bs < 65536 := xs_lt (k := 16) hb
  induction as with
  | nil =>
    show 0 = nim 4 0 _
    rw [F4.comm (by decide) hB, F4.zero hB (by decide)]
  | cons x as ih =>
    have h1 := ha x List.mem_cons_self
    have h2 : xs (num rx) as < 65536 := xs_lt (k := 16) fun c hc => ha c (List.mem_cons_of_mem _ hc)
    have e : cross (x :: as) bs = (bs.map fun y => (x, y)) ++ cross as bs := rfl
    rw [e, xs_append, ih fun p hp => ha p (List.mem_cons_of_mem _ hp), xs_map]
    show xs (fun y => nim 4 (num rx x) (num ry y)) bs ^^^ _ = _
    rw [xs_mul h1 hb]
    simp only [xs]
    rw [F4.comm (Nat.xor_lt_two_pow (n := 16) h1 h2) hB, F4.add hB h1 h2, F4.comm h1 hB, F4.comm h2 hB]
theorem turn2_not_zero {rx ry : Rule} {x y : Nat} {as bs : List Nat} (h1 : as ∈ shapes rx x) (h2 : bs ∈ shapes ry y) (ha : ∀ p, p ≤ x → num rx p < 65536) (hb : ∀ p, p ≤ y → num ry p < 65536) : xs (num2 rx ry) (cross as bs) ≠ 0 := by
  have le : ∀ {r : Rule} {l : Nat} {s : List Nat}, s ∈ shapes r l → ∀ p ∈ s, p ≤ l := fun h p hp => by
    obtain ⟨a, rfl, hl, _⟩ := shapes_is h
    rcases List.mem_append.mp hp with q | q
    · exact Nat.le_of_lt (hl p q)
    · rw [List.mem_singleton.mp q]; exact Nat.le_refl _
  have ha' : ∀ p ∈ as, num rx p < 65536 := fun p hp => ha p (le h1 p hp)
  have hb' : ∀ p ∈ bs, num ry p < 65536 := fun p hp => hb p (le h2 p hp)
  rw [xs_cross ha' hb']
  intro e
  rcases noZero _ _ (xs_lt (k := 16) ha') (xs_lt (k := 16) hb') e with q | q
  · exact turn_not_zero h1 q
  · exact turn_not_zero h2 q
theorem turn2_to_zero {rx ry : Rule} {heads : List (Nat × Nat)} (h : xs (num2 rx ry) heads ≠ 0) (hs : ∀ p ∈ heads, num rx p.1 < 17 ∧ num ry p.2 < 17) (ha : ∀ p ∈ heads, ∀ i, i ≤ p.1 → num rx i < 65536) (hb : ∀ p ∈ heads, ∀ i, i ≤ p.2 → num ry i < 65536) :
    ∃ p ∈ heads, ∃ as ∈ shapes rx p.1, ∃ bs ∈ shapes ry p.2, xs (num2 rx ry) (cross as bs) = xs (num2 rx ry) heads := by
  obtain ⟨p, hp, hbit⟩ := xs_testBit (num2 rx ry) _ heads (Nat.testBit_log2 h)
  have lt := xor_lt_self h hbit
  have A := hs p hp
  obtain ⟨c, hc, e, he, q⟩ := reached A.1 A.2 lt
  have hc' := hc
  have he' := he
  rw [num_eq] at hc he
  obtain ⟨sa, hsa, ea⟩ := List.mem_map.mp (mex_all hc)
  obtain ⟨sb, hsb, eb⟩ := List.mem_map.mp (mex_all he)
  refine ⟨p, hp, sa, hsa, sb, hsb, ?_⟩
  obtain ⟨a, rfl, hla, _⟩ := shapes_is hsa
  obtain ⟨b, rfl, hlb, _⟩ := shapes_is hsb
  rw [List.dropLast_concat] at ea eb
  have le1 : ∀ i ∈ a ++ [p.1], num rx i < 65536 := fun i hi => ha p hp i (by
    rcases List.mem_append.mp hi with z | z
    · exact Nat.le_of_lt (hla i z)
    · rw [List.mem_singleton.mp z]; exact Nat.le_refl _)
  have le2 : ∀ i ∈ b ++ [p.2], num ry i < 65536 := fun i hi => hb p hp i (by
    rcases List.mem_append.mp hi with z | z
    · exact Nat.le_of_lt (hlb i z)
    · rw [List.mem_singleton.mp z]; exact Nat.le_refl _)
  rw [xs_cross le1 le2, xs_append, xs_append, ea, eb]
  have s1 : xs (num rx) [p.1] = num rx p.1 := by simp [xs]
  have s2 : xs (num ry) [p.2] = num ry p.2 := by simp [xs]
  rw [s1, s2, mul_xor (by omega) (by omega) (by omega) (by omega), q]
  show nim 4 (num rx p.1) (num ry p.2) ^^^ (num2 rx ry p ^^^ _) = _
  rw [show nim 4 (num rx p.1) (num ry p.2) = num2 rx ry p from rfl, ← Nat.xor_assoc, Nat.xor_self, Nat.zero_xor]
end Row
set_option maxHeartbeats 4000000
namespace Row
noncomputable def Sorted (l : List Nat) : Prop := l.Pairwise (· < ·)
theorem sorted_ext : ∀ {l r : List Nat}, Sorted l → Sorted r → (∀ a, a ∈ l ↔ a ∈ r) → l = r
  | [], [], _, _, _ => rfl
  | [], b :: r, _, _, h => absurd ((h b).mpr List.mem_cons_self) (by simp)
  | a :: l, [], _, _, h => absurd ((h a).mp List.mem_cons_self) (by simp)
  | a :: l, b :: r, hl, hr, h => by
    obtain ⟨hl1, hl2⟩ := List.pairwise_cons.mp hl
    obtain ⟨hr1, hr2⟩ := List.pairwise_cons.mp hr
    have e : a = b := by
      rcases List.mem_cons.mp ((h a).mp List.mem_cons_self) with q | q
      · exact q
      · rcases List.mem_cons.mp ((h b).mpr List.mem_cons_self) with z | z
        · exact z.symm
        · have := hr1 a q
          have := hl1 b z
          omega
    subst e
    rw [sorted_ext hl2 hr2 fun c => ?_]
    constructor
    · intro hc
      rcases List.mem_cons.mp ((h c).mp (List.mem_cons_of_mem _ hc)) with q | q
      · have := hl1 c hc; omega
      · exact q
    · intro hc
      rcases List.mem_cons.mp ((h c).mpr (List.mem_cons_of_mem _ hc)) with q | q
      · have := hr1 c hc; omega
      · exact q
theorem sorted_filter (n : Nat) (p : Nat → Bool) : Sorted ((List.range n).filter p) := List.Pairwise.filter _ List.pairwise_lt_range
theorem filter_self {l : List Nat} {n : Nat} (h : Sorted l) (hn : ∀ a ∈ l, a < n) : (List.range n).filter (fun a => decide (a ∈ l)) = l := by
  refine sorted_ext (sorted_filter n _) h fun a => ?_
  rw [List.mem_filter, List.mem_range, decide_eq_true_iff]
  exact ⟨fun q => q.2, fun q => ⟨hn a q, q⟩⟩
noncomputable def behind (n : Nat) (heads s : List Nat) : List Nat := (List.range n).filter fun a => decide (a ∈ heads) != decide (a ∈ s)
theorem shape_sorted {r : Rule} {last : Nat} {s : List Nat} (h : s ∈ shapes r last) : Sorted s := by
  obtain ⟨a, rfl, hl, hp⟩ := shapes_is h
  exact List.pairwise_append.mpr ⟨hp, by simp, fun x hx y hy => by rw [List.mem_singleton.mp hy]; exact hl x hx⟩
theorem shape_le {r : Rule} {last : Nat} {s : List Nat} (h : s ∈ shapes r last) : ∀ p ∈ s, p ≤ last := fun p hp => by
  obtain ⟨a, rfl, hl, _⟩ := shapes_is h
  rcases List.mem_append.mp hp with q | q
  · exact Nat.le_of_lt (hl p q)
  · rw [List.mem_singleton.mp q]; exact Nat.le_refl _
theorem num_le (r : Rule) (p : Nat) : num r p ≤ (shapes r p).length := by
  rw [num_eq]
  have := mex_le ((shapes r p).map fun s => xs (num r) s.dropLast)
  simpa using this
theorem flat_len {α β : Type} {f : α → List β} {m : Nat} : ∀ {l : List α}, (∀ a ∈ l, (f a).length ≤ m) → (l.flatMap f).length ≤ l.length * m
  | [], _ => by simp
  | a :: l, h => by
    have h1 := h a List.mem_cons_self
    have h2 := flat_len fun b hb => h b (List.mem_cons_of_mem _ hb)
    rw [List.flatMap_cons, List.length_append, List.length_cons, Nat.add_mul]
    omega
theorem shapes_run_len (k p : Nat) : (shapes (2, k) p).length ≤ k := by
  have := flat_len (f := fun many => if (2 : Nat) = 2 then (if many ≤ p + 1 then [(List.range many).map fun j => p + 1 - many + j] else []) else []) (m := 1) (l := List.range' 1 k) (fun a _ => by simp only [if_true]; split <;> simp)
  rw [List.length_range', Nat.mul_one] at this
  refine Nat.le_trans (Nat.le_of_eq ?_) this
  unfold shapes
  congr 1
theorem shapes_len {t k p : Nat} (ht : t ≠ 2) : (shapes (t, k) p).length ≤ k * (1 + p + p * p) := by
  have := flat_len (f := fun many => if t = 2 then (if many ≤ p + 1 then [(List.range many).map fun j => p + 1 - many + j] else [])
    else if t = 0 ∨ many = k then
      (if many = 1 then [[p]] else []) ++ (if many = 2 then (List.range p).map fun one => [one, p] else []) ++
      (if many = 3 then (List.range p).flatMap fun one => (List.range' (one + 1) (p - (one + 1))).map fun two => [one, two, p] else [])
    else []) (m := 1 + p + p * p) (l := List.range' 1 k) (fun a _ => ?_)
  · rw [List.length_range'] at this
    exact this
  · rw [if_neg ht]
    split
    · rw [List.length_append, List.length_append]
      have h1 : (if a = 1 then [[p]] else [] : List (List Nat)).length ≤ 1 := by split <;> simp
      have h2 : (if a = 2 then (List.range p).map fun one => [one, p] else [] : List (List Nat)).length ≤ p := by split <;> simp
      have h3 : (if a = 3 then (List.range p).flatMap fun one => (List.range' (one + 1) (p - (one + 1))).map fun two => [one, two, p] else [] : List (List Nat)).length ≤ p * p := by
        split
        · have := flat_len (f := fun one => (List.range' (one + 1) (p - (one + 1))).map fun two => [one, two, p]) (m := p) (l := List.range p) (fun b _ => by simp <;> omega)
          simpa using this
        · simp
      omega
    · simp
noncomputable def Good (r : Rule) : Prop := ((r.1 = 0 ∨ r.1 = 1) ∧ 1 ≤ r.2 ∧ r.2 ≤ 3) ∨ (r.1 = 2 ∧ 1 ≤ r.2 ∧ r.2 ≤ 40)
theorem num_lt {r : Rule} {p : Nat} (h : Good r) (hp : p < 40) : num r p < 8192 := by
  have l := num_le r p
  rcases h with ⟨h1, _, h2⟩ | ⟨h1, _, h2⟩
  · have q := shapes_len (t := r.1) (k := r.2) (p := p) (by omega)
    have e : (r.1, r.2) = r := rfl
    rw [e] at q
    have a : p * p ≤ 39 * 39 := Nat.mul_le_mul (by omega) (by omega)
    have b : r.2 * (1 + p + p * p) ≤ 3 * (1 + 39 + 39 * 39) := Nat.mul_le_mul h2 (by omega)
    omega
  · have q := shapes_run_len r.2 p
    have e : (2, r.2) = r := by rw [← h1]
    rw [e] at q
    omega
end Row
set_option Elab.async false
set_option linter.all false
set_option maxRecDepth 100000
set_option maxHeartbeats 4000000
namespace K4
open Nim
theorem small {a b d : Int} (a0 : 0 ≤ a) (b0 : 0 ≤ b) (P : (d = 0 ∧ a < 2 ∧ b < 2) ∨ (d = 1 ∧ a < 4 ∧ b < 4) ∨ (d = 2 ∧ a < 16 ∧ b < 16) ∨ (d = 3 ∧ a < 256 ∧ b < 256) ∨ (d = 4 ∧ a < 65536 ∧ b < 65536)) (h : a < 2 ∨ b < 2) : a * b = pI a b d := by
  rcases P with ⟨rfl, h1, h2⟩ | ⟨rfl, h1, h2⟩ | ⟨rfl, h1, h2⟩ | ⟨rfl, h1, h2⟩ | ⟨rfl, h1, h2⟩
  · exact pI_small a0 b0 (by decide) (by decide) (by show a.toNat < N 0; rw [N0]; omega) (by show b.toNat < N 0; rw [N0]; omega) h
  · exact pI_small a0 b0 (by decide) (by decide) (by show a.toNat < N 1; rw [N1]; omega) (by show b.toNat < N 1; rw [N1]; omega) h
  · exact pI_small a0 b0 (by decide) (by decide) (by show a.toNat < N 2; rw [N2]; omega) (by show b.toNat < N 2; rw [N2]; omega) h
  · exact pI_small a0 b0 (by decide) (by decide) (by show a.toNat < N 3; rw [N3]; omega) (by show b.toNat < N 3; rw [N3]; omega) h
  · exact pI_small a0 b0 (by decide) (by decide) (by show a.toNat < N 4; rw [N4]; omega) (by show b.toNat < N 4; rw [N4]; omega) h
end K4
namespace K1
open Nim
end K1
set_option Elab.async false
set_option linter.all false
set_option maxRecDepth 100000
set_option maxHeartbeats 4000000
namespace L2
open PySem PySem.Spec PyProof.Rows PySem.SeqAt
inductive Dt where
  | int (i : Int) | str (x : Str) | seq (t : Bool) (xs : List Dt)
noncomputable def Dat (K : PySem.W.Frag) (H : Hp) : Nat → Dt → V → Prop
  | 0, d, v => match d with
    | .int i => v = .int i
    | .str x => v = .str x
    | .seq _ _ => False
  | n + 1, d, v => match d with
    | .int i => v = .int i
    | .str x => v = .str x
    | .seq t xs => ∃ p vs, v = .ref p ∧ (if t = true then SqT K H p vs else SqL K H p vs) ∧ Paired (Dat K H n) xs vs
theorem Dat.int {K : PySem.W.Frag} {H : Hp} {n : Nat} {i : Int} {v : V} : Dat K H n (.int i) v ↔ v = .int i := by cases n <;> exact Iff.rfl
theorem Dat.str {K : PySem.W.Frag} {H : Hp} {n : Nat} {x : Str} {v : V} : Dat K H n (.str x) v ↔ v = .str x := by cases n <;> exact Iff.rfl
theorem paired_get {α β : Type} {F : α → β → Prop} : ∀ {l : List α} {r : List β} {i : Nat} {b : β}, Paired F l r → r[i]? = some b → ∃ a, l[i]? = some a ∧ F a b
  | _, _, i, b, .nil, h => by simp at h
  | _, _, 0, b, .cons f _, h => by simp at h; subst h; exact ⟨_, rfl, f⟩
  | _, _, i + 1, b, .cons _ t, h => by
    obtain ⟨a, h1, h2⟩ := paired_get (i := i) (b := b) t (by simpa using h)
    exact ⟨a, by simpa using h1, h2⟩
section
variable {X : Cx} {pins : List (Addr × Obj)} {σ : St} {H : Hp} {s : Shared}
theorem not_both (I : Inv X pins σ H s) {p : Addr} {vs ws : List V} (h1 : SqT X.K H p vs) (h2 : SqL X.K H p ws) : False := by
  obtain ⟨_, _, ⟨o, e, c, _⟩, _⟩ := I.tuple h1
  obtain ⟨_, _, ⟨o', n', e', c', _⟩, _⟩ := I.list h2
  rw [e] at e'
  cases e'
  rw [c] at c'
  exact absurd c' (by decide)
theorem paired_inj {α β : Type} {F G : α → β → Prop} (h : ∀ a a' b, F a b → G a' b → a = a') : ∀ {xs ys : List α} {vs : List β}, Paired F xs vs → Paired G ys vs → xs = ys
  | _, _, _, .nil, .nil => rfl
  | _, _, _, .cons r t, .cons r' t' => by rw [h _ _ _ r r', paired_inj h t t']
theorem dat_inj (I : Inv X pins σ H s) : ∀ (n : Nat) {d d' : Dt} {v : V}, Dat X.K H n d v → Dat X.K H n d' v → d = d'
  | 0, d, d', v, h, h' => by
    cases d <;> cases d' <;> first
      | exact (h : False).elim
      | exact (h' : False).elim
      | (have e := h.symm.trans h'; cases e <;> rfl)
  | n + 1, d, d', v, h, h' => by
    cases d with
    | int i =>
      cases d' with
      | int j => have e := h.symm.trans h'; cases e; rfl
      | str y => have e := h.symm.trans h'; cases e
      | seq t ys => obtain ⟨p, vs, e, _⟩ := h'; have e := h.symm.trans e; cases e
    | str x =>
      cases d' with
      | int j => have e := h.symm.trans h'; cases e
      | str y => have e := h.symm.trans h'; cases e; rfl
      | seq t ys => obtain ⟨p, vs, e, _⟩ := h'; have e := h.symm.trans e; cases e
    | seq t xs =>
      obtain ⟨p, vs, e, hs, r⟩ := h
      cases d' with
      | int j => have e := e.symm.trans h'; cases e
      | str y => have e := e.symm.trans h'; cases e
      | seq t' ys =>
        obtain ⟨q, ws, e', hs', r'⟩ := h'
        have e := e.symm.trans e'
        cases e
        cases t with
        | true =>
          rw [if_pos rfl] at hs
          cases t' with
          | true =>
            rw [if_pos rfl] at hs'
            have := I.tuple_inj hs hs'
            subst this
            rw [paired_inj (F := Dat X.K H n) (G := Dat X.K H n) (fun _ _ _ h h' => dat_inj I n h h') r r']
          | false =>
            rw [if_neg Bool.false_ne_true] at hs'
            exact (not_both I hs hs').elim
        | false =>
          rw [if_neg Bool.false_ne_true] at hs
          cases t' with
          | true =>
            rw [if_pos rfl] at hs'
            exact (not_both I hs' hs).elim
          | false =>
            rw [if_neg Bool.false_ne_true] at hs'
            have := I.list_inj hs hs'
            subst this
            rw [paired_inj (F := Dat X.K H n) (G := Dat X.K H n) (fun _ _ _ h h' => dat_inj I n h h') r r']
theorem all_range {e : Nat → Bool} {n : Nat} : (List.range n).all e = true ↔ ∀ j, j < n → e j = true := by simp
theorem items_eq {A : Around} {xs ys : List Dt} {vs ws : List V} {us us' : List Value} {n : Nat} (r : Vals vs us) (r' : Vals ws us') (h : Paired (Dat X.K H n) xs vs) (h' : Paired (Dat X.K H n) ys ws)
    (ih : ∀ (dx dy : Dt) (x y : V) (u v : Value), RelV x u → RelV y v → Dat X.K H n dx x → Dat X.K H n dy y → ∃ b, EqAt A s u v b ∧ (b = true ↔ dx = dy)) :
    ∃ e : Nat → Bool, ∀ j, (∀ (h1 : j < us.toArray.size) (h2 : j < us'.toArray.size), EqAt A s us.toArray[j] us'.toArray[j] (e j)) ∧ (j < us.length → j < us'.length → (e j = true ↔ xs[j]? = ys[j]?)) := by
  have key : ∀ j : Nat, ∃ b : Bool, (∀ (h1 : j < us.toArray.size) (h2 : j < us'.toArray.size), EqAt A s us.toArray[j] us'.toArray[j] b) ∧ (j < us.length → j < us'.length → (b = true ↔ xs[j]? = ys[j]?)) := ?_
  · exact ⟨fun j => Classical.choose (key j), fun j => Classical.choose_spec (key j)⟩
  intro j
  by_cases c : j < us.length ∧ j < us'.length
  · have l1 : j < vs.length := by rw [r.length]; exact c.1
    have l2 : j < ws.length := by rw [r'.length]; exact c.2
    obtain ⟨u, hu, ru⟩ := r.get (List.getElem?_eq_getElem l1)
    obtain ⟨u', hu', ru'⟩ := r'.get (List.getElem?_eq_getElem l2)
    obtain ⟨dx, hx, ix⟩ := paired_get h (List.getElem?_eq_getElem l1)
    obtain ⟨dy, hy, iy⟩ := paired_get h' (List.getElem?_eq_getElem l2)
    obtain ⟨b, hb, hiff⟩ := ih dx dy _ _ u u' ru ru' ix iy
    refine ⟨b, fun h1 h2 => ?_, fun _ _ => ?_⟩
    · have e1 : us.toArray[j] = u := by
        have : us[j]? = some us[j] := List.getElem?_eq_getElem c.1
        rw [hu] at this
        simpa using (Option.some.inj this).symm
      have e2 : us'.toArray[j] = u' := by
        have : us'[j]? = some us'[j] := List.getElem?_eq_getElem c.2
        rw [hu'] at this
        simpa using (Option.some.inj this).symm
      rw [e1, e2]
      exact hb
    · rw [hx, hy, hiff]
      exact ⟨fun z => by rw [z], fun z => Option.some.inj z⟩
  · refine ⟨true, fun h1 h2 => absurd ⟨by simpa using h1, by simpa using h2⟩ c, fun h1 h2 => absurd ⟨h1, h2⟩ c⟩
theorem ext_items {xs ys : List Dt} {e : Nat → Bool} {n : Nat} (h1 : xs.length = n) (h2 : ys.length = n) (he : ∀ j, j < n → (e j = true ↔ xs[j]? = ys[j]?)) : (List.range n).all e = true ↔ xs = ys := by
  rw [all_range]
  constructor
  · intro h
    refine List.ext_getElem? fun j => ?_
    rcases Nat.lt_or_ge j n with l | l
    · exact (he j l).mp (h j l)
    · rw [List.getElem?_eq_none (by omega), List.getElem?_eq_none (by omega)]
  · rintro rfl j l
    exact (he j l).mpr rfl
theorem eqD (I : Inv X pins σ H s) : ∀ (n : Nat) (A : Around) (dx dy : Dt) (x y : V) (u v : Value), A.units + n < cLine → RelV x u → RelV y v → Dat X.K H n dx x → Dat X.K H n dy y → ∃ b, EqAt A s u v b ∧ (b = true ↔ dx = dy)
  | n, A, dx, dy, x, y, u, v, hu, rx, ry, hx, hy => by
    have hu0 : A.units < cLine := by omega
    have seqs : ∀ {t : Bool} {zs : List Dt} {z : V} {w' : Value}, RelV z w' → Dat X.K H n (.seq t zs) z → ∃ m p vs us, z = .ref p ∧ n = m + 1 ∧ w' = .ref p ∧ Vals vs us ∧ Paired (Dat X.K H m) zs vs ∧ (t = true → s.heap.IsTuple p us.toArray ∧ SqT X.K H p vs) ∧ (t = false → s.heap.IsList p us.toArray ∧ SqL X.K H p vs) := by
      intro t zs z w' rz hz
      cases n with
      | zero => exact (hz : False).elim
      | succ m =>
        obtain ⟨p, vs, rfl, hs, r⟩ := hz
        cases rz
        cases t with
        | true =>
          rw [if_pos rfl] at hs
          obtain ⟨us, rv, pl, _⟩ := I.tuple hs
          exact ⟨m, p, vs, us, rfl, rfl, rfl, rv, r, fun _ => ⟨pl, hs⟩, (fun z => nomatch z)⟩
        | false =>
          rw [if_neg Bool.false_ne_true] at hs
          obtain ⟨us, rv, pl, _⟩ := I.list hs
          exact ⟨m, p, vs, us, rfl, rfl, rfl, rv, r, (fun z => nomatch z), fun _ => ⟨pl.isList, hs⟩⟩
    cases dx with
    | int i =>
      cases Dat.int.mp hx
      obtain ⟨t, rfl⟩ := rx
      cases dy with
      | int j =>
        cases Dat.int.mp hy
        obtain ⟨t', rfl⟩ := ry
        exact ⟨_, EqAt.int_int i t j t', by simp⟩
      | str z =>
        cases Dat.str.mp hy
        obtain ⟨t', rfl⟩ := ry
        exact ⟨_, EqAt.int_str i t z t', by simp⟩
      | seq b ys =>
        obtain ⟨m, p, vs, us, _, _, rfl, _, _, h1, h2⟩ := seqs ry hy
        cases b with
        | true => exact ⟨_, EqAt.int_tuple i t (h1 rfl).1 hu0, by simp⟩
        | false => exact ⟨_, EqAt.int_list i t (h2 rfl).1 hu0, by simp⟩
    | str z =>
      cases Dat.str.mp hx
      obtain ⟨t, rfl⟩ := rx
      cases dy with
      | int j =>
        cases Dat.int.mp hy
        obtain ⟨t', rfl⟩ := ry
        exact ⟨_, EqAt.str_int z t j t', by simp⟩
      | str z' =>
        cases Dat.str.mp hy
        obtain ⟨t', rfl⟩ := ry
        exact ⟨_, EqAt.str_str z t z' t', by simp⟩
      | seq b ys =>
        obtain ⟨m, p, vs, us, _, _, rfl, _, _, h1, h2⟩ := seqs ry hy
        cases b with
        | true => exact ⟨_, EqAt.str_tuple z t (h1 rfl).1 hu0, by simp⟩
        | false => exact ⟨_, EqAt.str_list z t (h2 rfl).1 hu0, by simp⟩
    | seq a xs =>
      obtain ⟨m, p, vs, us, ex, hm, rfl, rv, hp, h1, h2⟩ := seqs rx hx
      cases dy with
      | int j =>
        cases Dat.int.mp hy
        obtain ⟨t', rfl⟩ := ry
        cases a with
        | true => exact ⟨_, EqAt.tuple_int j t' (h1 rfl).1 hu0, by simp⟩
        | false => exact ⟨_, EqAt.list_int j t' (h2 rfl).1 hu0, by simp⟩
      | str z =>
        cases Dat.str.mp hy
        obtain ⟨t', rfl⟩ := ry
        cases a with
        | true => exact ⟨_, EqAt.tuple_str z t' (h1 rfl).1 hu0, by simp⟩
        | false => exact ⟨_, EqAt.list_str z t' (h2 rfl).1 hu0, by simp⟩
      | seq b ys =>
        obtain ⟨m', p', vs', us', ey, hm', rfl, rv', hp', h1', h2'⟩ := seqs ry hy
        have : m' = m := by omega
        subst this
        by_cases same : p = p'
        · subst same
          have e : x = y := by rw [ex, ey]
          subst e
          exact ⟨true, EqAt.same _, by simp [dat_inj I n hx hy]⟩
        have l1 : xs.length = us.length := by rw [← rv.length]; exact Paired.length hp
        have l2 : ys.length = us'.length := by rw [← rv'.length]; exact Paired.length hp'
        obtain ⟨e, he⟩ := items_eq (A := A.in1) rv rv' hp hp' (fun dx dy x y u v r1 r2 i1 i2 => eqD I m' A.in1 dx dy x y u v (by show A.units + 1 + m' < _; omega) r1 r2 i1 i2)
        cases a with
        | true =>
          cases b with
          | true =>
            refine ⟨_, EqAt.of_refs same (RcAt.tuples (h1 rfl).1 (h1' rfl).1 hu0 fun j a1 a2 => (he j).1 a1 a2), ?_⟩
            rw [Bool.and_eq_true]
            simp only [List.size_toArray, beq_iff_eq]
            constructor
            · rintro ⟨z1, z2⟩
              rw [z2, Nat.min_self] at z1
              rw [(ext_items (by omega) (by omega) fun j l => (he j).2 (by omega) l).mp z1]
            · intro z
              cases z
              have z2 : us.length = us'.length := by omega
              refine ⟨?_, z2⟩
              rw [z2, Nat.min_self]
              exact (ext_items (by omega) (by omega) fun j l => (he j).2 (by omega) l).mpr rfl
          | false => exact ⟨_, EqAt.tuple_list (h1 rfl).1 (h2' rfl).1 hu0, by simp⟩
        | false =>
          cases b with
          | true => exact ⟨_, EqAt.list_tuple (h2 rfl).1 (h1' rfl).1 hu0, by simp⟩
          | false =>
            by_cases hs : us.length = us'.length
            · refine ⟨_, EqAt.of_refs same (RcAt.lists (h2 rfl).1 (h2' rfl).1 (by simpa using hs) hu0 fun j a1 a2 => (he j).1 a1 a2), ?_⟩
              simp only [List.size_toArray]
              rw [ext_items (xs := xs) (ys := ys) (by omega) (by omega) fun j l => (he j).2 l (by omega)]
              simp
            · refine ⟨_, EqAt.of_refs same (RcAt.lists_lengths (h2 rfl).1 (h2' rfl).1 (by simpa using hs) hu0), ?_⟩
              simp
              intro z
              subst z
              exact hs (by omega)
termination_by n => n
decreasing_by all_goals omega
theorem rcD (I : Inv X pins σ H s) {n : Nat} {A : Around} {t : Bool} {xs ys : List Dt} {x y : V} {u v : Value} (hu : A.units + (n + 1) < cLine) (rx : RelV x u) (ry : RelV y v) (hx : Dat X.K H (n + 1) (.seq t xs) x) (hy : Dat X.K H (n + 1) (.seq t ys) y) :
    ∃ b, RcAt A s u v b ∧ RcNeAt A s u v (!b) ∧ (b = true ↔ xs = ys) := by
  obtain ⟨p, vs, rfl, hs, r⟩ := hx
  obtain ⟨p', vs', rfl, hs', r'⟩ := hy
  cases rx
  cases ry
  have hu0 : A.units < cLine := by omega
  have items : ∀ {us us' : List Value}, Vals vs us → Vals vs' us' → ∃ e : Nat → Bool, ∀ j, (∀ (h1 : j < us.toArray.size) (h2 : j < us'.toArray.size), EqAt A.in1 s us.toArray[j] us'.toArray[j] (e j)) ∧ (j < us.length → j < us'.length → (e j = true ↔ xs[j]? = ys[j]?)) :=
    fun rv rv' => items_eq (A := A.in1) rv rv' r r' (fun dx dy x y u v r1 r2 i1 i2 => eqD I n A.in1 dx dy x y u v (by show A.units + 1 + n < _; omega) r1 r2 i1 i2)
  cases t with
  | true =>
    rw [if_pos rfl] at hs hs'
    obtain ⟨us, rv, pl, _⟩ := I.tuple hs
    obtain ⟨us', rv', pl', _⟩ := I.tuple hs'
    obtain ⟨e, he⟩ := items rv rv'
    have l1 : xs.length = us.length := by rw [← rv.length]; exact Paired.length r
    have l2 : ys.length = us'.length := by rw [← rv'.length]; exact Paired.length r'
    refine ⟨_, RcAt.tuples pl pl' hu0 (fun j a1 a2 => (he j).1 a1 a2), RcNeAt.tuples pl pl' hu0 (fun j a1 a2 => (he j).1 a1 a2), ?_⟩
    rw [Bool.and_eq_true]
    simp only [List.size_toArray, beq_iff_eq]
    constructor
    · rintro ⟨z1, z2⟩
      rw [z2, Nat.min_self] at z1
      exact (ext_items (by omega) (by omega) fun j l => (he j).2 (by omega) l).mp z1
    · intro z
      have z2 : us.length = us'.length := by rw [← l1, ← l2, z]
      refine ⟨?_, z2⟩
      rw [z2, Nat.min_self]
      exact (ext_items (by omega) (by omega) fun j l => (he j).2 (by omega) l).mpr z
  | false =>
    rw [if_neg Bool.false_ne_true] at hs hs'
    obtain ⟨us, rv, pl, _⟩ := I.list hs
    obtain ⟨us', rv', pl', _⟩ := I.list hs'
    obtain ⟨e, he⟩ := items rv rv'
    have l1 : xs.length = us.length := by rw [← rv.length]; exact Paired.length r
    have l2 : ys.length = us'.length := by rw [← rv'.length]; exact Paired.length r'
    by_cases hz : us.length = us'.length
    · refine ⟨_, RcAt.lists pl.isList pl'.isList (by simpa using hz) hu0 (fun j a1 a2 => (he j).1 a1 a2), RcNeAt.lists pl.isList pl'.isList (by simpa using hz) hu0 (fun j a1 a2 => (he j).1 a1 a2), ?_⟩
      simp only [List.size_toArray]
      exact ext_items (xs := xs) (ys := ys) (by omega) (by omega) fun j l => (he j).2 l (by omega)
    · refine ⟨false, RcAt.lists_lengths pl.isList pl'.isList (by simpa using hz) hu0, RcNeAt.lists_lengths pl.isList pl'.isList (by simpa using hz) hu0, ?_⟩
      simp
      intro z
      exact hz (by rw [← l1, ← l2, z])
noncomputable def rNeD (K : PySem.W.Frag) (n : Nat) : R2 := fun x y H Q => ∃ t xs ys, Dat K H (n + 1) (.seq t xs) x ∧ Dat K H (n + 1) (.seq t ys) y ∧ ∀ b, (b = true ↔ ¬ xs = ys) → Q (.bl b) H
theorem op_neD {n k : Nat} (hr : Room k X.A) (hn : n < 60) : OpR X (compareOp .NotEq) (rNeD X.K n) := by
  intro pins s σ H x y u v Q I rx ry h
  obtain ⟨t, xs, ys, hx, hy, q⟩ := h
  obtain ⟨b, _, h1, hb⟩ := rcD I (A := X.A) (by have := hr.units; omega) rx ry hx hy
  refine h1 _ _ _ _ ⟨.bl (!b), H, I, rfl, q _ ?_⟩
  cases b with
  | true => simp [hb.mp rfl]
  | false => simp; exact fun z => absurd (hb.mpr z) Bool.false_ne_true
theorem relV_inj : ∀ {x y : V} {u : Value}, RelV x u → RelV y u → x = y := by
  intro x y u h h'
  cases x <;> cases y <;> (try obtain ⟨_, rfl⟩ := h) <;> (try obtain ⟨_, h'⟩ := h') <;> (try cases h) <;> (try cases h') <;> rfl
theorem in_items (I : Inv X pins σ H s) {n : Nat} {A : Around} {dx : Dt} {ds : List Dt} {x : V} {vs : List V} {u : Value} {us : List Value} (hu : A.units + n < cLine) (rx : RelV x u) (hx : Dat X.K H n dx x) (rv : Vals vs us) (r : Paired (Dat X.K H n) ds vs) :
    ∃ e : Value → Bool, (∀ y, y ∈ us.toArray → EqAt A s y u (e y)) ∧ (us.toArray.any e = true ↔ dx ∈ ds) := by
  have key : ∀ y : Value, ∃ b : Bool, (y ∈ us → EqAt A s y u b) ∧ ((∃ vy, vy ∈ vs ∧ RelV vy y) → (b = true ↔ ∃ vy, RelV vy y ∧ Dat X.K H n dx vy)) := by
    intro y
    by_cases hy : ∃ vy, vy ∈ vs ∧ RelV vy y
    · obtain ⟨vy, hv, ry⟩ := hy
      obtain ⟨j, hj⟩ := List.getElem?_of_mem hv
      obtain ⟨dy, _, iy⟩ := paired_get r hj
      obtain ⟨b, h1, h2⟩ := eqD I n A dy dx vy x y u hu ry rx iy hx
      refine ⟨b, fun _ => h1, fun _ => ?_⟩
      rw [h2]
      constructor
      · rintro rfl
        exact ⟨vy, ry, iy⟩
      · rintro ⟨vz, rz, iz⟩
        rw [relV_inj rz ry] at iz
        exact dat_inj I n iy iz
    · refine ⟨true, fun hm => ?_, fun z => absurd z hy⟩
      exfalso
      obtain ⟨j, hj⟩ := List.getElem?_of_mem hm
      have hl : j < vs.length := by rw [rv.length]; exact (List.getElem?_eq_some_iff.mp hj).1
      obtain ⟨w', hw, rw'⟩ := rv.get (List.getElem?_eq_getElem hl)
      rw [hj] at hw
      cases hw
      exact hy ⟨_, List.getElem_mem hl, rw'⟩
  refine ⟨fun y => Classical.choose (key y), fun y hy => (Classical.choose_spec (key y)).1 (by simpa using hy), ?_⟩
  have back : ∀ y, y ∈ us → ∃ vy, vy ∈ vs ∧ RelV vy y := fun y hm => by
    obtain ⟨j, hj⟩ := List.getElem?_of_mem hm
    have hl : j < vs.length := by rw [rv.length]; exact (List.getElem?_eq_some_iff.mp hj).1
    obtain ⟨w', hw, rw'⟩ := rv.get (List.getElem?_eq_getElem hl)
    rw [hj] at hw
    cases hw
    exact ⟨_, List.getElem_mem hl, rw'⟩
  rw [show us.toArray.any (fun y => Classical.choose (key y)) = us.any (fun y => Classical.choose (key y)) by simp, List.any_eq_true]
  constructor
  · rintro ⟨y, hy, hb⟩
    obtain ⟨vz, rz, iz⟩ := ((Classical.choose_spec (key y)).2 (back y hy)).mp hb
    obtain ⟨vy, hv, ry⟩ := back y hy
    rw [relV_inj rz ry] at iz
    obtain ⟨j, hj⟩ := List.getElem?_of_mem hv
    obtain ⟨dy, hd, iy⟩ := paired_get r hj
    rw [dat_inj I n iz iy]
    exact List.mem_of_getElem? hd
  · intro hm
    obtain ⟨j, hj⟩ := List.getElem?_of_mem hm
    have hl : j < vs.length := by rw [← Paired.length r]; exact (List.getElem?_eq_some_iff.mp hj).1
    obtain ⟨dy, hd, iy⟩ := paired_get r (List.getElem?_eq_getElem hl)
    rw [hj] at hd
    cases hd
    obtain ⟨y, hy, ry⟩ := rv.get (List.getElem?_eq_getElem hl)
    exact ⟨y, List.mem_of_getElem? hy, ((Classical.choose_spec (key y)).2 ⟨_, List.getElem_mem hl, ry⟩).mpr ⟨_, ry, iy⟩⟩
noncomputable def rInD (K : PySem.W.Frag) (n : Nat) (neg : Bool) : R2 := fun x y H Q => ∃ dx t ds, Dat K H n dx x ∧ Dat K H (n + 1) (.seq t ds) y ∧ ∀ b, (b = true ↔ dx ∈ ds) → Q (.bl (if neg then !b else b)) H
theorem op_inD {n k : Nat} (hr : Room k X.A) (hn : n < 60) : OpR X (compareOp .In) (rInD X.K n false) := by
  intro pins s σ H x y v u Q I rx ry h
  obtain ⟨dx, t, ds, hx, ⟨p, vs, rfl, hs, r⟩, q⟩ := h
  cases ry
  have hu : X.A.in1.units + n < cLine := by have := hr.units; show X.A.units + 1 + n < _; omega
  cases t with
  | true =>
    rw [if_pos rfl] at hs
    obtain ⟨us, rv, pl, _⟩ := I.tuple hs
    obtain ⟨e, h1, h2⟩ := in_items I (A := X.A.in1) hu rx hx rv r
    exact in_tupleAt e pl h1 ⟨.bl _, H, I, rfl, q _ h2⟩
  | false =>
    rw [if_neg Bool.false_ne_true] at hs
    obtain ⟨us, rv, pl, _⟩ := I.list hs
    obtain ⟨e, h1, h2⟩ := in_items I (A := X.A.in1) hu rx hx rv r
    exact in_listAt e pl.isList h1 ⟨.bl _, H, I, rfl, q _ h2⟩
end
end L2
set_option Elab.async false
set_option linter.all false
set_option maxRecDepth 100000
set_option maxHeartbeats 4000000
namespace L2
open PySem PySem.Spec PyProof.Rows
noncomputable def nl (xs : List Nat) : List V := xs.map fun (n : Nat) => V.int (n : Int)
theorem nl_length (xs : List Nat) : (nl xs).length = xs.length := List.length_map _
theorem nl_append (xs ys : List Nat) : nl (xs ++ ys) = nl xs ++ nl ys := List.map_append
theorem Same.upd {H0 H : Hp} {l : Addr} {o : HO} (h : Same H0 H) (n : H0 l = none) : Same H0 (upd H l o) := fun b u e => by
  rw [upd_ne (ne_of_none e n)]
  exact h b u e
theorem Same.new {H0 H : Hp} {p : Addr} {o : HO} (h : Same H0 H) (n : H p = none) : Same H0 (L2.upd H p o) := h.upd (h.free n)
noncomputable def RL (H0 H : Hp) (xss : List (List Nat)) (rs : List Addr) : Prop := Paired (fun xs r => H r = some (.lst (nl xs)) ∧ H0 r = none) xss rs
theorem RL.length {H0 H : Hp} {xss : List (List Nat)} {rs : List Addr} (h : RL H0 H xss rs) : xss.length = rs.length := Paired.length h
theorem RL.same {H0 H H' : Hp} {xss : List (List Nat)} {rs : List Addr} (h : RL H0 H xss rs) (e : Same H H') : RL H0 H' xss rs := Paired.mapP h fun _ _ q => ⟨e _ _ q.1, q.2⟩
theorem RL.base {H0 H1 H : Hp} {xss : List (List Nat)} {rs : List Addr} (h : RL H1 H xss rs) (e : Same H0 H1) : RL H0 H xss rs := Paired.mapP h fun _ _ q => ⟨q.1, e.free q.2⟩
theorem paired_app {α β : Type} {F : α → β → Prop} : ∀ {xs ys : List α} {rs ss : List β}, Paired F xs rs → Paired F ys ss → Paired F (xs ++ ys) (rs ++ ss)
  | _, _, _, _, .nil, h => h
  | _, _, _, _, .cons f t, h => .cons f (paired_app t h)
theorem RL.app {H0 H : Hp} {xss yss : List (List Nat)} {rs ss : List Addr} (h : RL H0 H xss rs) (h' : RL H0 H yss ss) : RL H0 H (xss ++ yss) (rs ++ ss) := paired_app h h'
theorem paired_mem {α β : Type} {F : α → β → Prop} : ∀ {xs : List α} {rs : List β} {r : β}, Paired F xs rs → r ∈ rs → ∃ x ∈ xs, F x r
  | _, _, _, .nil, h => by cases h
  | _, _, _, .cons f t, h => by
    rcases List.mem_cons.mp h with rfl | h
    · exact ⟨_, List.mem_cons_self, f⟩
    · obtain ⟨x, hx, q⟩ := paired_mem t h
      exact ⟨x, List.mem_cons_of_mem _ hx, q⟩
theorem RL.apart {H0 H : Hp} {xss : List (List Nat)} {rs : List Addr} {l : Addr} (h : RL H0 H xss rs) (e : H l = some (.lst (rs.map V.ref))) : l ∉ rs := fun hm => by
  obtain ⟨xs, _, q, _⟩ := paired_mem h hm
  rw [e] at q
  have q : rs.map V.ref = nl xs := by injection q with q; injection q
  cases rs with
  | nil => cases hm
  | cons r rs => cases xs with
    | nil => cases q
    | cons x xs => injection q with q _; cases q
theorem RL.set {H0 H : Hp} {xss : List (List Nat)} {rs : List Addr} {l : Addr} {o : HO} (h : RL H0 H xss rs) (n : l ∉ rs) : RL H0 (upd H l o) xss rs := by
  induction h with
  | nil => exact .nil
  | @cons x r xs rs f t ih =>
    refine .cons ⟨?_, f.2⟩ (ih fun z => n (List.mem_cons_of_mem _ z))
    rw [upd_ne (fun z => n (by rw [← z]; exact List.mem_cons_self))]
    exact f.1
theorem comp_range_new {wi : TI} {ix : List Nat} {te : TE} {σ : St} {H H1 : Hp} {Q : VK} {lo : Int} {n : Nat} (f : Nat → List Nat) (hw : ∀ R : It → Hp → Prop, R (Itr lo n) H1 → wi σ H R) (hn : n < sizeLine)
    (he : ∀ (i : Nat) (H' : Hp) (R : VK), i < n → Same H1 H' → (∀ p, H' p = none → R (.ref p) (upd H' p (.lst (nl (f i))))) → te (some (.int (lo + i)) :: slots σ ix) H' R)
    (q : ∀ acc rs H2, H1 acc = none → Same H1 H2 → H2 acc = some (.lst (rs.map V.ref)) → RL H1 H2 ((List.range n).map f) rs → Q (.ref acc) H2) :
    tComp wi ix tYes te σ H Q := by
  refine hw _ fun acc hacc => ⟨fun i m H2 => i ≤ n ∧ m = n - i ∧ Same H1 H2 ∧ ∃ rs, H2 acc = some (.lst (rs.map V.ref)) ∧ RL H1 H2 ((List.range i).map f) rs, ⟨n, Nat.zero_le _, by simp, (Same.refl H1).new hacc, [], upd_same, .nil⟩, ?_⟩
  rintro i m H2 ⟨hi, rfl, sm, rs, hl, hr⟩
  by_cases hlt : i < n
  · refine .inr ⟨hlt, ?_⟩
    rintro x H3 ⟨rfl, rfl⟩
    unfold tYes
    dsimp only
    rw [if_pos rfl]
    refine he i _ _ hlt sm fun p hp => ?_
    have pa : acc ≠ p := ne_of_none hl hp
    refine ⟨rs.map V.ref, by rw [upd_ne pa]; exact hl, ?_, n - (i + 1), by omega, hlt, rfl, ?_, rs ++ [p], ?_, ?_⟩
    · rw [List.length_map, ← hr.length, List.length_map, List.length_range]; omega
    · exact (sm.new hp).upd hacc
    · rw [upd_same, List.map_append]; rfl
    · rw [List.range_succ, List.map_append]
      have ap := hr.apart hl
      refine RL.app (RL.set (hr.same (same_new hp _)) ap) (.cons ⟨?_, sm.free hp⟩ .nil)
      rw [upd_ne (Ne.symm pa), upd_same]
  · have e : i = n := by omega
    subst e
    exact .inl ⟨Nat.le_refl _, q acc rs H2 hacc sm hl hr⟩
noncomputable def word : Nat → Str
  | 0 => "most"
  | 1 => "just"
  | _ => "run"
noncomputable def ruleV (r : Row.Rule) : List V := [V.str (word r.1), V.int (r.2 : Int)]
noncomputable def ruleOf (c : Int) (most run : Nat) : Row.Rule := if c % 3 = 2 then (2, 1 + (c / 3 % run).toNat) else ((c % 3).toNat, 1 + (c / 3 % most).toNat)
theorem ruleOf_good {c : Int} {most run : Nat} (h1 : 1 ≤ most) (h2 : most ≤ 3) (h3 : 1 ≤ run) (h4 : run ≤ 40) : Row.Good (ruleOf c most run) := by
  unfold ruleOf Row.Good
  have a0 := Int.emod_nonneg (c / 3) (by omega : (most : Int) ≠ 0)
  have a1 := Int.emod_lt_of_pos (c / 3) (by omega : (0 : Int) < most)
  have b0 := Int.emod_nonneg (c / 3) (by omega : (run : Int) ≠ 0)
  have b1 := Int.emod_lt_of_pos (c / 3) (by omega : (0 : Int) < run)
  split
  · right; refine ⟨rfl, ?_, ?_⟩ <;> dsimp only <;> omega
  · left; refine ⟨?_, ?_, ?_⟩ <;> dsimp only <;> omega
theorem half (c : Int) (k : Nat) : c / 2 ^ k / 2 = c / 2 ^ (k + 1) := by
  rw [Int.pow_succ, Int.ediv_ediv_of_nonneg (by exact Int.pow_nonneg (by decide))]
noncomputable def spShapes (K : PySem.W.Frag) : Sp := fun vs H Q _ => ∃ (pr : Addr) (r : Row.Rule) (last : Nat), vs = [.ref pr, .int (last : Int)] ∧ SqT K H pr (ruleV r) ∧ Row.Good r ∧ last < 40 ∧
  ∀ H' p rs, Same H H' → H p = none → H' p = some (.lst (rs.map V.ref)) → RL H H' (Row.shapes r last) rs → Q (.ref p) H'
theorem Same.tup {K : PySem.W.Frag} {H H' : Hp} {a : Addr} {xs : List V} (e : Same H H') (h : SqT K H a xs) : SqT K H' a xs := by
  rcases h with (h | ⟨o, h⟩) | h
  · exact .inl (.inl (e _ _ h))
  · exact .inl (.inr ⟨o, e _ _ h⟩)
  · exact .inr h
end L2
namespace Row
noncomputable def part (r : Rule) (last many : Nat) : List (List Nat) :=
  if r.1 = 2 then (if many ≤ last + 1 then [(List.range many).map fun k => last + 1 - many + k] else [])
  else if r.1 = 0 ∨ many = r.2 then
    (if many = 1 then [[last]] else []) ++ (if many = 2 then (List.range last).map fun one => [one, last] else []) ++
    (if many = 3 then (List.range last).flatMap fun one => (List.range' (one + 1) (last - (one + 1))).map fun two => [one, two, last] else [])
  else []
noncomputable def upTo (r : Rule) (last n : Nat) : List (List Nat) := (List.range' 1 n).flatMap (part r last)
theorem shapes_upTo (r : Rule) (last : Nat) : shapes r last = upTo r last r.2 := rfl
theorem upTo_succ (r : Rule) (last n : Nat) : upTo r last (n + 1) = upTo r last n ++ part r last (1 + n) := by
  unfold upTo
  rw [List.range'_concat, List.flatMap_append]
  simp
theorem part_len {r : Rule} {last many : Nat} : (part r last many).length ≤ 1 + last + last * last := by
  unfold part
  split
  · split <;> simp <;> omega
  · split
    · rw [List.length_append, List.length_append]
      have h1 : (if many = 1 then [[last]] else [] : List (List Nat)).length ≤ 1 := by split <;> simp
      have h2 : (if many = 2 then (List.range last).map fun one => [one, last] else [] : List (List Nat)).length ≤ last := by split <;> simp
      have h3 : (if many = 3 then (List.range last).flatMap fun one => (List.range' (one + 1) (last - (one + 1))).map fun two => [one, two, last] else [] : List (List Nat)).length ≤ last * last := by
        split
        · have := flat_len (f := fun one => (List.range' (one + 1) (last - (one + 1))).map fun two => [one, two, last]) (m := last) (l := List.range last) (fun b _ => by simp <;> omega)
          simpa using this
        · simp
      omega
    · simp
theorem upTo_len {r : Rule} {last n : Nat} : (upTo r last n).length ≤ n * (1 + last + last * last) := by
  have := flat_len (f := part r last) (m := 1 + last + last * last) (l := List.range' 1 n) fun _ _ => part_len
  rwa [List.length_range'] at this
noncomputable def threes (last n : Nat) : List (List Nat) := (List.range n).flatMap fun one => (List.range' (one + 1) (last - (one + 1))).map fun two => [one, two, last]
theorem threes_succ (last n : Nat) : threes last (n + 1) = threes last n ++ (List.range' (n + 1) (last - (n + 1))).map fun two => [n, two, last] := by
  unfold threes
  rw [List.range_succ, List.flatMap_append]
  simp
end Row
set_option Elab.async false
set_option linter.all false
set_option maxRecDepth 100000
set_option maxHeartbeats 4000000
namespace L2
open PySem PySem.Spec PyProof.Rows
noncomputable def EvE (t : TE) (σ : St) (H : Hp) (v : V) : Prop := ∀ Q : VK, Q v H → t σ H Q
noncomputable def EvT (t : TT) (σ : St) (H : Hp) (b : Bool) : Prop := ∀ Q : Bool → Hp → Prop, Q b H → t σ H Q
noncomputable def EvA (t : TA) (σ : St) (H : Hp) (vs : List V) : Prop := ∀ Q : List V → Hp → Prop, Q vs H → t σ H Q
section
variable {K : PySem.W.Frag} {σ : St} {H : Hp} {ta tb t : TE} {x y v : V} {i j : Int} {c d : TT} {a b : Bool} {D : Ends} {s u : TS} {ts : TA}
theorem ev_var {n : Nat} (h : σ[n]? = some (some v)) : EvE (tVar n) σ H v := fun Q q => ⟨v, h, q⟩
theorem ev_c : EvE (tC v) σ H v := fun Q q => q
theorem ev_i0 {g : Int → Int → V} (ha : EvE ta σ H (.int i)) (hb : EvE tb σ H (.int j)) : EvE (tOp (rI0 g) ta tb) σ H (g i j) := fun Q q => ha _ (hb _ ⟨i, j, rfl, rfl, q⟩)
theorem ev_i {C : Int → Int → Prop} {g : Int → Int → V} (ha : EvE ta σ H (.int i)) (hb : EvE tb σ H (.int j)) (hc : C i j) : EvE (tOp (rI C g) ta tb) σ H (g i j) := fun Q q => ha _ (hb _ ⟨i, j, rfl, rfl, hc, q⟩)
theorem ev_u {g : Int → V} (ha : EvE ta σ H (.int i)) : EvE (tUn (rU g) ta) σ H (g i) := fun Q q => ha _ ⟨i, rfl, q⟩
theorem ev_ixT {p : Addr} {xs : List V} (ha : EvE ta σ H (.ref p)) (hb : EvE tb σ H (.int i)) (h : SqT K H p xs) (e : atI xs i = some v) : EvE (tOp (rIxT K) ta tb) σ H v := fun Q q => ha _ (hb _ ⟨p, xs, i, v, rfl, rfl, h, e, q⟩)
theorem ev_ixL {p : Addr} {xs : List V} (ha : EvE ta σ H (.ref p)) (hb : EvE tb σ H (.int i)) (h : SqL K H p xs) (e : atI xs i = some v) : EvE (tOp (rIxL K) ta tb) σ H v := fun Q q => ha _ (hb _ ⟨p, xs, i, v, rfl, rfl, h, e, q⟩)
theorem ev_eq (ha : EvE ta σ H x) (hb : EvE tb σ H y) (hs : scal x y = true) : EvE (tOp rEq ta tb) σ H (.bl (decide (x = y))) := fun Q q => ha _ (hb _ ⟨hs, q⟩)
theorem ev_eqI (ha : EvE ta σ H (.int i)) (hb : EvE tb σ H (.int j)) : EvE (tOp rEq ta tb) σ H (.bl (decide (i = j))) := fun Q q => ha _ (hb _ ⟨rfl, by
  rw [show decide (V.int i = V.int j) = decide (i = j) by rw [Bool.eq_iff_iff]; simp]; exact q⟩)
theorem ev_neI (ha : EvE ta σ H (.int i)) (hb : EvE tb σ H (.int j)) : EvE (tOp rNe ta tb) σ H (.bl (!decide (i = j))) := fun Q q => ha _ (hb _ ⟨rfl, by
  rw [show decide (V.int i = V.int j) = decide (i = j) by rw [Bool.eq_iff_iff]; simp]; exact q⟩)
theorem ev_test (h : EvE t σ H (.bl b)) : EvT (tTest t) σ H b := fun Q q => h _ ⟨b, rfl, q⟩
theorem ev_tB (h : EvE t σ H (.bl b)) : EvT (tB t) σ H b := fun Q q => h _ ⟨b, rfl, q⟩
theorem ev_or (h1 : EvT c σ H a) (h2 : a = false → EvT d σ H b) : EvT (tOr c d) σ H (a || b) := fun Q q => h1 _ (by
  cases a with
  | true => exact q
  | false => exact h2 rfl _ q)
theorem ev_and (h1 : EvT c σ H a) (h2 : a = true → EvT d σ H b) : EvT (tAnd c d) σ H (a && b) := fun Q q => h1 _ (by
  cases a with
  | true => exact h2 rfl _ q
  | false => exact q)
theorem ev_not (h : EvT c σ H a) : EvT (tNot c) σ H (!a) := fun Q q => h _ q
theorem ev_notV (h : EvE ta σ H (.bl a)) : EvE (tNotV ta) σ H (.bl (!a)) := fun Q q => h _ ⟨a, rfl, q⟩
theorem ev_nil : EvA tNil σ H [] := fun Q q => q
theorem ev_cons {vs : List V} (ha : EvE ta σ H v) (hr : EvA ts σ H vs) : EvA (tCons ta ts) σ H (v :: vs) := fun Q q => ha _ (hr _ q)
theorem ev_call {sp : Sp} {E : XK} {vs : List V} (ha : EvA ts σ H vs) (hr : ∀ Q : VK, Q v H → sp (vs ++ []) H Q E) : EvE (tCall sp [] E ts) σ H v := fun Q q => ha _ (hr _ q)
theorem ifS_of (h : EvT c σ H b) (ht : b = true → s D σ H) (hu : b = false → u D σ H) : tIfS c s u D σ H := h _ (by
  cases b with
  | true => exact ht rfl
  | false => exact hu rfl)
theorem seq_of (h : s { D with nx := u D } σ H) : tSeq s u D σ H := h
theorem next_of (h : D.nx σ H) : tNext D σ H := h
theorem asg_of {n : Nat} (h : EvE t σ H v) (q : D.nx (σ.set n (some v)) H) : tAsg t (gName n) D σ H := h _ q
theorem ret_of (h : EvE t σ H v) (q : D.rt v H) : tRet t D σ H := h _ q
theorem rng1_of {R : It → Hp → Prop} (h : EvA ts σ H [.int j]) (h1 : -(2 ^ 62) ≤ j) (h2 : j < 2 ^ 62) (q : R (Itr 0 j.toNat) H) : iRng1 ts σ H R := h _ ⟨j, rfl, h1, h2, q⟩
theorem rng2_of {R : It → Hp → Prop} (h : EvA ts σ H [.int i, .int j]) (h1 : -(2 ^ 62) ≤ i) (h2 : i < 2 ^ 62) (h3 : -(2 ^ 62) ≤ j) (h4 : j < 2 ^ 62) (q : R (Itr i (j - i).toNat) H) : iRng2 ts σ H R := h _ ⟨i, j, rfl, ⟨h1, h2, h3, h4⟩, q⟩
theorem word_run {n : Nat} (h : n ≤ 2) : decide (V.str (word n) = V.str "run") = decide (n = 2) := by
  rcases (by omega : n = 0 ∨ n = 1 ∨ n = 2) with rfl | rfl | rfl <;> decide
theorem word_most {n : Nat} (h : n ≤ 2) : decide (V.str (word n) = V.str "most") = decide (n = 0) := by
  rcases (by omega : n = 0 ∨ n = 1 ∨ n = 2) with rfl | rfl | rfl <;> decide
theorem word_just {n : Nat} (h : n ≤ 2) : decide (V.str (word n) = V.str "just") = decide (n = 1) := by
  rcases (by omega : n = 0 ∨ n = 1 ∨ n = 2) with rfl | rfl | rfl <;> decide
theorem ev_rule0 {n : Nat} {pr : Addr} {r : Row.Rule} (hv : σ[n]? = some (some (.ref pr))) (h : SqT K H pr (ruleV r)) : EvE (tOp (rIxT K) (tVar n) (tC (V.int 0))) σ H (.str (word r.1)) := ev_ixT (ev_var hv) ev_c h rfl
theorem ev_rule1 {n : Nat} {pr : Addr} {r : Row.Rule} (hv : σ[n]? = some (some (.ref pr))) (h : SqT K H pr (ruleV r)) : EvE (tOp (rIxT K) (tVar n) (tC (V.int 1))) σ H (.int (r.2 : Int)) := ev_ixT (ev_var hv) ev_c h rfl
theorem ev_isRun {n : Nat} {pr : Addr} {r : Row.Rule} (hv : σ[n]? = some (some (.ref pr))) (h : SqT K H pr (ruleV r)) (h2 : r.1 ≤ 2) : EvE (tOp rEq (tOp (rIxT K) (tVar n) (tC (V.int 0))) (tC (V.str "run"))) σ H (.bl (decide (r.1 = 2))) := by
  rw [← word_run h2]
  exact ev_eq (ev_rule0 hv h) ev_c rfl
theorem ev_isMost {n : Nat} {pr : Addr} {r : Row.Rule} (hv : σ[n]? = some (some (.ref pr))) (h : SqT K H pr (ruleV r)) (h2 : r.1 ≤ 2) : EvE (tOp rEq (tOp (rIxT K) (tVar n) (tC (V.int 0))) (tC (V.str "most"))) σ H (.bl (decide (r.1 = 0))) := by
  rw [← word_most h2]
  exact ev_eq (ev_rule0 hv h) ev_c rfl
end
end L2
set_option Elab.async false
set_option linter.all false
set_option maxRecDepth 100000
set_option maxHeartbeats 4000000
namespace L2
open PySem PySem.Spec PyProof.Rows
structure Seen (kvs : List (Key × V)) (S : List Nat) : Prop where
  len : kvs.length ≤ S.length
  has : ∀ m : Nat, (valV kvs (Sum.inl (m : Int))).isSome = true ↔ m ∈ S
theorem Seen.nil : Seen [] [] := ⟨Nat.le_refl _, fun m => by simp [valV]⟩
theorem Seen.put {kvs : List (Key × V)} {S : List Nat} (h : Seen kvs S) (n : Nat) : Seen (putK kvs (Sum.inl (n : Int) : Key) (V.bl true)) (S ++ [n]) := by
  refine ⟨?_, fun m => ?_⟩
  · have := length_putK kvs (Sum.inl (n : Int) : Key) (V.bl true)
    have := h.len
    rw [List.length_append, List.length_singleton]
    omega
  · rw [valV_put, List.mem_append, List.mem_singleton, ← h.has m]
    by_cases e : m = n
    · rw [if_pos (by rw [e])]
      simp [e]
    · rw [if_neg (by intro z; have z : (m : Int) = n := by injection z
                     omega)]
      simp [e]
theorem least_loop {σ : St} {H : Hp} {i j : Nat} {d : Addr} {kvs : List (Key × V)} {S : List Nat} {D : Ends} (hi : σ[i]? = some (some (.int 0))) (hj : σ[j]? = some (some (.ref d))) (ij : i ≠ j) (hd : H d = some (.dK kvs)) (hs : Seen kvs S)
    (q : D.nx (σ.set i (some (.int (Row.mex S : Int)))) H) : tWhile (tB (tDIn (tVar i) (tVar j))) (tAsg (tOp (rI0 fun a b => .int (a + b)) (tVar i) (tC (.int 1))) (gName i)) D σ H := by
  have li : i < σ.length := (List.getElem?_eq_some_iff.mp hi).1
  have gi : ∀ m : Int, (σ.set i (some (V.int m)))[i]? = some (some (V.int m)) := fun m => List.getElem?_set_self li
  have gj : ∀ m : Int, (σ.set i (some (V.int m)))[j]? = some (some (V.ref d)) := fun m => by rw [List.getElem?_set_ne ij]; exact hj
  refine while_by (fun σ' H' => H' = H ∧ ∃ m : Nat, σ' = σ.set i (some (.int (m : Int))) ∧ m ≤ Row.mex S) (fun σ' _ => match σ'[i]? with | some (some (V.int m)) => Row.mex S - m.toNat | _ => 0) ⟨rfl, 0, ?_, Nat.zero_le _⟩ ?_ ?_
  · refine List.ext_getElem? fun k => ?_
    by_cases c : k = i
    · subst c
      rw [gi, hi]
      rfl
    · rw [List.getElem?_set_ne (Ne.symm c)]
  · rintro σ' H' ⟨rfl, m, rfl, hm⟩
    refine ⟨_, gi m, _, gj m, d, _, rfl, DGet.k (k := Sum.inl (m : Int)) hd, _, rfl, ?_⟩
    cases e : (valV kvs (Sum.inl (m : Int))).isSome with
    | true =>
      have hin := (hs.has m).mp e
      have ne : m ≠ Row.mex S := fun z => Row.mex_not S (z ▸ hin)
      rw [if_pos rfl]
      refine ⟨_, gi m, _, _, rfl, rfl, ⟨rfl, m + 1, ?_, by omega⟩, ?_⟩
      · rw [List.set_set]
        rfl
      · show (match ((σ.set i (some (V.int m))).set i (some (V.int ((m : Int) + 1))))[i]? with | some (some (V.int m)) => Row.mex S - m.toNat | _ => 0) < (match (σ.set i (some (V.int m)))[i]? with | some (some (V.int m)) => Row.mex S - m.toNat | _ => 0)
        rw [List.set_set, gi, gi]
        show Row.mex S - ((m : Int) + 1).toNat < Row.mex S - ((m : Int)).toNat
        omega
    | false =>
      have hin : m ∉ S := fun z => by rw [(hs.has m).mpr z] at e; cases e
      have em : m = Row.mex S := by
        rcases Nat.lt_or_ge m (Row.mex S) with h | h
        · exact absurd (Row.mex_all h) hin
        · omega
      rw [if_neg Bool.false_ne_true]
      rw [em]
      exact q
  · intro σ' H' Q1 Q2 hm
    rintro ⟨v1, e1, v2, e2, b, o, e3, e4, k, e5, e6⟩
    exact ⟨v1, e1, v2, e2, b, o, e3, e4, k, e5, hm _ _ e6⟩
theorem cut_last (xs : List Nat) : cutV (nl xs) none (some (-1)) = nl xs.dropLast := by
  unfold cutV
  rw [HT.sIx_none, Nat.sub_zero, List.drop_zero, nl_length]
  have e : HT.sIx xs.length xs.length (some (-1)) = xs.length - 1 := by
    unfold HT.sIx
    simp only [show ((-1 : Int) < 0) = True by simp, if_true]
    omega
  rw [e, List.dropLast_eq_take]
  unfold nl
  rw [List.map_take]
noncomputable def spNumbers (K : PySem.W.Frag) : Sp := fun vs H Q _ => ∃ (pr : Addr) (r : Row.Rule) (m : Nat), vs = [.ref pr, .int (m : Int)] ∧ SqT K H pr (ruleV r) ∧ Row.Good r ∧ m ≤ 40 ∧ ∀ H' p, Same H H' → H p = none → H' p = some (.lst (nl (Row.nums r m))) → Q (.ref p) H'
theorem bitXor_nat (a b : Nat) : Builtin.bitXor (a : Int) (b : Int) = ((a ^^^ b : Nat) : Int) := by
  have h := Nim.xor_and_add a a b (Nat.le_refl _)
  have e : Builtin.bitAnd (a : Int) (b : Int) = ((a &&& b : Nat) : Int) := PyProof.Rows.bitAnd_pp (by omega) (by omega)
  have d : Builtin.bitXor (a : Int) (b : Int) = a + b - 2 * Builtin.bitAnd (a : Int) (b : Int) := by first | exact bitXor_and a b | exact PySem.W.bitXor_and a b | exact PyProof.Rows.bitXor_and a b
  rw [d, e]
  omega
end L2
set_option Elab.async false
set_option linter.all false
set_option maxRecDepth 100000
set_option maxHeartbeats 4000000
namespace Row
end Row
namespace L2
open PySem PySem.Spec PyProof.Rows
noncomputable def spNumberOf (K : PySem.W.Frag) : Sp := fun vs H Q _ => ∃ (pr : Addr) (r : Row.Rule) (n : Nat), vs = [.ref pr, .int (n : Int)] ∧ SqT K H pr (ruleV r) ∧ Row.Good r ∧ n < 40 ∧ ∀ H', Same H H' → Q (.int (Row.num r n : Int)) H'
theorem nl_mem {xs : List Nat} {i : Nat} {x : V} (h : (nl xs)[i]? = some x) : ∃ a, xs[i]? = some a ∧ x = V.int (a : Int) := by
  unfold nl at h
  rw [List.getElem?_map] at h
  cases e : xs[i]? with
  | none => rw [e] at h; cases h
  | some a => rw [e] at h; cases h; exact ⟨a, rfl, rfl⟩
end L2
namespace Row
end Row
namespace L2
open PySem PySem.Spec PyProof.Rows
end L2
namespace L2
open PySem PySem.Spec PyProof.Rows
theorem ev_cell {K : PySem.W.Frag} {σ : St} {H : Hp} {n : Nat} {a : Addr} {ns : List Int} (k : Nat) (h : σ[n]? = some (some (.ref a))) (hS : SqL K H a (ns.map V.int)) : EvE (tCall (spCell K) [] E0 (tCons (tVar n) (tCons (tC (V.int (k : Int))) tNil))) σ H (.int (cell ns k)) :=
  ev_call (ev_cons (ev_var h) (ev_cons ev_c ev_nil)) fun Q q => ⟨a, ns, k, rfl, hS, q⟩
theorem at_nl {told : List Nat} {a : Nat} (h : a < told.length) : atI (nl told) (a : Int) = some (V.int (Row.at0 told a : Int)) := atI_nat (by
  unfold nl
  rw [List.getElem?_map, List.getElem?_eq_getElem h]
  unfold Row.at0
  rw [List.getD_eq_getElem?_getD, List.getElem?_eq_getElem h]
  rfl)
end L2
namespace L2
open PySem PySem.Spec PyProof.Rows
noncomputable def nd (xs : List Nat) : List Dt := xs.map fun (n : Nat) => Dt.int (n : Int)
theorem nd_inj {xs ys : List Nat} (h : nd xs = nd ys) : xs = ys := by
  induction xs generalizing ys with
  | nil => cases ys with
    | nil => rfl
    | cons y ys => cases h
  | cons x xs ih => cases ys with
    | nil => cases h
    | cons y ys =>
      injection h with h1 h2
      have h1 : (x : Int) = y := by injection h1
      rw [ih h2, show x = y by omega]
theorem nd_paired {K : PySem.W.Frag} {H : Hp} {n : Nat} : ∀ xs : List Nat, Paired (Dat K H n) (nd xs) (nl xs)
  | [] => .nil
  | x :: xs => .cons (Dat.int.mpr rfl) (nd_paired xs)
theorem dat_list {K : PySem.W.Frag} {H : Hp} {n : Nat} {p : Addr} {xs : List Nat} (h : SqL K H p (nl xs)) : Dat K H (n + 1) (.seq false (nd xs)) (.ref p) := ⟨p, _, rfl, by rw [if_neg Bool.false_ne_true]; exact h, nd_paired xs⟩
section
variable {K : PySem.W.Frag} {σ : St} {H : Hp} {ta tb : TE}
theorem ev_neL {p p' : Addr} {xs ys : List Nat} (ha : EvE ta σ H (.ref p)) (hb : EvE tb σ H (.ref p')) (h : SqL K H p (nl xs)) (h' : SqL K H p' (nl ys)) : EvE (tOp (rNeD K 0) ta tb) σ H (.bl (!decide (xs = ys))) := fun Q q => ha _ (hb _ ⟨false, nd xs, nd ys, dat_list h, dat_list h', fun b hb => by
  have : b = !decide (xs = ys) := by
    rw [Bool.eq_iff_iff, hb]
    simp
    exact ⟨fun z e => z (by rw [e]), fun z e => z (nd_inj e)⟩
  rw [this]
  exact q⟩)
theorem ev_isList {p : Addr} {xs : List V} {r : TA} (hr : EvA r σ H [.ref p, .ty "list"]) (h : H p = some (.lst xs)) : EvE (tCB (fun xs H Q => ∃ x T t b, xs = [x, .ty T] ∧ TyOf K H x t ∧ PySem.W.kitOne K t (.type T) = some b ∧ Q (.bl b) H) r) σ H (.bl true) :=
  fun Q q => hr _ ⟨_, _, _, true, rfl, .lst h, rfl, q⟩
theorem ev_isInt {i : Int} {r : TA} (hr : EvA r σ H [.int i, .ty "int"]) : EvE (tCB (fun xs H Q => ∃ x T t b, xs = [x, .ty T] ∧ TyOf K H x t ∧ PySem.W.kitOne K t (.type T) = some b ∧ Q (.bl b) H) r) σ H (.bl true) :=
  fun Q q => hr _ ⟨_, _, _, true, rfl, .int i, rfl, q⟩
theorem ev_notBool {i : Int} {r : TA} (hr : EvA r σ H [.int i, .ty "bool"]) : EvE (tCB (fun xs H Q => ∃ x T t b, xs = [x, .ty T] ∧ TyOf K H x t ∧ PySem.W.kitOne K t (.type T) = some b ∧ Q (.bl b) H) r) σ H (.bl false) :=
  fun Q q => hr _ ⟨_, _, _, false, rfl, .int i, by first | rfl | decide +kernel, q⟩
theorem ev_lenL {p : Addr} {xs : List V} {r : TA} (hr : EvA r σ H [.ref p]) (h : SqL K H p xs) : EvE (tCB (fun xs H Q => ∃ p ys, xs = [.ref p] ∧ (SqL K H p ys ∨ SqT K H p ys) ∧ Q (.int ys.length) H) r) σ H (.int xs.length) :=
  fun Q q => hr _ ⟨p, xs, rfl, .inl h, q⟩
end
end L2
namespace Row
theorem sorted_len {hs : List Nat} {n : Nat} (h : Sorted hs) (hl : ∀ a ∈ hs, a < n) : hs.length ≤ n := by
  rw [← filter_self h hl]
  refine Nat.le_trans (List.length_filter_le _ _) ?_
  rw [List.length_range]
  exact Nat.le_refl _
theorem good_le {r : Rule} (h : Good r) : r.2 ≤ 40 := by rcases h with ⟨_, _, h⟩ | ⟨_, _, h⟩ <;> omega
theorem shapes_many {r : Rule} {last : Nat} (hg : Good r) (hl : last < 40) : (shapes r last).length ≤ 62440 := by
  rw [shapes_upTo]
  refine Nat.le_trans upTo_len (Nat.le_trans (Nat.mul_le_mul (good_le hg) (?_ : _ ≤ 1 + 39 + 39 * 39)) (by decide))
  have : last * last ≤ 39 * 39 := Nat.mul_le_mul (by omega) (by omega)
  omega
end Row
namespace L2
open PySem PySem.Spec PyProof.Rows
theorem cut {s R : TS} {D : Ends} {σ : St} {H : Hp} (Pv : St → Hp → Prop) (h : ∀ X : St → Hp → Prop, (∀ σ' H', Pv σ' H' → X σ' H') → s { D with nx := X } σ H) (hR : ∀ σ' H', Pv σ' H' → R D σ' H') : tSeq s R D σ H := h (R D) hR
end L2
namespace L2
open PySem PySem.Spec PyProof.Rows
end L2
set_option Elab.async false
set_option linter.all false
set_option maxRecDepth 100000
set_option maxHeartbeats 4000000
namespace L2
open PySem PySem.Spec PyProof.Rows
section
variable {K : PySem.W.Frag} {σ : St} {H : Hp} {ta tb : TE} {i : Int}
end
end L2
namespace L2
open PySem PySem.Spec PyProof.Rows
theorem ev_cellN {K : PySem.W.Frag} {σ : St} {H : Hp} {n : Nat} {a : Addr} {ns : List Int} {t : TE} {i : Int} (k : Nat) (h : σ[n]? = some (some (.ref a))) (ht : EvE t σ H (.int i)) (hi : i = (k : Int)) (hS : SqL K H a (ns.map V.int)) : EvE (tCall (spCell K) [] E0 (tCons (tVar n) (tCons t tNil))) σ H (.int (cell ns k)) := by
  subst hi
  exact ev_call (ev_cons (ev_var h) (ev_cons ht ev_nil)) fun Q q => ⟨a, ns, k, rfl, hS, q⟩
end L2
namespace Row
end Row
namespace L2
open PySem PySem.Spec PyProof.Rows
theorem ev_isN {σ : St} {H : Hp} {ta tb : TE} {x : V} (ha : EvE ta σ H x) (hb : EvE tb σ H .non) : EvE (tOp (fun x y H Q => y = V.non ∧ Q (V.bl (decide (x = V.non))) H) ta tb) σ H (.bl (decide (x = V.non))) := fun Q q => ha _ (hb _ ⟨rfl, q⟩)
end L2
namespace Row
end Row
namespace L2
open PySem PySem.Spec PyProof.Rows
end L2
namespace L2
open PySem PySem.Spec PyProof.Rows
theorem ev_min2 {σ : St} {H : Hp} {ts : TA} {i j : Int} (h : EvA ts σ H [.int i, .int j]) : EvE (tCB (fun xs H Q => ∃ i j, xs = [V.int i, V.int j] ∧ Q (V.int (if j < i then j else i)) H) ts) σ H (.int (if j < i then j else i)) := fun Q q => h _ ⟨i, j, rfl, q⟩
theorem ev_atN {K : PySem.W.Frag} {σ : St} {H : Hp} {ta tb : TE} {p : Addr} {told : List Nat} {i : Int} (k : Nat) (ha : EvE ta σ H (.ref p)) (hb : EvE tb σ H (.int i)) (h : SqL K H p (nl told)) (hi : i = (k : Int)) (hk : k < told.length) : EvE (tOp (rIxL K) ta tb) σ H (.int ((Row.at0 told k : Nat) : Int)) := by
  subst hi
  exact ev_ixL ha hb h (at_nl hk)
theorem ev_xorN {σ : St} {H : Hp} {ta tb : TE} {a b : Nat} (ha : EvE ta σ H (.int (a : Int))) (hb : EvE tb σ H (.int (b : Int))) : EvE (tOp (rI0 fun i j => V.int (Builtin.bitXor i j)) ta tb) σ H (.int ((a ^^^ b : Nat) : Int)) := by
  rw [← bitXor_nat]
  exact ev_i0 ha hb
end L2
namespace Row
end Row
namespace L2
open PySem PySem.Spec PyProof.Rows
end L2
namespace L2
open PySem PySem.Spec PyProof.Rows
end L2
namespace Row
end Row
namespace L2
open PySem PySem.Spec PyProof.Rows
section
variable {t ta tb : TE} {c d : TT} {ts : TA} {σ : St} {H : Hp} {v : V} {vs : List V} {a b : Bool} {i j : Int} {D : Ends} {s u : TS}
end
end L2
set_option Elab.async false
set_option linter.all false
set_option maxRecDepth 100000
set_option maxHeartbeats 4000000
namespace L2
open PySem PySem.Spec PyProof.Rows
end L2
namespace Row
theorem xor_zero {a b : Nat} (h : a = b) : a ^^^ b = 0 := by rw [h, Nat.xor_self]
end Row
namespace L2
open PySem PySem.Spec PyProof.Rows
end L2
namespace L2
open PySem PySem.Spec PyProof.Rows
end L2
namespace L2
open PySem PySem.Spec PyProof.Rows
theorem at_ref {rs : List Addr} {i : Int} {r : Addr} (j : Nat) (h : rs[j]? = some r) (hi : i = (j : Int)) : atI (rs.map V.ref) i = some (V.ref r) := by
  subst hi
  exact atI_nat (by rw [List.getElem?_map, h]; rfl)
end L2
namespace L2
open PySem PySem.Spec PyProof.Rows
end L2
namespace L2
open PySem PySem.Spec PyProof.Rows
end L2
set_option linter.all false
set_option maxRecDepth 100000
set_option maxHeartbeats 4000000
namespace Row
theorem mem_run {r : Rule} (h2 : r.1 = 2) {last : Nat} {t : List Nat} : t ∈ shapes r last ↔ 1 ≤ t.length ∧ t.length ≤ r.2 ∧ t.length ≤ last + 1 ∧ t = (List.range t.length).map fun k => last + 1 - t.length + k := by
  unfold shapes
  rw [List.mem_flatMap]
  constructor
  · rintro ⟨many, hm, h⟩
    rw [List.mem_range'_1] at hm
    rw [if_pos h2] at h
    split at h
    · have e := List.mem_singleton.mp h
      have el : t.length = many := by rw [e, List.length_map, List.length_range]
      subst el
      exact ⟨hm.1, by omega, by assumption, e⟩
    · cases h
  · rintro ⟨h1, hk, hl, e⟩
    refine ⟨t.length, List.mem_range'_1.mpr (by omega), ?_⟩
    rw [if_pos h2, if_pos hl]
    exact List.mem_singleton.mpr e
theorem mem_few {r : Rule} (h2 : r.1 ≠ 2) {last : Nat} {t : List Nat} : t ∈ shapes r last ↔ 1 ≤ t.length ∧ t.length ≤ r.2 ∧ (r.1 = 0 ∨ t.length = r.2) ∧ (t = [last] ∨ (∃ one, one < last ∧ t = [one, last]) ∨ ∃ one two, one < two ∧ two < last ∧ t = [one, two, last]) := by
  unfold shapes
  rw [List.mem_flatMap]
  constructor
  · rintro ⟨many, hm, h⟩
    rw [List.mem_range'_1] at hm
    rw [if_neg h2] at h
    split at h
    · rename_i d
      rcases List.mem_append.mp h with h | h
      · rcases List.mem_append.mp h with h | h
        · split at h
          · rename_i e
            have := List.mem_singleton.mp h
            subst this
            subst e
            exact ⟨by simp, by simp; omega, by simpa using d, .inl rfl⟩
          · cases h
        · split at h
          · rename_i e
            obtain ⟨one, ho, rfl⟩ := List.mem_map.mp h
            subst e
            exact ⟨by simp, by simp; omega, by simpa using d, .inr (.inl ⟨one, List.mem_range.mp ho, rfl⟩)⟩
          · cases h
      · split at h
        · rename_i e
          obtain ⟨one, ho, h⟩ := List.mem_flatMap.mp h
          obtain ⟨two, ht, rfl⟩ := List.mem_map.mp h
          rw [List.mem_range'_1] at ht
          subst e
          exact ⟨by simp, by simp; omega, by simpa using d, .inr (.inr ⟨one, two, by omega, by omega, rfl⟩)⟩
        · cases h
    · cases h
  · rintro ⟨h1, hk, d, h⟩
    refine ⟨t.length, List.mem_range'_1.mpr (by omega), ?_⟩
    rw [if_neg h2, if_pos d]
    rcases h with rfl | ⟨one, ho, rfl⟩ | ⟨one, two, h12, h2l, rfl⟩
    · simp
    · simp
      exact ho
    · simp
      omega
noncomputable def oddOnesGo : Nat → Nat → Bool
  | 0, _ => false
  | f + 1, n => if n = 0 then false else (n % 2 == 1) != oddOnesGo f (n / 2)
noncomputable def oddOnes (n : Nat) : Bool := oddOnesGo 64 n
noncomputable def mostNum (k p : Nat) : Nat := if k = 1 then 1 else if k = 2 then p + 1 else if oddOnes p then 2 * p else 2 * p + 1
noncomputable def runGo (k p : Nat) : Nat → Nat → Nat
  | 0, w => w
  | f + 1, w => if 2 * w ≤ k ∧ (p + 1) % (2 * w) = 0 then runGo k p f (2 * w) else w
noncomputable def runNum (k p : Nat) : Nat := runGo k p 64 1
noncomputable def clNum (r : Rule) (p : Nat) : Nat := if r.1 = 2 then runNum r.2 p else if r.1 = 0 then mostNum r.2 p else if p < r.2 - 1 then 0 else mostNum r.2 (p - (r.2 - 1))
noncomputable def hits (n : Nat) (S : List Nat) : Bool := (List.range n).all fun m => S.any fun s => Nat.beq s m
noncomputable def leastB (n : Nat) (S : List Nat) : Bool := S.all (fun s => !Nat.beq s n) && hits n S
theorem mex_leastB {n : Nat} {S : List Nat} (h : leastB n S = true) : mex S = n := by
  unfold leastB at h
  rw [Bool.and_eq_true] at h
  refine mex_is (fun m hm => ?_) fun q => ?_
  · have h2 := h.2
    unfold hits at h2
    rw [List.all_eq_true] at h2
    have := h2 m (List.mem_range.mpr hm)
    obtain ⟨s, hs, e⟩ := List.any_eq_true.mp this
    rw [← Nat.eq_of_beq_eq_true e]; exact hs
  · have h1 := List.all_eq_true.mp h.1 _ q
    rw [Nat.beq_refl] at h1
    exact absurd h1 (by decide)
noncomputable def scan : Nat → List Nat → Nat → List Nat
  | _, _, 0 => []
  | a, [], _ + 1 => [a]
  | a, x :: r, n + 1 => a :: scan (a ^^^ x) r n
noncomputable def pairs : List Nat → List Nat
  | [] => []
  | x :: r => r.map (fun y => x ^^^ y) ++ pairs r
noncomputable def sums (r : Rule) (rev : List Nat) : List Nat :=
  if r.1 = 2 then scan 0 rev r.2
  else if r.1 = 0 then (if r.2 = 1 then [0] else if r.2 = 2 then 0 :: rev else 0 :: (rev ++ pairs rev))
  else (if r.2 = 1 then [0] else if r.2 = 2 then rev else pairs rev)
noncomputable def chk (r : Rule) : Nat → Nat → List Nat → Bool
  | 0, _, _ => true
  | n + 1, p, rev => leastB (clNum r p) (sums r rev) && chk r n (p + 1) (clNum r p :: rev)
theorem chk_few : ((List.range 2).all fun t => (List.range' 1 3).all fun k => chk (t, k) 40 0 []) = true := by decide +kernel
theorem chk_run : ((List.range' 1 40).all fun k => chk (2, k) 40 0 []) = true := by decide +kernel
theorem chk_ok {r : Rule} (h : Good r) : chk r 40 0 [] = true := by
  rcases h with ⟨h1, h2, h3⟩ | ⟨h1, h2, h3⟩
  · have := List.all_eq_true.mp chk_few r.1 (List.mem_range.mpr (by omega))
    exact List.all_eq_true.mp this r.2 (List.mem_range'_1.mpr (by omega))
  · have := List.all_eq_true.mp chk_run r.2 (List.mem_range'_1.mpr (by omega))
    rw [← h1] at this
    exact this
noncomputable def revTo (f : Nat → Nat) : Nat → List Nat
  | 0 => []
  | p + 1 => f p :: revTo f p
theorem mem_revTo (f : Nat → Nat) (m : Nat) : ∀ p, m ∈ revTo f p ↔ ∃ a, a < p ∧ m = f a
  | 0 => by simp [revTo]
  | p + 1 => by
    rw [revTo, List.mem_cons, mem_revTo f m p]
    constructor
    · rintro (h | ⟨a, h, e⟩)
      · exact ⟨p, by omega, h⟩
      · exact ⟨a, by omega, e⟩
    · rintro ⟨a, h, e⟩
      by_cases c : a = p
      · exact .inl (c ▸ e)
      · exact .inr ⟨a, by omega, e⟩
theorem mem_pairs (f : Nat → Nat) (m : Nat) : ∀ p, m ∈ pairs (revTo f p) ↔ ∃ a b, a < b ∧ b < p ∧ m = f a ^^^ f b
  | 0 => by simp [revTo, pairs]
  | p + 1 => by
    rw [revTo, pairs, List.mem_append, mem_pairs f m p, List.mem_map]
    constructor
    · rintro (⟨y, hy, e⟩ | ⟨a, b, h1, h2, e⟩)
      · obtain ⟨a, ha, e2⟩ := (mem_revTo f y p).mp hy
        exact ⟨a, p, ha, by omega, by rw [← e, e2, Nat.xor_comm]⟩
      · exact ⟨a, b, h1, by omega, e⟩
    · rintro ⟨a, b, h1, h2, e⟩
      by_cases c : b = p
      · subst c
        exact .inl ⟨f a, (mem_revTo f _ b).mpr ⟨a, h1, rfl⟩, by rw [e, Nat.xor_comm]⟩
      · exact .inr ⟨a, b, h1, by omega, e⟩
theorem mem_scan (f : Nat → Nat) (m : Nat) : ∀ n a p, m ∈ scan a (revTo f p) n ↔ ∃ j, j < n ∧ j ≤ p ∧ m = a ^^^ xs f ((List.range j).map fun k => p - j + k)
  | 0, a, p => by simp [scan]
  | n + 1, a, 0 => by
    rw [revTo, scan, List.mem_singleton]
    constructor
    · intro h
      exact ⟨0, by omega, by omega, by simp [xs, h]⟩
    · rintro ⟨j, h1, h2, e⟩
      have : j = 0 := by omega
      subst this
      simpa [xs] using e
  | n + 1, a, p + 1 => by
    rw [revTo, scan, List.mem_cons, mem_scan f m n (a ^^^ f p) p]
    have step : ∀ j, j ≤ p → xs f ((List.range (j + 1)).map fun k => p + 1 - (j + 1) + k) = f p ^^^ xs f ((List.range j).map fun k => p - j + k) := by
      intro j hj
      rw [List.range_succ, List.map_append, xs_append]
      have e1 : p + 1 - (j + 1) = p - j := by omega
      have e2 : p - j + j = p := by omega
      simp only [e1, List.map_cons, List.map_nil, e2]
      simp [xs, Nat.xor_comm]
    constructor
    · rintro (h | ⟨j, h1, h2, e⟩)
      · exact ⟨0, by omega, by omega, by simp [xs, h]⟩
      · refine ⟨j + 1, by omega, by omega, ?_⟩
        rw [step j h2, e, Nat.xor_assoc]
    · rintro ⟨j, h1, h2, e⟩
      cases j with
      | zero => exact .inl (by simpa [xs] using e)
      | succ j => exact .inr ⟨j, by omega, by omega, by rw [e, step j (by omega), Nat.xor_assoc]⟩
theorem sums_mem {r : Rule} (hg : Good r) (f : Nat → Nat) (p m : Nat) : m ∈ sums r (revTo f p) ↔ m ∈ (shapes r p).map fun s => xs f s.dropLast := by
  rw [List.mem_map]
  unfold sums
  by_cases h2 : r.1 = 2
  · rw [if_pos h2, mem_scan]
    constructor
    · rintro ⟨j, h1, h3, e⟩
      refine ⟨(List.range (j + 1)).map fun k => p + 1 - (j + 1) + k, (mem_run h2).mpr ⟨by simp, by simp; omega, by simp; omega, by simp⟩, ?_⟩
      rw [e, Nat.zero_xor, List.range_succ, List.map_append, List.map_cons, List.map_nil, List.dropLast_concat]
      have e1 : p + 1 - (j + 1) = p - j := by omega
      rw [e1]
    · rintro ⟨t, ht, e⟩
      obtain ⟨h1, hk, hl, et⟩ := (mem_run h2).mp ht
      obtain ⟨j, hj⟩ : ∃ j, t.length = j + 1 := ⟨t.length - 1, by omega⟩
      refine ⟨j, by omega, by omega, ?_⟩
      rw [← e, et, hj, Nat.zero_xor, List.range_succ, List.map_append, List.map_cons, List.map_nil, List.dropLast_concat]
      have e1 : p + 1 - (j + 1) = p - j := by omega
      rw [e1]
  · rw [if_neg h2]
    have hk : 1 ≤ r.2 ∧ r.2 ≤ 3 ∧ (r.1 = 0 ∨ r.1 = 1) := by rcases hg with h | h <;> omega
    simp only [mem_few h2]
    obtain ⟨ty, k⟩ := r
    simp only at hk h2 ⊢
    obtain ⟨k1, k3, ht⟩ := hk
    have one : (∃ a : List Nat, (1 ≤ a.length ∧ a.length ≤ k ∧ (ty = 0 ∨ a.length = k) ∧ (a = [p] ∨ (∃ one, one < p ∧ a = [one, p]) ∨ ∃ one two, one < two ∧ two < p ∧ a = [one, two, p])) ∧ xs f a.dropLast = m) ↔
        ((ty = 0 ∨ k = 1) ∧ m = 0) ∨ ((2 ≤ k ∧ (ty = 0 ∨ k = 2)) ∧ ∃ a, a < p ∧ m = f a) ∨ (3 ≤ k ∧ ∃ a b, a < b ∧ b < p ∧ m = f a ^^^ f b) := by
      constructor
      · rintro ⟨a, ⟨g1, g2, g3, g4⟩, e⟩
        rcases g4 with rfl | ⟨x, hx, rfl⟩ | ⟨x, y, hx, hy, rfl⟩
        · exact .inl ⟨g3.imp id fun h => h.symm, by simpa [xs] using e.symm⟩
        · exact .inr (.inl ⟨⟨g2, g3.imp id fun h => h.symm⟩, x, hx, by simpa [xs] using e.symm⟩)
        · exact .inr (.inr ⟨g2, x, y, hx, hy, by simpa [xs] using e.symm⟩)
      · rintro (⟨c, e⟩ | ⟨⟨c, d⟩, x, hx, e⟩ | ⟨c, x, y, hx, hy, e⟩)
        · exact ⟨[p], ⟨by simp, by simpa using k1, c.imp id fun h => by simpa using h.symm, .inl rfl⟩, by simp [xs, e]⟩
        · exact ⟨[x, p], ⟨by simp, by simpa using c, d.imp id fun h => by simpa using h.symm, .inr (.inl ⟨x, hx, rfl⟩)⟩, by simp [xs, e]⟩
        · exact ⟨[x, y, p], ⟨by simp, by simpa using c, .inr (by simp; omega), .inr (.inr ⟨x, y, hx, hy, rfl⟩)⟩, by simp [xs, e]⟩
    rw [one]
    have hkk : k = 1 ∨ k = 2 ∨ k = 3 := by omega
    rcases ht with rfl | rfl <;> rcases hkk with rfl | rfl | rfl <;> simp [mem_revTo, mem_pairs]
theorem num_chk {r : Rule} (hg : Good r) : ∀ n p, chk r n p (revTo (clNum r) p) = true → (∀ q, q < p → num r q = clNum r q) → ∀ q, q < p + n → num r q = clNum r q
  | 0, p, _, h, q, hq => h q (by omega)
  | n + 1, p, hc, h, q, hq => by
    rw [chk, Bool.and_eq_true] at hc
    have hp : num r p = clNum r p := by
      rw [num_eq]
      refine Eq.trans (mex_congr fun m => ?_) (mex_leastB hc.1)
      rw [sums_mem hg]
      have : ((shapes r p).map fun s => xs (num r) s.dropLast) = (shapes r p).map fun s => xs (clNum r) s.dropLast := by
        refine List.map_congr_left fun s hs => ?_
        obtain ⟨a, rfl, hl, _⟩ := shapes_is hs
        rw [List.dropLast_concat]
        exact xs_congr fun x hx => h x (hl x hx)
      rw [this]
    refine num_chk hg n (p + 1) hc.2 (fun x hx => ?_) q (by omega)
    by_cases c : x = p
    · exact c ▸ hp
    · exact h x (by omega)
theorem num_cl {r : Rule} (hg : Good r) {p : Nat} (hp : p < 40) : num r p = clNum r p := num_chk hg 40 0 (chk_ok hg) (fun _ h => absurd h (Nat.not_lt_zero _)) p (by omega)
end Row
set_option Elab.async false
set_option linter.all false
set_option maxRecDepth 100000
set_option maxHeartbeats 1000000
namespace Row
end Row
set_option Elab.async false
set_option linter.all false
set_option maxRecDepth 100000
set_option maxHeartbeats 4000000
namespace L2
open PySem PySem.Spec PyProof.Rows
end L2
namespace L2
open PySem PySem.Spec PyProof.Rows
theorem lst_of {ts : TA} {σ : St} {H : Hp} {vs : List V} {Q : VK} (ha : EvA ts σ H vs) (hl : vs.length ≤ sizeLine) (q : ∀ p, H p = none → Q (.ref p) (upd H p (.lst vs))) : tLst ts σ H Q := ha _ ⟨hl, q⟩
theorem op_of {r : R2} {ta tb : TE} {σ : St} {H : Hp} {x : V} {Q : VK} (ha : EvE ta σ H x) (hb : tb σ H fun y H2 => r x y H2 Q) : tOp r ta tb σ H Q := ha _ hb
theorem retO_of {t : TE} {D : Ends} {σ : St} {H : Hp} (h : t σ H D.rt) : tRet t D σ H := h
end L2
namespace L2
open PySem PySem.Spec PyProof.Rows
end L2
namespace L2
open PySem PySem.Spec PyProof.Rows
section
variable {K : PySem.W.Frag} {σ : St} {H : Hp} {ta tb : TE}
end
end L2
set_option Elab.async false
set_option linter.all false
set_option maxRecDepth 100000
set_option maxHeartbeats 4000000
namespace Row
open Nim
theorem small_ok : ((List.range 5).all fun p => ((List.range 2).all fun t => (List.range' 1 3).all fun k => decide (num (t, k) p < 17)) && (List.range' 1 6).all fun k => decide (num (2, k) p < 17)) = true := by decide +kernel
theorem small_num {r : Rule} {p : Nat} (hg : Good r) (h6 : r.2 ≤ 6) (hp : p < 5) : num r p < 17 := by
  have h := List.all_eq_true.mp small_ok p (List.mem_range.mpr hp)
  rw [Bool.and_eq_true] at h
  obtain ⟨t, k⟩ := r
  rcases hg with ⟨ht, h1, h3⟩ | ⟨rfl, h1, h4⟩
  · have := List.all_eq_true.mp (List.all_eq_true.mp h.1 t (List.mem_range.mpr (by dsimp only at ht; omega))) k (List.mem_range'_1.mpr (by dsimp only at h1 h3; omega))
    exact of_decide_eq_true this
  · have := List.all_eq_true.mp h.2 k (List.mem_range'_1.mpr (by dsimp only at h1 h6; omega))
    exact of_decide_eq_true this
end Row
namespace L2
open PySem PySem.Spec PyProof.Rows
noncomputable def tv (tt : List (List Nat)) (p : Nat × Nat) : Nat := Row.at0 (tt.getD p.1 []) p.2
noncomputable def spBoardNumber (K : PySem.W.Frag) : Sp := fun vs H Q _ => ∃ (px py : Addr) (rx ry : Row.Rule) (x y : Nat), vs = [.ref px, .ref py, .int (x : Int), .int (y : Int)] ∧ SqT K H px (ruleV rx) ∧ SqT K H py (ruleV ry) ∧ Row.Good rx ∧ Row.Good ry ∧ x < 16 ∧ y < 16 ∧ ∀ H', Same H H' → Q (.int ((Row.num2 rx ry (x, y) : Nat) : Int)) H'
end L2
namespace L2
open PySem PySem.Spec PyProof.Rows
noncomputable def Kp (d : Addr) (G H : Hp) : Prop := ∀ b o, b ≠ d → G b = some o → H b = some o
theorem Kp.refl {d : Addr} {G : Hp} : Kp d G G := fun _ _ _ h => h
theorem Kp.same {d : Addr} {G H H' : Hp} (h : Kp d G H) (s : Same H H') : Kp d G H' := fun b o n e => s _ _ (h b o n e)
theorem Kp.of {d : Addr} {G H : Hp} (s : Same G H) : Kp d G H := fun b o _ e => s _ _ e
theorem Kp.trans {d : Addr} {G H H' : Hp} (h : Kp d G H) (h' : Kp d H H') : Kp d G H' := fun b o n e => h' b o n (h b o n e)
theorem Kp.put {d : Addr} {G H : Hp} {o : HO} (h : Kp d G H) : Kp d G (upd H d o) := fun b u n e => by rw [upd_ne n]; exact h b u n e
end L2
namespace L2
end L2
namespace L2
theorem ruleOf_le {c : Int} {most run : Nat} (h1 : 1 ≤ most) (h3 : 1 ≤ run) : (ruleOf c most run).2 ≤ max most run := by
  unfold ruleOf
  have a1 := Int.emod_lt_of_pos (c / 3) (by omega : (0 : Int) < most)
  have b1 := Int.emod_lt_of_pos (c / 3) (by omega : (0 : Int) < run)
  split <;> dsimp only <;> omega
end L2
namespace Row
open Nim
theorem num2_lt {rx ry : Rule} {x y : Nat} (hx : num rx x < 65536) (hy : num ry y < 65536) : num2 rx ry (x, y) < 65536 := by
  unfold num2
  exact F4.lt hx hy
end Row
set_option linter.all false
set_option maxRecDepth 100000
set_option maxHeartbeats 4000000
namespace Row
noncomputable def chs (e : Nat) : Nat → Nat → List (List Nat)
  | 0, _ => [[]]
  | c + 1, s => (List.range' s (e - s)).flatMap fun f => (chs e c (f + 1)).map fun rest => f :: rest
noncomputable def endFew (lo k p : Nat) : List (List Nat) := (List.range' lo (k + 1 - lo)).flatMap fun len => (chs p (len - 1) 0).map fun l => l ++ [p]
noncomputable def endRun (k p : Nat) : List (List Nat) := (List.range (min k (p + 1))).map fun more => List.range' (p - more) (more + 1)
theorem chs_zero (e s : Nat) : chs e 0 s = [[]] := rfl
theorem chs_one (e s : Nat) : chs e 1 s = (List.range' s (e - s)).map fun f => [f] := by
  rw [chs]
  simp only [chs_zero, List.map_cons, List.map_nil]
  rw [← List.map_eq_flatMap]
theorem chs_two (e s : Nat) : chs e 2 s = (List.range' s (e - s)).flatMap fun f => (List.range' (f + 1) (e - (f + 1))).map fun g => [f, g] := by
  rw [chs]
  simp only [chs_one, List.map_map]
  rfl
noncomputable def prt (r : Rule) (last many : Nat) : List (List Nat) :=
  if r.1 = 2 then (if many ≤ last + 1 then [(List.range many).map fun k => last + 1 - many + k] else [])
    else if r.1 = 0 ∨ many = r.2 then
      (if many = 1 then [[last]] else []) ++ (if many = 2 then (List.range last).map fun one => [one, last] else []) ++
      (if many = 3 then (List.range last).flatMap fun one => (List.range' (one + 1) (last - (one + 1))).map fun two => [one, two, last] else [])
    else []
theorem shapes_prt (r : Rule) (last : Nat) : shapes r last = (List.range' 1 r.2).flatMap (prt r last) := rfl
theorem prt_few {r : Rule} (h2 : r.1 ≠ 2) (p many : Nat) (h1 : 1 ≤ many) (h3 : many ≤ 3) (hm : r.1 = 0 ∨ many = r.2) : prt r p many = (chs p (many - 1) 0).map fun l => l ++ [p] := by
  unfold prt
  rw [if_neg h2, if_pos hm]
  rcases (by omega : many = 1 ∨ many = 2 ∨ many = 3) with rfl | rfl | rfl
  · simp [chs_zero]
  · rw [show 2 - 1 = 1 from rfl, chs_one, List.map_map, Nat.sub_zero, ← List.range_eq_range']
    simp
  · rw [show 3 - 1 = 2 from rfl, chs_two, Nat.sub_zero, ← List.range_eq_range', List.map_flatMap]
    simp only [List.map_map]
    simp
    rfl
theorem endFew_most {k p : Nat} (h1 : 1 ≤ k) (h3 : k ≤ 3) : endFew 1 k p = shapes (0, k) p := by
  rw [shapes_prt]
  unfold endFew
  rw [show k + 1 - 1 = k by omega]
  show List.flatMap _ (List.range' 1 k) = List.flatMap _ (List.range' 1 k)
  have : ∀ x ∈ List.range' 1 k, ((chs p (x - 1) 0).map fun l => l ++ [p]) = prt (0, k) p x := by
    intro x hx
    rw [List.mem_range'_1] at hx
    exact (prt_few (show (0 : Nat) ≠ 2 by decide) p x hx.1 (by omega) (.inl rfl)).symm
  rw [List.flatMap_def, List.flatMap_def, List.map_congr_left this]
theorem endFew_just {k p : Nat} (h1 : 1 ≤ k) (h3 : k ≤ 3) : endFew k k p = shapes (1, k) p := by
  rw [shapes_prt]
  unfold endFew
  rw [show k + 1 - k = 1 by omega]
  show List.flatMap _ (List.range' k 1) = List.flatMap _ (List.range' 1 k)
  have e : List.range' 1 k = List.range' 1 (k - 1) ++ [k] := by
    have := @List.range'_1_concat 1 (k - 1)
    rw [show k - 1 + 1 = k by omega, show 1 + (k - 1) = k by omega] at this
    exact this
  have z : (List.range' 1 (k - 1)).flatMap (prt (1, k) p) = [] := by
    rw [List.flatMap_eq_nil_iff]
    intro x hx
    rw [List.mem_range'_1] at hx
    unfold prt
    rw [if_neg (show ¬ (1 : Nat) = 2 by decide), if_neg (by show ¬ ((1 : Nat) = 0 ∨ x = k); omega)]
  rw [e, List.flatMap_append, z, List.nil_append]
  have pf := prt_few (r := (1, k)) (show (1 : Nat) ≠ 2 by decide) p k h1 h3 (.inr rfl)
  show ((chs p (k - 1) 0).map fun l => l ++ [p]) ++ [] = prt (1, k) p k ++ []
  rw [pf]
theorem run_list (p more : Nat) (h : more ≤ p) : ((List.range (more + 1)).map fun k => p + 1 - (more + 1) + k) = List.range' (p - more) (more + 1) := by
  rw [List.range'_eq_map_range]
  have : p + 1 - (more + 1) = p - more := by omega
  rw [this]
theorem endRun_eq (k p : Nat) : endRun k p = shapes (2, k) p := by
  rw [shapes_prt]
  unfold endRun
  show List.map _ (List.range (min k (p + 1))) = List.flatMap (prt (2, k) p) (List.range' 1 k)
  have e : List.range' 1 k = List.range' 1 (min k (p + 1)) ++ List.range' (1 + min k (p + 1)) (k - min k (p + 1)) := by
    rw [List.range'_append_1]
    congr 1
    omega
  have z : (List.range' (1 + min k (p + 1)) (k - min k (p + 1))).flatMap (prt (2, k) p) = [] := by
    rw [List.flatMap_eq_nil_iff]
    intro x hx
    rw [List.mem_range'_1] at hx
    unfold prt
    rw [if_pos rfl, if_neg (by omega)]
  rw [e, List.flatMap_append, z, List.append_nil, List.range'_eq_map_range, List.flatMap_map, List.map_eq_flatMap, List.flatMap_def, List.flatMap_def]
  refine congrArg _ (List.map_congr_left fun x hx => ?_)
  have := List.mem_range.mp hx
  unfold prt
  rw [if_pos rfl, if_pos (by omega), show 1 + x = x + 1 by omega, run_list p x (by omega)]
noncomputable def endsAt (r : Rule) (p : Nat) : List (List Nat) := if r.1 = 2 then endRun r.2 p else endFew (if r.1 = 1 then r.2 else 1) r.2 p
theorem endsAt_eq {r : Rule} (hg : Good r) (p : Nat) : endsAt r p = shapes r p := by
  obtain ⟨t, k⟩ := r
  unfold endsAt
  rcases hg with ⟨h | h, h1, h3⟩ | ⟨h, h1, h3⟩ <;> simp only at h h1 h3 ⊢ <;> subst h
  · rw [if_neg (by decide), if_neg (by decide)]; exact endFew_most h1 h3
  · rw [if_neg (by decide), if_pos rfl]; exact endFew_just h1 h3
  · rw [if_pos rfl]; exact endRun_eq k p
end Row
set_option Elab.async false
set_option linter.all false
set_option maxRecDepth 100000
set_option maxHeartbeats 4000000
namespace L2
open PySem PySem.Spec PyProof.Rows
noncomputable def atS (kvs : List (Str × V)) (y : Str) : Option V := (kvs.find? fun kv => decide (kv.1 = y)).map (·.2)
noncomputable def GDic (K : PySem.W.Frag) (Pm : Params) (mg : Str → Option Value) (x : Str) (kvs : List (Str × V)) : Prop :=
  ∃ a es n, mg x = some (.ref a) ∧ K.lookup a = some ⟨.type "dict", none, .dict es n, #[]⟩ ∧ PySem.W.KeysLit Pm es.toList ∧ (a == sysModules) = false ∧
    Paired (fun (kv : Str × V) (e : DictEntry) => (∃ t, e.key = .str kv.1 t) ∧ RelV kv.2 e.val) kvs es.toList
theorem isStrOf_dec (x y : Str) (t : Tok) : Value.isStrOf y (.str x t) = decide (x = y) := by
  first
    | (show (x == y) = decide (x = y); by_cases h : x = y <;> simp [h])
    | (show (y == x) = decide (x = y); by_cases h : x = y <;> simp [h, eq_comm])
theorem find_rel {kvs : List (Str × V)} {l : List DictEntry} (h : Paired (fun (kv : Str × V) (e : DictEntry) => (∃ t, e.key = .str kv.1 t) ∧ RelV kv.2 e.val) kvs l) (y : Str) : RelO (atS kvs y) ((l.find? fun e => Value.isStrOf y e.key).map (·.val)) := by
  induction h with
  | nil => trivial
  | @cons p q ps qs h t ih =>
    obtain ⟨⟨tk, e⟩, r⟩ := h
    unfold atS at ih ⊢
    rw [List.find?_cons, List.find?_cons, e, isStrOf_dec]
    by_cases c : p.1 = y
    · rw [decide_eq_true c]; exact r
    · rw [decide_eq_false c]; exact ih
theorem find_relA {kvs : List (Str × V)} {es : Array DictEntry} (h : Paired (fun (kv : Str × V) (e : DictEntry) => (∃ t, e.key = .str kv.1 t) ∧ RelV kv.2 e.val) kvs es.toList) (y : Str) : RelO (atS kvs y) (findBy Value.isStrOf es y) := by
  obtain ⟨l⟩ := es
  unfold findBy
  rw [List.find?_toArray]
  exact find_rel h y
theorem glob_dic {K : PySem.W.Frag} {Pm : Params} {h : Heap} {mg : Str → Option Value} {x : Str} {a : Addr} {es : Array DictEntry} {n : Nat} {kvs : List (Str × V)} (X : K.In h) (G : h.Ns mainGlobals mg)
    (e : PySem.W.nsIn K mainGlobals x = some (some (.ref a))) (l : K.lookup a = some ⟨.type "dict", none, .dict es n, #[]⟩) (hk : PySem.W.KeysLit Pm es.toList) (hs : (a == sysModules) = false)
    (v : Paired (fun (kv : Str × V) (e : DictEntry) => (∃ t, e.key = .str kv.1 t) ∧ RelV kv.2 e.val) kvs es.toList) : GDic K Pm mg x kvs := ⟨a, es, n, PySem.W.mg_of X G e, l, hk, hs, v⟩
noncomputable def tKGet (kvs : List (Str × V)) (te : TE) : TE := fun σ H Q => te σ H fun y H1 => ∃ x v, y = .str x ∧ atS kvs x = some v ∧ Q v H1
noncomputable def tKIn (neg : Bool) (kvs : List (Str × V)) (te : TE) : TE := fun σ H Q => te σ H fun y H1 => ∃ x, y = .str x ∧ Q (.bl ((atS kvs x).isSome != neg)) H1
section
variable {X : Cx} {x : Str} {kvs : List (Str × V)} {i : Expr} {ty : TE} {pos pos' : Pos}
theorem pe_kget (h : GDic X.K X.w.params X.mg x kvs) (hi : PE X i ty) (hs : NoSl i) (hg : Gl X x := by rfl) (hd : (x == ("__debug__" : Str)) = false := by decide) : PE X (.Subscript (.Name x pos) i pos') (tKGet kvs ty) := by
  obtain ⟨a, es, n, hm, hl, hk, hsy, rel⟩ := h
  intro pins s σ H Q I h
  refine subD_of PySem.F.slot_dict_getitem.lookup hs (thn (pe_glob (v := .ref a) hg hm rfl hd pins s σ H (fun x H1 => x = .ref a ∧ H1 = H) I ⟨rfl, rfl⟩) fun u s1 ⟨x1, H1, I1, rx, ex, eH⟩ => ?_)
  subst ex eH
  obtain rfl : u = Value.ref a := rx
  refine thn (hi pins s1 σ _ _ I1 h) fun iv s2 ⟨y, H2, I2, ry, x2, v, ey, lk, q2⟩ => ?_
  subst ey
  obtain ⟨t, rfl⟩ := ry
  have hm := PySem.W.mapOf_K (prog := X.prog) (w := X.w) I2.kIn hl hk
  obtain ⟨w', hw, rw'⟩ := RelO.some_of (v := v) (o := findBy Value.isStrOf es x2) (by rw [← lk]; exact find_relA rel x2)
  exact ⟨hm.typeIs, wpAny_getItem_of (strKind_is X.prog X.w x2 t) hm hw ⟨v, H2, I2.tok _, rw', q2⟩⟩
theorem pc_knotin (h : GDic X.K X.w.params X.mg x kvs) (hi : PE X i ty) (hg : Gl X x := by rfl) (hd : (x == ("__debug__" : Str)) = false := by decide) : PC X .NotIn i (.Name x pos) (tKIn true kvs ty) := by
  obtain ⟨a, es, n, hm, hl, hk, hsy, rel⟩ := h
  intro pins s σ H Q I h
  refine thn (hi pins s σ H _ I h) fun iv s1 ⟨y, H1, I1, ry, x2, ey, q1⟩ => thn (pe_glob (v := .ref a) hg hm rfl hd pins s1 σ H1 (fun x H2 => x = .ref a ∧ H2 = H1) I1 ⟨rfl, rfl⟩) fun u s2 ⟨x1, H2, I2, rx, ex, eH⟩ => ?_
  subst ex eH ey
  obtain rfl : u = Value.ref a := rx
  obtain ⟨t, rfl⟩ := ry
  have hm := PySem.W.mapOf_K (prog := X.prog) (w := X.w) I2.kIn hl hk
  refine wpAny_notIn_of (strKind_is X.prog X.w x2 t) hsy hm ?_
  rw [← (find_relA rel x2).isSome_eq]
  exact ⟨.bl _, _, I2.tok _, rfl, by simpa using q1⟩
theorem call_rng2 : CallR X (.type "range") (fun xs H Q => ∃ i j, xs = [.int i, .int j] ∧ ∀ l, H l = none → Q (.ref l) (upd H l (.rng i j))) := by
  intro pins s σ H xs us Q I r h
  obtain ⟨i, j, rfl, q⟩ := h
  obtain ⟨u, v, rfl, ⟨t, rfl⟩, ⟨t', rfl⟩⟩ := vals2 r
  refine call_range_2 ⟨.ref s.heap.objs.size, _, I.laid (t' := s.toks + 1) (o := .rng i j) (fun b ob e => Heap.get?_push_of_some _ e) (Nat.le_refl _) ?_, rfl, q _ (I.hok.fresh (Nat.le_refl _))⟩
  exact ⟨t, t', s.toks, Heap.get?_push_size _ rfl⟩
theorem paired_of {α β : Type} {F : α → β → Prop} : ∀ {xs : List α} {ys : List β}, xs.length = ys.length → (∀ (i : Nat) x y, xs[i]? = some x → ys[i]? = some y → F x y) → Paired F xs ys
  | [], [], _, _ => .nil
  | [], _ :: _, h, _ => by simp at h
  | _ :: _, [], h, _ => by simp at h
  | x :: xs, y :: ys, h, g => .cons (g 0 x y rfl rfl) (paired_of (by simpa using h) fun i a b ha hb => g (i + 1) a b (by simpa using ha) (by simpa using hb))
theorem items_vals {lo : Int} {n : Nat} {acc : Array Value} (h : ItemsOf (fun i v => ∃ t, v = .int (lo + i * 1) t) acc n) : Vals ((List.range n).map fun (k : Nat) => V.int (lo + k)) acc.toList := by
  refine paired_of (by rw [List.length_map, List.length_range, Array.length_toList, h.1]) fun i x y hx hy => ?_
  rw [List.getElem?_map] at hx
  rw [Array.getElem?_toList] at hy
  have hi : i < n := by
    have := (Array.getElem?_eq_some_iff.mp hy).1
    rw [h.1] at this
    exact this
  rw [List.getElem?_range hi] at hx
  cases hx
  obtain ⟨tk, e⟩ := h.2 i y hy
  exact ⟨tk, by rw [e, Int.mul_one]⟩
theorem call_list_rng (hc : X.calm = true) : CallR X (.type "list") (fun xs H Q => ∃ p lo hi, xs = [.ref p] ∧ H p = some (.rng lo hi) ∧ -(2 ^ 62) ≤ lo ∧ lo < 2 ^ 62 ∧ -(2 ^ 62) ≤ hi ∧ hi < 2 ^ 62 ∧ (hi - lo).toNat ≤ 2 ^ 24 ∧
    ∀ l, H l = none → Q (.ref l) (upd H l (.lst ((List.range (hi - lo).toNat).map fun (k : Nat) => V.int (lo + k))))) := by
  intro pins s σ H xs us Q I r h
  obtain ⟨p, lo, hi, rfl, hp, h1, h2, h3, h4, hn, q⟩ := h
  obtain ⟨u, rfl, rx⟩ := vals1 r
  cases rx
  obtain ⟨t, u, v, hr⟩ := (show ObjOk X.prog X.w H s.heap p (.rng lo hi) from I.hok p _ hp)
  have e2 : Builtin.Range.rangeSize lo hi 1 = (((hi - lo).toNat : Nat) : Int) := by rw [rangeSize_one]; split <;> omega
  refine call_list_range (I.ok.hd hc) (show IsRange s.heap p lo hi 1 t u v from hr) (small_one h1 h2 h3 h4) e2 hn fun h' tk acc c hk hD hI => ?_
  exact ⟨.ref s.heap.objs.size, _, I.laid (t' := tk) hk (Nat.le_refl _) (show ObjOk X.prog X.w _ h' _ (.lst _) from ⟨by rw [List.length_map, List.length_range]; exact Nat.le_trans hn (by decide), acc.toList, c, items_vals hI, hD⟩), rfl, q _ (I.hok.fresh (Nat.le_refl _))⟩
end
section
variable {σ : St} {H : Hp} {t : TE} {kvs : List (Str × V)} {x : Str} {v : V}
theorem ev_kget (h : EvE t σ H (.str x)) (e : atS kvs x = some v) : EvE (tKGet kvs t) σ H v := fun Q q => h _ ⟨x, v, rfl, e, q⟩
theorem ev_kin {neg : Bool} (h : EvE t σ H (.str x)) : EvE (tKIn neg kvs t) σ H (.bl ((atS kvs x).isSome != neg)) := fun Q q => h _ ⟨x, rfl, q⟩
theorem while_ev {c : TT} {tb : TS} {D : Ends} {σ : St} {H : Hp} (Pv : St → Hp → Prop) (μ : St → Hp → Nat) (h0 : Pv σ H)
    (hs : ∀ σ H, Pv σ H → ∃ b, EvT c σ H b ∧ (b = true → tb { D with nx := fun σ' H' => Pv σ' H' ∧ μ σ' H' < μ σ H, ct := fun σ' H' => Pv σ' H' ∧ μ σ' H' < μ σ H, bk := D.nx } σ H) ∧ (b = false → D.nx σ H)) : tWhile c tb D σ H := by
  refine ⟨fun m σ H => m = μ σ H ∧ Pv σ H, ⟨_, rfl, h0⟩, ?_⟩
  rintro m σ H ⟨rfl, p⟩
  obtain ⟨b, hb, ht, hf⟩ := hs σ H p
  refine hb _ ?_
  cases b with
  | true => exact ⟨_, fun σ' H' ⟨p', l⟩ => ⟨_, l, rfl, p'⟩, ht rfl⟩
  | false => exact hf rfl
theorem ev_isJust {K : PySem.W.Frag} {σ : St} {H : Hp} {n : Nat} {pr : Addr} {r : Row.Rule} (hv : σ[n]? = some (some (.ref pr))) (h : SqT K H pr (ruleV r)) (h2 : r.1 ≤ 2) : EvE (tOp rEq (tOp (rIxT K) (tVar n) (tC (V.int 0))) (tC (V.str "just"))) σ H (.bl (decide (r.1 = 1))) := by
  rw [← word_just h2]
  exact ev_eq (ev_rule0 hv h) ev_c rfl
section
variable {K : PySem.W.Frag} {sp : Sp} {E : XK} {ts : TA} {t : TE} {σ : St} {H : Hp} {vs : List V} {Q : VK} {r : List V → Hp → VK → Prop} {R : It → Hp → Prop}
theorem call_of (ha : EvA ts σ H vs) (h : sp (vs ++ []) H Q E) : tCall sp [] E ts σ H Q := ha _ h
theorem cb_of (ha : EvA ts σ H vs) (h : r vs H Q) : tCB r ts σ H Q := ha _ h
theorem cb1_of (h : t σ H fun v H1 => r [v] H1 Q) : tCB r (tCons t tNil) σ H Q := h
theorem argE_of {v : V} {Q : List V → Hp → Prop} (ha : EvE t σ H v) (h : ts σ H fun vs H1 => Q (v :: vs) H1) : tCons t ts σ H Q := ha _ h
theorem callO_of (h : ts σ H fun vs H1 => sp (vs ++ []) H1 Q E) : tCall sp [] E ts σ H Q := h
theorem arg1_of {Q : List V → Hp → Prop} (h : t σ H fun v H1 => Q [v] H1) : tCons t tNil σ H Q := h
theorem tup_of (ha : EvA ts σ H vs) (hl : vs.length ≤ sizeLine) (q : ∀ p, H p = none → Q (.ref p) (upd H p (.tup vs))) : tTup ts σ H Q := ha _ ⟨hl, q⟩
theorem forO_of {wi : TI} {g : TG} {tb : TS} {D : Ends} (h : wi σ H fun J H1 => ∃ W : Nat → Nat → St → Hp → Prop, (∃ m, W 0 m σ H1) ∧ ∀ i m σ H, W i m σ H →
  (J.stop i H ∧ D.nx σ H) ∨ (J.go i H ∧ ∃ N : St → Hp → Prop, (∀ σ' H', N σ' H' → ∃ m', m' < m ∧ W (i + 1) m' σ' H') ∧ ∀ x H', J.yld i H x H' → g x σ H' fun σ2 H2 => tb { D with nx := N, ct := N, bk := D.nx } σ2 H2)) : tFor wi g tb D σ H := h
theorem asgO_of {D : Ends} {n : Nat} (h : t σ H fun x H1 => D.nx (σ.set n (some x)) H1) : tAsg t (gName n) D σ H := h
theorem ifO_of {D : Ends} {s u : TS} (h : t σ H fun x H1 => ∃ k, x = .bl k ∧ (if k = true then s D σ H1 else u D σ H1)) : tIfS (tTest t) s u D σ H := h
theorem ifB_of {D : Ends} {s u : TS} (h : t σ H fun x H1 => ∃ k, x = .bl k ∧ (if k = true then s D σ H1 else u D σ H1)) : tIfS (tB t) s u D σ H := h
theorem opO_of {r : R2} {tb : TE} (h : t σ H fun x H1 => tb σ H1 fun y H2 => r x y H2 Q) : tOp r t tb σ H Q := h
theorem iList_of (h : t σ H fun v H1 => ∃ a, v = .ref a ∧ (∃ xs, SqL K H1 a xs) ∧ R (Itl K a) H1) : iList K t σ H R := h
end
noncomputable def intAt (k : Nat) (σ : St) : Nat := match σ[k]? with
  | some (some (V.int n)) => n.toNat
  | _ => 0
end
theorem comp_rows {K : PySem.W.Frag} {wi : TI} {ix : List Nat} {te : TE} {σ : St} {H : Hp} {Q : VK} {xss : List (List Nat)} (g : List Nat → List Nat) (Cn : Hp → Addr → List Addr → Prop)
    (hw : ∀ R : It → Hp → Prop, (∀ H1 la rs0, Cn H1 la rs0 → R (Itl K la) H1) → wi σ H R) (hl : ∀ H1 la rs0, Cn H1 la rs0 → Same H H1 ∧ H1 la = some (.lst (rs0.map V.ref)) ∧ RL H H1 xss rs0) (hn : xss.length < sizeLine)
    (he : ∀ (x : List Nat) (r : Addr) (H' : Hp) (R : VK), x ∈ xss → Same H H' → H' r = some (.lst (nl x)) → (∀ p H'', Same H' H'' → H' p = none → H'' p = some (.lst (nl (g x))) → R (.ref p) H'') → te (some (.ref r) :: slots σ ix) H' R)
    (q : ∀ acc rs H2, H acc = none → Same H H2 → H2 acc = some (.lst (rs.map V.ref)) → RL H H2 (xss.map g) rs → rs.Nodup → Q (.ref acc) H2) : tComp wi ix tYes te σ H Q := by
  refine hw _ fun H1 la rs0 hc acc hacc => ?_
  obtain ⟨s1, hla, hr0⟩ := hl H1 la rs0 hc
  have lr := hr0.length
  refine ⟨fun i m H2 => i ≤ xss.length ∧ m = xss.length - i ∧ Same H1 H2 ∧ ∃ rs, H2 acc = some (.lst (rs.map V.ref)) ∧ RL H H2 ((xss.take i).map g) rs ∧ rs.Nodup, ⟨xss.length, Nat.zero_le _, by simp, (Same.refl H1).new hacc, [], upd_same, .nil, List.nodup_nil⟩, ?_⟩
  rintro i m H2 ⟨hi, rfl, sm, rs, hl2, hr2, nd⟩
  have hq : SqL K H2 la (rs0.map V.ref) := .of (sm _ _ hla)
  by_cases hlt : i < xss.length
  · have hi0 : i < (rs0.map V.ref).length := by rw [List.length_map]; omega
    refine .inr ⟨⟨_, (rs0.map V.ref)[i], hq, List.getElem?_eq_getElem hi0⟩, ?_⟩
    rintro x H3 ⟨rfl, hx⟩
    have hx := hx _ hq
    rw [List.getElem?_map] at hx
    cases er : rs0[i]? with
    | none => rw [er] at hx; cases hx
    | some r =>
      rw [er] at hx
      cases hx
      obtain ⟨xi, hxi, hri, hfr⟩ := paired_get hr0 er
      unfold tYes
      dsimp only
      rw [if_pos rfl]
      refine he xi r _ _ (List.mem_of_getElem? hxi) (s1.trans sm) (sm _ _ hri) fun p H4 s4 hp hp4 => ?_
      have pn : p ∉ rs := fun hm => by
        obtain ⟨_, _, e, _⟩ := paired_mem hr2 hm
        rw [hp] at e
        cases e
      have pa : acc ≠ p := ne_of_none hl2 hp
      refine ⟨rs.map V.ref, s4 _ _ hl2, ?_, xss.length - (i + 1), by omega, hlt, rfl, (sm.trans s4).upd hacc, rs ++ [p], ?_, ?_, ?_⟩
      · rw [List.length_map, ← hr2.length, List.length_map, List.length_take]; omega
      · rw [upd_same, List.map_append]; rfl
      · rw [List.take_add_one, hxi, List.map_append]
        refine RL.app (RL.set (hr2.same s4) (hr2.apart hl2)) (.cons ⟨?_, (s1.trans sm).free hp⟩ .nil)
        rw [upd_ne (Ne.symm pa)]
        exact hp4
      · rw [List.nodup_append]
        refine ⟨nd, by simp, fun a ha b hb e => ?_⟩
        have : b = p := by simpa using hb
        subst this
        subst e
        exact pn ha
  · have e : i = xss.length := by omega
    subst e
    refine .inl ⟨⟨_, hq, by rw [List.length_map]; omega⟩, q acc rs H2 (s1.free hacc) (s1.trans sm) hl2 ?_ nd⟩
    rw [List.take_length] at hr2
    exact hr2
theorem comp_range_rows {wi : TI} {ix : List Nat} {te : TE} {σ : St} {H : Hp} {Q : VK} {lo : Int} {n : Nat} (f : Nat → List Nat) (hw : ∀ R : It → Hp → Prop, R (Itr lo n) H → wi σ H R) (hn : n < sizeLine)
    (he : ∀ (i : Nat) (H' : Hp) (R : VK), i < n → Same H H' → (∀ p H'', Same H' H'' → H' p = none → H'' p = some (.lst (nl (f i))) → R (.ref p) H'') → te (some (.int (lo + i)) :: slots σ ix) H' R)
    (q : ∀ acc rs H2, H acc = none → Same H H2 → H2 acc = some (.lst (rs.map V.ref)) → RL H H2 ((List.range n).map f) rs → rs.Nodup → Q (.ref acc) H2) : tComp wi ix tYes te σ H Q := by
  refine hw _ fun acc hacc => ⟨fun i m H2 => i ≤ n ∧ m = n - i ∧ Same H H2 ∧ ∃ rs, H2 acc = some (.lst (rs.map V.ref)) ∧ RL H H2 ((List.range i).map f) rs ∧ rs.Nodup, ⟨n, Nat.zero_le _, by simp, (Same.refl H).new hacc, [], upd_same, .nil, List.nodup_nil⟩, ?_⟩
  rintro i m H2 ⟨hi, rfl, sm, rs, hl2, hr2, nd⟩
  by_cases hlt : i < n
  · refine .inr ⟨hlt, ?_⟩
    rintro x H3 ⟨rfl, rfl⟩
    unfold tYes
    dsimp only
    rw [if_pos rfl]
    refine he i _ _ hlt sm fun p H4 s4 hp hp4 => ?_
    have pn : p ∉ rs := fun hm => by
      obtain ⟨_, _, e, _⟩ := paired_mem hr2 hm
      rw [hp] at e
      cases e
    have pa : acc ≠ p := ne_of_none hl2 hp
    refine ⟨rs.map V.ref, s4 _ _ hl2, ?_, n - (i + 1), by omega, hlt, rfl, (sm.trans s4).upd hacc, rs ++ [p], ?_, ?_, ?_⟩
    · rw [List.length_map, ← hr2.length, List.length_map, List.length_range]; omega
    · rw [upd_same, List.map_append]; rfl
    · rw [List.range_succ, List.map_append]
      refine RL.app (RL.set (hr2.same s4) (hr2.apart hl2)) (.cons ⟨?_, sm.free hp⟩ .nil)
      rw [upd_ne (Ne.symm pa)]
      exact hp4
    · rw [List.nodup_append]
      refine ⟨nd, by simp, fun a ha b hb e => ?_⟩
      have : b = p := by simpa using hb
      subst this
      subst e
      exact pn ha
  · have e : i = n := by omega
    subst e
    exact .inl ⟨Nat.le_refl _, q acc rs H2 hacc sm hl2 hr2 nd⟩
theorem nodup_behind {H0 H1 H2 : Hp} {xss yss : List (List Nat)} {rs ss : List Addr} (h : RL H0 H1 xss rs) (h' : RL H1 H2 yss ss) (n : rs.Nodup) (n' : ss.Nodup) : (rs ++ ss).Nodup := by
  rw [List.nodup_append]
  refine ⟨n, n', fun a ha b hb e => ?_⟩
  subst e
  obtain ⟨_, _, e1, _⟩ := paired_mem h ha
  obtain ⟨_, _, _, e2⟩ := paired_mem h' hb
  rw [e2] at e1
  cases e1
end L2
namespace Row
theorem chs_len {e : Nat} (he : e ≤ 40) : ∀ c s, (chs e c s).length ≤ 40 ^ c
  | 0, s => by simp [chs]
  | c + 1, s => by
    rw [chs]
    refine Nat.le_trans (flat_len (m := 40 ^ c) fun a _ => by rw [List.length_map]; exact chs_len he c _) ?_
    rw [List.length_range', Nat.pow_succ, Nat.mul_comm]
    exact Nat.mul_le_mul_left _ (by omega)
theorem chs_mem_len {e : Nat} : ∀ {c s : Nat} {x : List Nat}, x ∈ chs e c s → x.length = c
  | 0, s, x, h => by
    rw [chs] at h
    rw [List.mem_singleton.mp h]
    rfl
  | c + 1, s, x, h => by
    rw [chs] at h
    obtain ⟨f, _, h⟩ := List.mem_flatMap.mp h
    obtain ⟨r, hr, rfl⟩ := List.mem_map.mp h
    rw [List.length_cons, chs_mem_len hr]
end Row
set_option Elab.async false
set_option linter.all false
set_option maxRecDepth 100000
set_option maxHeartbeats 4000000
namespace HT
open PySem PyProof.Rows
noncomputable def lexLe : List Int → List Int → Bool
  | [], _ => true
  | _ :: _, [] => false
  | x :: xs, y :: ys => if x = y then lexLe xs ys else decide (x ≤ y)
theorem lexLe_cons (x y : Int) (xs ys : List Int) : lexLe (x :: xs) (y :: ys) = if x = y then lexLe xs ys else decide (x ≤ y) := rfl
theorem lexLe_nil_nil : lexLe [] [] = true := rfl
theorem lexLe_nil_cons (y : Int) (ys : List Int) : lexLe [] (y :: ys) = true := rfl
theorem lexLe_cons_nil (x : Int) (xs : List Int) : lexLe (x :: xs) [] = false := rfl
theorem rcLe_int (A : Around) (s : Shared) (a : Int) (t : Tok) (c : Int) (u : Tok) (prog : Program) (w : World) (E : Value → Shared → Prop) (Q : Value → Shared → Prop) (h : Q (.bool (decide (a ≤ c))) s) :
    wpAny (model prog w) A (richCompare .LtE (.int a t) (.int c u)) Q E s :=
  (PyProof.Rows.le_int h : wpAny (model prog w) A (compareOp .LtE (.int a t) (.int c u)) Q E s)
section
open PySem.SeqAt
open PySem.AutoSeq1 (wpAny_loadPart')
open PySem.MeetsSeq PySem.MeetsSeq2 PySem.MeetsSeq3
theorem tuple_le_ints (l b : Addr) (items items2 : Array Value) (n n2 : Nat) (dd dd2 : Option Addr) (sl sl2 : Array (Option Value)) (ns ms : List Int) (hi : IntsAre items.toList ns) (hj : IntsAre items2.toList ms) :
    Meets (Builtin.«tuple.__le__» ⟨[.ref l, .ref b], []⟩)
      (fun _ R s => s.heap.get? l = some { cls := .type "tuple", dict := dd, data := .seq items n, slots := sl } ∧ s.heap.get? b = some { cls := .type "tuple", dict := dd2, data := .seq items2 n2, slots := sl2 } ∧
        R (.ok (.ret (.bool (lexLe ns ms)))) s) :=
  .of_wp fun prog w A R s h => by
    obtain ⟨hp, g, d, tk, os⟩ := s; obtain ⟨hl, hb, h⟩ := h
    have f2 := AutoSeq1.sub_tuple_tuple
    have z1 : items.size = ns.length := by rw [← hi.length]; simp
    have z2 : items2.size = ms.length := by rw [← hj.length]; simp
    wp_walk using wpAny_loadPart' hl, wpAny_loadPart' hb, wpAny_forIn_list _ (fun rest b s' => b.1 = none ∧ s' = ⟨hp, g, d, tk, os⟩ ∧ ∃ (vs ws : List Value) (ns' ms' : List Int), rest = vs.zip ws ∧
      IntsAre vs ns' ∧ IntsAre ws ms' ∧ ns'.length + items2.size = ms'.length + items.size ∧ R (.ok (.ret (.bool (lexLe ns' ms')))) ⟨hp, g, d, tk, os⟩) _
    case turn =>
      rintro ⟨y, x⟩ rest b s' ⟨hb', rfl, vs, ws, ns', ms', hz, hvi, hwi, hlen, hR⟩
      cases hvi with
      | nil => rw [List.zip_nil_left] at hz; cases hz
      | cons a t hvi' =>
        cases hwi with
        | nil => rw [List.zip_nil_right] at hz; cases hz
        | cons c u hwi' =>
          rw [List.zip_cons_cons] at hz
          injection hz with hyx hrest
          injection hyx with hy hx
          subst hy hx
          rw [lexLe_cons] at hR
          simp only [List.length_cons] at hlen
          obtain ⟨e, he, hiff⟩ := eqAt_int A.in1 ⟨hp, g, d, tk, os⟩ a t c u
          refine wpAny_bind (he prog w _ _ ?_)
          cases e with
          | true =>
            rw [if_pos (hiff.mp rfl)] at hR
            wp_walk
            exact ⟨rfl, rfl, _, _, _, _, hrest, hvi', hwi', by omega, hR⟩
          | false =>
            rw [if_neg (fun q => absurd (hiff.mpr q) Bool.false_ne_true)] at hR
            have hri := rcLe_int A.in1 ⟨hp, g, d, tk, os⟩ a t c u prog w
            wp_walk using hri
            exact ⟨_, rfl, by simpa using hR⟩
    case fin =>
      rintro ⟨b1, b2⟩ s' ⟨hb', rfl, vs, ws, ns', ms', hz, hvi, hwi, hlen, hR⟩
      simp only at hb'
      subst hb'
      have hv : lexLe ns' ms' = decide (items.size ≤ items2.size) := by
        cases hvi with
        | nil =>
          cases hwi with
          | nil =>
            simp only [List.length_nil] at hlen
            rw [lexLe_nil_nil]
            exact (decide_eq_true (by omega)).symm
          | cons c u hw =>
            simp only [List.length_nil, List.length_cons] at hlen
            rw [lexLe_nil_cons]
            exact (decide_eq_true (by omega)).symm
        | cons a t hv =>
          cases hwi with
          | nil =>
            simp only [List.length_nil, List.length_cons] at hlen
            rw [lexLe_cons_nil]
            exact (decide_eq_false (by omega)).symm
          | cons c u hw =>
            rw [List.zip_cons_cons] at hz
            cases hz
      rw [hv] at hR
      wp_walk
      exact ⟨_, rfl, by simpa [Builtin.Tuple.tupleCompareSizes] using hR⟩
    case h =>
      exact ⟨rfl, rfl, items.toList, items2.toList, ns, ms, rfl, hi, hj, by omega, h⟩
end
section
variable {prog : Program} {w : World} {A : Around} {E : Value → Shared → Prop} {s : Shared}
theorem le_tupInts {l b : Addr} {items items2 : Array Value} {ns ms : List Int} {Q : Value → Shared → Prop} (hl : IsTup s.heap l items) (hb : IsTup s.heap b items2) (hi : IntsAre items.toList ns) (hj : IntsAre items2.toList ms)
    (hu : A.units < cLine) (h : Q (.bool (lexLe ns ms)) s) : wpAny (model prog w) A (compareOp .LtE (.ref l) (.ref b)) Q E s := by
  obtain ⟨⟨cls, dd, data, sl⟩, ho, hc, n, hd⟩ := id hl
  obtain ⟨⟨cls2, dd2, data2, sl2⟩, ho2, hc2, n2, hd2⟩ := id hb
  simp only at hc hd hc2 hd2
  subst hc hd hc2 hd2
  exact richCompare_meets_room (op := .LtE) ⟨_, ho, rfl⟩ ⟨_, ho2, rfl⟩ PySem.F.slot_tuple_le PySem.F.entry_tuple_le (PySem.F.args_tuple_le_2 _ _) (tuple_le_ints l b items items2 n n2 dd dd2 sl sl2 ns ms hi hj)
    ⟨ho, ho2, show Value.bool (lexLe ns ms) ≠ Value.notImplemented ∧ Q (.bool (lexLe ns ms)) s from ⟨(fun x => nomatch x), h⟩⟩ hu
end
end HT
namespace L2
open PySem PySem.Spec PyProof.Rows
section
variable {X : Cx}
noncomputable def rLeT (K : PySem.W.Frag) : R2 := fun x y H Q => ∃ a b ns ms, x = .ref a ∧ y = .ref b ∧ SqT K H a (ns.map V.int) ∧ SqT K H b (ms.map V.int) ∧ Q (.bl (HT.lexLe ns ms)) H
theorem op_leT (hu : X.A.units < cLine) : OpR X (compareOp .LtE) (rLeT X.K) := by
  intro pins s σ H x y v u Q I rx ry h
  obtain ⟨a, b, ns, ms, rfl, rfl, ha, hb, q⟩ := h
  cases rx
  cases ry
  obtain ⟨its, r1, p1, _⟩ := I.tuple ha
  obtain ⟨its2, r2, p2, _⟩ := I.tuple hb
  have i1 : IntsAre its.toArray.toList ns := intsAre_of r1
  have i2 : IntsAre its2.toArray.toList ms := intsAre_of r2
  exact HT.le_tupInts p1 p2 i1 i2 hu ⟨.bl (HT.lexLe ns ms), H, I, rfl, q⟩
end
end L2
set_option linter.all false
set_option maxRecDepth 100000
set_option maxHeartbeats 4000000
namespace Row
open Nim
noncomputable def PLt (a b : Nat × Nat) : Prop := a.1 < b.1 ∨ (a.1 = b.1 ∧ a.2 < b.2)
structure IsBoard (ps : List (Nat × Nat)) : Prop where
  sorted : ps.Pairwise PLt
  lt : ∀ p ∈ ps, p.1 < 16 ∧ p.2 < 16
theorem num32_ok : ((List.range 16).all fun p => ((List.range 2).all fun t => (List.range' 1 3).all fun k => decide (clNum (t, k) p < 32)) && (List.range' 1 40).all fun k => decide (clNum (2, k) p < 32)) = true := by decide +kernel
theorem num32 {r : Rule} {p : Nat} (hg : Good r) (hp : p < 16) : num r p < 32 := by
  rw [num_cl hg (by omega)]
  have h := List.all_eq_true.mp num32_ok p (List.mem_range.mpr hp)
  rw [Bool.and_eq_true] at h
  obtain ⟨t, k⟩ := r
  rcases hg with ⟨h1, h2, h3⟩ | ⟨h1, h2, h3⟩ <;> simp only at h1 h2 h3
  · have a := List.all_eq_true.mp h.1 t (List.mem_range.mpr (by omega))
    exact of_decide_eq_true (List.all_eq_true.mp a k (List.mem_range'_1.mpr (by omega)))
  · subst h1
    exact of_decide_eq_true (List.all_eq_true.mp h.2 k (List.mem_range'_1.mpr (by omega)))
theorem sum32 {r : Rule} {l : List Nat} (hg : Good r) (hl : ∀ a ∈ l, a < 16) : xs (num r) l < 32 := xs_lt (k := 5) fun a ha => num32 hg (hl a ha)
noncomputable def turns2 (rx ry : Rule) (ps : List (Nat × Nat)) : List (List Nat × List Nat) := ps.flatMap fun p => (shapes rx p.1).flatMap fun as => (shapes ry p.2).map fun bs => (as, bs)
noncomputable def tsum (rx ry : Rule) (t : List Nat × List Nat) : Nat := nim 4 (xs (num rx) t.1) (xs (num ry) t.2)
noncomputable def replyOf2 (rx ry : Rule) (ps : List (Nat × Nat)) : Option (List Nat × List Nat) := (turns2 rx ry ps).find? fun t => tsum rx ry t == xs (num2 rx ry) ps
theorem mem_turns2 {rx ry : Rule} {ps : List (Nat × Nat)} {t : List Nat × List Nat} : t ∈ turns2 rx ry ps ↔ ∃ p ∈ ps, t.1 ∈ shapes rx p.1 ∧ t.2 ∈ shapes ry p.2 := by
  unfold turns2
  rw [List.mem_flatMap]
  constructor
  · rintro ⟨p, hp, h⟩
    obtain ⟨as, ha, h⟩ := List.mem_flatMap.mp h
    obtain ⟨bs, hb, rfl⟩ := List.mem_map.mp h
    exact ⟨p, hp, ha, hb⟩
  · rintro ⟨p, hp, ha, hb⟩
    exact ⟨p, hp, List.mem_flatMap.mpr ⟨t.1, ha, List.mem_map.mpr ⟨t.2, hb, rfl⟩⟩⟩
theorem n16 {r : Rule} {p : Nat} (hg : Good r) (hp : p < 16) : num r p < 65536 := Nat.lt_trans (num32 hg hp) (by decide)
theorem shape16 {r : Rule} {l : Nat} {s : List Nat} (h : s ∈ shapes r l) (hl : l < 16) : ∀ a ∈ s, a < 16 := fun a ha => by have := shape_le h a ha; omega
theorem tsum_cross {rx ry : Rule} (gx : Good rx) (gy : Good ry) {t : List Nat × List Nat} (h1 : ∀ a ∈ t.1, a < 16) (h2 : ∀ a ∈ t.2, a < 16) : tsum rx ry t = xs (num2 rx ry) (cross t.1 t.2) :=
  (xs_cross (fun p hp => n16 gx (h1 p hp)) fun p hp => n16 gy (h2 p hp)).symm
theorem tsum_ne {rx ry : Rule} (gx : Good rx) (gy : Good ry) {ps : List (Nat × Nat)} (hb : ∀ p ∈ ps, p.1 < 16 ∧ p.2 < 16) {t : List Nat × List Nat} (ht : t ∈ turns2 rx ry ps) : tsum rx ry t ≠ 0 := by
  obtain ⟨p, hp, ha, hb'⟩ := mem_turns2.mp ht
  have l := hb p hp
  rw [tsum_cross gx gy (shape16 ha l.1) (shape16 hb' l.2)]
  exact turn2_not_zero ha hb' (fun i hi => n16 gx (by omega)) fun i hi => n16 gy (by omega)
theorem reply2_zero {rx ry : Rule} (gx : Good rx) (gy : Good ry) {ps : List (Nat × Nat)} (hb : ∀ p ∈ ps, p.1 < 16 ∧ p.2 < 16) (h : xs (num2 rx ry) ps = 0) : replyOf2 rx ry ps = none := by
  unfold replyOf2
  rw [List.find?_eq_none]
  intro t ht
  rw [beq_iff_eq, h]
  exact tsum_ne gx gy hb ht
theorem reply2_some {rx ry : Rule} (gx : Good rx) (gy : Good ry) {ps : List (Nat × Nat)} (hb : ∀ p ∈ ps, p.1 < 16 ∧ p.2 < 16) (hs : ∀ p ∈ ps, num rx p.1 < 17 ∧ num ry p.2 < 17) (h : xs (num2 rx ry) ps ≠ 0) : ∃ t, replyOf2 rx ry ps = some t := by
  obtain ⟨p, hp, as, ha, bs, hbs, e⟩ := turn2_to_zero h hs (fun p hp i hi => n16 gx (by have := hb p hp; omega)) fun p hp i hi => n16 gy (by have := hb p hp; omega)
  have l := hb p hp
  cases c : replyOf2 rx ry ps with
  | some t => exact ⟨t, rfl⟩
  | none =>
    unfold replyOf2 at c
    rw [List.find?_eq_none] at c
    refine absurd ?_ (c (as, bs) (mem_turns2.mpr ⟨p, hp, ha, hbs⟩))
    rw [beq_iff_eq, tsum_cross gx gy (shape16 ha l.1) (shape16 hbs l.2)]
    exact e
theorem reply2_mem {rx ry : Rule} {ps : List (Nat × Nat)} {t : List Nat × List Nat} (h : replyOf2 rx ry ps = some t) : t ∈ turns2 rx ry ps ∧ tsum rx ry t = xs (num2 rx ry) ps := by
  unfold replyOf2 at h
  exact ⟨List.mem_of_find?_eq_some h, by simpa using List.find?_some h⟩
noncomputable def grid (n : Nat) : List (Nat × Nat) := (List.range n).flatMap fun x => (List.range n).map fun y => (x, y)
theorem mem_grid {n : Nat} {p : Nat × Nat} : p ∈ grid n ↔ p.1 < n ∧ p.2 < n := by
  unfold grid
  rw [List.mem_flatMap]
  constructor
  · rintro ⟨x, hx, h⟩
    obtain ⟨y, hy, rfl⟩ := List.mem_map.mp h
    exact ⟨List.mem_range.mp hx, List.mem_range.mp hy⟩
  · rintro ⟨h1, h2⟩
    exact ⟨p.1, List.mem_range.mpr h1, List.mem_map.mpr ⟨p.2, List.mem_range.mpr h2, rfl⟩⟩
theorem grid_sorted (n : Nat) : (grid n).Pairwise PLt := by
  unfold grid
  rw [List.pairwise_flatMap]
  refine ⟨fun x _ => ?_, ?_⟩
  · rw [List.pairwise_map]
    exact List.Pairwise.imp (fun h => .inr ⟨rfl, h⟩) List.pairwise_lt_range
  · refine List.Pairwise.imp (fun {a b} h p hp q hq => ?_) List.pairwise_lt_range
    obtain ⟨y, _, rfl⟩ := List.mem_map.mp hp
    obtain ⟨z, _, rfl⟩ := List.mem_map.mp hq
    exact .inl h
theorem plt_irrefl (a : Nat × Nat) : ¬ PLt a a := fun h => by rcases h with h | ⟨_, h⟩ <;> omega
theorem plt_trans {a b c : Nat × Nat} (h : PLt a b) (h' : PLt b c) : PLt a c := by
  unfold PLt at *
  omega
theorem plt_nodup {l : List (Nat × Nat)} (h : l.Pairwise PLt) : l.Nodup := List.nodup_iff_pairwise_ne.mpr (List.Pairwise.imp (fun {a b} (h : PLt a b) (e : a = b) => plt_irrefl a (by rw [← e] at h; exact h)) h)
theorem plt_ext : ∀ {l r : List (Nat × Nat)}, l.Pairwise PLt → r.Pairwise PLt → (∀ a, a ∈ l ↔ a ∈ r) → l = r
  | [], [], _, _, _ => rfl
  | [], b :: r, _, _, h => absurd ((h b).mpr List.mem_cons_self) (by simp)
  | a :: l, [], _, _, h => absurd ((h a).mp List.mem_cons_self) (by simp)
  | a :: l, b :: r, h1, h2, h => by
    rw [List.pairwise_cons] at h1 h2
    have e : a = b := by
      rcases List.mem_cons.mp ((h a).mp List.mem_cons_self) with q | q
      · exact q
      · rcases List.mem_cons.mp ((h b).mpr List.mem_cons_self) with q' | q'
        · exact q'.symm
        · exact absurd (plt_trans (h2.1 a q) (h1.1 b q')) (plt_irrefl b)
    subst e
    congr 1
    refine plt_ext h1.2 h2.2 fun c => ?_
    constructor
    · intro hc
      rcases List.mem_cons.mp ((h c).mp (List.mem_cons_of_mem _ hc)) with q | q
      · exact absurd (q ▸ h1.1 c hc) (plt_irrefl a)
      · exact q
    · intro hc
      rcases List.mem_cons.mp ((h c).mpr (List.mem_cons_of_mem _ hc)) with q | q
      · exact absurd (q ▸ h2.1 c hc) (plt_irrefl a)
      · exact q
noncomputable def behind2 (n : Nat) (ps : List (Nat × Nat)) (t : List Nat × List Nat) : List (Nat × Nat) := (grid n).filter fun p => decide (p ∈ ps) != (decide (p.1 ∈ t.1) && decide (p.2 ∈ t.2))
theorem behind2_board {n : Nat} (hn : n ≤ 16) (ps : List (Nat × Nat)) (t : List Nat × List Nat) : IsBoard (behind2 n ps t) :=
  ⟨List.Pairwise.filter _ (grid_sorted n), fun p hp => by have := mem_grid.mp (List.mem_filter.mp hp).1; omega⟩
theorem behind2_lt {n : Nat} {ps : List (Nat × Nat)} {t : List Nat × List Nat} : ∀ p ∈ behind2 n ps t, p.1 < n ∧ p.2 < n := fun p hp => mem_grid.mp (List.mem_filter.mp hp).1
theorem grid_self {n : Nat} {ps : List (Nat × Nat)} (h : ps.Pairwise PLt) (hl : ∀ p ∈ ps, p.1 < n ∧ p.2 < n) : (grid n).filter (fun p => decide (p ∈ ps)) = ps := by
  refine plt_ext (List.Pairwise.filter _ (grid_sorted n)) h fun a => ?_
  rw [List.mem_filter, mem_grid]
  constructor
  · rintro ⟨_, q⟩
    simpa using q
  · intro q
    exact ⟨hl a q, by simpa using q⟩
theorem cross_sorted {as bs : List Nat} (ha : Sorted as) (hb : Sorted bs) : (cross as bs).Pairwise PLt := by
  unfold cross
  rw [List.pairwise_flatMap]
  refine ⟨fun x _ => ?_, ?_⟩
  · rw [List.pairwise_map]
    exact List.Pairwise.imp (fun h => .inr ⟨rfl, h⟩) hb
  · refine List.Pairwise.imp (fun {a b} h p hp q hq => ?_) ha
    obtain ⟨y, _, rfl⟩ := List.mem_map.mp hp
    obtain ⟨z, _, rfl⟩ := List.mem_map.mp hq
    exact .inl h
theorem mem_cross {as bs : List Nat} {p : Nat × Nat} : p ∈ cross as bs ↔ p.1 ∈ as ∧ p.2 ∈ bs := by
  unfold cross
  rw [List.mem_flatMap]
  constructor
  · rintro ⟨x, hx, h⟩
    obtain ⟨y, hy, rfl⟩ := List.mem_map.mp h
    exact ⟨hx, hy⟩
  · rintro ⟨h1, h2⟩
    exact ⟨p.1, h1, List.mem_map.mpr ⟨p.2, h2, rfl⟩⟩
theorem xs_behind2 {n : Nat} {ps : List (Nat × Nat)} {t : List Nat × List Nat} (f : Nat × Nat → Nat) (h : ps.Pairwise PLt) (hl : ∀ p ∈ ps, p.1 < n ∧ p.2 < n) (s1 : Sorted t.1) (s2 : Sorted t.2) (l1 : ∀ a ∈ t.1, a < n) (l2 : ∀ a ∈ t.2, a < n) :
    xs f (behind2 n ps t) = xs f ps ^^^ xs f (cross t.1 t.2) := by
  have e : behind2 n ps t = (grid n).filter fun p => decide (p ∈ ps) != decide (p ∈ cross t.1 t.2) := by
    unfold behind2
    refine List.filter_congr fun p _ => ?_
    congr 1
    rw [Bool.eq_iff_iff]
    simp [mem_cross]
  rw [e, xs_turned, grid_self h hl, grid_self (cross_sorted s1 s2) fun p hp => ⟨l1 _ (mem_cross.mp hp).1, l2 _ (mem_cross.mp hp).2⟩]
noncomputable def weight2 (n : Nat) (ps : List (Nat × Nat)) : Nat := xs (fun p => 2 ^ (n * p.1 + p.2)) ps
theorem weight2_bit {n : Nat} {ps : List (Nat × Nat)} (hl : ∀ p ∈ ps, p.2 < n) (h : ps.Pairwise PLt) (q : Nat × Nat) (hq : q.2 < n) : (weight2 n ps).testBit (n * q.1 + q.2) = decide (q ∈ ps) := by
  have key : ∀ p : Nat × Nat, p.2 < n → (n * p.1 + p.2 = n * q.1 + q.2 ↔ p = q) := fun p hp => by
    constructor
    · intro e
      have h1 : p.1 = q.1 := by
        have a1 : (n * p.1 + p.2) / n = p.1 := by
          rw [Nat.mul_add_div (by omega), Nat.div_eq_of_lt hp]; omega
        have a2 : (n * q.1 + q.2) / n = q.1 := by
          rw [Nat.mul_add_div (by omega), Nat.div_eq_of_lt hq]; omega
        rw [← a1, e, a2]
      have h2 : p.2 = q.2 := by rw [h1] at e; omega
      exact Prod.ext h1 h2
    · rintro rfl; rfl
  have nd := plt_nodup h
  induction ps with
  | nil => simp [weight2, xs]
  | cons p ps ih =>
    rw [List.nodup_cons] at nd
    rw [List.pairwise_cons] at h
    have ih := ih (fun x hx => hl x (List.mem_cons_of_mem _ hx)) h.2 nd.2
    unfold weight2 at ih ⊢
    simp only [xs]
    rw [Nat.testBit_xor, ih, Nat.testBit_two_pow]
    have k := key p (hl p List.mem_cons_self)
    by_cases c : p = q
    · subst c
      simp [nd.1]
    · have c' : ¬ n * p.1 + p.2 = n * q.1 + q.2 := fun z => c (k.mp z)
      simp [c', Ne.symm c]
theorem behind2_less {rx ry : Rule} {n : Nat} {ps : List (Nat × Nat)} {t : List Nat × List Nat} {l : Nat × Nat} (hs : ps.Pairwise PLt) (hl : ∀ p ∈ ps, p.1 < n ∧ p.2 < n) (hm : l ∈ ps) (h1 : t.1 ∈ shapes rx l.1) (h2 : t.2 ∈ shapes ry l.2) : weight2 n (behind2 n ps t) < weight2 n ps := by
  have ln := hl l hm
  have s1 := shape_sorted h1
  have s2 := shape_sorted h2
  have l1 : ∀ a ∈ t.1, a ≤ l.1 := shape_le h1
  have l2 : ∀ a ∈ t.2, a ≤ l.2 := shape_le h2
  have e : weight2 n (behind2 n ps t) = weight2 n ps ^^^ weight2 n (cross t.1 t.2) := xs_behind2 _ hs hl s1 s2 (fun a ha => by have := l1 a ha; omega) fun a ha => by have := l2 a ha; omega
  rw [e]
  have hc := cross_sorted s1 s2
  have cl : ∀ p ∈ cross t.1 t.2, p.2 < n := fun p hp => by have := l2 _ (mem_cross.mp hp).2; omega
  have last : ∀ {r : Rule} {k : Nat} {s : List Nat}, s ∈ shapes r k → k ∈ s := fun h => by
    obtain ⟨a, rfl, _, _⟩ := shapes_is h
    simp
  have inl : l ∈ cross t.1 t.2 := mem_cross.mpr ⟨last h1, last h2⟩
  have bit := weight2_bit cl hc l ln.2
  rw [decide_eq_true inl] at bit
  have ne : weight2 n (cross t.1 t.2) ≠ 0 := fun z => by rw [z] at bit; simp at bit
  have top : (weight2 n (cross t.1 t.2)).log2 = n * l.1 + l.2 := by
    have lt : weight2 n (cross t.1 t.2) < 2 ^ (n * l.1 + l.2 + 1) := by
      refine xs_lt fun p hp => Nat.pow_lt_pow_right (by decide) ?_
      have hp' := mem_cross.mp hp
      have b1 := l1 _ hp'.1
      have b2 := l2 _ hp'.2
      have : n * p.1 ≤ n * l.1 := Nat.mul_le_mul_left _ b1
      omega
    have ge : 2 ^ (n * l.1 + l.2) ≤ weight2 n (cross t.1 t.2) := Nat.ge_two_pow_of_testBit bit
    have g1 : n * l.1 + l.2 ≤ (weight2 n (cross t.1 t.2)).log2 := (Nat.le_log2 ne).mpr ge
    have g2 : (weight2 n (cross t.1 t.2)).log2 < n * l.1 + l.2 + 1 := (Nat.log2_lt ne).mpr lt
    omega
  refine xor_lt_self ne ?_
  rw [top, weight2_bit (fun p hp => (hl p hp).2) hs l ln.2, decide_eq_true hm]
end Row
set_option Elab.async false
set_option linter.all false
set_option maxRecDepth 100000
set_option maxHeartbeats 4000000
namespace L2
open PySem PySem.Spec PyProof.Rows
noncomputable def BL (K : PySem.W.Frag) (H : Hp) (ps : List (Nat × Nat)) (rs : List Addr) : Prop := Paired (fun (p : Nat × Nat) r => SqT K H r [.int (p.1 : Int), .int (p.2 : Int)]) ps rs
theorem BL.length {K : PySem.W.Frag} {H : Hp} {ps : List (Nat × Nat)} {rs : List Addr} (h : BL K H ps rs) : ps.length = rs.length := Paired.length h
theorem BL.same {K : PySem.W.Frag} {H H' : Hp} {ps : List (Nat × Nat)} {rs : List Addr} (h : BL K H ps rs) (s : Same H H') : BL K H' ps rs := Paired.mapP h fun _ _ q => s.tup q
noncomputable def spBoardValue (K : PySem.W.Frag) : Sp := fun vs H Q _ => ∃ (px py ph : Addr) (rx ry : Row.Rule) (ps : List (Nat × Nat)) (rs : List Addr), vs = [.ref px, .ref py, .ref ph] ∧ SqT K H px (ruleV rx) ∧ SqT K H py (ruleV ry) ∧ Row.Good rx ∧ Row.Good ry ∧
  SqL K H ph (rs.map V.ref) ∧ BL K H ps rs ∧ Row.IsBoard ps ∧ ∀ H', Same H H' → Q (.int ((Row.xs (Row.num2 rx ry) ps : Nat) : Int)) H'
noncomputable def spBoardReply (K : PySem.W.Frag) : Sp := fun vs H Q _ => ∃ (px py ph : Addr) (rx ry : Row.Rule) (ps : List (Nat × Nat)) (rs : List Addr), vs = [.ref px, .ref py, .ref ph] ∧ SqT K H px (ruleV rx) ∧ SqT K H py (ruleV ry) ∧ Row.Good rx ∧ Row.Good ry ∧
  SqL K H ph (rs.map V.ref) ∧ BL K H ps rs ∧ Row.IsBoard ps ∧
  (Row.replyOf2 rx ry ps = none → ∀ H', Same H H' → Q .non H') ∧
  (∀ t, Row.replyOf2 rx ry ps = some t → ∀ H' p a b, Same H H' → H p = none → H' p = some (.tup [.ref a, .ref b]) → H a = none → H b = none → a ≠ b → H' a = some (.lst (nl t.1)) → H' b = some (.lst (nl t.2)) → Q (.ref p) H')
theorem at_refs2 {α : Type} {F : α → Addr → Prop} {ps : List α} {rs : List Addr} {i : Nat} {x : V} (h : Paired F ps rs) (hx : (rs.map V.ref)[i]? = some x) : ∃ p r, ps[i]? = some p ∧ rs[i]? = some r ∧ x = V.ref r ∧ F p r := by
  rw [List.getElem?_map] at hx
  cases e : rs[i]? with
  | none => rw [e] at hx; cases hx
  | some r =>
    rw [e] at hx
    cases hx
    obtain ⟨p, hp, hF⟩ := paired_get h e
    exact ⟨p, r, hp, rfl, rfl, hF⟩
noncomputable def TLF (Pr : Addr → Prop) (H : Hp) (f : List Nat → Addr → List V) (xss : List (List Nat)) (ts : List Addr) : Prop :=
  ts.length = xss.length ∧ ∀ (j : Nat) t, ts[j]? = some t → ∃ s a, xss[j]? = some s ∧ H t = some (.tup (f s a)) ∧ H a = some (.lst (nl s)) ∧ Pr a
theorem TLF.keep {Pr : Addr → Prop} {H H' : Hp} {f : List Nat → Addr → List V} {xss : List (List Nat)} {ts : List Addr} (h : TLF Pr H f xss ts) (k1 : ∀ a xs, H a = some (.lst xs) → H' a = some (.lst xs)) (k2 : ∀ a xs, H a = some (.tup xs) → H' a = some (.tup xs)) : TLF Pr H' f xss ts :=
  ⟨h.1, fun j t e => by
    obtain ⟨s, a, h1, h2, h3, h4⟩ := h.2 j t e
    exact ⟨s, a, h1, k2 _ _ h2, k1 _ _ h3, h4⟩⟩
theorem TLF.imp {Pr Pr' : Addr → Prop} {H : Hp} {f : List Nat → Addr → List V} {xss : List (List Nat)} {ts : List Addr} (h : TLF Pr H f xss ts) (g : ∀ a s, H a = some (.lst (nl s)) → Pr a → Pr' a) : TLF Pr' H f xss ts :=
  ⟨h.1, fun j t e => by
    obtain ⟨x, a, h1, h2, h3, h4⟩ := h.2 j t e
    exact ⟨x, a, h1, h2, h3, g a x h3 h4⟩⟩
theorem comp_tups {K : PySem.W.Frag} {wi : TI} {ix : List Nat} {te : TE} {σ : St} {H : Hp} {Q : VK} {xss : List (List Nat)} (f : List Nat → Addr → List V) (Cn : Hp → Addr → List Addr → Prop)
    (hw : ∀ R : It → Hp → Prop, (∀ H1 la rs0, Cn H1 la rs0 → R (Itl K la) H1) → wi σ H R) (hl : ∀ H1 la rs0, Cn H1 la rs0 → Same H H1 ∧ H1 la = some (.lst (rs0.map V.ref)) ∧ RL H H1 xss rs0) (hn : xss.length < sizeLine)
    (he : ∀ (x : List Nat) (r : Addr) (H' : Hp) (R : VK), x ∈ xss → Same H H' → H' r = some (.lst (nl x)) → (∀ p, H' p = none → R (.ref p) (upd H' p (.tup (f x r)))) → te (some (.ref r) :: slots σ ix) H' R)
    (q : ∀ acc ts H2, H acc = none → Same H H2 → H2 acc = some (.lst (ts.map V.ref)) → TLF (fun a => H a = none) H2 f xss ts → Q (.ref acc) H2) : tComp wi ix tYes te σ H Q := by
  refine hw _ fun H1 la rs0 hc acc hacc => ?_
  obtain ⟨s1, hla, hr0⟩ := hl H1 la rs0 hc
  have lr := hr0.length
  refine ⟨fun i m H2 => i ≤ xss.length ∧ m = xss.length - i ∧ Same H1 H2 ∧ ∃ ts : List Addr, H2 acc = some (.lst (ts.map V.ref)) ∧ ts.length = i ∧ ∀ (j : Nat) t, ts[j]? = some t → ∃ s a, xss[j]? = some s ∧ rs0[j]? = some a ∧ H2 t = some (.tup (f s a)),
    ⟨xss.length, Nat.zero_le _, by simp, (Same.refl H1).new hacc, [], upd_same, rfl, fun j t e => by simp at e⟩, ?_⟩
  rintro i m H2 ⟨hi, rfl, sm, ts, hl2, ht, hts⟩
  have hq : SqL K H2 la (rs0.map V.ref) := .of (sm _ _ hla)
  by_cases hlt : i < xss.length
  · have hi0 : i < (rs0.map V.ref).length := by rw [List.length_map]; omega
    refine .inr ⟨⟨_, (rs0.map V.ref)[i], hq, List.getElem?_eq_getElem hi0⟩, ?_⟩
    rintro x H3 ⟨rfl, hx⟩
    have hx := hx _ hq
    rw [List.getElem?_map] at hx
    cases er : rs0[i]? with
    | none => rw [er] at hx; cases hx
    | some r =>
      rw [er] at hx
      cases hx
      obtain ⟨xi, hxi, hri, hfr⟩ := paired_get hr0 er
      unfold tYes
      dsimp only
      rw [if_pos rfl]
      refine he xi r _ _ (List.mem_of_getElem? hxi) (s1.trans sm) (sm _ _ hri) fun p hp => ?_
      have pa : acc ≠ p := ne_of_none hl2 hp
      refine ⟨ts.map V.ref, by rw [upd_ne pa]; exact hl2, ?_, xss.length - (i + 1), by omega, hlt, rfl, (sm.new hp).upd hacc, ts ++ [p], ?_, ?_, ?_⟩
      · rw [List.length_map]; omega
      · rw [upd_same, List.map_append]; rfl
      · rw [List.length_append, ht]; rfl
      · intro j t e
        by_cases c : j < ts.length
        · rw [List.getElem?_append_left c] at e
          obtain ⟨s, a, h1, h2, h3⟩ := hts j t e
          refine ⟨s, a, h1, h2, ?_⟩
          rw [upd_ne (ne_of h3 hl2 (by intro z; cases z)), upd_ne (ne_of_none h3 hp)]
          exact h3
        · rw [List.getElem?_append_right (by omega)] at e
          have hj : j = i := by
            have := (List.getElem?_eq_some_iff.mp e).1
            simp at this
            omega
          subst hj
          rw [ht, Nat.sub_self] at e
          cases e
          exact ⟨xi, r, hxi, er, by rw [upd_ne (Ne.symm pa), upd_same]⟩
  · have e : i = xss.length := by omega
    subst e
    refine .inl ⟨⟨_, hq, by rw [List.length_map]; omega⟩, q acc ts H2 (s1.free hacc) (s1.trans sm) hl2 ⟨ht, fun j t e => ?_⟩⟩
    obtain ⟨s, a, h1, h2, h3⟩ := hts j t e
    obtain ⟨s', h1', h4, h5⟩ := paired_get hr0 h2
    rw [h1] at h1'
    cases h1'
    exact ⟨s, a, h1, h3, sm _ _ h4, h5⟩
noncomputable abbrev TL (Pr : Addr → Prop) (H : Hp) (f : List Nat → Nat) (xss : List (List Nat)) (ts : List Addr) : Prop := TLF Pr H (fun s a => [.ref a, .int ((f s : Nat) : Int)]) xss ts
noncomputable def pk (a b : Nat) : List Key := [Sum.inl (a : Int), Sum.inl (b : Int)]
structure PKs (kvs : List (List Key × V)) : Prop where
  nd : (kvs.map (·.1)).Nodup
  ok : ∀ kv ∈ kvs, ∃ a b : Nat, a < 32 ∧ b < 32 ∧ kv = (pk a b, V.int ((Nim.nim 4 a b : Nat) : Int))
theorem pk_inj {a b c d : Nat} (h : pk a b = pk c d) : a = c ∧ b = d := by
  unfold pk at h
  injection h with h1 h2
  injection h2 with h2 _
  have h1 : (a : Int) = c := Sum.inl.inj h1
  have h2 : (b : Int) = d := Sum.inl.inj h2
  omega
theorem PKs.nil : PKs [] := ⟨by simp, fun kv h => by simp at h⟩
theorem PKs.len {kvs : List (List Key × V)} (h : PKs kvs) : kvs.length ≤ 1024 := by
  have key : ∀ kv ∈ kvs, ∃ n : Nat, n < 1024 ∧ kv.1 = pk (n / 32) (n % 32) := fun kv hk => by
    obtain ⟨a, b, ha, hb, rfl⟩ := h.ok kv hk
    exact ⟨a * 32 + b, by omega, by rw [show (a * 32 + b) / 32 = a by omega, show (a * 32 + b) % 32 = b by omega]⟩
  have sub : ∀ k ∈ kvs.map (·.1), k ∈ (List.range 1024).map fun n => pk (n / 32) (n % 32) := fun k hk => by
    obtain ⟨kv, hkv, rfl⟩ := List.mem_map.mp hk
    obtain ⟨n, hn, e⟩ := key kv hkv
    exact List.mem_map.mpr ⟨n, List.mem_range.mpr hn, e.symm⟩
  have := List.Nodup.length_le_of_subset h.nd sub
  simpa using this
theorem PKs.get {kvs : List (List Key × V)} (h : PKs kvs) {a b : Nat} {v : V} (e : valV kvs (pk a b) = some v) : v = V.int ((Nim.nim 4 a b : Nat) : Int) := by
  unfold valV at e
  obtain ⟨kv, hf, rfl⟩ := Option.map_eq_some_iff.mp e
  obtain ⟨c, d, _, _, rfl⟩ := h.ok kv (List.mem_of_find?_eq_some hf)
  have z := List.find?_some hf
  have z : pk c d = pk a b := by simpa using z
  obtain ⟨rfl, rfl⟩ := pk_inj z
  rfl
theorem PKs.put {kvs : List (List Key × V)} (h : PKs kvs) {a b : Nat} (ha : a < 32) (hb : b < 32) (e : valV kvs (pk a b) = none) : PKs (putK kvs (pk a b) (V.int ((Nim.nim 4 a b : Nat) : Int))) := by
  rw [putK_new _ e]
  refine ⟨?_, fun kv hk => ?_⟩
  · rw [List.map_append, List.nodup_append]
    refine ⟨h.nd, by simp, fun x hx y hy z => ?_⟩
    have : y = pk a b := by simpa using hy
    subst this
    subst z
    exact valV_not e hx
  · rcases List.mem_append.mp hk with q | q
    · exact h.ok kv q
    · exact ⟨a, b, ha, hb, by simpa using q⟩
noncomputable def spKept : Sp := fun vs H Q _ => ∃ (d : Addr) (a b : Nat) (kvs : List (List Key × V)), vs = [.ref d, .int (a : Int), .int (b : Int)] ∧ a < 32 ∧ b < 32 ∧ H d = some (.dT kvs) ∧ PKs kvs ∧
  ∀ H' kvs', Kp d H H' → H' d = some (.dT kvs') → PKs kvs' → Q (.int ((Nim.nim 4 a b : Nat) : Int)) H'
noncomputable def spSums (K : PySem.W.Frag) : Sp := fun vs H Q _ => ∃ (pr : Addr) (r : Row.Rule) (n : Nat), vs = [.ref pr, .int (n : Int)] ∧ SqT K H pr (ruleV r) ∧ Row.Good r ∧ n < 40 ∧
  ∀ H' p ts, Same H H' → H p = none → H' p = some (.lst (ts.map V.ref)) → TL (fun a => H a = none) H' (Row.xs (Row.num r)) (Row.shapes r n) ts → Q (.ref p) H'
noncomputable def pairsOf (xss yss : List (List Nat)) : List (List Nat × List Nat) := xss.flatMap fun s => yss.map fun u => (s, u)
noncomputable def spFirstAdd : Sp := fun vs H Q _ => ∃ (g : Nat) (px py d : Addr) (PA PB : Addr → Prop) (f f' : List Nat → Nat) (xss yss : List (List Nat)) (ts us : List Addr) (kvs : List (List Key × V)), vs = [.int (g : Int), .ref px, .ref py, .ref d] ∧
  H px = some (.lst (ts.map V.ref)) ∧ H py = some (.lst (us.map V.ref)) ∧ TL PA H f xss ts ∧ TL PB H f' yss us ∧ (∀ s ∈ xss, f s < 32) ∧ (∀ s ∈ yss, f' s < 32) ∧ H d = some (.dT kvs) ∧ PKs kvs ∧
  ((pairsOf xss yss).find? (fun t => Nim.nim 4 (f t.1) (f' t.2) == g) = none → ∀ H' kvs', Kp d H H' → H' d = some (.dT kvs') → PKs kvs' → Q .non H') ∧
  (∀ t, (pairsOf xss yss).find? (fun t => Nim.nim 4 (f t.1) (f' t.2) == g) = some t → ∀ H' kvs' p a b, Kp d H H' → H' d = some (.dT kvs') → PKs kvs' → H p = none → H' p = some (.tup [.ref a, .ref b]) →
    H a = some (.lst (nl t.1)) → PA a → H b = some (.lst (nl t.2)) → PB b → Q (.ref p) H')
section
variable {K : PySem.W.Frag} {d : Addr} {G H : Hp} {kvs : List (List Key × V)} {p : Addr} {xs : List V}
theorem Kp.lstT (h : Kp d G H) (hd : G d = some (.dT kvs)) (e : G p = some (.lst xs)) : H p = some (.lst xs) := h _ _ (fun z => by rw [z, hd] at e; cases e) e
theorem Kp.tupT (h : Kp d G H) (hd : G d = some (.dT kvs)) (e : G p = some (.tup xs)) : H p = some (.tup xs) := h _ _ (fun z => by rw [z, hd] at e; cases e) e
theorem Kp.free {o : HO} (h : Kp d G H) (hd : H d = some o) (e : H p = none) : G p = none := by
  cases c : G p with
  | none => rfl
  | some u =>
    by_cases z : p = d
    · rw [z, hd] at e; cases e
    · rw [h p u z c] at e; cases e
theorem Kp.sameOf {G0 : Hp} (h : Kp d G H) (s : Same G0 G) (n : G0 d = none) : Same G0 H := fun b o e => h b o (fun z => by rw [z, n] at e; cases e) (s _ _ e)
end
theorem lexLe_plt {p q : Nat × Nat} (h : Row.PLt p q) : HT.lexLe [(q.1 : Int), (q.2 : Int)] [(p.1 : Int), (p.2 : Int)] = false := by
  unfold Row.PLt at h
  simp only [HT.lexLe]
  rcases h with h | ⟨h1, h2⟩
  · rw [if_neg (by omega), decide_eq_false (by omega)]
  · rw [if_pos (by omega), if_neg (by omega), decide_eq_false (by omega)]
end L2
set_option Elab.async false
set_option linter.all false
set_option maxRecDepth 100000
set_option maxHeartbeats 4000000
namespace L2
open PySem PySem.Spec PyProof.Rows
theorem op_inDK {X : Cx} {K : PySem.W.Frag} {n k : Nat} (h : X.K = K) (hr : Room k X.A) (hn : n < 60) : OpR X (compareOp .In) (rInD K n false) := by subst h; exact op_inD hr hn
noncomputable def pd (p : Nat × Nat) : Dt := .seq true [.int (p.1 : Int), .int (p.2 : Int)]
noncomputable def bd (ps : List (Nat × Nat)) : List Dt := ps.map pd
theorem pd_inj {p q : Nat × Nat} (h : pd p = pd q) : p = q := by
  unfold pd at h
  injection h with _ h
  injection h with h1 h2
  injection h2 with h2 _
  injection h1 with h1
  injection h2 with h2
  exact Prod.ext (by omega) (by omega)
theorem bd_inj {ps qs : List (Nat × Nat)} (h : bd ps = bd qs) : ps = qs := by
  induction ps generalizing qs with
  | nil =>
    cases qs with
    | nil => rfl
    | cons q qs => cases h
  | cons p ps ih =>
    cases qs with
    | nil => cases h
    | cons q qs =>
      unfold bd at h
      rw [List.map_cons, List.map_cons] at h
      injection h with h1 h2
      rw [pd_inj h1, ih h2]
theorem bd_mem {p : Nat × Nat} {ps : List (Nat × Nat)} : pd p ∈ bd ps ↔ p ∈ ps := by
  unfold bd
  rw [List.mem_map]
  exact ⟨fun ⟨q, hq, e⟩ => pd_inj e ▸ hq, fun h => ⟨p, h, rfl⟩⟩
theorem dat_pair {K : PySem.W.Frag} {H : Hp} {n : Nat} {r : Addr} {p : Nat × Nat} (h : SqT K H r [.int (p.1 : Int), .int (p.2 : Int)]) : Dat K H (n + 1) (pd p) (.ref r) :=
  ⟨r, _, rfl, by rw [if_pos rfl]; exact h, .cons (Dat.int.mpr rfl) (.cons (Dat.int.mpr rfl) .nil)⟩
theorem bd_paired {K : PySem.W.Frag} {H : Hp} {n : Nat} : ∀ {ps : List (Nat × Nat)} {rs : List Addr}, BL K H ps rs → Paired (Dat K H (n + 1)) (bd ps) (rs.map V.ref)
  | _, _, .nil => .nil
  | _, _, .cons h t => .cons (dat_pair h) (bd_paired t)
theorem dat_board {K : PySem.W.Frag} {H : Hp} {n : Nat} {p : Addr} {ps : List (Nat × Nat)} {rs : List Addr} (h : SqL K H p (rs.map V.ref)) (hb : BL K H ps rs) : Dat K H (n + 2) (.seq false (bd ps)) (.ref p) :=
  ⟨p, _, rfl, by rw [if_neg Bool.false_ne_true]; exact h, bd_paired hb⟩
section
variable {K : PySem.W.Frag} {σ : St} {H : Hp} {ta tb : TE}
theorem in_board {neg : Bool} {r ph : Addr} {p : Nat × Nat} {ps : List (Nat × Nat)} {rs : List Addr} {Q : VK} (h : SqT K H r [.int (p.1 : Int), .int (p.2 : Int)]) (hp : SqL K H ph (rs.map V.ref)) (hb : BL K H ps rs) (q : Q (.bl (decide (p ∈ ps) != neg)) H) : rInD K 1 neg (.ref r) (.ref ph) H Q :=
  ⟨pd p, false, bd ps, dat_pair h, dat_board hp hb, fun b hb => by
    have : b = decide (p ∈ ps) := by rw [Bool.eq_iff_iff, hb, bd_mem]; simp
    rw [this]
    cases neg <;> simpa using q⟩
theorem ev_neBd {p p' : Addr} {ps qs : List (Nat × Nat)} {rs ss : List Addr} (ha : EvE ta σ H (.ref p)) (hb : EvE tb σ H (.ref p')) (h : SqL K H p (rs.map V.ref)) (hB : BL K H ps rs) (h' : SqL K H p' (ss.map V.ref)) (hB' : BL K H qs ss) :
    EvE (tOp (rNeD K 1) ta tb) σ H (.bl (!decide (ps = qs))) := fun Q q => ha _ (hb _ ⟨false, bd ps, bd qs, dat_board h hB, dat_board h' hB', fun b hb => by
  have : b = !decide (ps = qs) := by
    rw [Bool.eq_iff_iff, hb]
    simp
    exact ⟨fun h e => h (e ▸ rfl), fun h e => h (bd_inj e)⟩
  rw [this]
  exact q⟩)
end
theorem comp_range_tif {wi : TI} {ix : List Nat} {tc : TT} {te : TE} {σ : St} {H : Hp} {Q : VK} {lo : Int} {n : Nat} (p : Nat → Bool) (f : Nat → List V) (hw : ∀ R : It → Hp → Prop, R (Itr lo n) H → wi σ H R) (hn : n < sizeLine)
    (hc : ∀ (i : Nat) (H' : Hp) (R : Bool → Hp → Prop), i < n → Same H H' → (∀ H'', Same H' H'' → R (p i) H'') → tc (some (.int (lo + i)) :: slots σ ix) H' R)
    (he : ∀ (i : Nat) (H' : Hp) (R : VK), i < n → p i = true → Same H H' → (∀ q, H' q = none → R (.ref q) (upd H' q (.tup (f i)))) → te (some (.int (lo + i)) :: slots σ ix) H' R)
    (q : ∀ acc rs H2, H acc = none → Same H H2 → H2 acc = some (.lst (rs.map V.ref)) → Paired (fun i r => H2 r = some (.tup (f i))) ((List.range n).filter p) rs → Q (.ref acc) H2) : tComp wi ix tc te σ H Q := by
  refine hw _ fun acc hacc => ⟨fun i m H2 => i ≤ n ∧ m = n - i ∧ Same H H2 ∧ ∃ rs, H2 acc = some (.lst (rs.map V.ref)) ∧ Paired (fun i r => H2 r = some (.tup (f i))) ((List.range i).filter p) rs, ⟨n, Nat.zero_le _, by simp, (Same.refl H).new hacc, [], upd_same, .nil⟩, ?_⟩
  rintro i m H2 ⟨hi, rfl, sm, rs, hl2, hr2⟩
  by_cases hlt : i < n
  · refine .inr ⟨hlt, ?_⟩
    rintro x H3 ⟨rfl, rfl⟩
    refine hc i _ _ hlt sm fun H4 s4 => ?_
    have e : (List.range (i + 1)).filter p = (List.range i).filter p ++ if p i = true then [i] else [] := by
      rw [List.range_succ, List.filter_append]
      congr 1
      by_cases c : p i = true <;> simp [c]
    have hl : rs.length ≤ i := by
      rw [← Paired.length hr2]
      refine Nat.le_trans (List.length_filter_le _ _) ?_
      rw [List.length_range]
      exact Nat.le_refl _
    by_cases c : p i = true
    · rw [c, if_pos rfl]
      refine he i _ _ hlt c (sm.trans s4) fun z hz => ?_
      have hl4 := s4 _ _ hl2
      have pa : acc ≠ z := ne_of_none hl4 hz
      refine ⟨rs.map V.ref, by rw [upd_ne pa]; exact hl4, by rw [List.length_map]; omega, n - (i + 1), by omega, hlt, rfl, ((sm.trans s4).new hz).upd hacc, rs ++ [z], by rw [upd_same, List.map_append]; rfl, ?_⟩
      rw [e, if_pos c]
      refine paired_app (Paired.mapP hr2 fun j r hj => ?_) (.cons ?_ .nil)
      · have h4 := s4 _ _ hj
        rw [upd_ne (ne_of h4 hl4 (by intro z; cases z)), upd_ne (ne_of_none h4 hz)]
        exact h4
      · rw [upd_ne (Ne.symm pa), upd_same]
    · rw [if_neg c]
      refine ⟨n - (i + 1), by omega, hlt, rfl, sm.trans s4, rs, s4 _ _ hl2, ?_⟩
      rw [e, if_neg c, List.append_nil]
      exact Paired.mapP hr2 fun j r hj => s4 _ _ hj
  · have e : i = n := by omega
    subst e
    exact .inl ⟨Nat.le_refl _, q acc rs H2 hacc sm hl2 hr2⟩
theorem comp_list_tups {K : PySem.W.Frag} {wi : TI} {ix : List Nat} {te : TE} {σ : St} {H : Hp} {Q : VK} {la : Addr} {xs : List Nat} (f : Nat → List V) (hw : ∀ R : It → Hp → Prop, R (Itl K la) H → wi σ H R) (hl : H la = some (.lst (nl xs))) (hn : xs.length < sizeLine)
    (he : ∀ (y : Nat) (H' : Hp) (R : VK), Same H H' → (∀ q, H' q = none → R (.ref q) (upd H' q (.tup (f y)))) → te (some (.int (y : Int)) :: slots σ ix) H' R)
    (q : ∀ acc rs H2, H acc = none → Same H H2 → H2 acc = some (.lst (rs.map V.ref)) → Paired (fun y r => H2 r = some (.tup (f y))) xs rs → Q (.ref acc) H2) : tComp wi ix tYes te σ H Q := by
  refine hw _ fun acc hacc => ⟨fun i m H2 => i ≤ xs.length ∧ m = xs.length - i ∧ Same H H2 ∧ ∃ rs, H2 acc = some (.lst (rs.map V.ref)) ∧ Paired (fun y r => H2 r = some (.tup (f y))) (xs.take i) rs, ⟨xs.length, Nat.zero_le _, by simp, (Same.refl H).new hacc, [], upd_same, .nil⟩, ?_⟩
  rintro i m H2 ⟨hi, rfl, sm, rs, hl2, hr2⟩
  have hq : SqL K H2 la (nl xs) := .of (sm _ _ hl)
  by_cases hlt : i < xs.length
  · have hi0 : i < (nl xs).length := by rw [nl_length]; exact hlt
    refine .inr ⟨⟨_, (nl xs)[i], hq, List.getElem?_eq_getElem hi0⟩, ?_⟩
    rintro x H3 ⟨rfl, hx⟩
    have hx := hx _ hq
    obtain ⟨y, ey, rfl⟩ := nl_mem hx
    unfold tYes
    dsimp only
    rw [if_pos rfl]
    refine he y _ _ sm fun z hz => ?_
    have pa : acc ≠ z := ne_of_none hl2 hz
    have lr := Paired.length hr2
    rw [List.length_take] at lr
    refine ⟨rs.map V.ref, by rw [upd_ne pa]; exact hl2, by rw [List.length_map]; omega, xs.length - (i + 1), by omega, hlt, rfl, (sm.new hz).upd hacc, rs ++ [z], by rw [upd_same, List.map_append]; rfl, ?_⟩
    rw [List.take_add_one, ey]
    refine paired_app (Paired.mapP hr2 fun j r hj => ?_) (.cons ?_ .nil)
    · rw [upd_ne (ne_of hj hl2 (by intro z; cases z)), upd_ne (ne_of_none hj hz)]
      exact hj
    · rw [upd_ne (Ne.symm pa), upd_same]
  · have e : i = xs.length := by omega
    subst e
    rw [List.take_length] at hr2
    exact .inl ⟨⟨_, hq, by rw [nl_length]; exact Nat.le_refl _⟩, q acc rs H2 hacc sm hl2 hr2⟩
theorem comp_list_g {K : PySem.W.Frag} {wi : TI} {ix : List Nat} {te : TE} {σ : St} {H : Hp} {Q : VK} {la : Addr} {xs : List Nat} (g : Nat → Nat) (hw : ∀ R : It → Hp → Prop, R (Itl K la) H → wi σ H R) (hl : H la = some (.lst (nl xs))) (hn : xs.length < sizeLine)
    (he : ∀ (y : Nat) (H' : Hp) (R : VK), y ∈ xs → Same H H' → (∀ H'', Same H' H'' → R (.int ((g y : Nat) : Int)) H'') → te (some (.int (y : Int)) :: slots σ ix) H' R)
    (q : ∀ acc H2, H acc = none → Same H H2 → H2 acc = some (.lst (nl (xs.map g))) → Q (.ref acc) H2) : tComp wi ix tYes te σ H Q := by
  refine hw _ fun acc hacc => ⟨fun i m H2 => i ≤ xs.length ∧ m = xs.length - i ∧ Same H H2 ∧ H2 acc = some (.lst (nl ((xs.take i).map g))), ⟨xs.length, Nat.zero_le _, by simp, (Same.refl H).new hacc, upd_same⟩, ?_⟩
  rintro i m H2 ⟨hi, rfl, sm, hl2⟩
  have hq : SqL K H2 la (nl xs) := .of (sm _ _ hl)
  by_cases hlt : i < xs.length
  · have hi0 : i < (nl xs).length := by rw [nl_length]; exact hlt
    refine .inr ⟨⟨_, (nl xs)[i], hq, List.getElem?_eq_getElem hi0⟩, ?_⟩
    rintro x H3 ⟨rfl, hx⟩
    have hx := hx _ hq
    obtain ⟨y, ey, rfl⟩ := nl_mem hx
    unfold tYes
    dsimp only
    rw [if_pos rfl]
    refine he y _ _ (List.mem_of_getElem? ey) sm fun H4 s4 => ?_
    refine ⟨_, s4 _ _ hl2, by rw [nl_length, List.length_map, List.length_take]; omega, xs.length - (i + 1), by omega, hlt, rfl, (sm.trans s4).upd hacc, ?_⟩
    rw [upd_same, List.take_add_one, ey, List.map_append, nl_append]
    rfl
  · have e : i = xs.length := by omega
    subst e
    rw [List.take_length] at hl2
    exact .inl ⟨⟨_, hq, by rw [nl_length]; exact Nat.le_refl _⟩, q acc H2 hacc sm hl2⟩
noncomputable def PL (H : Hp) (ps : List (Nat × Nat)) (rs : List Addr) : Prop := Paired (fun (p : Nat × Nat) r => H r = some (.tup [.int (p.1 : Int), .int (p.2 : Int)])) ps rs
theorem PL.bl {K : PySem.W.Frag} {H : Hp} {ps : List (Nat × Nat)} {rs : List Addr} (h : PL H ps rs) : BL K H ps rs := Paired.mapP h fun _ _ q => .inl (.inl q)
theorem PL.same {H H' : Hp} {ps : List (Nat × Nat)} {rs : List Addr} (h : PL H ps rs) (s : Same H H') : PL H' ps rs := Paired.mapP h fun _ _ q => s _ _ q
theorem PL.length {H : Hp} {ps : List (Nat × Nat)} {rs : List Addr} (h : PL H ps rs) : ps.length = rs.length := Paired.length h
theorem PL.upd {H : Hp} {ps : List (Nat × Nat)} {rs : List Addr} {l : Addr} {xs : List V} {o : HO} (h : PL H ps rs) (hl : H l = some (.lst xs)) : PL (L2.upd H l o) ps rs :=
  Paired.mapP h fun _ _ q => by rw [upd_ne (ne_of q hl (by intro z; cases z))]; exact q
noncomputable def bits9 (c : Int) (i : Nat) : List Nat := (List.range i).filter fun k => decide (c / 2 ^ k % 2 = 1)
noncomputable def pl3 (k : Nat) : Nat × Nat := (k / 3, k % 3)
noncomputable def board3 (c : Int) : List (Nat × Nat) := (bits9 c 9).map pl3
theorem bits9_succ (c : Int) (i : Nat) : bits9 c (i + 1) = bits9 c i ++ if c / 2 ^ i % 2 = 1 then [i] else [] := by
  unfold bits9
  rw [List.range_succ, List.filter_append]
  congr 1
  by_cases h : c / 2 ^ i % 2 = 1 <;> simp [h]
theorem bits9_len (c : Int) (i : Nat) : (bits9 c i).length ≤ i := by
  unfold bits9
  refine Nat.le_trans (List.length_filter_le _ _) ?_
  rw [List.length_range]
  exact Nat.le_refl _
theorem board3_lt {c : Int} : ∀ p ∈ board3 c, p.1 < 3 ∧ p.2 < 3 := fun p hp => by
  obtain ⟨k, hk, rfl⟩ := List.mem_map.mp hp
  have := List.mem_range.mp (List.mem_filter.mp hk).1
  unfold pl3
  omega
theorem board3_board (c : Int) : Row.IsBoard (board3 c) := by
  refine ⟨?_, fun p hp => by have := board3_lt p hp; omega⟩
  unfold board3
  rw [List.pairwise_map]
  refine List.Pairwise.imp (fun {a b} h => ?_) (List.Pairwise.filter _ List.pairwise_lt_range)
  unfold Row.PLt pl3
  simp only
  omega
noncomputable def spBoard3 : Sp := fun vs H Q _ => ∃ c : Int, vs = [.int c] ∧ ∀ H' p rs, Same H H' → H p = none → H' p = some (.lst (rs.map V.ref)) → PL H' (board3 c) rs → Q (.ref p) H'
theorem ev_isTup {K : PySem.W.Frag} {σ : St} {H : Hp} {p : Addr} {xs : List V} {r : TA} (hr : EvA r σ H [.ref p, .ty "tuple"]) (h : H p = some (.tup xs)) : EvE (tCB (fun xs H Q => ∃ x T t b, xs = [x, .ty T] ∧ TyOf K H x t ∧ PySem.W.kitOne K t (.type T) = some b ∧ Q (.bl b) H) r) σ H (.bl true) :=
  fun Q q => hr _ ⟨_, _, _, true, rfl, .tup h, rfl, q⟩
theorem ev_lenT {K : PySem.W.Frag} {σ : St} {H : Hp} {p : Addr} {xs : List V} {r : TA} (hr : EvA r σ H [.ref p]) (h : SqT K H p xs) : EvE (tCB (fun xs H Q => ∃ p ys, xs = [.ref p] ∧ (SqL K H p ys ∨ SqT K H p ys) ∧ Q (.int ys.length) H) r) σ H (.int xs.length) :=
  fun Q q => hr _ ⟨p, xs, rfl, .inr h, q⟩
noncomputable def td (t : List Nat × List Nat) : Dt := .seq true [.seq false (nd t.1), .seq false (nd t.2)]
end L2
namespace Row
theorem turn2_value {rx ry : Rule} (gx : Good rx) (gy : Good ry) {n : Nat} (hn : n ≤ 16) {ps : List (Nat × Nat)} (h : ps.Pairwise PLt) (hl : ∀ p ∈ ps, p.1 < n ∧ p.2 < n) {t : List Nat × List Nat} (ht : t ∈ turns2 rx ry ps) :
    xs (num2 rx ry) (behind2 n ps t) = xs (num2 rx ry) ps ^^^ tsum rx ry t ∧ tsum rx ry t ≠ 0 ∧ weight2 n (behind2 n ps t) < weight2 n ps := by
  obtain ⟨p, hp, h1, h2⟩ := mem_turns2.mp ht
  have lp := hl p hp
  have a1 : ∀ a ∈ t.1, a < n := fun a ha => by have := shape_le h1 a ha; omega
  have a2 : ∀ a ∈ t.2, a < n := fun a ha => by have := shape_le h2 a ha; omega
  refine ⟨?_, tsum_ne gx gy (fun q hq => by have := hl q hq; omega) ht, behind2_less h hl hp h1 h2⟩
  rw [xs_behind2 _ h hl (shape_sorted h1) (shape_sorted h2) a1 a2, tsum_cross gx gy (fun a ha => by have := a1 a ha; omega) fun a ha => by have := a2 a ha; omega]
end Row
namespace Row
theorem find_split {α : Type} {p : α → Bool} {l pre post : List α} {x : α} (e : l = pre ++ x :: post) (h : ∀ y ∈ pre, p y = false) (hx : p x = true) : l.find? p = some x := by
  rw [e, List.find?_append, List.find?_eq_none.mpr (fun y hy => by rw [h y hy]; decide), Option.none_or, List.find?_cons, hx]
theorem take_at {α : Type} {l : List α} {i : Nat} {x : α} (h : l[i]? = some x) : l = l.take i ++ x :: l.drop (i + 1) := by
  obtain ⟨hi, e⟩ := List.getElem?_eq_some_iff.mp h
  have := List.getElem_cons_drop (as := l) (i := i) hi
  rw [e] at this
  rw [this, List.take_append_drop]
theorem turns2_split {rx ry : Rule} {ps : List (Nat × Nat)} {q : Nat × Nat} {s u : List Nat} {i j k : Nat} (hq : ps[i]? = some q) (hs : (shapes rx q.1)[j]? = some s) (hu : (shapes ry q.2)[k]? = some u) :
    ∃ post, turns2 rx ry ps = (turns2 rx ry (ps.take i) ++ (L2.pairsOf ((shapes rx q.1).take j) (shapes ry q.2) ++ ((shapes ry q.2).take k).map fun u => (s, u))) ++ (s, u) :: post := by
  have a1 := take_at hq
  have a2 := take_at hs
  have a3 := take_at hu
  have b1 : turns2 rx ry ps = turns2 rx ry (ps.take i) ++ (L2.pairsOf (shapes rx q.1) (shapes ry q.2) ++ turns2 rx ry (ps.drop (i + 1))) := by
    conv => lhs; rw [a1]
    unfold turns2 L2.pairsOf
    rw [List.flatMap_append, List.flatMap_cons]
  have b2 : L2.pairsOf (shapes rx q.1) (shapes ry q.2) = L2.pairsOf ((shapes rx q.1).take j) (shapes ry q.2) ++ ((shapes ry q.2).map (fun u => (s, u)) ++ L2.pairsOf ((shapes rx q.1).drop (j + 1)) (shapes ry q.2)) := by
    conv => lhs; rw [a2]
    unfold L2.pairsOf
    rw [List.flatMap_append, List.flatMap_cons]
  have b3 : (shapes ry q.2).map (fun u => (s, u)) = ((shapes ry q.2).take k).map (fun u => (s, u)) ++ (s, u) :: ((shapes ry q.2).drop (k + 1)).map (fun u => (s, u)) := by
    conv => lhs; rw [a3]
    rw [List.map_append, List.map_cons]
  refine ⟨((shapes ry q.2).drop (k + 1)).map (fun u => (s, u)) ++ (L2.pairsOf ((shapes rx q.1).drop (j + 1)) (shapes ry q.2) ++ turns2 rx ry (ps.drop (i + 1))), ?_⟩
  rw [b1, b2, b3]
  simp
end Row
namespace Row
theorem small16_ok : ((List.range 16).all fun p => ((List.range 2).all fun t => (List.range' 1 2).all fun k => decide (clNum (t, k) p < 17)) && (List.range' 1 4).all fun k => decide (clNum (2, k) p < 17)) = true := by decide +kernel
theorem small16 {r : Rule} {p : Nat} (hg : Good r) (h4 : r.2 ≤ 4) (h2 : r.1 ≠ 2 → r.2 ≤ 2) (hp : p < 16) : num r p < 17 := by
  rw [num_cl hg (by omega)]
  have h := List.all_eq_true.mp small16_ok p (List.mem_range.mpr hp)
  rw [Bool.and_eq_true] at h
  obtain ⟨t, k⟩ := r
  rcases hg with ⟨h1, hk, _⟩ | ⟨h1, hk, _⟩ <;> simp only at h1 hk h2 h4
  · have a := List.all_eq_true.mp h.1 t (List.mem_range.mpr (by omega))
    exact of_decide_eq_true (List.all_eq_true.mp a k (List.mem_range'_1.mpr (by have := h2 (by omega); omega)))
  · subst h1
    exact of_decide_eq_true (List.all_eq_true.mp h.2 k (List.mem_range'_1.mpr (by omega)))
end Row
namespace L2
noncomputable def tabOf (xs ys : List Nat) : List (List Nat) := xs.map fun x => ys.map fun y => Nim.nim 4 x y
theorem tab_at {xs ys : List Nat} {p : Nat × Nat} (h1 : p.1 < xs.length) (h2 : p.2 < ys.length) : tv (tabOf xs ys) p = Nim.nim 4 (Row.at0 xs p.1) (Row.at0 ys p.2) := by
  unfold tv tabOf Row.at0
  rw [List.getD_eq_getElem?_getD (l := List.map _ xs), List.getElem?_map, List.getElem?_eq_getElem h1]
  simp [h2]
  rw [List.getElem?_eq_getElem h1]
  rfl
theorem tab_row {xs ys : List Nat} {i : Nat} (h : i < xs.length) : ((tabOf xs ys).getD i []).length = ys.length := by
  unfold tabOf
  rw [List.getD_eq_getElem?_getD, List.getElem?_map, List.getElem?_eq_getElem h]
  simp
end L2
set_option Elab.async false
set_option linter.all false
set_option maxRecDepth 100000
set_option maxHeartbeats 4000000
namespace L2
open PySem PySem.Spec PyProof.Rows PySem.W
noncomputable def krun (lt : Nat → Nat → Bool) {α : Type} : KasT α → α
  | .ret a => a
  | .ask i j k => krun lt (k (lt i j))
noncomputable def kok (n : Nat) (lt : Nat → Nat → Bool) {α : Type} : KasT α → Bool
  | .ret _ => true
  | .ask i j k => decide (i < n) && decide (j < n) && kok n lt (k (lt i j))
theorem krun_wp {α : Type} {n : Nat} {lt : Nat → Nat → Bool} {cmp : Nat → Nat → (Bool → Shared → Prop) → Shared → Prop} {Ok : Shared → Prop} (hc : ∀ i j C s, i < n → j < n → Ok s → (∀ s', Ok s' → C (lt i j) s') → cmp i j C s) {Q : α → Shared → Prop} :
    ∀ (t : KasT α) (s : Shared), kok n lt t = true → Ok s → (∀ s', Ok s' → Q (krun lt t) s') → t.kasWp cmp Q s
  | .ret a, s, _, o, q => q s o
  | .ask i j k, s, h, o, q => by
    rw [kok, Bool.and_eq_true, Bool.and_eq_true] at h
    exact hc i j _ s (of_decide_eq_true h.1.1) (of_decide_eq_true h.1.2) o fun s' o' => krun_wp hc (k (lt i j)) s' h.2 o' q
noncomputable def lists (m : Nat) : Nat → List (List Nat)
  | 0 => [[]]
  | n + 1 => (lists m n).flatMap fun l => (List.range m).map fun a => a :: l
theorem mem_lists {m : Nat} : ∀ {n : Nat} {l : List Nat}, l.length = n → (∀ a ∈ l, a < m) → l ∈ lists m n
  | 0, l, h, _ => by
    rw [List.length_eq_zero_iff.mp h]
    simp [lists]
  | n + 1, [], h, _ => by simp at h
  | n + 1, a :: l, h, hl => by
    rw [lists]
    exact List.mem_flatMap.mpr ⟨l, mem_lists (by simpa using h) fun b hb => hl b (List.mem_cons_of_mem _ hb), List.mem_map.mpr ⟨a, List.mem_range.mpr (hl a List.mem_cons_self), rfl⟩⟩
noncomputable def nodupB : List Nat → Bool
  | [] => true
  | a :: l => !l.contains a && nodupB l
noncomputable def rlt (r : List Nat) (i j : Nat) : Bool := decide (r.getD i 0 < r.getD j 0)
noncomputable def sortOk (n : Nat) (r : List Nat) : Bool :=
  !nodupB r || (kok n (rlt r) (kas_sort n) && ((krun (rlt r) (kas_sort n)).toList.map (fun i => r.getD i 0) == List.range n) && (krun (rlt r) (kas_sort n)).toList.all fun i => decide (i < n))
theorem sort_ok : ((List.range' 2 4).all fun n => (lists n n).all (sortOk n)) = true := by decide +kernel
theorem k_congr {α : Type} {n : Nat} {lt lt' : Nat → Nat → Bool} (h : ∀ i j, i < n → j < n → lt i j = lt' i j) : ∀ t : KasT α, kok n lt' t = true → kok n lt t = true ∧ krun lt t = krun lt' t
  | .ret a, _ => ⟨rfl, rfl⟩
  | .ask i j k, hk => by
    rw [kok, Bool.and_eq_true, Bool.and_eq_true] at hk
    have e := h i j (of_decide_eq_true hk.1.1) (of_decide_eq_true hk.1.2)
    obtain ⟨a, b⟩ := k_congr h (k (lt' i j)) hk.2
    refine ⟨?_, ?_⟩
    · rw [kok, e, hk.1.1, hk.1.2, a]; rfl
    · rw [krun, krun, e, b]
theorem nodupB_of : ∀ {l : List Nat}, l.Nodup → nodupB l = true
  | [], _ => rfl
  | a :: l, h => by
    rw [List.nodup_cons] at h
    rw [nodupB, nodupB_of h.2]
    simp [h.1]
noncomputable def rk (ks : List Nat) (k : Nat) : Nat := ks.countP fun x => decide (x < k)
theorem rk_mono : ∀ {l : List Nat} {k k' : Nat}, k ≤ k' → rk l k ≤ rk l k' := fun {l k k'} h => List.countP_mono_left fun x _ hx => by
  have : x < k := of_decide_eq_true hx
  exact decide_eq_true (by omega)
theorem rk_lt : ∀ {l : List Nat} {k k' : Nat}, k ∈ l → k < k' → rk l k < rk l k'
  | [], _, _, h, _ => by cases h
  | a :: l, k, k', h, hk => by
    unfold rk
    rw [List.countP_cons, List.countP_cons]
    have m := rk_mono (l := l) (Nat.le_of_lt hk)
    unfold rk at m
    by_cases e : a = k
    · subst e
      have h1 : ¬ a < a := Nat.lt_irrefl _
      simp [hk]
      omega
    · have hm : k ∈ l := (List.mem_cons.mp h).resolve_left (fun z => e z.symm)
      have ih := rk_lt (l := l) hm hk
      unfold rk at ih
      by_cases c : a < k
      · have c' : a < k' := by omega
        simp [c, c']
        omega
      · by_cases c' : a < k' <;> simp [c, c'] <;> omega
theorem rk_le {l : List Nat} {k : Nat} (h : k ∈ l) : rk l k < l.length := by
  have : rk l k < l.countP fun _ => true := by
    have e := rk_lt (l := l) (k := k) (k' := l.foldr max 0 + 1) h (by
      have : ∀ (l : List Nat), k ∈ l → k ≤ l.foldr max 0 := fun l => by
        induction l with
        | nil => intro h; cases h
        | cons a l ih =>
          intro h
          rcases List.mem_cons.mp h with rfl | h
          · simp; omega
          · have := ih h
            simp
            omega
      have := this l h
      omega)
    exact Nat.lt_of_lt_of_le e (List.countP_mono_left fun _ _ _ => rfl)
  simpa using this
theorem sort_keys {ks : List Nat} (h2 : 2 ≤ ks.length) (h5 : ks.length ≤ 5) (nd : ks.Nodup) (lt : Nat → Nat → Bool) (hlt : ∀ i j, i < ks.length → j < ks.length → lt i j = decide (ks.getD i 0 < ks.getD j 0)) :
    kok ks.length lt (kas_sort ks.length) = true ∧ ((krun lt (kas_sort ks.length)).toList.map fun i => ks.getD i 0).Pairwise (· < ·) ∧ (∀ i, i < ks.length → i ∈ (krun lt (kas_sort ks.length)).toList) ∧ ∀ i ∈ (krun lt (kas_sort ks.length)).toList, i < ks.length := by
  have hget : ∀ i, i < ks.length → ks.getD i 0 ∈ ks := fun i hi => by
    rw [List.getD_eq_getElem?_getD, List.getElem?_eq_getElem hi]
    exact List.getElem_mem hi
  have hr : ∀ i, i < ks.length → (ks.map (rk ks)).getD i 0 = rk ks (ks.getD i 0) := fun i hi => by
    rw [List.getD_eq_getElem?_getD, List.getD_eq_getElem?_getD, List.getElem?_map, List.getElem?_eq_getElem hi]
    rfl
  have cmp : ∀ i j, i < ks.length → j < ks.length → (rk ks (ks.getD i 0) < rk ks (ks.getD j 0) ↔ ks.getD i 0 < ks.getD j 0) := fun i j hi hj => by
    constructor
    · intro h
      rcases Nat.lt_or_ge (ks.getD i 0) (ks.getD j 0) with c | c
      · exact c
      · have := rk_mono (l := ks) c
        omega
    · exact rk_lt (hget i hi)
  have inj : ∀ i j, i < ks.length → j < ks.length → ks.getD i 0 = ks.getD j 0 → i = j := fun i j hi hj e => by
    rw [List.getD_eq_getElem?_getD, List.getD_eq_getElem?_getD, List.getElem?_eq_getElem hi, List.getElem?_eq_getElem hj] at e
    exact (List.getElem_inj nd).mp e
  have rnd : (ks.map (rk ks)).Nodup := by
    rw [List.nodup_iff_pairwise_ne, List.pairwise_map]
    refine List.Pairwise.imp_of_mem (fun {a b} ha hb h e => ?_) (List.nodup_iff_pairwise_ne.mp nd)
    rcases Nat.lt_trichotomy a b with c | c | c
    · have := rk_lt ha c; omega
    · exact h c
    · have := rk_lt hb c; omega
  have mem : ks.map (rk ks) ∈ lists ks.length ks.length := mem_lists (List.length_map _) fun a ha => by
    obtain ⟨k, hk, rfl⟩ := List.mem_map.mp ha
    exact rk_le hk
  have ok := List.all_eq_true.mp (List.all_eq_true.mp sort_ok ks.length (List.mem_range'_1.mpr (by omega))) _ mem
  unfold sortOk at ok
  rw [nodupB_of rnd, Bool.not_true, Bool.false_or, Bool.and_eq_true, Bool.and_eq_true] at ok
  obtain ⟨⟨k1, k2⟩, k3⟩ := ok
  have agree : ∀ i j, i < ks.length → j < ks.length → lt i j = rlt (ks.map (rk ks)) i j := fun i j hi hj => by
    rw [hlt i j hi hj]
    unfold rlt
    rw [hr i hi, hr j hj, Bool.eq_iff_iff, decide_eq_true_eq, decide_eq_true_eq]
    exact (cmp i j hi hj).symm
  obtain ⟨a1, a2⟩ := k_congr agree (kas_sort ks.length) k1
  rw [a2]
  have k2 := eq_of_beq k2
  have lt' : ∀ i ∈ (krun (rlt (ks.map (rk ks))) (kas_sort ks.length)).toList, i < ks.length := fun i hi => of_decide_eq_true (List.all_eq_true.mp k3 i hi)
  refine ⟨a1, ?_, fun i hi => ?_, lt'⟩
  · have pw : ((krun (rlt (ks.map (rk ks))) (kas_sort ks.length)).toList.map fun i => (ks.map (rk ks)).getD i 0).Pairwise (· < ·) := by rw [k2]; exact List.pairwise_lt_range
    rw [List.pairwise_map] at pw ⊢
    refine List.Pairwise.imp_of_mem (fun {a b} ha hb h => ?_) pw
    rw [hr a (lt' a ha), hr b (lt' b hb)] at h
    exact (cmp a b (lt' a ha) (lt' b hb)).mp h
  · have hi' : rk ks (ks.getD i 0) ∈ (krun (rlt (ks.map (rk ks))) (kas_sort ks.length)).toList.map fun i => (ks.map (rk ks)).getD i 0 := by
      rw [k2]
      exact List.mem_range.mpr (rk_le (hget i hi))
    obtain ⟨j, hj, e⟩ := List.mem_map.mp hi'
    rw [hr j (lt' j hj)] at e
    have : j = i := inj j i (lt' j hj) hi (by
      rcases Nat.lt_trichotomy (ks.getD j 0) (ks.getD i 0) with c | c | c
      · have := rk_lt (hget j (lt' j hj)) c; omega
      · exact c
      · have := rk_lt (hget i hi) c; omega)
    exact this ▸ hj
end L2
set_option Elab.async false
set_option linter.all false
set_option maxRecDepth 100000
set_option maxHeartbeats 4000000
namespace L2
open PySem PySem.Spec PyProof.Rows PySem.W
noncomputable def TupAt (h : Heap) (p : Nat × Nat) (v : Value) : Prop := ∃ r o k tx ty, v = .ref r ∧ h.get? r = some o ∧ o.cls = .type "tuple" ∧ o.data = .seq #[.int (p.1 : Int) tx, .int (p.2 : Int) ty] k
noncomputable def SortsTo (ps qs : List (Nat × Nat)) : Prop := qs.Pairwise Row.PLt ∧ ∀ p, p ∈ qs ↔ p ∈ ps
noncomputable def key16 (p : Nat × Nat) : Nat := p.1 * 16 + p.2
theorem key16_lt {p q : Nat × Nat} (hp : p.2 < 16) (hq : q.2 < 16) : key16 p < key16 q ↔ Row.PLt p q := by
  unfold key16 Row.PLt
  omega
section
variable {prog : Program} {w : World} {A : Around} {E : Value → Shared → Prop} {s : Shared}
theorem lt_pair {p q : Nat × Nat} {x y : Value} {b : Bool} {C : Bool → Shared → Prop} (hb : b = true) (hp : p.2 < 16) (hq : q.2 < 16) (h1 : TupAt s.heap p x) (h2 : TupAt s.heap q y) (h : C (decide (key16 p < key16 q)) s) : wpAny (model prog w) A (keyLt' (tuples' b) x y) C E s := by
  subst hb
  obtain ⟨r1, o1, k1, t1, u1, rfl, g1, _, d1⟩ := h1
  obtain ⟨r2, o2, k2, t2, u2, rfl, g2, _, d2⟩ := h2
  refine kat_lt g1 d1 g2 d2 (kat_cons (wpAny_eqBool_int ?_))
  unfold key16 at h
  by_cases c : (p.1 : Int) = (q.1 : Int)
  · rw [show ((p.1 : Int) == (q.1 : Int)) = true from by simpa using c]
    refine kat_yes (kat_cons (wpAny_eqBool_int ?_))
    by_cases c' : (p.2 : Int) = (q.2 : Int)
    · rw [show ((p.2 : Int) == (q.2 : Int)) = true from by simpa using c']
      refine kat_yes (kat_nil ?_)
      rw [decide_eq_false (by omega)] at h
      exact h
    · rw [show ((p.2 : Int) == (q.2 : Int)) = false from by simpa using c']
      refine kat_no (kat_one _ _ (lt_int ?_))
      show C (decide ((p.2 : Int) < (q.2 : Int))) s
      rw [show decide ((p.2 : Int) < (q.2 : Int)) = decide (p.1 * 16 + p.2 < q.1 * 16 + q.2) from by rw [Bool.eq_iff_iff, decide_eq_true_eq, decide_eq_true_eq]; omega]
      exact h
  · rw [show ((p.1 : Int) == (q.1 : Int)) = false from by simpa using c]
    refine kat_no (oneLt_int ?_)
    rw [show decide ((p.1 : Int) < (q.1 : Int)) = decide (p.1 * 16 + p.2 < q.1 * 16 + q.2) from by rw [Bool.eq_iff_iff, decide_eq_true_eq, decide_eq_true_eq]; omega]
    exact h
theorem katTups_of {h : Heap} : ∀ {ps : List (Nat × Nat)} {vs : List Value}, Paired (TupAt h) ps vs → ∃ fs, KatTups h vs fs ∧ fs.length = vs.length ∧ ∀ v ∈ fs, ∃ i t, v = Value.int i t
  | _, _, .nil => ⟨[], trivial, rfl, fun v h => by cases h⟩
  | _, _, .cons q t => by
    obtain ⟨fs, h1, h2, h3⟩ := katTups_of t
    obtain ⟨r, o, k, tx, ty, rfl, g, c, d⟩ := q
    refine ⟨_ :: fs, KatTups.cons g c d rfl h1, by simp [h2], fun v hv => ?_⟩
    rcases List.mem_cons.mp hv with rfl | hv
    · exact ⟨_, _, rfl⟩
    · exact h3 v hv
theorem sort_pairs {a : Addr} {vs : List Value} {n : Nat} {ps : List (Nat × Nat)} {P : PySem.Fin → Shared → Prop} (ho : s.heap.get? a = some (seqObj "list" vs.toArray n)) (ht : Paired (TupAt s.heap) ps vs) (hb : ∀ p ∈ ps, p.2 < 16) (nd : ps.Nodup) (h5 : ps.length ≤ 5)
    (h : ∀ (out : List Value) (qs : List (Nat × Nat)), Paired (fun q v => TupAt s.heap q v ∧ v ∈ vs) qs out → SortsTo ps qs → P (.done (.ret .none)) { s with heap := sortedHeap s.heap a vs out.toArray }) :
    wpAny (model prog w) A (Builtin.«list.sort» ⟨[.ref a], []⟩) P E s := by
  have lv : ps.length = vs.length := Paired.length ht
  have al : a < s.heap.objs.size := Heap.lt_size ho
  have n64 : vs.length < 64 := by omega
  rw [list_sort_plain]
  refine wpAny_bind (listItems_at ho rfl (wpAny_bind (listUpdate_at ho rfl ?_ (by rw [List.size_toArray, sizeLine_eq]; omega) (Nat.zero_le _))))
  obtain ⟨e1, g1⟩ : ∃ e1, (s.heap.update a (Obj.mapSeq fun _ => (#[] : Array Value))).get? a = some (seqObj "list" #[] e1) := ⟨_, get?_update_seq ho _⟩
  refine wpAny_bind (seqEpoch_at g1 rfl (wpAny_bind (wpAny_newTuple (wpAny_bind (wpAny_newList (wpAny_holding ?_) (Nat.zero_le _))) (by show vs.length ≤ _; rw [sizeLine_eq]; omega))))
  dsimp only
  have g6 : (((s.heap.update a (Obj.mapSeq fun _ => (#[] : Array Value))).push (seqObj "tuple" vs.toArray 0)).push (seqObj "list" #[] 0)).get? a = some (seqObj "list" #[] e1) := Heap.get?_push_of_some _ (Heap.get?_push_of_some _ g1)
  have old : ∀ r o, r ≠ a → s.heap.get? r = some o → (((s.heap.update a (Obj.mapSeq fun _ => (#[] : Array Value))).push (seqObj "tuple" vs.toArray 0)).push (seqObj "list" #[] 0)).get? r = some o := fun r o hr e => Heap.get?_push_of_some _ (Heap.get?_push_of_some _ (by rw [Heap.get?_update_ne _ _ _ _ hr]; exact e))
  have fin : ∀ (st : SortSt) (out : List Value) (qs : List (Nat × Nat)), (arrOf st).map (·.2) = out.toArray → failedOf st = none → Paired (fun q v => TupAt s.heap q v ∧ v ∈ vs) qs out → SortsTo ps qs →
      P (.done (.ret .none)) { s with heap := sortedHeap s.heap a vs ((arrOf st).map (·.2)) } := fun st out qs e _ hp hs => by
    rw [e]
    exact h out qs hp hs
  by_cases h2 : vs.toArray.size < 2
  · rw [if_pos h2, if_pos h2]
    refine wpAny_bind (wpAny_pure ?_)
    rw [StateT.run_pure]
    refine wpAny_bind (wpAny_pure ?_)
    dsimp only
    have ez : (arrOf (SortSt.mk' general' (vs.toArray.zip vs.toArray) #[] 7 none)).map (·.2) = vs.toArray := by
      show (vs.toArray.zip vs.toArray).map (·.2) = vs.toArray
      apply Array.toList_inj.mp
      simp [List.map_snd_zip]
    have l2 : ps.length < 2 := by rw [lv]; simpa using h2
    have self : SortsTo ps ps := ⟨by
      match ps, l2 with
      | [], _ => exact .nil
      | [_], _ => simp, fun _ => Iff.rfl⟩
    refine wpAny_bind (seqEpoch_at g6 rfl (wpAny_bind (listUpdate_at g6 rfl ?_ (Nat.zero_le _) (by rw [ez, List.size_toArray, sizeLine_eq]; omega))))
    simp only [bne_self_eq_false, Bool.false_eq_true, if_false]
    refine wpAny_pure (fin _ vs ps ez rfl ?_ self)
    refine paired_of lv fun i p v hp hv => ?_
    obtain ⟨p', h1, h2⟩ := paired_get ht hv
    rw [hp] at h1
    cases h1
    exact ⟨h2, List.mem_of_getElem? hv⟩
  · rw [if_neg h2, if_neg h2]
    rw [List.size_toArray] at h2
    have ne : ∀ v ∈ vs, ∀ r, v = .ref r → r ≠ a := fun v hv r e z => by
      obtain ⟨i, hi⟩ := List.getElem?_of_mem hv
      obtain ⟨p, _, r', o, k, _, _, e', g, c, d⟩ := paired_get ht hi
      rw [e] at e'
      cases e'
      rw [z, ho] at g
      cases g
      exact absurd c (by show ¬ (Value.type "list" = Value.type "tuple"); decide)
    have ht6 : Paired (TupAt (((s.heap.update a (Obj.mapSeq fun _ => (#[] : Array Value))).push (seqObj "tuple" vs.toArray 0)).push (seqObj "list" #[] 0))) ps vs := by
      refine paired_of lv fun i p v hp hv => ?_
      obtain ⟨p', h1, r, o, k, tx, ty, e, g, c, d⟩ := paired_get ht hv
      rw [hp] at h1
      cases h1
      exact ⟨r, o, k, tx, ty, e, old r o (ne v (List.mem_of_getElem? hv) r e) g, c, d⟩
    obtain ⟨fs, k1, k2, k3⟩ := katTups_of ht6
    refine wpAny_bind (kat_kind (T := .type "int") (s := { s with heap := (((s.heap.update a (Obj.mapSeq fun _ => (#[] : Array Value))).push (seqObj "tuple" vs.toArray 0)).push (seqObj "list" #[] 0)) }) k1 (by omega) (fun v hv => ?_) (by decide) ?_)
    · obtain ⟨i, t, rfl⟩ := k3 v hv
      exact Looks.of_pure rfl
    have tb : (Value.type "int" != Value.type "tuple") = true := by decide
    have gk : ∀ i, i < ps.length → ∃ p, ps[i]? = some p ∧ p ∈ ps := fun i hi => ⟨ps[i], List.getElem?_eq_getElem hi, List.getElem_mem hi⟩
    have kd : ∀ i p, ps[i]? = some p → (ps.map key16).getD i 0 = key16 p := fun i p e => by rw [List.getD_eq_getElem?_getD, List.getElem?_map, e]; rfl
    have knd : (ps.map key16).Nodup := by
      rw [List.nodup_iff_pairwise_ne, List.pairwise_map]
      refine List.Pairwise.imp_of_mem (fun {x y} hx hy hne e => hne ?_) (List.nodup_iff_pairwise_ne.mp nd)
      have a1 := hb x hx
      have a2 := hb y hy
      unfold key16 at e
      exact Prod.ext (by omega) (by omega)
    let lt : Nat → Nat → Bool := fun i j => decide ((ps.map key16).getD i 0 < (ps.map key16).getD j 0)
    obtain ⟨r1, r2, r3, r4⟩ := sort_keys (ks := ps.map key16) (by rw [List.length_map]; omega) (by rw [List.length_map]; exact h5) knd lt (fun _ _ _ _ => rfl)
    rw [List.length_map, lv] at r1 r2 r3 r4
    refine wpAny_bind (wpAny_mono (kat_run (ks := vs) (vs := vs) (Q := fun st' s' => s' = { s with heap := (((s.heap.update a (Obj.mapSeq fun _ => (#[] : Array Value))).push (seqObj "tuple" vs.toArray 0)).push (seqObj "list" #[] 0)) } ∧ failedOf st' = none ∧ (krun lt (kas_sort vs.length)).size = vs.length ∧ (arrOf st').map (·.2) = List.toArray ((krun lt (kas_sort vs.length)).toList.map fun i => vs.getD i Value.none))
      (G := fun p s' => s' = { s with heap := (((s.heap.update a (Obj.mapSeq fun _ => (#[] : Array Value))).push (seqObj "tuple" vs.toArray 0)).push (seqObj "list" #[] 0)) } ∧ p = krun lt (kas_sort vs.length)) rfl (by omega) n64 (fun p st' s' b1 b2 b3 g => ⟨g.1, b3, by rw [← g.2]; exact b1, by rw [kat_snds rfl b2, g.2]⟩)
      (krun_wp (n := vs.length) (lt := lt) (Ok := fun s' => s' = { s with heap := (((s.heap.update a (Obj.mapSeq fun _ => (#[] : Array Value))).push (seqObj "tuple" vs.toArray 0)).push (seqObj "list" #[] 0)) }) (fun i j C s' hi hj o q => ?_) _ _ r1 rfl (fun s' o => ⟨o, rfl⟩))) ?_ fun _ _ e => e)
    · subst o
      obtain ⟨p, e1', m1⟩ := gk i (by omega)
      obtain ⟨p2, e2', m2⟩ := gk j (by omega)
      have v1 : vs[i]? = some (vs.getD i Value.none) := by rw [List.getD_eq_getElem?_getD, List.getElem?_eq_getElem hi]; rfl
      have v2 : vs[j]? = some (vs.getD j Value.none) := by rw [List.getD_eq_getElem?_getD, List.getElem?_eq_getElem hj]; rfl
      obtain ⟨p', f1, t1⟩ := paired_get ht6 v1
      obtain ⟨p2', f2, t2⟩ := paired_get ht6 v2
      rw [e1'] at f1
      cases f1
      rw [e2'] at f2
      cases f2
      refine lt_pair tb (hb _ m1) (hb _ m2) t1 t2 ?_
      have := q _ rfl
      show C _ _
      rw [← kd i _ e1', ← kd j _ e2']
      exact this
    rintro ⟨⟨⟩, st⟩ s' ⟨rfl, hf, hz, hs⟩
    dsimp only at hf hs ⊢
    refine wpAny_bind (seqEpoch_at g6 rfl (wpAny_bind (listUpdate_at g6 rfl ?_ (Nat.zero_le _) ?_)))
    · rw [hf]
      simp only [bne_self_eq_false, Bool.false_eq_true, if_false]
      refine wpAny_pure (fin st _ ((krun lt (kas_sort vs.length)).toList.map fun i => ps.getD i (0, 0)) hs hf ?_ ?_)
      · refine paired_of (by rw [List.length_map, List.length_map]) fun k q v hq hv => ?_
        rw [List.getElem?_map] at hq hv
        cases e : (krun lt (kas_sort vs.length)).toList[k]? with
        | none => rw [e] at hq; cases hq
        | some i =>
          rw [e] at hq hv
          cases hq
          cases hv
          have hi := r4 i (List.mem_of_getElem? e)
          have v1 : vs[i]? = some (vs.getD i Value.none) := by rw [List.getD_eq_getElem?_getD, List.getElem?_eq_getElem hi]; rfl
          obtain ⟨p', f1, t1⟩ := paired_get ht v1
          have : ps.getD i (0, 0) = p' := by rw [List.getD_eq_getElem?_getD, f1]; rfl
          dsimp only
          rw [this]
          exact ⟨t1, List.mem_of_getElem? v1⟩
      · refine ⟨?_, fun p => ?_⟩
        · rw [List.pairwise_map] at r2 ⊢
          refine List.Pairwise.imp_of_mem (fun {x y} hx hy hlt => ?_) r2
          obtain ⟨p, e1', m1⟩ := gk x (by rw [lv]; exact r4 x hx)
          obtain ⟨p2, e2', m2⟩ := gk y (by rw [lv]; exact r4 y hy)
          rw [kd x p e1', kd y p2 e2', key16_lt (hb p m1) (hb p2 m2)] at hlt
          rw [List.getD_eq_getElem?_getD, e1', List.getD_eq_getElem?_getD, e2']
          exact hlt
        · constructor
          · intro hp
            obtain ⟨i, hi, rfl⟩ := List.mem_map.mp hp
            obtain ⟨p, e1', m1⟩ := gk i (by rw [lv]; exact r4 i hi)
            rw [List.getD_eq_getElem?_getD, e1']
            exact m1
          · intro hp
            obtain ⟨i, hi⟩ := List.getElem?_of_mem hp
            have il := (List.getElem?_eq_some_iff.mp hi).1
            exact List.mem_map.mpr ⟨i, r3 i (by omega), by rw [List.getD_eq_getElem?_getD, hi]; rfl⟩
    · rw [hs, List.size_toArray, List.length_map, Array.length_toList, hz, sizeLine_eq]
      omega
end
section
variable {X : Cx}
end
end L2
set_option Elab.async false
set_option linter.all false
set_option maxRecDepth 100000
set_option maxHeartbeats 4000000
namespace L2
open PySem PySem.Spec PyProof.Rows PySem.W
noncomputable def EntAt (h : Heap) (d : Addr) (es : Array DictEntry) (ep : Nat) : Prop := ∃ o, h.get? d = some o ∧ o.ExactDict ∧ o.data = .dict es ep
theorem EntAt.at {h h' : Heap} {d : Addr} {es : Array DictEntry} {ep : Nat} (x : EntAt h d es ep) (k : ∀ o, h.get? d = some o → h'.get? d = some o) : EntAt h' d es ep := let ⟨o, g, r⟩ := x; ⟨o, k o g, r⟩
theorem EntAt.typeIs {s : Shared} {d : Addr} {es : Array DictEntry} {ep : Nat} (x : EntAt s.heap d es ep) : s.TypeIs (.ref d) "dict" := let ⟨o, g, c, _⟩ := x; ⟨o, g, c.1⟩
section
variable {prog : Program} {w : World} {A : Around} {E : Value → Shared → Prop} {s : Shared} {it d : Addr} {es : Array DictEntry} {ep i : Nat}
theorem iter_ent {Q : Value → Shared → Prop} (hd : (d == sysModules) = false) (hm : EntAt s.heap d es ep) (hQ : Q (.ref s.heap.objs.size) { s with heap := s.heap.push { cls := .type "dict_keyiterator", data := .fields #[.ref d, .int 0 0, .int es.size 0, .int ep 0] } }) : wpAny (model prog w) A (pyIter (.ref d)) Q E s := by
  obtain ⟨o, g, c, dt⟩ := id hm
  have T := hm.typeIs
  refine wpAny_pyIter_slot T PySem.F.slot_dict_iter (wpAny_call_entry PySem.F.slot_dict_iter T PySem.F.entry_dict_iter ?_ (PySem.F.args_dict_iter_1 _))
  unfold Builtin.«dict.__iter__» Builtin.Dict.dictSlotNone
  refine wpAny_bind (wpAny_bind (wpAny_notOrdered_dict T (wpAny_pure ?_)))
  unfold Builtin.Dict.showsAll
  refine wpAny_bind (m := Builtin.Dict.addrOf (Value.ref d)) (wpAny_pure ?_)
  rw [if_neg (by rw [hd]; decide)]
  refine wpAny_bind (wpAny_pure (wpAny_bind (wpAny_dictEntries g dt (wpAny_bind (wpAny_dictEpoch g dt ?_)))))
  exact wpAny_bind (wpAny_newObj_type (wpAny_pure ⟨_, rfl, "dict_keyiterator", _, ⟨_, Heap.get?_push_size _ rfl, rfl⟩, PySem.F.slot_dict_keyiterator_next.lookup, hQ⟩))
theorem next_ent {Q : Option Value → Shared → Prop} (hit : s.heap.IsKeyIter it d i es.size ep) (hm : EntAt s.heap d es ep) (hi : i < es.size) (hQ : ∀ h', h'.IsKeyIter it d (i + 1) es.size ep → Heap.SameBut it s.heap h' → Q (some es[i].key) { s with heap := h' }) : wpAny (model prog w) A (pyNext (.ref it)) Q E s := by
  obtain ⟨o, g, c, dt⟩ := id hit
  obtain ⟨o2, g2, c2, dt2⟩ := id hm
  have T := hit.typeIs
  unfold pyNext
  refine wpAny_bind (wpAny_attempt (wpAny_callSpecial?_slot (name := Str.ofString "__next__") T PySem.F.slot_dict_keyiterator_next (wpAny_call_entry PySem.F.slot_dict_keyiterator_next T PySem.F.entry_dict_keyiterator_next ?_ (PySem.F.args_dict_keyiterator_next_1 _))))
  have own : Builtin.Dict_items.ownsTuple "dict_keyiterator" = false := by decide
  refine wpAny_bind (wpAny_pure (wpAny_bind (wpAny_bind ?_)))
  first | refine wpAny_bind (wpAny_typeNameOfWhole_keyiter T (wpAny_pure (wpAny_bind (wpAny_fieldsOf g dt ?_)))) | refine wpAny_bind (wpAny_typeNameOf_keyiter T (wpAny_pure (wpAny_bind (wpAny_fieldsOf g dt ?_))))
  simp only [own, Bool.false_eq_true, if_false]
  refine (show wpAny _ _ (if (Value.ref d == Value.none) = true then _ else _) _ _ s from ?_)
  rw [if_neg (show ¬ (Value.ref d == Value.none) = true from Bool.false_ne_true)]
  refine wpAny_bind (wpAny_pure (wpAny_bind (wpAny_dictEntries g2 dt2 ?_)))
  rw [if_neg (by simp)]
  refine wpAny_bind (wpAny_pure (wpAny_bind (wpAny_dictEpoch g2 dt2 ?_)))
  rw [if_neg (by simp)]
  refine wpAny_pure ?_
  simp only [show ¬ ((i : Int) < 0) by omega, if_false, Int.toNat_natCast, Array.getElem?_eq_getElem hi]
  refine wpAny_bind ?_
  first | refine wpAny_bind (wpAny_typeNameOfWhole_keyiter T (wpAny_pure (wpAny_bind (wpAny_isOneOf_keyiter T ?_)))) | refine wpAny_bind (wpAny_typeNameOf_keyiter T (wpAny_pure (wpAny_bind (wpAny_isOneOf_keyiter T ?_))))
  refine (show wpAny _ _ (setField (.ref it) 1 (rawInt ((i : Int) + 1)) >>= _) _ _ s from wpAny_bind (wpAny_setField g dt (by simp) ?_))
  have it2 : (s.heap.update it (Obj.mapFields (·.setIfInBounds 1 (rawInt ((i : Int) + 1))))).IsKeyIter it d (i + 1) es.size ep := ⟨_, Heap.get?_update_self _ g (Obj.isFreed_of_fields (Obj.data_mapFields dt _)), (Obj.cls_mapFields ..).trans c, by rw [Obj.data_mapFields dt]; simp [rawInt]⟩
  refine wpAny_bind (wpAny_holding (wpAny_bind (wpAny_isOneOf_keyiter (s := { s with heap := s.heap.update it (Obj.mapFields (·.setIfInBounds 1 (rawInt ((i : Int) + 1)))) }) it2.typeIs ?_)))
  exact (show wpAny _ _ (pure es[i].key) _ _ _ from wpAny_pure (wpAny_pure ⟨_, rfl, wpAny_pure (hQ _ it2 (Heap.SameBut.update ..))⟩))
theorem end_ent {Q : Option Value → Shared → Prop} (hh : A.handled = none) (hit : s.heap.IsKeyIter it d es.size es.size ep) (hm : EntAt s.heap d es ep) (hQ : ∀ h', Heap.ExtBut it s.heap h' → Q none { s with heap := h' }) : wpAny (model prog w) A (pyNext (.ref it)) Q E s := by
  obtain ⟨o, g, c, dt⟩ := id hit
  obtain ⟨o2, g2, c2, dt2⟩ := id hm
  have T := hit.typeIs
  unfold pyNext
  refine wpAny_bind (wpAny_attempt (wpAny_callSpecial?_slot (name := Str.ofString "__next__") T PySem.F.slot_dict_keyiterator_next (wpAny_call_entry PySem.F.slot_dict_keyiterator_next T PySem.F.entry_dict_keyiterator_next ?_ (PySem.F.args_dict_keyiterator_next_1 _))))
  have own : Builtin.Dict_items.ownsTuple "dict_keyiterator" = false := by decide
  refine wpAny_bind (wpAny_pure (wpAny_bind (wpAny_bind ?_)))
  first | refine wpAny_bind (wpAny_typeNameOfWhole_keyiter T (wpAny_pure (wpAny_bind (wpAny_fieldsOf g dt ?_)))) | refine wpAny_bind (wpAny_typeNameOf_keyiter T (wpAny_pure (wpAny_bind (wpAny_fieldsOf g dt ?_))))
  simp only [own, Bool.false_eq_true, if_false]
  refine (show wpAny _ _ (if (Value.ref d == Value.none) = true then _ else _) _ _ s from ?_)
  rw [if_neg (show ¬ (Value.ref d == Value.none) = true from Bool.false_ne_true)]
  refine wpAny_bind (wpAny_pure (wpAny_bind (wpAny_dictEntries g2 dt2 ?_)))
  rw [if_neg (by simp)]
  refine wpAny_bind (wpAny_pure (wpAny_bind (wpAny_dictEpoch g2 dt2 ?_)))
  rw [if_neg (by simp)]
  refine wpAny_pure ?_
  simp only [show ¬ ((es.size : Int) < 0) by omega, if_false, Int.toNat_natCast, Array.getElem?_eq_none (Nat.le_refl _)]
  refine wpAny_bind ?_
  first | refine wpAny_bind (wpAny_typeNameOfWhole_keyiter T (wpAny_pure ?_)) | refine wpAny_bind (wpAny_typeNameOf_keyiter T (wpAny_pure ?_))
  refine (show wpAny _ _ (setField (.ref it) 0 .none >>= _) _ _ s from wpAny_bind (wpAny_setField g dt (by simp) ?_))
  refine (show wpAny _ _ (newExc (.type "StopIteration") [] >>= _) _ _ _ from wpAny_bind ?_)
  simp only [newExc, newTuple]
  refine wpAny_bind (wpAny_newObj_type (wpAny_bind (m := firstArgMember _ _) (wpAny_of_eq (a := Value.none) (by first | rfl | (simp only [firstArgMember]; rfl)) (wpAny_newObj_type ?_ (by size_fits)))) (by size_fits))
  simp only [raiseNew]
  apply wpAny_bind
  apply wpAny_handled
  have h1 : A.in1.handled = none := hh
  rw [h1]
  refine wpAny_bind (wpAny_pure (wpAny_throw ?_))
  refine wpAny_bind (wpAny_isInstance (b := true) (T := "StopIteration") ⟨_, Heap.get?_push_size _ rfl, rfl⟩ isSubtype_stop ?_)
  exact wpAny_pure (hQ _ (((Heap.SameBut.update ..).extBut.push _).push _))
end
theorem walks_ent {prog : Program} {w : World} {A : Around} (hh : A.handled = none) (I d : Addr) (hne : d ≠ I) (es : Array DictEntry) (ep : Nat) : Walks prog w A I [I, d] [I] es.size (fun i v => ∃ e, es[i]? = some e ∧ v = e.key) (fun i h => h.IsKeyIter I d i es.size ep ∧ EntAt h d es ep) where
  sub := fun b hb => by
    have : b = I := by simpa using hb
    simp [this]
  frame := fun _ _ _ st k => ⟨st.1.at fun o e => k I (by simp) o e, st.2.at fun o e => k d (by simp) o e⟩
  item := fun i s Q E hi st hQ => next_ent st.1 st.2 hi fun h' i2 sb => hQ _ h' s.toks ⟨es[i], Array.getElem?_eq_getElem hi, rfl⟩ ⟨i2, st.2.at fun o e => sb.extBut d o hne e⟩ fun b o hb e => sb.extBut b o (fun z => hb (by simp [z])) e
  done := fun s Q E st hQ => end_ent hh st.1 st.2 fun h' he => hQ h' s.toks fun b o hb e => he b o (fun z => hb (by simp [z])) e
  self := fun _ _ _ _ st hQ => wpAny_pyIter_keyiter st.1 hQ
theorem src_ent {prog : Program} {w : World} {d : Addr} {es : Array DictEntry} {ep : Nat} (lo : (d == sysModules) = false) : KdlSrc prog w "dict" d d es.size (fun i v => ∃ e, es[i]? = some e ∧ v = e.key) (fun h => EntAt h d es ep) where
  type := fun _ m => m.typeIs
  there := fun _ ⟨_, g, _⟩ => ⟨Heap.lt_size g, Heap.lt_size g⟩
  keep := fun _ _ m k => m.at fun o e => k d (.inl rfl) o e
  notList := by decide
  notTuple := by decide
  hint := fun _ _ _ _ m q => kdl_hint_dict m.typeIs q
  iter := fun _ s hh m => ⟨_, _, fun _ _ hq => iter_ent lo m hq, walks_ent hh _ d (fun z => by obtain ⟨_, g, _⟩ := m; exact absurd (Heap.lt_size g) (by rw [z]; exact Nat.lt_irrefl _)) es ep, ⟨⟨_, Heap.get?_push_size _ rfl, rfl, rfl⟩, m.at fun o e => Heap.get?_push_of_some _ e⟩⟩
section
variable {prog : Program} {w : World} {A : Around} {E : Value → Shared → Prop} {s : Shared}
theorem collect_ent {d : Addr} {es : Array DictEntry} {ep : Nat} {Q : List Value → Shared → Prop} (hh : A.handled = none) (lo : (d == sysModules) = false) (hm : EntAt s.heap d es ep) (hn : es.size ≤ sizeLine)
    (h : ∀ h' tk (vs : List Value), (∀ b o, s.heap.get? b = some o → h'.get? b = some o) → s.heap.objs.size < h'.objs.size → vs.length = es.size → (∀ (i : Nat) v, vs[i]? = some v → ∃ e, es[i]? = some e ∧ v = e.key) → Q vs { s with heap := h', toks := tk }) : wpAny (model prog w) A (collect (.ref d)) Q E s := by
  obtain ⟨o, g, c, dt⟩ := id hm
  have dlt := Heap.lt_size g
  unfold collect
  refine wpAny_bind (wpAny_runValue (codeAny_builtin entry_proto_collect' ?_))
  refine (show wpAny _ _ (do again (.builtin "list.__iadd__" ⟨[← newList [], .ref d], []⟩)) _ _ s from ?_)
  refine wpAny_bind (wpAny_newList (wpAny_pure ⟨Code.quiet_builtin _ (by decide +kernel), codeAny_builtin entry_list_iadd' ?_⟩))
  have dS : s.heap.objs.size ≠ d := fun z => absurd dlt (by rw [← z]; exact Nat.lt_irrefl _)
  refine (show wpAny _ _ (Builtin.List.listExtendWith (.ref s.heap.objs.size) (.ref d) (.ref s.heap.objs.size)) _ _ { s with heap := s.heap.push (seqObj "list" #[] 0) } from ?_)
  rw [Around.under_plainId PySem.F.plain_list_iadd _]
  have fin : ∀ s' : Shared, (∃ h' tk acc c', s' = { s with heap := h', toks := tk } ∧ (∀ b o, b ≠ s.heap.objs.size → (s.heap.push (seqObj "list" #[] 0)).get? b = some o → h'.get? b = some o) ∧ h'.get? s.heap.objs.size = some { cls := .type "list", dict := none, data := .seq acc c', slots := #[] } ∧ ItemsOf (fun i v => ∃ e, es[i]? = some e ∧ v = e.key) acc es.size) → wpAny (model prog w) A (load s.heap.objs.size >>= fun o => match o.data with | .seq xs _ => pure xs.toList | _ => unsupported "internal:collect") Q E s' := by
    rintro s' ⟨h', tk, acc, c', rfl, kp, gS, hI⟩
    exact wpAny_bind (wpAny_load gS (wpAny_pure (h h' tk acc.toList (fun b o e => kp b o (Nat.ne_of_lt (Heap.lt_size e)) (Heap.get?_push_of_some _ e)) (Heap.lt_size gS) (by rw [Array.length_toList]; exact hI.1) fun i v e => hI.2 i v (by rw [← Array.getElem?_toList]; exact e))))
  refine wpAny_mono (kdl_extend (s := { s with heap := s.heap.push (seqObj "list" #[] 0) }) (R := fun r s' => r = .ok (.ret (.ref s.heap.objs.size)) ∧ ∃ h' tk acc c', s' = { s with heap := h', toks := tk } ∧ (∀ b o, b ≠ s.heap.objs.size → (s.heap.push (seqObj "list" #[] 0)).get? b = some o → h'.get? b = some o) ∧ h'.get? s.heap.objs.size = some { cls := .type "list", dict := none, data := .seq acc c', slots := #[] } ∧ ItemsOf (fun i v => ∃ e, es[i]? = some e ∧ v = e.key) acc es.size)
    (src_ent (es := es) (ep := ep) lo) hh (hm.at fun o e => Heap.get?_push_of_some _ e) s.heap.objs.size dS dS (.ref s.heap.objs.size) 0 (Heap.get?_push_size _ rfl) (fun h' tk acc c' kp gS hI => ⟨rfl, h', tk, acc, c', rfl, kp, gS, hI⟩) hn) (fun fi s' hf => ?_) (fun e s' he => by cases he.1)
  cases fi with
  | done f =>
    obtain ⟨e, r⟩ := hf
    cases e
    exact fin s' r
  | again c' =>
    refine ⟨hf.1, codeAny_mono hf.2 fun r s'' hr => ?_⟩
    obtain ⟨e, r⟩ := hr
    cases e
    exact fin s'' r
theorem sorted_ent {d : Addr} {es : Array DictEntry} {ep : Nat} {ps : List (Nat × Nat)} {Q : Value → Shared → Prop} (hh : A.handled = none) (lo : (d == sysModules) = false) (hm : EntAt s.heap d es ep) (le : ps.length = es.size) (ht : ∀ (i : Nat) (e : DictEntry) p, es[i]? = some e → ps[i]? = some p → TupAt s.heap p e.key) (hb : ∀ p ∈ ps, p.2 < 16) (nd : ps.Nodup) (h5 : ps.length ≤ 5)
    (h : ∀ h' tk l (out : List Value) (qs : List (Nat × Nat)), (∀ b o, s.heap.get? b = some o → h'.get? b = some o) → s.heap.objs.size ≤ l → (∃ e, h'.get? l = some (seqObj "list" out.toArray e)) → Paired (fun q v => TupAt s.heap q v ∧ ∃ (i : Nat) (e : DictEntry), es[i]? = some e ∧ v = e.key) qs out → SortsTo ps qs → Q (.ref l) { s with heap := h', toks := tk }) : wpAny (model prog w) A (call (.builtin "sorted") [.ref d]) Q E s := by
  apply Calls.call_function_entry kind_sorted plain_sorted entry_sorted (args_sorted1 _)
  unfold Builtin.«sorted»
  refine wpAny_bind (m := checkCount "sorted" 1 1 _) (wpAny_pure (wpAny_bind (collect_ent (by simpa using hh) lo hm (by rw [← le, sizeLine_eq]; omega) fun h1 tk vs kp sz lv hv => wpAny_bind (wpAny_newList ?_ (by rw [lv, ← le, sizeLine_eq]; omega)))))
  have kp2 : ∀ b o, s.heap.get? b = some o → (h1.push (seqObj "list" vs.toArray 0)).get? b = some o := fun b o e => Heap.get?_push_of_some _ (kp b o e)
  have gL : (h1.push (seqObj "list" vs.toArray 0)).get? h1.objs.size = some (seqObj "list" vs.toArray 0) := Heap.get?_push_size _ rfl
  have each : ∀ (i : Nat) p v, ps[i]? = some p → vs[i]? = some v → TupAt s.heap p v := fun i p v hp hv' => by
    obtain ⟨e, he, rfl⟩ := hv i v hv'
    exact ht i e p he hp
  have htL : Paired (TupAt (h1.push (seqObj "list" vs.toArray 0))) ps vs := paired_of (by rw [le, lv]) fun i p v hp hv' => by
    obtain ⟨r, o, k, tx, ty, e, g, c, dd⟩ := each i p v hp hv'
    exact ⟨r, o, k, tx, ty, e, kp2 r o g, c, dd⟩
  refine (show wpAny _ _ _ _ _ { s with heap := h1.push (seqObj "list" vs.toArray 0), toks := tk } from ?_)
  refine wpAny_bind (wpAny_holding (wpAny_call_entry slot_list_sort ⟨_, gL, rfl⟩ entry_list_sort (sort_pairs (s := { s with heap := h1.push (seqObj "list" vs.toArray 0), toks := tk }) gL htL hb nd h5 fun out qs a1 a2 => ⟨_, rfl, wpAny_pure ⟨_, rfl, h _ tk _ out qs (fun b o e => ?_) (Nat.le_of_lt sz) (sortedHeap_at gL) ?_ a2⟩⟩) (args_list_sort _)))
  · have blt : b < h1.objs.size := Heap.lt_size (kp b o e)
    rw [sortedHeap_old (Nat.ne_of_lt blt) (by rw [size_push']; exact Nat.lt_succ_of_lt blt)]
    exact kp2 b o e
  · refine paired_of (Paired.length a1) fun i q v hq hv' => ?_
    obtain ⟨q', e1, b1, m⟩ := paired_get a1 hv'
    rw [hq] at e1
    cases e1
    obtain ⟨j, hj⟩ := List.getElem?_of_mem m
    obtain ⟨e, he, ev⟩ := hv j v hj
    refine ⟨?_, j, e, he, ev⟩
    have jl : j < ps.length := by
      rw [le, ← lv]
      exact (List.getElem?_eq_some_iff.mp hj).1
    obtain ⟨r, o, k, tx, ty, e0, g, c, dd⟩ := b1
    obtain ⟨r', o', k', tx', ty', e', g', c', d'⟩ := each j _ v (List.getElem?_eq_getElem jl) hj
    rw [e0] at e'
    cases e'
    have := kp2 r o' g'
    rw [g] at this
    cases this
    exact ⟨r, _, k, tx, ty, e0, g', c, dd⟩
end
theorem pick_refs {H : Hp} : ∀ {qs : List (Nat × Nat)} {out : List Value}, qs.length = out.length → (∀ (i : Nat) q v, qs[i]? = some q → out[i]? = some v → ∃ b, v = Value.ref b ∧ H b = some (.tup [.int (q.1 : Int), .int (q.2 : Int)])) → ∃ ss : List Addr, Vals (ss.map V.ref) out ∧ PL H qs ss
  | [], [], _, _ => ⟨[], .nil, .nil⟩
  | [], _ :: _, h, _ => by simp at h
  | _ :: _, [], h, _ => by simp at h
  | q :: qs, v :: out, h, g => by
    obtain ⟨ss, h1, h2⟩ := pick_refs (qs := qs) (out := out) (by simpa using h) fun i a b ha hb => g (i + 1) a b (by simpa using ha) (by simpa using hb)
    obtain ⟨b, rfl, hb⟩ := g 0 q v rfl rfl
    exact ⟨b :: ss, .cons rfl h1, .cons hb h2⟩
section
variable {X : Cx}
noncomputable def rSortD : List V → Hp → VK → Prop := fun xs H Q => ∃ (d : Addr) (kvs : List (List Key × V)) (ps : List (Nat × Nat)), xs = [.ref d] ∧ H d = some (.dT kvs) ∧ kvs.map (·.1) = ps.map (fun p => pk p.1 p.2) ∧ (∀ p ∈ ps, p.2 < 16) ∧ ps.Nodup ∧ ps.length ≤ 5 ∧
  ∀ (l : Addr) (qs : List (Nat × Nat)) (ss : List Addr), H l = none → SortsTo ps qs → PL H qs ss → Q (.ref l) (upd H l (.lst (ss.map V.ref)))
theorem call_sortedD (hc : X.calm = true) : CallR X (.builtin "sorted") rSortD := by
  intro pins s σ H xs us Q I r h
  obtain ⟨d, kvs, ps, rfl, hd, hk, hb, nd, h5, q⟩ := h
  obtain ⟨u, rfl, rx⟩ := vals1 r
  cases rx
  obtain ⟨_, lo, ys, rel, o, es, ep, g, c, dt, he, _, _⟩ := dt_of I.hok hd
  have ly : kvs.length = ys.length := Paired.length rel
  have lp : ps.length = kvs.length := by have := congrArg List.length hk; simpa using this.symm
  have les : es.size = ys.length := by rw [← Array.length_toList, he, List.length_map]
  have key : ∀ (i : Nat) e, es[i]? = some e → ∃ (b : Addr) (p : Nat × Nat), e.key = .ref b ∧ ps[i]? = some p ∧ H b = some (.tup [.int (p.1 : Int), .int (p.2 : Int)]) := fun i e hi => by
    rw [← Array.getElem?_toList, he, List.getElem?_map] at hi
    cases ey : ys[i]? with
    | none => rw [ey] at hi; cases hi
    | some y =>
      rw [ey] at hi
      cases hi
      obtain ⟨kv, hkv, h1, h2, _⟩ := paired_get rel ey
      have hp : (kvs.map (·.1))[i]? = some kv.1 := by rw [List.getElem?_map, hkv]; rfl
      rw [hk, List.getElem?_map] at hp
      cases ep' : ps[i]? with
      | none => rw [ep'] at hp; cases hp
      | some p =>
        rw [ep'] at hp
        have hp : pk p.1 p.2 = kv.1 := Option.some.inj hp
        refine ⟨y.2.1, p, rfl, rfl, ?_⟩
        rw [← hp] at h2
        exact h2
  have tup : ∀ (b : Addr) (p : Nat × Nat), H b = some (.tup [.int (p.1 : Int), .int (p.2 : Int)]) → TupAt s.heap p (.ref b) := fun b p hH => by
    obtain ⟨it2, r2, ⟨o, g, c, k, dd⟩, _⟩ := I.tuple (a := b) (xs := [.int (p.1 : Int), .int (p.2 : Int)]) (.inl (.inl hH))
    obtain ⟨x, y, rfl, ⟨tx, rfl⟩, ⟨ty, rfl⟩⟩ := vals2 r2
    exact ⟨b, o, k, tx, ty, rfl, g, c, dd⟩
  refine sorted_ent (ps := ps) (I.ok.hd hc) lo ⟨o, g, c, dt⟩ (by rw [lp, ly, les]) (fun i e p hi hp => ?_) hb nd h5 fun h' tk l out qs kp sz hl a1 a2 => ?_
  · obtain ⟨b, p', e1, e2, e3⟩ := key i e hi
    rw [hp] at e2
    cases e2
    rw [e1]
    exact tup b p e3
  obtain ⟨el, hl⟩ := hl
  have each : ∀ (i : Nat) q v, qs[i]? = some q → out[i]? = some v → ∃ b, v = Value.ref b ∧ H b = some (.tup [.int (q.1 : Int), .int (q.2 : Int)]) := fun i q v hq hv => by
    obtain ⟨q', h1, tq, j, e, hj, rfl⟩ := paired_get a1 hv
    rw [hq] at h1
    cases h1
    obtain ⟨b, p, e1, _, e3⟩ := key j e hj
    refine ⟨b, e1, ?_⟩
    rw [e1] at tq
    obtain ⟨r0, o0, k0, tx0, ty0, e0, g0, c0, d0⟩ := tq
    cases e0
    obtain ⟨r1, o1, k1, tx1, ty1, e1', g1, c1, d1⟩ := tup b p e3
    cases e1'
    rw [g0] at g1
    cases g1
    rw [d0] at d1
    injection d1 with z _
    have z2 := congrArg (fun a => a.toList) z
    simp at z2
    have : q = p := Prod.ext (by omega) (by omega)
    rw [this]
    exact e3
  obtain ⟨ss, hv, hp⟩ := pick_refs (Paired.length a1) each
  have ls : (ss.map V.ref).length = out.length := hv.length
  have lq : qs.length = out.length := Paired.length a1
  refine ⟨.ref l, _, I.laid (t' := tk) (o := .lst (ss.map V.ref)) kp sz ⟨?_, out, el, hv, hl⟩, rfl, q _ qs ss (I.hok.fresh sz) a2 hp⟩
  rw [ls, ← lq]
  exact Nat.le_trans (List.Nodup.length_le_of_subset (Row.plt_nodup a2.1) fun q hq => (a2.2 q).mp hq) (Nat.le_trans h5 (by decide))
end
end L2
set_option Elab.async false
set_option linter.all false
set_option maxRecDepth 100000
set_option maxHeartbeats 4000000
namespace H
open PySem L2 Nim
noncomputable def top (i : Nat) : Stmt := PySem.Challenge.pw_coinrows_k14_first_replies_on_boards.main.body.getD i (.Pass ⟨0, 0, 0, 0⟩)
theorem bitXor_xI {x y : Int} (hx : 0 ≤ x) (hy : 0 ≤ y) : Builtin.bitXor x y = xI x y := by
  have h := xor_and_add x.toNat x.toNat y.toNat (Nat.le_refl _)
  have e : Builtin.bitAnd x y = ((x.toNat &&& y.toNat : Nat) : Int) := PyProof.Rows.bitAnd_pp hx hy
  have d : Builtin.bitXor x y = x + y - 2 * Builtin.bitAnd x y := by first | exact bitXor_and x y | exact PySem.W.bitXor_and x y | exact PyProof.Rows.bitXor_and x y
  rw [d, e]
  unfold xI
  omega
noncomputable abbrev s_law_cell_at : Stmt := top 38
noncomputable abbrev n_law_cell_at : List Str := ["script", "k"]
noncomputable abbrev p_law_cell_at : List Str := ["script", "k"]
theorem sc_law_cell_at : FnScope n_law_cell_at p_law_cell_at (defScope s_law_cell_at) := ⟨rfl, rfl, rfl, by decide +kernel, rfl, by decide +kernel, by decide +kernel⟩
structure LenOnly (mg : Str → Option Value) : Prop where
  n_len : mg "len" = none
section
variable {P : Program} {w : World} {K : PySem.W.Frag} {mg : Str → Option Value} {base : Heap}
theorem ok_cell (D : HasDef K mg "_law_cell_at" s_law_cell_at) (n_len : mg "len" = none) : Callee P w K mg base "_law_cell_at" 1 p_law_cell_at (spCell K) := by
  refine D.ok sc_law_cell_at (fun _ _ _ _ _ _ us hl => match us, hl with | [_, _], _ => rfl) (fun vs H Q E h => ?_) (fun f cdv A outer s H vs Q E hr h => ?_)
  · obtain ⟨a, ns, k, rfl, _⟩ := h
    rfl
  obtain ⟨a, ns, k, rfl, hS, q⟩ := h
  have T : LenOnly mg := ⟨n_len⟩
  refine ⟨_, (pss_cons (ps_if (pt_cmpR op_lt (pv 1) (pe_callB call_len_seq rfl T.n_len bt_len (pa_cons (pv 0) pa_nil)) (nomark _)) (pss_one (ps_ret (pe_ix ix_list (pv 0) (pv 1) (fun _ _ => rfl)))) pss_nil)
    (pss_one (ps_ret pe_int))), ?_⟩
  rw [show start n_law_cell_at [V.ref a, V.int k] = [some (V.ref a), some (V.int k)] from rfl]
  simp only [tSeq, tIfS, tRet, tRetN, tNext, tOr, tAnd, tNot, tTest, tB, tOp, tUn, tVar, tC, tCall, tCons, tNil, rI0, rI, rU, tGT, tAsg, gName, tDrop, tCB, tAndV, tOrV, tNotV, tIf, tChain, tTup, tLst, tNever, cxK, bkK, noxK, tRaise, tTry, xTry, endsH, tCallH]
  simp
  refine ⟨_, .inl hS, ?_⟩
  rw [List.length_map]
  refine ite2 (fun c => ?_) (fun c => ?_)
  · refine ⟨a, _, _, .int (cell ns k), rfl, rfl, hS, atI_nat ?_, q⟩
    rw [List.getElem?_map, List.getElem?_eq_getElem (by omega)]
    show some (V.int ns[k]) = _
    rw [cell, List.getD_eq_getElem?_getD, List.getElem?_eq_getElem (by omega)]
    rfl
  · have e : cell ns k = 0 := by
      rw [cell, List.getD_eq_getElem?_getD, List.getElem?_eq_none (by omega)]
      rfl
    rw [e] at q
    exact q
end
noncomputable abbrev s_law_rule : Stmt := top 39
noncomputable abbrev n_law_rule : List Str := ["cell", "most"]
noncomputable abbrev p_law_rule : List Str := ["cell", "most"]
theorem sc_law_rule : FnScope n_law_rule p_law_rule (defScope s_law_rule) := ⟨rfl, rfl, rfl, by decide +kernel, rfl, by decide +kernel, by decide +kernel⟩
noncomputable def spRule2 : Sp := fun vs H Q _ => ∃ (c : Int) (most : Nat), vs = [.int c, .int (most : Int)] ∧ 1 ≤ most ∧ ∀ H' p, Same H H' → H' p = some (.tup (ruleV (ruleOf c most 4))) → H p = none → Q (.ref p) H'
section
variable {P : Program} {w : World} {K : PySem.W.Frag} {mg : Str → Option Value} {base : Heap}
theorem menu_word (i : Int) (h : i % 3 ≠ 2) : atI [V.str "most", V.str "just"] (i % 3) = some (.str (word (i % 3).toNat)) := by
  rcases (by omega : i % 3 = 0 ∨ i % 3 = 1) with e | e <;> rw [e] <;> rfl
set_option pp.deepTerms true in
theorem ok_rule (D : HasDef K mg "_law_rule" s_law_rule) : Callee P w K mg base "_law_rule" 1 p_law_rule spRule2 := by
  refine D.ok sc_law_rule (fun _ _ _ _ _ _ us hl => match us, hl with | [_, _], _ => rfl) (fun vs H Q E h => ?_) (fun f cdv A outer s H vs Q E hr h => ?_)
  · obtain ⟨c, most, rfl, _⟩ := h
    rfl
  obtain ⟨c, most, rfl, hm, q⟩ := h
  refine ⟨_, (pss_cons (ps_if (pt_cmpR op_eq (pe_op op_mod (pv 0) pe_int) pe_int (nomark _)) (pss_one (ps_ret (pe_tup (pa_cons pe_str (pa_cons (pe_op op_add pe_int (pe_op op_mod (pe_op op_fdiv (pv 0) pe_int) pe_int)) pa_nil))))) pss_nil)
    (pss_one (ps_ret (pe_tup (pa_cons (pe_ix ix_list (pe_lst (pa_cons pe_str (pa_cons pe_str pa_nil))) (pe_op op_mod (pv 0) pe_int) (fun _ _ => rfl)) (pa_cons (pe_op op_add pe_int (pe_op op_mod (pe_op op_fdiv (pv 0) pe_int) (pv 1))) pa_nil)))))), ?_⟩
  rw [show start n_law_rule [V.int c, V.int most] = [some (V.int c), some (V.int most)] from rfl]
  have b0 := Int.emod_nonneg (c / 3) (by decide : (4 : Int) ≠ 0)
  have a0 := Int.emod_nonneg (c / 3) (by omega : (most : Int) ≠ 0)
  refine seq_of (ifS_of (ev_test (ev_eqI (ev_i (ev_var rfl) ev_c (by decide)) ev_c)) (fun e => ?_) (fun e => next_of ?_))
  · have e : c % 3 = 2 := of_decide_eq_true e
    refine ev_i0 ev_c (ev_i (ev_i (ev_var rfl) ev_c (by unfold CDiv; decide)) ev_c (by decide)) _ ⟨by show 2 ≤ sizeLine; decide, fun p hp => q _ _ (same_new hp _) ?_ hp⟩
    rw [upd_same, ruleOf, if_pos e]
    unfold ruleV
    congr 4
    dsimp only
    congr 1
    omega
  · have e : ¬ c % 3 = 2 := of_decide_eq_false e
    dsimp only
    refine ⟨by show 2 ≤ sizeLine; decide, fun p hp => ?_⟩
    refine ev_i (ev_var rfl) ev_c (by decide) _ ⟨p, _, _, _, rfl, rfl, .of upd_same, menu_word c e, ?_⟩
    refine ev_i0 ev_c (ev_i (ev_i (ev_var rfl) ev_c (by unfold CDiv; decide)) (ev_var rfl) (by omega)) _ ⟨by show 2 ≤ sizeLine; decide, fun p2 hp2 => q _ _ ((same_new hp _).trans (same_new hp2 _)) ?_ ((same_new hp _).free hp2)⟩
    rw [upd_same, ruleOf, if_neg e]
    unfold ruleV
    congr 4
    dsimp only
    congr 1
    omega
end
noncomputable abbrev s_law_shapes : Stmt := top 42
noncomputable abbrev n_law_shapes : List Str := ["rule", "last", "found", "many", "one"]
noncomputable abbrev p_law_shapes : List Str := ["rule", "last"]
theorem sc_law_shapes : FnScope n_law_shapes p_law_shapes (defScope s_law_shapes) := ⟨rfl, rfl, rfl, by decide +kernel, rfl, by decide +kernel, by decide +kernel⟩
section
variable {P : Program} {w : World} {K : PySem.W.Frag} {mg : Str → Option Value} {base : Heap}
structure TxSh (mg : Str → Option Value) : Prop where
  n_range : mg "range" = none
structure ShJ (H : Hp) (pr : Addr) (last : Nat) (xss : List (List Nat)) (σ : St) (H' : Hp) : Prop where
  ex : ∃ l rs m u, Same H H' ∧ H l = none ∧ H' l = some (.lst (rs.map V.ref)) ∧ RL H H' xss rs ∧ σ = [some (V.ref pr), some (V.int (last : Int)), some (V.ref l), m, u]
structure ShJ3 (H : Hp) (pr : Addr) (last : Nat) (xss : List (List Nat)) (σ : St) (H' : Hp) : Prop where
  ex : ∃ l rs u, Same H H' ∧ H l = none ∧ H' l = some (.lst (rs.map V.ref)) ∧ RL H H' xss rs ∧ σ = [some (V.ref pr), some (V.int (last : Int)), some (V.ref l), some (V.int 3), u]
theorem ok_shapes (D : HasDef K mg "_law_shapes" s_law_shapes) (T : TxSh mg) : Callee P w K mg base "_law_shapes" 1 p_law_shapes (spShapes K) := by
  refine D.ok sc_law_shapes (fun _ _ _ _ _ _ us hl => match us, hl with | [_, _], _ => rfl) (fun vs H Q E h => ?_) (fun f cdv A outer s H vs Q E hr h => ?_)
  · obtain ⟨pr, r, last, rfl, _⟩ := h
    rfl
  obtain ⟨pr, r, last, rfl, hR, hg, hl40, q⟩ := h
  refine ⟨_, (pss_cons (ps_set (i := 2) sc_law_shapes.nd rfl (Or.inl rfl) (pe_lst pa_nil))
    (pss_cons (ps_for PassesOwn.never rfl (pi_range2 rfl T.n_range (pa_cons pe_int (pa_cons (pe_op op_add (pe_ix ix_tup (pv 0) pe_int (fun _ _ => rfl)) pe_int) pa_nil))) (pg_name (i := 3) sc_law_shapes.nd rfl (Or.inr rfl)) (pss_one (ps_if (pt_cmpR op_eq (pe_ix ix_tup (pv 0) pe_int (fun _ _ => rfl)) pe_str (nomark _)) (pss_one (ps_if (pt_cmpR op_le (pv 3) (pe_op op_add (pv 1) pe_int) (nomark _)) (pss_one (ps_expr (pe_bm PySem.F.plainAttrs_list PySem.F.slot_list_append PySem.F.type_list_append mt_append (pv 2) (pa_cons (pe_comp (Block.of (out := defScope s_law_shapes) (N := n_law_shapes) (x := "k") (frees := ["last", "many"]) (ix := [1, 3]) (by decide +kernel)) rfl (pi_range1 rfl T.n_range (pa_cons (pv 3) pa_nil)) (fun _ _ _ _ => pts_nil) (fun _ _ _ _ => (pe_op op_add (pe_op op_sub (pe_op op_add (pv 1) pe_int) (pv 2)) (pv 0)))) pa_nil)))) pss_nil)) (pss_one (ps_if (PW.pt (pw_or (pt_cmpR op_eq (pe_ix ix_tup (pv 0) pe_int (fun _ _ => rfl)) pe_str (nomark _)) (pw_or1 (pt_cmpR op_eq (pv 3) (pe_ix ix_tup (pv 0) pe_int (fun _ _ => rfl)) (nomark _))))) (pss_cons (ps_if (pt_cmpR op_eq (pv 3) pe_int (nomark _)) (pss_one (ps_expr (pe_bm PySem.F.plainAttrs_list PySem.F.slot_list_append PySem.F.type_list_append mt_append (pv 2) (pa_cons (pe_lst (pa_cons (pv 1) pa_nil)) pa_nil)))) pss_nil)
    (pss_cons (ps_if (pt_cmpR op_eq (pv 3) pe_int (nomark _)) (pss_one (ps_set (i := 2) sc_law_shapes.nd rfl (Or.inl rfl) (pe_op op_cat (pv 2) (pe_comp (Block.of (out := defScope s_law_shapes) (N := n_law_shapes) (x := "one") (frees := ["last"]) (ix := [1]) (by decide +kernel)) rfl (pi_range1 rfl T.n_range (pa_cons (pv 1) pa_nil)) (fun _ _ _ _ => pts_nil) (fun _ _ _ _ => (pe_lst (pa_cons (pv 0) (pa_cons (pv 1) pa_nil)))))))) pss_nil)
    (pss_one (ps_if (pt_cmpR op_eq (pv 3) pe_int (nomark _)) (pss_one (ps_for PassesOwn.never rfl (pi_range1 rfl T.n_range (pa_cons (pv 1) pa_nil)) (pg_name (i := 4) sc_law_shapes.nd rfl (Or.inr rfl)) (pss_one (ps_set (i := 2) sc_law_shapes.nd rfl (Or.inl rfl) (pe_op op_cat (pv 2) (pe_comp (Block.of (out := defScope s_law_shapes) (N := n_law_shapes) (x := "two") (frees := ["last", "one"]) (ix := [1, 4]) (by decide +kernel)) rfl (pi_range2 rfl T.n_range (pa_cons (pe_op op_add (pv 4) pe_int) (pa_cons (pv 1) pa_nil))) (fun _ _ _ _ => pts_nil) (fun _ _ _ _ => (pe_lst (pa_cons (pv 2) (pa_cons (pv 0) (pa_cons (pv 1) pa_nil))))))))))) pss_nil)))) pss_nil)))))
    (pss_one (ps_ret (pv 2))))), ?_⟩
  rw [show start n_law_shapes [V.ref pr, V.int last] = [some (V.ref pr), some (V.int last), none, none, none] from rfl]
  simp only [tSeq, tIfS, tRet, tRetN, tNext, tOr, tAnd, tNot, tTest, tB, tOp, tUn, tVar, tC, tCall, tCons, tNil, rI0, rI, rU, tGT, tAsg, gName, tDrop, tCB, tAndV, tOrV, tNotV, tIf, tChain, tTup, tLst, tNever, cxK, bkK, noxK, tRaise, tTry, xTry, endsH, tCallH]
  simp
  intro p hp
  have hR1 := (same_new hp (.lst [])).tup hR
  have k40 : r.2 ≤ 40 := by rcases hg with ⟨_, _, h⟩ | ⟨_, _, h⟩ <;> omega
  refine ⟨_, rfl, pr, _, _, _, rfl, rfl, hR1, rfl, _, _, rfl, rfl, _, _, rfl, ⟨by decide, by decide, by omega, by omega⟩, ?_⟩
  rw [show (((r.2 : Int) + 1) - 1).toNat = r.2 by omega]
  refine for_range (fun i σ H' => ShJ H pr last (Row.upTo r last i) σ H') ⟨p, [], none, none, same_new hp _, hp, upd_same, .nil, rfl⟩ ?_ ?_
  · rintro i σ H' hi ⟨l, rs, m, u, sm, hl0, hl, hr, rfl⟩
    rw [Row.upTo_succ]
    have hR2 := sm.tup hR
    have r2 : r.1 ≤ 2 := by rcases hg with ⟨h, _⟩ | ⟨h, _⟩ <;> omega
    have hlen : rs.length ≤ 40 * (1 + 39 + 39 * 39) := by
      rw [← hr.length]
      refine Nat.le_trans Row.upTo_len (Nat.mul_le_mul (by omega) ?_)
      have : last * last ≤ 39 * 39 := Nat.mul_le_mul (by omega) (by omega)
      omega
    have hsz : ∀ {n : Nat}, n ≤ 100000 → n < sizeLine := fun h => Nat.lt_of_le_of_lt h (by decide)
    try dsimp only
    refine ifS_of (ev_test (ev_isRun rfl hR2 r2)) (fun c1 => ?_) (fun c1 => ?_)
    · have c1 := of_decide_eq_true c1
      refine ifS_of (ev_test (ev_i0 (ev_var rfl) (ev_i0 (ev_var rfl) ev_c))) (fun c2 => ?_) (fun c2 => ?_)
      · have c2 : (1 + i : Int) ≤ last + 1 := of_decide_eq_true c2
        refine ⟨_, rfl, .inl ⟨rfl, _, .of hl⟩, ?_⟩
        refine comp_range (H1 := H') (lo := 0) (n := 1 + i) (fun k => V.int ((last + 1 - (1 + i) + k : Nat) : Int)) (fun R rr => ?_) (hsz (by omega)) (fun k H2 R hk hs rr => ?_) (fun a ha => ?_)
        · refine rng1_of (ev_cons (ev_var rfl) ev_nil) (by omega) (by omega) ?_
          rw [show ((1 : Int) + i).toNat = 1 + i by omega]
          exact rr
        · refine ev_i0 (ev_i0 (ev_i0 (ev_var rfl) ev_c) (ev_var rfl)) (ev_var rfl) _ ?_
          rw [show (last : Int) + 1 - (1 + i) + (0 + k) = ((last + 1 - (1 + i) + k : Nat) : Int) by omega]
          exact rr
        · have la : l ≠ a := ne_of_none hl ha
          refine ⟨l, _, _, rfl, rfl, by rw [upd_ne la]; exact hl, by rw [List.length_map]; exact hsz (by omega), l, rs ++ [a], _, _, (sm.new ha).upd hl0, hl0, by rw [upd_same, List.map_append]; rfl, ?_, rfl⟩
          refine RL.app (RL.set (hr.same (same_new ha _)) (hr.apart hl)) ?_
          have e : Row.part r last (1 + i) = [(List.range (1 + i)).map fun k => last + 1 - (1 + i) + k] := by
            unfold Row.part
            rw [if_pos c1, if_pos (by omega)]
          rw [e]
          refine .cons ⟨?_, sm.free ha⟩ .nil
          rw [upd_ne (Ne.symm la), upd_same]
          unfold nl
          rw [List.map_map]
          rfl
      · have c2 : ¬ (1 + i : Int) ≤ last + 1 := of_decide_eq_false c2
        have e : Row.part r last (1 + i) = [] := by
          unfold Row.part
          rw [if_pos c1, if_neg (by omega)]
        rw [e, List.append_nil]
        exact ⟨l, rs, _, _, sm, hl0, hl, hr, rfl⟩
    · have c1 := of_decide_eq_false c1
      have k3 : r.2 ≤ 3 := by rcases hg with ⟨_, _, h⟩ | ⟨h, _⟩ <;> omega
      refine ifS_of (ev_or (ev_test (ev_isMost rfl hR2 r2)) (fun _ => ev_test (ev_eqI (ev_var rfl) (ev_rule1 rfl hR2)))) (fun c2 => ?_) (fun c2 => ?_)
      · have d : r.1 = 0 ∨ 1 + i = r.2 := by
          rcases Bool.or_eq_true_iff.mp c2 with h | h
          · exact .inl (of_decide_eq_true h)
          · have h : (1 + i : Int) = r.2 := of_decide_eq_true h
            exact .inr (by omega)
        have e : Row.part r last (1 + i) = (if 1 + i = 1 then [[last]] else []) ++ (if 1 + i = 2 then (List.range last).map fun one => [one, last] else []) ++ (if 1 + i = 3 then Row.threes last last else []) := by
          unfold Row.part
          rw [if_neg c1, if_pos d]
          rfl
        rw [e]
        refine seq_of ?_
        rcases (by omega : i = 0 ∨ i = 1 ∨ i = 2) with rfl | rfl | rfl
        · refine ifS_of (ev_test (ev_eqI (ev_var rfl) ev_c)) (fun _ => ?_) (fun c => absurd c (by decide))
          refine ⟨_, rfl, .inl ⟨rfl, _, .of hl⟩, _, rfl, by show 1 ≤ sizeLine; decide, fun a ha => ?_⟩
          have la : l ≠ a := ne_of_none hl ha
          refine ⟨l, _, _, rfl, rfl, by rw [upd_ne la]; exact hl, by rw [List.length_map]; exact hsz (by omega), ?_⟩
          try dsimp only
          refine seq_of (ifS_of (ev_test (ev_eqI (ev_var rfl) ev_c)) (fun c => absurd c (by decide)) (fun _ => next_of ?_))
          try dsimp only
          refine ifS_of (ev_test (ev_eqI (ev_var rfl) ev_c)) (fun c => absurd c (by decide)) (fun _ => next_of ?_)
          refine ⟨l, rs ++ [a], _, _, (sm.new ha).upd hl0, hl0, by rw [upd_same, List.map_append]; rfl, ?_, rfl⟩
          refine RL.app (RL.set (hr.same (same_new ha _)) (hr.apart hl)) (.cons ⟨?_, sm.free ha⟩ .nil)
          rw [upd_ne (Ne.symm la), upd_same]
          rfl
        · refine ifS_of (ev_test (ev_eqI (ev_var rfl) ev_c)) (fun c => absurd c (by decide)) (fun _ => next_of ?_)
          try dsimp only
          refine seq_of (ifS_of (ev_test (ev_eqI (ev_var rfl) ev_c)) (fun _ => ?_) (fun c => absurd c (by decide)))
          refine ⟨_, rfl, ?_⟩
          refine comp_range_new (H1 := H') (lo := 0) (n := last) (fun one => [one, last]) (fun R rr => ?_) (hsz (by omega)) (fun k H2 R hk hs rr => ?_) (fun a ss H2 ha hs ha2 hss => ?_)
          · refine rng1_of (ev_cons (ev_var rfl) ev_nil) (by omega) (by omega) ?_
            rw [show ((last : Nat) : Int).toNat = last by omega]
            exact rr
          · refine ⟨_, rfl, _, rfl, by show 2 ≤ sizeLine; decide, fun b hb => ?_⟩
            have := rr b hb
            rw [show (0 : Int) + k = ((k : Nat) : Int) by omega]
            exact this
          · have l2 : ss.length ≤ 40 := by rw [← hss.length, List.length_map, List.length_range]; omega
            refine ⟨l, a, _, _, rfl, rfl, hs _ _ hl, ha2, by rw [List.length_map, List.length_map]; exact Nat.le_of_lt (hsz (by omega)), fun b hb => ?_⟩
            try dsimp only
            refine ifS_of (ev_test (ev_eqI (ev_var rfl) ev_c)) (fun c => absurd c (by decide)) (fun _ => next_of ?_)
            refine ⟨b, rs ++ ss, _, _, (sm.trans hs).new hb, (sm.trans hs).free hb, by rw [upd_same, List.map_append], ?_, rfl⟩
            refine RL.app ((hr.same hs).same (same_new hb _)) ?_
            have e2 : ((if 1 + 1 = 1 then [[last]] else []) ++ (if 1 + 1 = 2 then (List.range last).map fun one => [one, last] else []) ++ (if 1 + 1 = 3 then Row.threes last last else [])) = (List.range last).map fun one => [one, last] := by simp
            rw [e2]
            exact (hss.base sm).same (same_new hb _)
        · refine ifS_of (ev_test (ev_eqI (ev_var rfl) ev_c)) (fun c => absurd c (by decide)) (fun _ => next_of ?_)
          try dsimp only
          refine seq_of (ifS_of (ev_test (ev_eqI (ev_var rfl) ev_c)) (fun c => absurd c (by decide)) (fun _ => next_of ?_))
          try dsimp only
          refine ifS_of (ev_test (ev_eqI (ev_var rfl) ev_c)) (fun _ => ?_) (fun c => absurd c (by decide))
          refine rng1_of (ev_cons (ev_var rfl) ev_nil) (by omega) (by omega) ?_
          rw [show ((last : Nat) : Int).toNat = last by omega]
          refine for_range (fun n σ H2 => ShJ3 H pr last (Row.upTo r last 2 ++ Row.threes last n) σ H2) ⟨l, rs, _, sm, hl0, hl, by unfold Row.threes; simpa using hr, rfl⟩ ?_ ?_
          · rintro n σ H2 hn ⟨l, rs, u, sm, hl0, hl, hr, rfl⟩
            rw [Row.threes_succ]
            have tl : (Row.threes last n).length ≤ 40 * 40 := by
              have := Row.flat_len (f := fun one => (List.range' (one + 1) (last - (one + 1))).map fun two => [one, two, last]) (m := 40) (l := List.range n) (fun b _ => by simp <;> omega)
              rw [List.length_range] at this
              exact Nat.le_trans this (Nat.mul_le_mul (by omega) (Nat.le_refl _))
            have ul : (Row.upTo r last 2).length ≤ 2 * (1 + 39 + 39 * 39) := by
              refine Nat.le_trans Row.upTo_len (Nat.mul_le_mul (Nat.le_refl _) ?_)
              have : last * last ≤ 39 * 39 := Nat.mul_le_mul (by omega) (by omega)
              omega
            have rl : rs.length ≤ 2 * (1 + 39 + 39 * 39) + 40 * 40 := by
              rw [← hr.length, List.length_append]
              omega
            refine ⟨_, rfl, ?_⟩
            refine comp_range_new (H1 := H2) (lo := 0 + (n : Int) + 1) (n := last - (n + 1)) (fun k => [n, n + 1 + k, last]) (fun R rr => ?_) (hsz (by omega)) (fun k H3 R hk hs rr => ?_) (fun a ss H3 ha hs ha2 hss => ?_)
            · refine rng2_of (ev_cons (ev_i0 (ev_var rfl) ev_c) (ev_cons (ev_var rfl) ev_nil)) (by omega) (by omega) (by omega) (by omega) ?_
              rw [show ((last : Int) - (0 + (n : Int) + 1)).toNat = last - (n + 1) by omega]
              exact rr
            · refine ⟨_, rfl, _, rfl, _, rfl, by show 3 ≤ sizeLine; decide, fun b hb => ?_⟩
              have := rr b hb
              rw [show (0 : Int) + n = ((n : Nat) : Int) by omega, show (n : Int) + 1 + k = ((n + 1 + k : Nat) : Int) by omega]
              exact this
            · have l2 : ss.length ≤ 40 := by rw [← hss.length, List.length_map, List.length_range]; omega
              refine ⟨l, a, _, _, rfl, rfl, hs _ _ hl, ha2, by rw [List.length_map, List.length_map]; exact Nat.le_of_lt (hsz (by omega)), fun b hb => ?_⟩
              refine ⟨b, rs ++ ss, _, (sm.trans hs).new hb, (sm.trans hs).free hb, by rw [upd_same, List.map_append], ?_, rfl⟩
              rw [← List.append_assoc, List.range'_eq_map_range, List.map_map]
              refine RL.app ((hr.same hs).same (same_new hb _)) ?_
              exact (hss.base sm).same (same_new hb _)
          · rintro σ H2 ⟨l, rs, u, sm, hl0, hl, hr, rfl⟩
            exact ⟨l, rs, _, _, sm, hl0, hl, by simpa using hr, rfl⟩
      · have d : ¬ (r.1 = 0 ∨ 1 + i = r.2) := by
          rw [Bool.or_eq_false_iff] at c2
          have h1 := of_decide_eq_false c2.1
          have h2 : ¬ (1 + i : Int) = r.2 := of_decide_eq_false c2.2
          omega
        have e : Row.part r last (1 + i) = [] := by
          unfold Row.part
          rw [if_neg c1, if_neg d]
        rw [e, List.append_nil]
        exact ⟨l, rs, _, _, sm, hl0, hl, hr, rfl⟩
  · rintro σ H' ⟨l, rs, m, u, sm, hl0, hl, hr, rfl⟩
    simp only [tSeq, tIfS, tRet, tRetN, tNext, tOr, tAnd, tNot, tTest, tB, tOp, tUn, tVar, tC, tCall, tCons, tNil, rI0, rI, rU, tGT, tAsg, gName, tDrop, tCB, tAndV, tOrV, tNotV, tIf, tChain, tTup, tLst, tNever, cxK, bkK, noxK, tRaise, tTry, xTry, endsH, tCallH]
    simp
    exact q _ _ rs sm hl0 hl hr
end
noncomputable abbrev s_law_board : Stmt := top 41
noncomputable abbrev n_law_board : List Str := ["cell", "heads", "k"]
noncomputable abbrev p_law_board : List Str := ["cell"]
theorem sc_law_board : FnScope n_law_board p_law_board (defScope s_law_board) := ⟨rfl, rfl, rfl, by decide +kernel, rfl, by decide +kernel, by decide +kernel⟩
section
variable {P : Program} {w : World} {K : PySem.W.Frag} {mg : Str → Option Value} {base : Heap}
theorem ok_board (D : HasDef K mg "_law_board" s_law_board) (T : TxSh mg) : Callee P w K mg base "_law_board" 1 p_law_board spBoard3 := by
  refine D.ok sc_law_board (fun _ _ _ _ _ _ us hl => match us, hl with | [_], _ => rfl) (fun vs H Q E h => ?_) (fun f cdv A outer s H vs Q E hr h => ?_)
  · obtain ⟨c, rfl, _⟩ := h
    rfl
  obtain ⟨c, rfl, q⟩ := h
  refine ⟨_, (pss_cons (ps_set (i := 1) sc_law_board.nd rfl (Or.inl rfl) (pe_lst pa_nil))
    (pss_cons (ps_for PassesOwn.never rfl (pi_range1 rfl T.n_range (pa_cons pe_int pa_nil)) (pg_name (i := 2) sc_law_board.nd rfl (Or.inl rfl)) (pss_cons (ps_if (pt_cmpR op_eq (pe_op op_mod (pv 0) pe_int) pe_int (nomark _)) (pss_one (ps_expr (pe_bm PySem.F.plainAttrs_list PySem.F.slot_list_append PySem.F.type_list_append mt_append (pv 1) (pa_cons (pe_tup (pa_cons (pe_op op_fdiv (pv 2) pe_int) (pa_cons (pe_op op_mod (pv 2) pe_int) pa_nil))) pa_nil)))) pss_nil)
    (pss_one (ps_set (i := 0) sc_law_board.nd rfl (Or.inl rfl) (pe_op op_fdiv (pv 0) pe_int)))))
    (pss_one (ps_ret (pv 1))))), ?_⟩
  rw [show start n_law_board [V.int c] = [some (V.int c), none, none] from rfl]
  refine seq_of ⟨by decide, fun p hp => ?_⟩
  dsimp only [gName]
  refine seq_of (rng1_of (ev_cons ev_c ev_nil) (by decide) (by decide) ?_)
  refine for_range (fun i σ H' => ∃ rs k, Same H H' ∧ H' p = some (.lst (rs.map V.ref)) ∧ PL H' ((bits9 c i).map pl3) rs ∧ σ = [some (V.int (c / 2 ^ i)), some (V.ref p), k]) ⟨[], none, same_new hp _, upd_same, .nil, by simp⟩ ?_ ?_
  · rintro i σ H' hi ⟨rs, k, sm, hl, hr', rfl⟩
    have hi : i < 9 := hi
    dsimp only [gName]
    have lr := hr'.length
    rw [List.length_map] at lr
    have lb := bits9_len c i
    refine seq_of (ifS_of (ev_test (ev_eqI (ev_i (ev_var rfl) ev_c (by decide)) ev_c)) (fun e => ?_) (fun e => next_of ?_))
    · have e : c / 2 ^ i % 2 = 1 := of_decide_eq_true e
      refine ⟨_, rfl, .inl ⟨rfl, _, .of hl⟩, ?_⟩
      refine arg1_of (tup_of (ev_cons (ev_i (ev_var rfl) ev_c (by unfold CDiv; decide)) (ev_cons (ev_i (ev_var rfl) ev_c (by decide)) ev_nil)) (by show 2 ≤ sizeLine; decide) fun z hz => ?_)
      have pz : p ≠ z := ne_of_none hl hz
      refine ⟨p, _, _, rfl, rfl, by rw [upd_ne pz]; exact hl, by rw [List.length_map]; exact small1000 (by omega), ?_⟩
      dsimp only
      refine asg_of (ev_i (ev_var rfl) ev_c (by unfold CDiv; decide)) ⟨rs ++ [z], _, (sm.new hz).upd hp, by rw [upd_same, List.map_append]; rfl, ?_, by rw [half]; rfl⟩
      rw [bits9_succ, if_pos e, List.map_append]
      refine paired_app ((hr'.same (same_new hz _)).upd (by rw [upd_ne pz]; exact hl)) (.cons ?_ .nil)
      rw [upd_ne (Ne.symm pz), upd_same]
      unfold pl3
      simp
    · have e : ¬ c / 2 ^ i % 2 = 1 := of_decide_eq_false e
      refine asg_of (ev_i (ev_var rfl) ev_c (by unfold CDiv; decide)) ⟨rs, _, sm, hl, ?_, by rw [half]; rfl⟩
      rw [bits9_succ, if_neg e, List.append_nil]
      exact hr'
  · rintro σ H' ⟨rs, k, sm, hl, hr', rfl⟩
    exact ret_of (ev_var rfl) (q _ p rs sm hp hl hr')
end
noncomputable abbrev s_law_far : Stmt := top 40
noncomputable abbrev n_law_far : List Str := ["script", "chosen", "k", "cell"]
noncomputable abbrev p_law_far : List Str := ["script"]
theorem sc_law_far : FnScope n_law_far p_law_far (defScope s_law_far) := ⟨rfl, rfl, rfl, by decide +kernel, rfl, by decide +kernel, by decide +kernel⟩
noncomputable def spFar2 (K : PySem.W.Frag) : Sp := fun vs H Q _ => ∃ (a : Addr) (ns : List Int), vs = [.ref a] ∧ SqL K H a (ns.map V.int) ∧ ∀ H' p ps rs, Same H H' → H p = none → H' p = some (.lst (rs.map V.ref)) → PL H' ps rs → Row.IsBoard ps → Q (.ref p) H'
structure TxFr (mg : Str → Option Value) : Prop where
  n_range : mg "range" = none
  n_sorted : mg "sorted" = none
section
variable {P : Program} {w : World} {K : PySem.W.Frag} {mg : Str → Option Value} {base : Heap}
structure CnFr (P : Program) (w : World) (K : PySem.W.Frag) (mg : Str → Option Value) (base : Heap) : Prop where
  law_cell_at : Callee P w K mg base "_law_cell_at" 1 p_law_cell_at (spCell K)
theorem put_keys {kvs : List (List Key × V)} {k : List Key} {v : V} : (putK kvs k v).map (·.1) = if (valV kvs k).isSome then kvs.map (·.1) else kvs.map (·.1) ++ [k] := by
  cases e : valV kvs k with
  | none =>
    rw [putK_new _ e]
    simp
  | some x =>
    unfold putK
    rw [valV_any, e]
    simp only [Option.isSome_some, if_true]
    rw [List.map_map]
    refine List.map_congr_left fun kv _ => ?_
    simp only [Function.comp_apply]
    split <;> rfl
set_option pp.deepTerms true in
theorem ok_far (D : HasDef K mg "_law_far" s_law_far) (T : TxFr mg) (C : CnFr P w K mg base) : Callee P w K mg base "_law_far" 2 p_law_far (spFar2 K) := by
  refine D.ok sc_law_far (fun _ _ _ _ _ _ us hl => match us, hl with | [_], _ => rfl) (fun vs H Q E h => ?_) (fun f cdv A outer s H vs Q E hr h => ?_)
  · obtain ⟨a, ns, rfl, _⟩ := h
    rfl
  obtain ⟨a, ns, rfl, hS, q⟩ := h
  refine ⟨_, (pss_cons (ps_set (i := 1) sc_law_far.nd rfl (Or.inl rfl) pe_dnewT)
    (pss_cons (ps_for PassesOwn.never rfl (pi_range1 rfl T.n_range (pa_cons (pe_op op_add pe_int (pe_op op_mod (pe_callC C.law_cell_at hr (by omega) rfl (pa_cons (pv 0) (pa_cons pe_int pa_nil))) pe_int)) pa_nil)) (pg_name (i := 2) sc_law_far.nd rfl (Or.inl rfl)) (pss_cons (ps_set (i := 3) sc_law_far.nd rfl (Or.inl rfl) (pe_callC C.law_cell_at hr (by omega) rfl (pa_cons (pv 0) (pa_cons (pe_op op_add pe_int (pv 2)) pa_nil))))
    (pss_one (ps_dput (hu_of hr) (pv 1) (pe_tup (pa_cons (pe_op op_mod (pv 3) pe_int) (pa_cons (pe_op op_mod (pe_op op_fdiv (pv 3) pe_int) pe_int) pa_nil))) pe_bl rfl))))
    (pss_one (ps_ret (pe_callB (call_sortedD rfl) rfl T.n_sorted bt_sorted (pa_cons (pv 1) pa_nil)))))), ?_⟩
  rw [show start n_law_far [V.ref a] = [some (V.ref a), none, none, none] from rfl]
  have two : ∀ a b : V, ([a, b] : List V).length ≤ sizeLine := fun a b => by show 2 ≤ sizeLine; decide
  refine seq_of fun d nd => ?_
  dsimp only [gName]
  have s0 := same_new nd (.dT [])
  have hS0 := s0.seq hS
  obtain ⟨m, hm⟩ : ∃ m : Nat, 1 + cell ns 4 % 3 = (m : Int) := ⟨(1 + cell ns 4 % 3).toNat, by omega⟩
  have m3 : m ≤ 3 := by omega
  refine seq_of (rng1_of (ev_cons (ev_i0 ev_c (ev_i (ev_cell 4 rfl hS0) ev_c (by decide))) ev_nil) (by omega) (by omega) ?_)
  rw [hm, Int.toNat_natCast]
  refine for_range (fun i σ H' => ∃ (kvs : List (List Key × V)) (ps : List (Nat × Nat)) (u v : Option V), Same H H' ∧ H' d = some (.dT kvs) ∧ kvs.map (·.1) = ps.map (fun p => pk p.1 p.2) ∧ (∀ p ∈ ps, p.1 < 16 ∧ p.2 < 16) ∧ ps.Nodup ∧ ps.length ≤ i ∧ σ = [some (V.ref a), some (V.ref d), u, v])
    ⟨[], [], none, none, s0, upd_same, rfl, by simp, List.nodup_nil, by simp, rfl⟩ ?_ ?_
  · rintro i σ H' hi ⟨kvs, ps, u, v, sm, hd, hk, h16, hnd, lps, rfl⟩
    dsimp only [gName]
    refine seq_of (asg_of (ev_cellN (5 + i) rfl (ev_i0 ev_c (ev_var rfl)) (by omega) (sm.seq hS)) ?_)
    dsimp only
    obtain ⟨x, hx⟩ : ∃ x : Nat, cell ns (5 + i) % 16 = (x : Int) := ⟨(cell ns (5 + i) % 16).toNat, by omega⟩
    obtain ⟨y, hy⟩ : ∃ y : Nat, cell ns (5 + i) / 16 % 16 = (y : Int) := ⟨(cell ns (5 + i) / 16 % 16).toNat, by omega⟩
    have lk : kvs.length = ps.length := by have := congrArg List.length hk; simpa using this
    refine ⟨_, rfl, tup_of (ev_cons (ev_i (ev_var rfl) ev_c (by decide)) (ev_cons (ev_i (ev_i (ev_var rfl) ev_c (by unfold CDiv; decide)) ev_c (by decide)) ev_nil)) (two _ _) fun z hz => ⟨d, _, rfl, DPut.t (k := pk x y) (by rw [upd_ne (ne_of_none hd hz)]; exact hd) (by rw [upd_same, hx, hy]; rfl) (small1000 (by omega)), ?_⟩⟩
    have inp : (valV kvs (pk x y)).isSome = decide ((x, y) ∈ ps) := by
      rw [Bool.eq_iff_iff, decide_eq_true_eq]
      constructor
      · intro h
        obtain ⟨w', e⟩ := Option.isSome_iff_exists.mp h
        have := valV_in e
        rw [hk] at this
        obtain ⟨p, hp, e2⟩ := List.mem_map.mp this
        obtain ⟨h1, h2⟩ := pk_inj e2
        have : p = (x, y) := Prod.ext h1 h2
        exact this ▸ hp
      · intro h
        cases e : valV kvs (pk x y) with
        | some w' => rfl
        | none =>
          refine absurd ?_ (valV_not e)
          rw [hk]
          exact List.mem_map.mpr ⟨(x, y), h, rfl⟩
    have keys := put_keys (kvs := kvs) (k := pk x y) (v := .bl true)
    rw [inp] at keys
    by_cases c : (x, y) ∈ ps
    · rw [decide_eq_true c, if_pos rfl] at keys
      exact ⟨_, ps, _, _, (sm.new hz).upd nd, upd_same, keys.trans hk, h16, hnd, by omega, rfl⟩
    · rw [decide_eq_false c, if_neg (by decide), hk] at keys
      refine ⟨_, ps ++ [(x, y)], _, _, (sm.new hz).upd nd, upd_same, by rw [keys, List.map_append]; rfl, fun q hq => ?_, ?_, by rw [List.length_append]; simp; omega, rfl⟩
      · rcases List.mem_append.mp hq with w | w
        · exact h16 q w
        · have : q = (x, y) := by simpa using w
          subst this
          exact ⟨by simp only; omega, by simp only; omega⟩
      · rw [List.nodup_append]
        refine ⟨hnd, by simp, fun b hb b' hb' e => ?_⟩
        have : b' = (x, y) := by simpa using hb'
        subst this
        subst e
        exact c hb
  · rintro σ H' ⟨kvs, ps, u, v, sm, hd, hk, h16, hnd, lps, rfl⟩
    dsimp only
    refine retO_of (cb_of (ev_cons (ev_var rfl) ev_nil) ⟨d, kvs, ps, rfl, hd, hk, fun q hq => (h16 q hq).2, hnd, by omega, fun l qs ss nl st hss => ?_⟩)
    have sl := same_new nl (.lst (ss.map V.ref))
    exact q _ l qs ss (sm.trans sl) (sm.free nl) upd_same (hss.same sl) ⟨st.1, fun q hq => h16 q ((st.2 q).mp hq)⟩
end
noncomputable abbrev s_law_numbers : Stmt := top 43
noncomputable abbrev n_law_numbers : List Str := ["rule", "many", "told", "place", "seen", "shape", "total", "other", "least"]
noncomputable abbrev p_law_numbers : List Str := ["rule", "many"]
theorem sc_law_numbers : FnScope n_law_numbers p_law_numbers (defScope s_law_numbers) := ⟨rfl, rfl, rfl, by decide +kernel, rfl, by decide +kernel, by decide +kernel⟩
section
variable {P : Program} {w : World} {K : PySem.W.Frag} {mg : Str → Option Value} {base : Heap}
structure CnN (P : Program) (w : World) (K : PySem.W.Frag) (mg : Str → Option Value) (base : Heap) : Prop where
  law_shapes : Callee P w K mg base "_law_shapes" 1 p_law_shapes (spShapes K)
structure NmJ (H : Hp) (pr : Addr) (m : Nat) (told : List Nat) (σ : St) (H' : Hp) : Prop where
  ex : ∃ l a b c d e g, Same H H' ∧ H l = none ∧ H' l = some (.lst (nl told)) ∧ σ = [some (V.ref pr), some (V.int (m : Int)), some (V.ref l), a, b, c, d, e, g]
structure NmI (H : Hp) (pr : Addr) (m i : Nat) (told : List Nat) (l ps sd : Addr) (rs : List Addr) (xss : List (List Nat)) (S : List Nat) (σ : St) (H' : Hp) : Prop where
  ex : ∃ kvs c d e g, Same H H' ∧ H' l = some (.lst (nl told)) ∧ H' ps = some (.lst (rs.map V.ref)) ∧ RL H H' xss rs ∧ H' sd = some (.dK kvs) ∧ Seen kvs S ∧ σ = [some (V.ref pr), some (V.int (m : Int)), some (V.ref l), some (V.int (i : Int)), some (V.ref sd), c, d, e, g]
set_option pp.deepTerms true in
theorem ok_numbers (D : HasDef K mg "_law_numbers" s_law_numbers) (T : TxSh mg) (C : CnN P w K mg base) : Callee P w K mg base "_law_numbers" 2 p_law_numbers (spNumbers K) := by
  refine D.ok sc_law_numbers (fun _ _ _ _ _ _ us hl => match us, hl with | [_, _], _ => rfl) (fun vs H Q E h => ?_) (fun f cdv A outer s H vs Q E hr h => ?_)
  · obtain ⟨pr, r, m, rfl, _⟩ := h
    rfl
  obtain ⟨pr, r, m, rfl, hR, hg, hm, q⟩ := h
  refine ⟨_, (pss_cons (ps_set (i := 2) sc_law_numbers.nd rfl (Or.inl rfl) (pe_lst pa_nil))
    (pss_cons (ps_for PassesOwn.never rfl (pi_range1 rfl T.n_range (pa_cons (pv 1) pa_nil)) (pg_name (i := 3) sc_law_numbers.nd rfl (Or.inl rfl)) (pss_cons (ps_set (i := 4) sc_law_numbers.nd rfl (Or.inl rfl) pe_dnewK)
    (pss_cons (ps_for PassesOwn.never rfl (pi_list (pe_callC C.law_shapes hr (by omega) rfl (pa_cons (pv 0) (pa_cons (pv 3) pa_nil)))) (pg_name (i := 5) sc_law_numbers.nd rfl (Or.inl rfl)) (pss_cons (ps_set (i := 6) sc_law_numbers.nd rfl (Or.inl rfl) pe_int)
    (pss_cons (ps_for PassesOwn.never rfl (pi_list (pe_slice sl_list (pv 5) po_none (po_some (pe_un un_neg pe_int)))) (pg_name (i := 7) sc_law_numbers.nd rfl (Or.inl rfl)) (pss_one (ps_set (i := 6) sc_law_numbers.nd rfl (Or.inl rfl) (pe_op op_xor (pv 6) (pe_ix ix_list (pv 2) (pv 7) (fun _ _ => rfl))))))
    (pss_one (ps_dput (hu_of hr) (pv 4) (pv 6) pe_bl rfl)))))
    (pss_cons (ps_set (i := 8) sc_law_numbers.nd rfl (Or.inl rfl) pe_int)
    (pss_cons (ps_while PassesOwn.never (pt_cmp (pc_din (hu_of hr) (pv 8) (pv 4))) (pss_one (ps_set (i := 8) sc_law_numbers.nd rfl (Or.inl rfl) (pe_op op_add (pv 8) pe_int))))
    (pss_one (ps_expr (pe_bm PySem.F.plainAttrs_list PySem.F.slot_list_append PySem.F.type_list_append mt_append (pv 2) (pa_cons (pv 8) pa_nil)))))))))
    (pss_one (ps_ret (pv 2))))), ?_⟩
  rw [show start n_law_numbers [V.ref pr, V.int m] = [some (V.ref pr), some (V.int m), none, none, none, none, none, none, none] from rfl]
  have hsz : ∀ {n : Nat}, n ≤ 100000 → n < sizeLine := fun h => Nat.lt_of_le_of_lt h (by decide)
  refine seq_of ⟨by decide, fun l hl0 => ?_⟩
  dsimp only [gName]
  refine seq_of (rng1_of (ev_cons (ev_var rfl) ev_nil) (by omega) (by omega) ?_)
  rw [show ((m : Nat) : Int).toNat = m by omega]
  refine for_range (fun i σ H' => NmJ H pr m (Row.nums r i) σ H') ⟨l, none, none, none, none, none, none, same_new hl0 _, hl0, upd_same, rfl⟩ ?_ ?_
  · rintro i σ H' hi ⟨l, a, b, c, d, e', g', sm, hl0, hl, rfl⟩
    have hi40 : i < 40 := by omega
    have tl : (Row.nums r i).length = i := Row.nums_length r i
    generalize htold : Row.nums r i = told at hl tl
    dsimp only [gName]
    refine seq_of fun sd hsd => ?_
    dsimp only [gName]
    have lsd : l ≠ sd := ne_of_none hl hsd
    have sm1 := sm.new (o := .dK []) hsd
    have hR1 := sm1.tup hR
    refine seq_of ⟨_, rfl, _, rfl, pr, r, i, by simp, hR1, hg, hi40, fun H2 ps rs sm2 hp2 hps hrs => ⟨ps, rfl, ⟨_, .of hps⟩, ?_⟩⟩
    have hl1 : upd H' sd (.dK []) l = some (.lst (nl told)) := by rw [upd_ne lsd]; exact hl
    have hsd1 : upd H' sd (.dK []) sd = some (.dK []) := upd_same
    have rnew : ∀ r' ∈ rs, upd H' sd (.dK []) r' = none := fun r' hr' => by
      obtain ⟨_, _, h⟩ := paired_mem hrs hr'
      exact h.2
    have lrs : l ∉ rs := fun z => absurd (rnew l z) (by rw [hl1]; simp)
    have sdrs : sd ∉ rs := fun z => absurd (rnew sd z) (by rw [hsd1]; simp)
    have psd : ps ≠ sd := fun z => by rw [z, hsd1] at hp2; cases hp2
    have plN : ps ≠ l := fun z => by rw [z, hl1] at hp2; cases hp2
    have xl : (Row.shapes r i).length ≤ 40 * (1 + 39 + 39 * 39) := by
      rw [Row.shapes_upTo]
      have k40 : r.2 ≤ 40 := by rcases hg with ⟨_, _, h⟩ | ⟨_, _, h⟩ <;> omega
      refine Nat.le_trans Row.upTo_len (Nat.mul_le_mul k40 ?_)
      have : i * i ≤ 39 * 39 := Nat.mul_le_mul (by omega) (by omega)
      omega
    refine for_list (xs := rs.map V.ref) (fun j σ H' => NmI H pr m i told l ps sd rs (Row.shapes r i) (((Row.shapes r i).take j).map fun s => Row.xs (Row.at0 told) s.dropLast) σ H')
      ⟨[], c, d, e', g', sm1.trans sm2, sm2 _ _ hl1, hps, hrs.base sm1, sm2 _ _ hsd1, Seen.nil, by simp⟩ ?_ ?_ ?_
    · rintro j σ H3 _ ⟨kvs, c, d, _, _, _, _, h, _⟩
      exact .of h
    · rintro j x σ H3 hx ⟨kvs, c, d, e', g', sm3, hl3, hp3, hr3, hd3, seen, rfl⟩
      rw [List.getElem?_map] at hx
      cases e : rs[j]? with
      | none => rw [e] at hx; cases hx
      | some rj =>
        rw [e] at hx
        cases hx
        obtain ⟨sj, hsj, hrj, _⟩ := paired_get hr3 e
        have hmem := List.mem_of_getElem? hsj
        obtain ⟨av, hav, hlt, _⟩ := Row.shapes_is hmem
        dsimp only [gName]
        refine seq_of (asg_of ev_c ?_)
        dsimp only
        refine seq_of ⟨_, rfl, 1, rfl, -1, rfl, rj, _, rfl, .of hrj, fun pc hpc => ⟨pc, rfl, ⟨_, .of upd_same⟩, ?_⟩⟩
        rw [cut_last]
        have lpc : l ≠ pc := ne_of_none hl3 hpc
        have sdpc : sd ≠ pc := ne_of_none hd3 hpc
        have hpc1 : upd H3 pc (.lst (nl sj.dropLast)) pc = some (.lst (nl sj.dropLast)) := upd_same
        have hl4 : upd H3 pc (.lst (nl sj.dropLast)) l = some (.lst (nl told)) := by rw [upd_ne lpc]; exact hl3
        refine for_list (xs := nl sj.dropLast) (fun k σ H4 => H4 = upd H3 pc (.lst (nl sj.dropLast)) ∧ ∃ u, σ = [some (V.ref pr), some (V.int (m : Int)), some (V.ref l), some (V.int (i : Int)), some (V.ref sd), some (V.ref rj), some (V.int ((Row.xs (Row.at0 told) (sj.dropLast.take k) : Nat) : Int)), u, g']) ⟨rfl, e', rfl⟩ ?_ ?_ ?_
        · rintro k σ H4 _ ⟨rfl, _⟩
          exact .of hpc1
        · rintro k x σ H4 hx ⟨rfl, u, rfl⟩
          obtain ⟨a0, ea, rfl⟩ := nl_mem hx
          have alt : a0 < told.length := by
            rw [tl]
            have := List.mem_of_getElem? ea
            rw [hav, List.dropLast_concat] at this
            exact hlt a0 this
          dsimp only [gName]
          refine asg_of (ev_xorN (ev_var rfl) (ev_atN a0 (ev_var rfl) (ev_var rfl) (.of hl4) rfl alt)) ⟨rfl, some (V.int (a0 : Int)), ?_⟩
          have e2 : sj.dropLast.take (k + 1) = sj.dropLast.take k ++ [a0] := by
            rw [List.take_add_one, ea]
            rfl
          rw [e2, Row.xs_append]
          simp [Row.xs]
        · rintro σ H4 ⟨rfl, u, rfl⟩
          rw [nl_length, List.take_length]
          dsimp only
          have hd4 : upd H3 pc (.lst (nl sj.dropLast)) sd = some (.dK kvs) := by rw [upd_ne sdpc]; exact hd3
          have kl : kvs.length ≤ 100000 := by
            have := seen.len
            rw [List.length_map, List.length_take] at this
            omega
          refine ⟨_, rfl, _, rfl, sd, _, rfl, DPut.k (k := Sum.inl _) hd4 (hsz kl), ?_⟩
          have e2 : ((Row.shapes r i).take (j + 1)).map (fun s => Row.xs (Row.at0 told) s.dropLast) = ((Row.shapes r i).take j).map (fun s => Row.xs (Row.at0 told) s.dropLast) ++ [Row.xs (Row.at0 told) sj.dropLast] := by
            rw [List.take_add_one, hsj, List.map_append]
            rfl
          rw [e2]
          have hsd0 : H sd = none := sm.free hsd
          refine ⟨_, some (V.ref rj), _, u, g', (sm3.new hpc).upd hsd0, ?_, ?_, ?_, upd_same, seen.put _, rfl⟩
          · rw [upd_ne lsd, upd_ne lpc]; exact hl3
          · rw [upd_ne psd, upd_ne (ne_of_none hp3 hpc)]; exact hp3
          · exact RL.set (hr3.same (same_new hpc _)) sdrs
    · rintro σ H3 ⟨kvs, c, d, e', g', sm3, hl3, hp3, hr3, hd3, seen, rfl⟩
      dsimp only
      refine seq_of (asg_of ev_c ?_)
      dsimp only
      have al : ((Row.shapes r i).take (rs.map V.ref).length).map (fun s => Row.xs (Row.at0 told) s.dropLast) = Row.reach r told i := by
        rw [List.length_map, ← hr3.length, List.take_length]
        rfl
      rw [al] at seen
      refine seq_of (least_loop (i := 8) (j := 4) rfl rfl (by decide) hd3 seen ?_)
      dsimp only
      refine ⟨_, rfl, .inl ⟨rfl, _, .of hl3⟩, _, rfl, l, _, _, rfl, rfl, hl3, by rw [nl_length, tl]; exact hsz (by omega), ?_⟩
      refine ⟨l, _, _, _, _, _, _, sm3.upd hl0, hl0, ?_, rfl⟩
      rw [upd_same]
      show _ = some (HO.lst (nl (Row.nums r i ++ [Row.mex (Row.reach r (Row.nums r i) i)])))
      rw [htold, nl_append]
      rfl
  · rintro σ H' ⟨l, a, b, c, d, e', g', sm, hl0, hl, rfl⟩
    refine ret_of (ev_var rfl) ?_
    exact q _ _ sm hl0 hl
end
noncomputable abbrev s_law_times : Stmt := top 44
noncomputable abbrev n_law_times : List Str := ["one", "two", "level", "base", "high", "cross", "low"]
noncomputable abbrev p_law_times : List Str := ["one", "two", "level"]
theorem sc_law_times : FnScope n_law_times p_law_times (defScope s_law_times) := ⟨rfl, rfl, rfl, by decide +kernel, rfl, by decide +kernel, by decide +kernel⟩
noncomputable def spLTimes (n : Nat) : Sp := fun vs H Q _ => ∃ a b d : Nat, vs = [.int (a : Int), .int (b : Int), .int ((d : Int) - 1)] ∧ a < N d ∧ b < N d ∧ d < n ∧ d ≤ 4 ∧ ∀ H', Same H H' → Q (.int ((nim d a b : Nat) : Int)) H'
section
variable {P : Program} {w : World} {K : PySem.W.Frag} {mg : Str → Option Value} {base : Heap}
structure CLt (P : Program) (w : World) (K : PySem.W.Frag) (mg : Str → Option Value) (base : Heap) (k n : Nat) : Prop where
  law_times : Callee P w K mg base "_law_times" k p_law_times (spLTimes n)
theorem ok_lawTimes {k : Nat} (D : HasDef K mg "_law_times" s_law_times) (C : CLt P w K mg base k k) : Callee P w K mg base "_law_times" (k + 1) p_law_times (spLTimes (k + 1)) := by
  refine D.ok sc_law_times (fun _ _ _ _ _ _ us hl => match us, hl with | [_, _, _], _ => rfl) (fun vs H Q E h => ?_) (fun f cdv A outer s H vs Q E hr h => ?_)
  · obtain ⟨a, b, d, rfl, _⟩ := h
    rfl
  obtain ⟨a, b, d, rfl, ha, hb, hd, hd4, q⟩ := h
  refine ⟨_, (pss_cons (ps_if (PW.pt (pw_or (pt_cmpR op_lt (pv 0) pe_int (nomark _)) (pw_or1 (pt_cmpR op_lt (pv 1) pe_int (nomark _))))) (pss_one (ps_ret (pe_op op_mul (pv 0) (pv 1)))) pss_nil)
    (pss_cons (ps_set (i := 3) sc_law_times.nd rfl (Or.inl rfl) (pe_ix ix_list (pe_lst (pa_cons pe_int (pa_cons pe_int (pa_cons pe_int (pa_cons pe_int pa_nil))))) (pv 2) (fun _ _ => rfl)))
    (pss_cons (ps_if (PW.pt (pw_and (pt_cmpR op_lt (pv 0) (pv 3) (nomark _)) (pw_and1 (pt_cmpR op_lt (pv 1) (pv 3) (nomark _))))) (pss_one (ps_ret (pe_callC C.law_times hr (by omega) rfl (pa_cons (pv 0) (pa_cons (pv 1) (pa_cons (pe_op op_sub (pv 2) pe_int) pa_nil)))))) pss_nil)
    (pss_cons (ps_set (i := 4) sc_law_times.nd rfl (Or.inl rfl) (pe_callC C.law_times hr (by omega) rfl (pa_cons (pe_op op_fdiv (pv 0) (pv 3)) (pa_cons (pe_op op_fdiv (pv 1) (pv 3)) (pa_cons (pe_op op_sub (pv 2) pe_int) pa_nil)))))
    (pss_cons (ps_set (i := 5) sc_law_times.nd rfl (Or.inl rfl) (pe_op op_xor (pe_callC C.law_times hr (by omega) rfl (pa_cons (pe_op op_fdiv (pv 0) (pv 3)) (pa_cons (pe_op op_mod (pv 1) (pv 3)) (pa_cons (pe_op op_sub (pv 2) pe_int) pa_nil)))) (pe_callC C.law_times hr (by omega) rfl (pa_cons (pe_op op_mod (pv 0) (pv 3)) (pa_cons (pe_op op_fdiv (pv 1) (pv 3)) (pa_cons (pe_op op_sub (pv 2) pe_int) pa_nil))))))
    (pss_cons (ps_set (i := 6) sc_law_times.nd rfl (Or.inl rfl) (pe_callC C.law_times hr (by omega) rfl (pa_cons (pe_op op_mod (pv 0) (pv 3)) (pa_cons (pe_op op_mod (pv 1) (pv 3)) (pa_cons (pe_op op_sub (pv 2) pe_int) pa_nil)))))
    (pss_one (ps_ret (pe_op op_add (pe_op op_mul (pe_op op_xor (pv 4) (pv 5)) (pv 3)) (pe_op op_xor (pv 6) (pe_callC C.law_times hr (by omega) rfl (pa_cons (pv 4) (pa_cons (pe_op op_fdiv (pv 3) pe_int) (pa_cons (pe_op op_sub (pv 2) pe_int) pa_nil)))))))))))))), ?_⟩
  rw [show start n_law_times [V.int a, V.int b, V.int ((d : Int) - 1)] = [some (V.int a), some (V.int b), some (V.int ((d : Int) - 1)), none, none, none, none] from rfl]
  have N16 : N d ≤ 65536 := by
    rcases (by omega : d = 0 ∨ d = 1 ∨ d = 2 ∨ d = 3 ∨ d = 4) with h | h | h | h | h <;> rw [h] <;> decide
  have cm : ∀ {x y : Int}, 0 ≤ x → x ≤ 65536 → CMul x y := fun h1 h2 => .inl ⟨by omega, by omega⟩
  refine seq_of (ifS_of (ev_or (ev_test (ev_i0 (ev_var rfl) ev_c)) (fun _ => ev_test (ev_i0 (ev_var rfl) ev_c))) (fun c => ?_) (fun c => next_of ?_))
  · have c : a < 2 ∨ b < 2 := (Bool.or_eq_true_iff.mp c).imp (fun h => by have : (a : Int) < 2 := of_decide_eq_true h; omega) (fun h => by have : (b : Int) < 2 := of_decide_eq_true h; omega)
    refine ret_of (ev_i (ev_var rfl) (ev_var rfl) (cm (by omega) (by omega))) ?_
    have e := q _ (Same.refl H)
    rw [small ha hb c] at e
    exact e
  rw [Bool.or_eq_false_iff] at c
  have a2 : ¬ (a : Int) < 2 := of_decide_eq_false c.1
  have b2 : ¬ (b : Int) < 2 := of_decide_eq_false c.2
  obtain ⟨e, rfl⟩ : ∃ e, d = e + 1 := by
    cases d with
    | zero => rw [N0] at ha; omega
    | succ e => exact ⟨e, rfl⟩
  dsimp only
  have hN : atI [V.int 2, V.int 4, V.int 16, V.int 256] (((e + 1 : Nat) : Int) - 1) = some (V.int (N e : Int)) := by
    rcases (by omega : e = 0 ∨ e = 1 ∨ e = 2 ∨ e = 3) with rfl | rfl | rfl | rfl <;> decide
  have Ne : 2 ≤ N e := two_le_N e
  have Nl : N e ≤ 256 := by
    rcases (by omega : e = 0 ∨ e = 1 ∨ e = 2 ∨ e = 3) with rfl | rfl | rfl | rfl <;> decide
  refine seq_of (asgO_of (opO_of (lst_of (ev_cons ev_c (ev_cons ev_c (ev_cons ev_c (ev_cons ev_c ev_nil)))) (by show 4 ≤ sizeLine; decide) fun pb hpb => ⟨_, rfl, pb, _, _, _, rfl, rfl, .of upd_same, hN, ?_⟩)))
  have s1 := same_new hpb (.lst [V.int 2, V.int 4, V.int 16, V.int 256])
  generalize upd H pb (.lst [V.int 2, V.int 4, V.int 16, V.int 256]) = H1 at s1
  dsimp only
  have lv : (((e + 1 : Nat) : Int) - 1) - 1 = (e : Int) - 1 := by omega
  refine seq_of (ifS_of (ev_and (ev_test (ev_i0 (ev_var rfl) (ev_var rfl))) (fun _ => ev_test (ev_i0 (ev_var rfl) (ev_var rfl)))) (fun c => ?_) (fun c => next_of ?_))
  · obtain ⟨c1, c2⟩ := Bool.and_eq_true_iff.mp c
    have c1 : (a : Int) < (N e : Int) := of_decide_eq_true c1
    have c2 : (b : Int) < (N e : Int) := of_decide_eq_true c2
    refine retO_of (call_of (ev_cons (ev_var rfl) (ev_cons (ev_var rfl) (ev_cons (ev_i0 (ev_var rfl) ev_c) ev_nil))) ⟨a, b, e, by rw [lv]; rfl, by omega, by omega, by omega, by omega, fun H2 s2 => ?_⟩)
    have := q _ (s1.trans s2)
    rw [nim_up (by omega) (by omega)] at this
    exact this
  dsimp only
  have dv : ∀ x : Nat, (x : Int) / (N e : Int) = ((x / N e : Nat) : Int) := fun x => by simp
  have md : ∀ x : Nat, (x : Int) % (N e : Int) = ((x % N e : Nat) : Int) := fun x => by simp
  have cd : CDiv (a : Int) (N e : Int) := by unfold CDiv; omega
  have cd' : CDiv (b : Int) (N e : Int) := by unfold CDiv; omega
  have a1 := div_lt ha
  have b1 := div_lt hb
  have a0 : a % N e < N e := mod_lt
  have b0 : b % N e < N e := mod_lt
  have np : (0 : Int) < (N e : Int) := by omega
  have FF' := fld e
  refine seq_of (asgO_of (call_of (ev_cons (ev_i (ev_var rfl) (ev_var rfl) cd) (ev_cons (ev_i (ev_var rfl) (ev_var rfl) cd') (ev_cons (ev_i0 (ev_var rfl) ev_c) ev_nil))) ⟨a / N e, b / N e, e, by rw [lv, dv, dv]; rfl, a1, b1, by omega, by omega, fun H2 s2 => ?_⟩))
  dsimp only
  refine seq_of (asgO_of (opO_of (call_of (ev_cons (ev_i (ev_var rfl) (ev_var rfl) cd) (ev_cons (ev_i (ev_var rfl) (ev_var rfl) np) (ev_cons (ev_i0 (ev_var rfl) ev_c) ev_nil))) ⟨a / N e, b % N e, e, by rw [lv, dv, md]; rfl, a1, b0, by omega, by omega, fun H3 s3 =>
    call_of (ev_cons (ev_i (ev_var rfl) (ev_var rfl) np) (ev_cons (ev_i (ev_var rfl) (ev_var rfl) cd') (ev_cons (ev_i0 (ev_var rfl) ev_c) ev_nil))) ⟨a % N e, b / N e, e, by rw [lv, dv, md]; rfl, a0, b1, by omega, by omega, fun H4 s4 => ⟨_, _, rfl, rfl, ?_⟩⟩⟩)))
  dsimp only
  rw [bitXor_nat]
  refine seq_of (asgO_of (call_of (ev_cons (ev_i (ev_var rfl) (ev_var rfl) np) (ev_cons (ev_i (ev_var rfl) (ev_var rfl) np) (ev_cons (ev_i0 (ev_var rfl) ev_c) ev_nil))) ⟨a % N e, b % N e, e, by rw [lv, md, md]; rfl, a0, b0, by omega, by omega, fun H5 s5 => ?_⟩))
  dsimp only
  have hh := FF'.lt a1 b1
  have hc := xor_lt (FF'.lt a1 b0) (FF'.lt a0 b1)
  have hx := xor_lt hh hc
  refine retO_of (op_of (ev_i (ev_xorN (ev_var rfl) (ev_var rfl)) (ev_var rfl) (cm (by omega) (by omega))) (op_of (ev_var rfl) (call_of (ev_cons (ev_var rfl) (ev_cons (ev_i (ev_var rfl) ev_c (by unfold CDiv; omega)) (ev_cons (ev_i0 (ev_var rfl) ev_c) ev_nil))) ⟨nim e (a / N e) (b / N e), N e / 2, e, by rw [lv]; simp, hh, half_lt e, by omega, by omega, fun H6 s6 => ⟨_, _, rfl, rfl, _, _, rfl, rfl, ?_⟩⟩)))
  have fin := q _ ((((s1.trans s2).trans s3).trans s4).trans (s5.trans s6))
  rw [nim_succ FF' ha hb, pack_eq (xor_lt (FF'.lt hh (half_lt e)) (FF'.lt a0 b0))] at fin
  rw [bitXor_nat]
  have ee : ((((nim e (a / N e) (b / N e) ^^^ (nim e (a / N e) (b % N e) ^^^ nim e (a % N e) (b / N e)) : Nat) : Int) * (N e : Int) + ((nim e (a % N e) (b % N e) ^^^ nim e (nim e (a / N e) (b / N e)) (N e / 2) : Nat) : Int))) = (((nim e (a / N e) (b / N e) ^^^ nim e (a / N e) (b % N e) ^^^ nim e (a % N e) (b / N e)) * N e + (nim e (nim e (a / N e) (b / N e)) (N e / 2) ^^^ nim e (a % N e) (b % N e)) : Nat) : Int) := by
    rw [← Nat.xor_assoc, Nat.xor_comm (nim e (a % N e) (b % N e))]
    simp
  dsimp only
  rw [ee]
  exact fin
theorem lt0 (D : HasDef K mg "_law_times" s_law_times) : Callee P w K mg base "_law_times" 0 p_law_times (spLTimes 0) := by
  obtain ⟨f, fd, F, hm⟩ := D.ex
  have no : ∀ vs H Q E, ¬ spLTimes 0 vs H Q E := fun vs H Q E h => by
    obtain ⟨a, b, d, _, _, _, h2, _⟩ := h
    omega
  exact ⟨f, fd, hm, F.kp, F.binds fun _ _ _ _ _ _ us hl => match us, hl with | [_, _, _], _ => rfl, ⟨fun vs H Q E h => absurd h (no vs H Q E), fun A outer s H args us vs Q E _ _ _ _ h => absurd h (no vs H Q E)⟩⟩
theorem ltN (D : HasDef K mg "_law_times" s_law_times) : ∀ k, Callee P w K mg base "_law_times" k p_law_times (spLTimes k)
  | 0 => lt0 D
  | k + 1 => ok_lawTimes D ⟨ltN D k⟩
end
noncomputable abbrev s_law_over : Stmt := top 45
noncomputable abbrev n_law_over : List Str := ["table", "places", "total", "place"]
noncomputable abbrev p_law_over : List Str := ["table", "places"]
theorem sc_law_over : FnScope n_law_over p_law_over (defScope s_law_over) := ⟨rfl, rfl, rfl, by decide +kernel, rfl, by decide +kernel, by decide +kernel⟩
noncomputable def spOver2 (K : PySem.W.Frag) : Sp := fun vs H Q _ => ∃ (pt pp : Addr) (tt : List (List Nat)) (ts : List Addr) (ps : List (Nat × Nat)) (rs : List Addr), vs = [.ref pt, .ref pp] ∧ SqL K H pt (ts.map V.ref) ∧ RL (fun _ => none) H tt ts ∧ SqL K H pp (rs.map V.ref) ∧ BL K H ps rs ∧ (∀ p ∈ ps, p.1 < tt.length ∧ p.2 < (tt.getD p.1 []).length) ∧ Q (.int ((Row.xs (tv tt) ps : Nat) : Int)) H
section
variable {P : Program} {w : World} {K : PySem.W.Frag} {mg : Str → Option Value} {base : Heap}
set_option pp.deepTerms true in
theorem ok_over (D : HasDef K mg "_law_over" s_law_over) : Callee P w K mg base "_law_over" 1 p_law_over (spOver2 K) := by
  refine D.ok sc_law_over (fun _ _ _ _ _ _ us hl => match us, hl with | [_, _], _ => rfl) (fun vs H Q E h => ?_) (fun f cdv A outer s H vs Q E hr h => ?_)
  · obtain ⟨pt, pp, tt, ts, ps, rs, rfl, _⟩ := h
    rfl
  obtain ⟨pt, pp, tt, ts, ps, rs, rfl, hT, hR, hP, hB, hlt, q⟩ := h
  refine ⟨_, (pss_cons (ps_set (i := 2) sc_law_over.nd rfl (Or.inl rfl) pe_int)
    (pss_cons (ps_for PassesOwn.never rfl (pi_list (pv 1)) (pg_name (i := 3) sc_law_over.nd rfl (Or.inl rfl)) (pss_one (ps_set (i := 2) sc_law_over.nd rfl (Or.inl rfl) (pe_op op_xor (pv 2) (pe_ix ix_list (pe_ix ix_list (pv 0) (pe_ix ix_tup (pv 3) pe_int (fun _ _ => rfl)) (fun _ _ => rfl)) (pe_ix ix_tup (pv 3) pe_int (fun _ _ => rfl)) (fun _ _ => rfl))))))
    (pss_one (ps_ret (pv 2))))), ?_⟩
  rw [show start n_law_over [V.ref pt, V.ref pp] = [some (V.ref pt), some (V.ref pp), none, none] from rfl]
  refine seq_of (asg_of ev_c ?_)
  dsimp only
  refine seq_of ⟨_, rfl, pp, rfl, ⟨_, hP⟩, ?_⟩
  refine for_list (xs := rs.map V.ref) (fun i σ H' => H' = H ∧ ∃ u, σ = [some (V.ref pt), some (V.ref pp), some (V.int ((Row.xs (tv tt) (ps.take i) : Nat) : Int)), u]) ⟨rfl, none, rfl⟩ ?_ ?_ ?_
  · rintro i σ H' _ ⟨rfl, _⟩
    exact hP
  · rintro i x σ H' hx ⟨rfl, u, rfl⟩
    obtain ⟨p, r, hp, hr', rfl, hF⟩ := at_refs2 hB hx
    have l := hlt p (List.mem_of_getElem? hp)
    dsimp only [gName]
    have lts : p.1 < ts.length := by rw [← hR.length]; exact l.1
    have e1 := List.getElem?_eq_getElem lts
    obtain ⟨row, hrow, hrr, _⟩ := paired_get hR e1
    have er : tt.getD p.1 [] = row := by rw [List.getD_eq_getElem?_getD, hrow]; rfl
    have l2 := l.2
    rw [er] at l2
    refine asg_of (ev_xorN (ev_var rfl) (ev_atN p.2 (ev_ixL (ev_var rfl) (ev_ixT (ev_var rfl) ev_c hF rfl) hT (at_ref p.1 e1 rfl)) (ev_ixT (ev_var rfl) ev_c hF rfl) (.of hrr) rfl l2)) ⟨rfl, some (V.ref r), ?_⟩
    have e2 : ps.take (i + 1) = ps.take i ++ [p] := by
      rw [List.take_add_one, hp]
      rfl
    rw [e2, Row.xs_append]
    simp [Row.xs, tv, hrow]
  · rintro σ H' ⟨rfl, u, rfl⟩
    dsimp only
    refine ret_of (ev_var rfl) ?_
    rw [List.length_map, ← hB.length, List.take_length]
    exact q
end
noncomputable abbrev s_law_crossed : Stmt := top 46
noncomputable abbrev n_law_crossed : List Str := ["xs", "ys", "places", "x"]
noncomputable abbrev p_law_crossed : List Str := ["xs", "ys"]
theorem sc_law_crossed : FnScope n_law_crossed p_law_crossed (defScope s_law_crossed) := ⟨rfl, rfl, rfl, by decide +kernel, rfl, by decide +kernel, by decide +kernel⟩
noncomputable def spCrossed (K : PySem.W.Frag) : Sp := fun vs H Q _ => ∃ (px py : Addr) (as bs : List Nat), vs = [.ref px, .ref py] ∧ H px = some (.lst (nl as)) ∧ H py = some (.lst (nl bs)) ∧ as.length ≤ 40 ∧ bs.length ≤ 40 ∧ ∀ H' p rs, Same H H' → H p = none → H' p = some (.lst (rs.map V.ref)) → PL H' (Row.cross as bs) rs → Q (.ref p) H'
section
variable {P : Program} {w : World} {K : PySem.W.Frag} {mg : Str → Option Value} {base : Heap}
set_option pp.deepTerms true in
theorem ok_crossed (D : HasDef K mg "_law_crossed" s_law_crossed) : Callee P w K mg base "_law_crossed" 1 p_law_crossed (spCrossed K) := by
  refine D.ok sc_law_crossed (fun _ _ _ _ _ _ us hl => match us, hl with | [_, _], _ => rfl) (fun vs H Q E h => ?_) (fun f cdv A outer s H vs Q E hr h => ?_)
  · obtain ⟨px, py, as, bs, rfl, _⟩ := h
    rfl
  obtain ⟨px, py, as, bs, rfl, hX, hY, lx, ly, q⟩ := h
  refine ⟨_, (pss_cons (ps_set (i := 2) sc_law_crossed.nd rfl (Or.inl rfl) (pe_lst pa_nil))
    (pss_cons (ps_for PassesOwn.never rfl (pi_list (pv 0)) (pg_name (i := 3) sc_law_crossed.nd rfl (Or.inr rfl)) (pss_one (ps_set (i := 2) sc_law_crossed.nd rfl (Or.inl rfl) (pe_op op_cat (pv 2) (pe_comp (Block.of (out := defScope s_law_crossed) (N := n_law_crossed) (x := "y") (frees := ["x"]) (ix := [3]) (by decide +kernel)) rfl (pi_list (pv 1)) (fun _ _ _ _ => pts_nil) (fun _ _ _ _ => (pe_tup (pa_cons (pv 1) (pa_cons (pv 0) pa_nil)))))))))
    (pss_one (ps_ret (pv 2))))), ?_⟩
  rw [show start n_law_crossed [V.ref px, V.ref py] = [some (V.ref px), some (V.ref py), none, none] from rfl]
  have two : ∀ a b : V, ([a, b] : List V).length ≤ sizeLine := fun a b => by show 2 ≤ sizeLine; decide
  refine seq_of ⟨by decide, fun p hp => ?_⟩
  dsimp only [gName]
  refine seq_of ⟨_, rfl, px, rfl, ⟨_, .of ((same_new hp _) _ _ hX)⟩, ?_⟩
  refine for_list (xs := nl as) (fun i σ H' => ∃ pb cs u, Same H H' ∧ H pb = none ∧ H' pb = some (.lst (cs.map V.ref)) ∧ PL H' (Row.cross (as.take i) bs) cs ∧ cs.length ≤ 40 * i ∧ σ = [some (V.ref px), some (V.ref py), some (V.ref pb), u])
    ⟨p, [], none, same_new hp _, hp, upd_same, .nil, by simp, rfl⟩ ?_ ?_ ?_
  · rintro i σ H' _ ⟨_, _, _, sm, _⟩
    exact .of (sm _ _ hX)
  · rintro i x σ H' hx ⟨pb, cs, u, sm, npb, hpb, hcs, lcs, rfl⟩
    obtain ⟨a, e, rfl⟩ := nl_mem hx
    have hi : i < as.length := (List.getElem?_eq_some_iff.mp e).1
    dsimp only [gName]
    refine asgO_of (op_of (ev_var rfl) (comp_list_tups (K := K) (xs := bs) (fun y => [.int (a : Int), .int (y : Int)]) (fun R rr => ⟨_, rfl, py, rfl, ⟨_, .of (sm _ _ hY)⟩, rr⟩) (sm _ _ hY) (small1000 (by omega)) (fun y H2 R s2 rr => ?_) (fun acc ds H2 hacc s2 hacc2 hds => ?_)))
    · exact tup_of (ev_cons (ev_var rfl) (ev_cons (ev_var rfl) ev_nil)) (two _ _) fun z hz => rr z hz
    · have ld := Paired.length hds
      refine ⟨pb, acc, _, _, rfl, rfl, s2 _ _ hpb, hacc2, by rw [List.length_map, List.length_map]; exact Nat.le_of_lt (Nat.lt_of_le_of_lt (show cs.length + ds.length ≤ 4000 by omega) (by decide)), fun p7 hp7 => ?_⟩
      have s7 := same_new hp7 (.lst (cs.map V.ref ++ ds.map V.ref))
      refine ⟨p7, cs ++ ds, _, (sm.trans s2).trans s7, (sm.trans s2).free hp7, by rw [upd_same, List.map_append], ?_, by rw [List.length_append]; omega, rfl⟩
      unfold Row.cross
      rw [List.take_add_one, e, List.flatMap_append]
      refine paired_app ((hcs.same s2).same s7) ?_
      simp only [Option.toList_some, List.flatMap_singleton]
      refine paired_of (by rw [List.length_map]; exact ld) fun k x y hx hy => ?_
      obtain ⟨yy, h1, h2⟩ := paired_get hds hy
      rw [List.getElem?_map, h1] at hx
      cases hx
      exact s7 _ _ h2
  · rintro σ H' ⟨pb, cs, u, sm, npb, hpb, hcs, lcs, rfl⟩
    rw [nl_length, List.take_length] at hcs
    dsimp only
    exact ret_of (ev_var rfl) (q _ pb cs sm npb hpb hcs)
end
noncomputable abbrev s_law_first : Stmt := top 47
noncomputable abbrev n_law_first : List Str := ["rules", "table", "heads", "total", "place", "xs", "ys"]
noncomputable abbrev p_law_first : List Str := ["rules", "table", "heads"]
theorem sc_law_first : FnScope n_law_first p_law_first (defScope s_law_first) := ⟨rfl, rfl, rfl, by decide +kernel, rfl, by decide +kernel, by decide +kernel⟩
noncomputable def first2 (tt : List (List Nat)) (rx ry : Row.Rule) (ps : List (Nat × Nat)) : Option (List Nat × List Nat) := (Row.turns2 rx ry ps).find? fun t => Row.xs (tv tt) (Row.cross t.1 t.2) == Row.xs (tv tt) ps
noncomputable def spFirst2 (K : PySem.W.Frag) : Sp := fun vs H Q _ => ∃ (pl px py pt ph : Addr) (rx ry : Row.Rule) (tt : List (List Nat)) (ts : List Addr) (ps : List (Nat × Nat)) (rs : List Addr) (m : Nat), vs = [.ref pl, .ref pt, .ref ph] ∧ SqL K H pl [.ref px, .ref py] ∧ SqT K H px (ruleV rx) ∧ SqT K H py (ruleV ry) ∧ Row.Good rx ∧ Row.Good ry ∧
  SqL K H pt (ts.map V.ref) ∧ RL (fun _ => none) H tt ts ∧ SqL K H ph (rs.map V.ref) ∧ BL K H ps rs ∧ (∀ p ∈ ps, p.1 < m ∧ p.2 < m) ∧ m ≤ 16 ∧ tt.length = m ∧ (∀ i, i < m → (tt.getD i []).length = m) ∧
  (first2 tt rx ry ps = none → ∀ H', Same H H' → Q .non H') ∧
  (∀ t, first2 tt rx ry ps = some t → ∀ H' p a b, Same H H' → H p = none → H' p = some (.tup [.ref a, .ref b]) → H a = none → H b = none → H' a = some (.lst (nl t.1)) → H' b = some (.lst (nl t.2)) → Q (.ref p) H')
section
variable {P : Program} {w : World} {K : PySem.W.Frag} {mg : Str → Option Value} {base : Heap}
structure CnF2 (P : Program) (w : World) (K : PySem.W.Frag) (mg : Str → Option Value) (base : Heap) : Prop where
  law_shapes : Callee P w K mg base "_law_shapes" 1 p_law_shapes (spShapes K)
  law_over : Callee P w K mg base "_law_over" 1 p_law_over (spOver2 K)
  law_crossed : Callee P w K mg base "_law_crossed" 1 p_law_crossed (spCrossed K)
set_option pp.deepTerms true in
theorem ok_first (D : HasDef K mg "_law_first" s_law_first) (C : CnF2 P w K mg base) : Callee P w K mg base "_law_first" 2 p_law_first (spFirst2 K) := by
  refine D.ok sc_law_first (fun _ _ _ _ _ _ us hl => match us, hl with | [_, _, _], _ => rfl) (fun vs H Q E h => ?_) (fun f cdv A outer s H vs Q E hr h => ?_)
  · obtain ⟨pl, px, py, pt, ph, rx, ry, tt, ts, ps, rs, m, rfl, _⟩ := h
    rfl
  obtain ⟨pl, px, py, pt, ph, rx, ry, tt, ts, ps, rs, m, rfl, hL, hRx, hRy, hgx, hgy, hT, hR, hH, hB, hlt, hm, htl, htr, q0, q1⟩ := h
  refine ⟨_, (pss_cons (ps_set (i := 3) sc_law_first.nd rfl (Or.inl rfl) (pe_callC C.law_over hr (by omega) rfl (pa_cons (pv 1) (pa_cons (pv 2) pa_nil))))
    (pss_cons (ps_for PassesOwn.never rfl (pi_list (pv 2)) (pg_name (i := 4) sc_law_first.nd rfl (Or.inl rfl)) (pss_one (ps_for PassesOwn.never rfl (pi_list (pe_callC C.law_shapes hr (by omega) rfl (pa_cons (pe_ix ix_list (pv 0) pe_int (fun _ _ => rfl)) (pa_cons (pe_ix ix_tup (pv 4) pe_int (fun _ _ => rfl)) pa_nil)))) (pg_name (i := 5) sc_law_first.nd rfl (Or.inl rfl)) (pss_one (ps_for PassesOwn.never rfl (pi_list (pe_callC C.law_shapes hr (by omega) rfl (pa_cons (pe_ix ix_list (pv 0) pe_int (fun _ _ => rfl)) (pa_cons (pe_ix ix_tup (pv 4) pe_int (fun _ _ => rfl)) pa_nil)))) (pg_name (i := 6) sc_law_first.nd rfl (Or.inl rfl)) (pss_one (ps_if (pt_cmpR op_eq (pe_callC C.law_over hr (by omega) rfl (pa_cons (pv 1) (pa_cons (pe_callC C.law_crossed hr (by omega) rfl (pa_cons (pv 5) (pa_cons (pv 6) pa_nil))) pa_nil))) (pv 3) (nomark _)) (pss_one (ps_ret (pe_tup (pa_cons (pv 5) (pa_cons (pv 6) pa_nil))))) pss_nil)))))))
    (pss_one (ps_ret pe_non)))), ?_⟩
  rw [show start n_law_first [V.ref pl, V.ref pt, V.ref ph] = [some (V.ref pl), some (V.ref pt), some (V.ref ph), none, none, none, none] from rfl]
  have two : ∀ a b : V, ([a, b] : List V).length ≤ sizeLine := fun a b => by show 2 ≤ sizeLine; decide
  have bd : ∀ {l : List (Nat × Nat)}, (∀ p ∈ l, p.1 < m ∧ p.2 < m) → ∀ p ∈ l, p.1 < tt.length ∧ p.2 < (tt.getD p.1 []).length := fun hl p hp => by
    have := hl p hp
    rw [htl, htr p.1 this.1]
    exact this
  refine seq_of (asg_of (v := .int ((Row.xs (tv tt) ps : Nat) : Int)) (ev_call (ev_cons (ev_var rfl) (ev_cons (ev_var rfl) ev_nil)) (fun Q q => ⟨pt, ph, tt, ts, ps, rs, rfl, hT, hR, hH, hB, bd hlt, q⟩)) ?_)
  dsimp only
  refine seq_of ⟨_, rfl, ph, rfl, ⟨_, hH⟩, ?_⟩
  refine for_list (xs := rs.map V.ref) (fun i σ H' => Same H H' ∧ (∀ t ∈ Row.turns2 rx ry (ps.take i), Row.xs (tv tt) (Row.cross t.1 t.2) ≠ Row.xs (tv tt) ps) ∧ ∃ u v w, σ = [some (V.ref pl), some (V.ref pt), some (V.ref ph), some (V.int ((Row.xs (tv tt) ps : Nat) : Int)), u, v, w])
    ⟨Same.refl H, by simp [Row.turns2], none, none, none, rfl⟩ ?_ ?_ ?_
  · rintro i σ H' _ ⟨sm, _⟩
    exact sm.seq hH
  · rintro i x σ H' hx ⟨sm, hno, u, v, w, rfl⟩
    obtain ⟨p, r, hp, hr', rfl, hF⟩ := at_refs2 (hB.same sm) hx
    have lp := hlt p (List.mem_of_getElem? hp)
    dsimp only [gName]
    refine forO_of (iList_of (call_of (ev_cons (ev_ixL (ev_var rfl) ev_c (sm.seq hL) rfl) (ev_cons (ev_ixT (ev_var rfl) ev_c hF rfl) ev_nil)) ⟨px, rx, p.1, rfl, sm.tup hRx, hgx, by omega, fun H1 p1 rs1 s1 n1 hp1 hr1 => ⟨p1, rfl, ⟨_, .of hp1⟩, ?_⟩⟩))
    have tk : Row.turns2 rx ry (ps.take (i + 1)) = Row.turns2 rx ry (ps.take i) ++ pairsOf (Row.shapes rx p.1) (Row.shapes ry p.2) := by
      unfold Row.turns2 pairsOf
      rw [List.take_add_one, hp, List.flatMap_append]
      simp
    refine for_list (xs := rs1.map V.ref) (fun j σ H2 => Same H1 H2 ∧ (∀ t ∈ pairsOf ((Row.shapes rx p.1).take j) (Row.shapes ry p.2), Row.xs (tv tt) (Row.cross t.1 t.2) ≠ Row.xs (tv tt) ps) ∧ ∃ v w, σ = [some (V.ref pl), some (V.ref pt), some (V.ref ph), some (V.int ((Row.xs (tv tt) ps : Nat) : Int)), some (V.ref r), v, w])
      ⟨Same.refl H1, by simp [pairsOf], v, w, rfl⟩ ?_ ?_ ?_
    · rintro j σ H2 _ ⟨s2, _⟩
      exact .of (s2 _ _ hp1)
    · rintro j x σ H2 hx ⟨s2, hno2, v, w, rfl⟩
      obtain ⟨sx, a, hsx, ha, rfl, hA, hA0⟩ := at_refs2 hr1 hx
      have mx := List.mem_of_getElem? hsx
      have sm2 := (sm.trans s1).trans s2
      dsimp only [gName]
      refine forO_of (iList_of (call_of (ev_cons (ev_ixL (ev_var rfl) ev_c (sm2.seq hL) rfl) (ev_cons (ev_ixT (ev_var rfl) ev_c ((s1.trans s2).tup hF) rfl) ev_nil)) ⟨py, ry, p.2, rfl, sm2.tup hRy, hgy, by omega, fun H3 p3 rs3 s3 n3 hp3 hr3 => ⟨p3, rfl, ⟨_, .of hp3⟩, ?_⟩⟩))
      refine for_list (xs := rs3.map V.ref) (fun k σ H4 => Same H3 H4 ∧ (∀ u ∈ (Row.shapes ry p.2).take k, Row.xs (tv tt) (Row.cross sx u) ≠ Row.xs (tv tt) ps) ∧ ∃ w, σ = [some (V.ref pl), some (V.ref pt), some (V.ref ph), some (V.int ((Row.xs (tv tt) ps : Nat) : Int)), some (V.ref r), some (V.ref a), w])
        ⟨Same.refl H3, by simp, w, rfl⟩ ?_ ?_ ?_
      · rintro k σ H4 _ ⟨s4, _⟩
        exact .of (s4 _ _ hp3)
      · rintro k x σ H4 hx ⟨s4, hno3, w, rfl⟩
        obtain ⟨sy, b, hsy, hb, rfl, hBb, hB0⟩ := at_refs2 hr3 hx
        have my := List.mem_of_getElem? hsy
        have sm4 := (sm2.trans s3).trans s4
        dsimp only [gName]
        have hA4 : H4 a = some (.lst (nl sx)) := s4 _ _ (s3 _ _ (s2 _ _ hA))
        have hB4 : H4 b = some (.lst (nl sy)) := s4 _ _ hBb
        have lsx : sx.length ≤ 40 := Row.sorted_len (Row.shape_sorted mx) fun z hz => by have := Row.shape_le mx z hz; omega
        have lsy : sy.length ≤ 40 := Row.sorted_len (Row.shape_sorted my) fun z hz => by have := Row.shape_le my z hz; omega
        have cl : ∀ z ∈ Row.cross sx sy, z.1 < m ∧ z.2 < m := fun z hz => by
          have := Row.mem_cross.mp hz
          have h1 := Row.shape_le mx _ this.1
          have h2 := Row.shape_le my _ this.2
          omega
        refine ifO_of (opO_of (callO_of (argE_of (ev_var rfl) (arg1_of (call_of (ev_cons (ev_var rfl) (ev_cons (ev_var rfl) ev_nil)) ⟨a, b, sx, sy, rfl, hA4, hB4, lsx, lsy, fun H5 pc cs s5 n5 hpc hcs => ⟨pt, pc, tt, ts, Row.cross sx sy, cs, rfl, s5.seq (sm4.seq hT), (hR.same sm4).same s5, .of hpc, hcs.bl, bd cl, _, rfl, rfl, _, rfl, ?_⟩⟩)))))
        by_cases c : Row.xs (tv tt) (Row.cross sx sy) = Row.xs (tv tt) ps
        · rw [decide_eq_true (by rw [c]), if_pos rfl]
          refine retO_of (tup_of (ev_cons (ev_var rfl) (ev_cons (ev_var rfl) ev_nil)) (two _ _) fun z hz => ?_)
          have s5z := s5.trans (same_new hz (.tup [V.ref a, V.ref b]))
          refine q1 (sx, sy) ?_ _ z a b (sm4.trans s5z) (sm4.free (s5.free hz)) upd_same (sm.free hA0) (sm2.free hB0) (s5z _ _ hA4) (s5z _ _ hB4)
          obtain ⟨post, e⟩ := Row.turns2_split hp hsx hsy
          refine Row.find_split e (fun t ht => ?_) (by rw [beq_iff_eq]; exact c)
          rw [beq_eq_false_iff_ne]
          rcases List.mem_append.mp ht with ht | ht
          · exact hno t ht
          · rcases List.mem_append.mp ht with ht | ht
            · exact hno2 t ht
            · obtain ⟨u', hu', rfl⟩ := List.mem_map.mp ht
              exact hno3 u' hu'
        · rw [decide_eq_false (fun z => c (by have := V.int.inj z; omega)), if_neg (by decide)]
          refine next_of ⟨s4.trans s5, fun u' hu' => ?_, _, rfl⟩
          rw [List.take_add_one, hsy] at hu'
          rcases List.mem_append.mp hu' with z | z
          · exact hno3 u' z
          · have : u' = sy := by simpa using z
            rw [this]
            exact c
      · rintro σ H4 ⟨s4, hno3, w, rfl⟩
        refine ⟨(s2.trans s3).trans s4, fun t ht => ?_, _, _, rfl⟩
        rw [List.length_map, ← hr3.length, List.take_length] at hno3
        unfold pairsOf at ht hno2
        rw [List.take_add_one, hsx, List.flatMap_append] at ht
        rcases List.mem_append.mp ht with z | z
        · exact hno2 t z
        · simp at z
          obtain ⟨u', hu', rfl⟩ := z
          exact hno3 u' hu'
    · rintro σ H2 ⟨s2, hno2, v, w, rfl⟩
      refine ⟨(sm.trans s1).trans s2, fun t ht => ?_, _, _, _, rfl⟩
      rw [List.length_map, ← hr1.length, List.take_length] at hno2
      rw [tk] at ht
      rcases List.mem_append.mp ht with z | z
      · exact hno t z
      · exact hno2 t z
  · rintro σ H' ⟨sm, hno, u, v, w, rfl⟩
    dsimp only
    refine ret_of ev_c (q0 ?_ _ sm)
    rw [List.length_map, ← hB.length, List.take_length] at hno
    unfold first2
    rw [List.find?_eq_none]
    intro t ht
    rw [beq_iff_eq]
    exact hno t ht
end
noncomputable abbrev s_law_is_turn : Stmt := top 48
noncomputable abbrev n_law_is_turn : List Str := ["found", "due", "k", "n"]
noncomputable abbrev p_law_is_turn : List Str := ["found", "due"]
theorem sc_law_is_turn : FnScope n_law_is_turn p_law_is_turn (defScope s_law_is_turn) := ⟨rfl, rfl, rfl, by decide +kernel, rfl, by decide +kernel, by decide +kernel⟩
noncomputable def spIsTurn14 : Sp := fun vs H Q _ => ∃ (pt pd a b c d : Addr) (t : List Nat × List Nat), vs = [.ref pt, .ref pd] ∧ H pt = some (.tup [.ref a, .ref b]) ∧ H a = some (.lst (nl t.1)) ∧ H b = some (.lst (nl t.2)) ∧ H pd = some (.tup [.ref c, .ref d]) ∧ H c = some (.lst (nl t.1)) ∧ H d = some (.lst (nl t.2)) ∧ t.1.length ≤ 1000 ∧ t.2.length ≤ 1000 ∧ Q (.bl true) H
section
variable {P : Program} {w : World} {K : PySem.W.Frag} {mg : Str → Option Value} {base : Heap}
structure TxIt (mg : Str → Option Value) : Prop where
  n_isinstance : mg "isinstance" = none
  n_list : mg "list" = none
  n_int : mg "int" = none
  n_bool : mg "bool" = none
  n_tuple : mg "tuple" = none
  n_len : mg "len" = none
  n_range : mg "range" = none
set_option pp.deepTerms true in
theorem ok_is_turn (D : HasDef K mg "_law_is_turn" s_law_is_turn) (T : TxIt mg) : Callee P w K mg base "_law_is_turn" 1 p_law_is_turn spIsTurn14 := by
  refine D.ok sc_law_is_turn (fun _ _ _ _ _ _ us hl => match us, hl with | [_, _], _ => rfl) (fun vs H Q E h => ?_) (fun f cdv A outer s H vs Q E hr h => ?_)
  · obtain ⟨pt, pd, a, b, c, d, t, rfl, _⟩ := h
    rfl
  obtain ⟨pt, pd, a, b, c, d, t, rfl, ht, ha, hb, hd, hc, hd', l1, l2, q⟩ := h
  refine ⟨_, (pss_cons (ps_if (PW.pt (pw_or (pt_not (pt_val (pe_callB call_isi rfl T.n_isinstance bt_isinstance (pa_cons (pv 0) (pa_cons (pe_ty T.n_tuple bt_tuple) pa_nil))))) (pw_or1 (pt_cmpR op_ne (pe_callB call_len_seq rfl T.n_len bt_len (pa_cons (pv 0) pa_nil)) pe_int (nomark _))))) (pss_one (ps_ret pe_bl)) pss_nil)
    (pss_cons (ps_for PassesOwn.never rfl (pi_range1 rfl T.n_range (pa_cons pe_int pa_nil)) (pg_name (i := 2) sc_law_is_turn.nd rfl (Or.inl rfl)) (pss_cons (ps_if (PW.pt (pw_or (pt_not (pt_val (pe_callB call_isi rfl T.n_isinstance bt_isinstance (pa_cons (pe_ix ix_tup (pv 0) (pv 2) (fun _ _ => rfl)) (pa_cons (pe_ty T.n_list bt_list) pa_nil))))) (pw_or1 (pt_cmpR op_ne (pe_callB call_len_seq rfl T.n_len bt_len (pa_cons (pe_ix ix_tup (pv 0) (pv 2) (fun _ _ => rfl)) pa_nil)) (pe_callB call_len_seq rfl T.n_len bt_len (pa_cons (pe_ix ix_tup (pv 1) (pv 2) (fun _ _ => rfl)) pa_nil)) (nomark _))))) (pss_one (ps_ret pe_bl)) pss_nil)
    (pss_one (ps_for PassesOwn.never rfl (pi_range1 rfl T.n_range (pa_cons (pe_callB call_len_seq rfl T.n_len bt_len (pa_cons (pe_ix ix_tup (pv 1) (pv 2) (fun _ _ => rfl)) pa_nil)) pa_nil)) (pg_name (i := 3) sc_law_is_turn.nd rfl (Or.inl rfl)) (pss_one (ps_if (PW.pt (pw_or (pt_not (pt_val (pe_callB call_isi rfl T.n_isinstance bt_isinstance (pa_cons (pe_ix ix_list (pe_ix ix_tup (pv 0) (pv 2) (fun _ _ => rfl)) (pv 3) (fun _ _ => rfl)) (pa_cons (pe_ty T.n_int bt_int) pa_nil))))) (pw_or (pt_val (pe_callB call_isi rfl T.n_isinstance bt_isinstance (pa_cons (pe_ix ix_list (pe_ix ix_tup (pv 0) (pv 2) (fun _ _ => rfl)) (pv 3) (fun _ _ => rfl)) (pa_cons (pe_ty T.n_bool bt_bool) pa_nil)))) (pw_or1 (pt_cmpR op_ne (pe_ix ix_list (pe_ix ix_tup (pv 0) (pv 2) (fun _ _ => rfl)) (pv 3) (fun _ _ => rfl)) (pe_ix ix_list (pe_ix ix_tup (pv 1) (pv 2) (fun _ _ => rfl)) (pv 3) (fun _ _ => rfl)) (nomark _)))))) (pss_one (ps_ret pe_bl)) pss_nil))))))
    (pss_one (ps_ret pe_bl)))), ?_⟩
  rw [show start n_law_is_turn [V.ref pt, V.ref pd] = [some (V.ref pt), some (V.ref pd), none, none] from rfl]
  refine seq_of (ifS_of (ev_or (ev_not (ev_tB (ev_isTup (ev_cons (ev_var rfl) (ev_cons ev_c ev_nil)) ht))) fun _ => ev_test (ev_neI (ev_lenT (ev_cons (ev_var rfl) ev_nil) (.inl (.inl ht))) ev_c)) (fun c => absurd c (by simp)) fun _ => next_of ?_)
  dsimp only
  refine seq_of (rng1_of (ev_cons ev_c ev_nil) (by decide) (by decide) ?_)
  refine for_range (fun i σ H' => H' = H ∧ ∃ u v, σ = [some (V.ref pt), some (V.ref pd), u, v]) ⟨rfl, none, none, rfl⟩ ?_ ?_
  · rintro i σ H' hi ⟨rfl, u, v, rfl⟩
    have hi : i < 2 := hi
    obtain ⟨z, y, l, ez, ey, hz, hy, ll⟩ : ∃ z y l, atI [V.ref a, V.ref b] (0 + (i : Int)) = some (V.ref z) ∧ atI [V.ref c, V.ref d] (0 + (i : Int)) = some (V.ref y) ∧ H' z = some (.lst (nl l)) ∧ H' y = some (.lst (nl l)) ∧ l.length ≤ 1000 := by
      rcases (by omega : i = 0 ∨ i = 1) with rfl | rfl
      · exact ⟨a, c, t.1, rfl, rfl, ha, hc, l1⟩
      · exact ⟨b, d, t.2, rfl, rfl, hb, hd', l2⟩
    have eF : ∀ {σ : St}, σ[0]? = some (some (.ref pt)) → σ[2]? = some (some (.int (0 + (i : Int)))) → EvE (tOp (rIxT K) (tVar 0) (tVar 2)) σ H' (.ref z) := fun h1 h2 => ev_ixT (ev_var h1) (ev_var h2) (.inl (.inl ht)) ez
    have eD : ∀ {σ : St}, σ[1]? = some (some (.ref pd)) → σ[2]? = some (some (.int (0 + (i : Int)))) → EvE (tOp (rIxT K) (tVar 1) (tVar 2)) σ H' (.ref y) := fun h1 h2 => ev_ixT (ev_var h1) (ev_var h2) (.inl (.inl hd)) ey
    dsimp only [gName]
    refine seq_of (ifS_of (ev_or (ev_not (ev_tB (ev_isList (ev_cons (eF rfl rfl) (ev_cons ev_c ev_nil)) hz))) fun _ => ev_test (ev_neI (ev_lenL (ev_cons (eF rfl rfl) ev_nil) (.of hz)) (ev_lenL (ev_cons (eD rfl rfl) ev_nil) (.of hy)))) (fun c => absurd c (by simp)) fun _ => next_of ?_)
    dsimp only
    refine rng1_of (ev_cons (ev_lenL (ev_cons (eD rfl rfl) ev_nil) (.of hy)) ev_nil) (by omega) (by rw [nl_length]; omega) ?_
    refine for_range (fun j σ H2 => H2 = H' ∧ ∃ v, σ = [some (V.ref pt), some (V.ref pd), some (V.int (0 + (i : Int))), v]) ⟨rfl, v, rfl⟩ ?_ ?_
    · rintro j σ H2 hj ⟨rfl, v, rfl⟩
      rw [nl_length] at hj
      have hj' : j < l.length := by simpa using hj
      dsimp only [gName]
      have g1 := ev_atN (K := K) (σ := [some (V.ref pt), some (V.ref pd), some (V.int (0 + (i : Int))), some (V.int (0 + (j : Int)))]) j (eF rfl rfl) (ev_var (n := 3) rfl) (.of hz) (by omega) hj'
      have g2 := ev_atN (K := K) (σ := [some (V.ref pt), some (V.ref pd), some (V.int (0 + (i : Int))), some (V.int (0 + (j : Int)))]) j (eD rfl rfl) (ev_var (n := 3) rfl) (.of hy) (by omega) hj'
      refine ifS_of (ev_or (ev_not (ev_tB (ev_isInt (i := ((Row.at0 l j : Nat) : Int)) (ev_cons g1 (ev_cons ev_c ev_nil))))) fun _ => ev_or (ev_tB (ev_notBool (i := ((Row.at0 l j : Nat) : Int)) (ev_cons g1 (ev_cons ev_c ev_nil)))) fun _ => ev_test (ev_neI g1 g2)) (fun c => absurd c (by simp)) fun _ => next_of ⟨rfl, _, rfl⟩
    · rintro σ H2 ⟨rfl, v, rfl⟩
      exact ⟨rfl, _, _, rfl⟩
  · rintro σ H' ⟨rfl, u, v, rfl⟩
    dsimp only
    exact ret_of ev_c q
end
noncomputable abbrev s_check_number : Stmt := top 11
noncomputable abbrev n_check_number : List Str := ["number"]
noncomputable abbrev p_check_number : List Str := ["number"]
theorem sc_check_number : FnScope n_check_number p_check_number (defScope s_check_number) := ⟨rfl, rfl, rfl, by decide +kernel, rfl, by decide +kernel, by decide +kernel⟩
noncomputable def spCheck : Sp := fun vs H Q _ => ∃ a : Int, vs = [.int a] ∧ 0 ≤ a ∧ a < 65536 ∧ Q .non H
structure TxN (mg : Str → Option Value) : Prop where
  GREATEST_NUMBER : GInt mg "GREATEST_NUMBER" 65535
section
variable {P : Program} {w : World} {K : PySem.W.Frag} {mg : Str → Option Value} {base : Heap}
theorem ok_check (D : HasDef K mg "check_number" s_check_number) (T : TxN mg) : Callee P w K mg base "check_number" 1 p_check_number spCheck := by
  refine D.ok sc_check_number (fun _ _ _ _ _ _ us hl => match us, hl with | [_], _ => rfl) (fun vs H Q E h => ?_) (fun f cdv A outer s H vs Q E hr h => ?_)
  · obtain ⟨a, rfl, _⟩ := h
    rfl
  obtain ⟨a, rfl, h0, h1, q⟩ := h
  refine ⟨_, (pss_one (ps_if (PW.pt (pw_or (pt_cmpR op_lt (pv 0) pe_int (nomark _)) (pw_or1 (pt_cmpR op_gt (pv 0) (pe_globI T.GREATEST_NUMBER) (nomark _))))) (pss_one ps_never) pss_nil)), ?_⟩
  rw [show start n_check_number [V.int a] = [some (V.int a)] from rfl]
  simp only [tSeq, tIfS, tRet, tRetN, tNext, tOr, tAnd, tNot, tTest, tB, tOp, tUn, tVar, tC, tCall, tCons, tNil, rI0, rI, rU, tGT, tAsg, gName, tDrop, tCB, tAndV, tOrV, tNotV, tIf, tChain, tTup, tLst, tNever, cxK, bkK, noxK, tRaise, tTry, xTry, endsH, tCallH]
  simp
  exact ⟨h0, by omega, q⟩
end
noncomputable def Dom (a b d : Int) : Prop := 0 ≤ a ∧ 0 ≤ b ∧ ((d = 0 ∧ a < 2 ∧ b < 2) ∨ (d = 1 ∧ a < 4 ∧ b < 4) ∨ (d = 2 ∧ a < 16 ∧ b < 16) ∨ (d = 3 ∧ a < 256 ∧ b < 256) ∨ (d = 4 ∧ a < 65536 ∧ b < 65536))
noncomputable def spProd (n : Nat) : Sp := fun vs H Q _ => ∃ a b d : Int, vs = [.int a, .int b, .int d] ∧ Dom a b d ∧ d < n ∧ Q (.int (pI a b d)) H
structure TxP (K : PySem.W.Frag) (mg : Str → Option Value) : Prop where
  n_len : mg "len" = none
  BASES : GTup K mg "BASES" [.int 2, .int 4, .int 16, .int 256]
noncomputable abbrev s_product : Stmt := top 20
noncomputable abbrev n_product : List Str := ["one", "two", "depth", "base", "high_one", "low_one", "high_two", "low_two", "highs", "lows", "whole", "with_base", "with_half"]
noncomputable abbrev p_product : List Str := ["one", "two", "depth"]
theorem sc_product : FnScope n_product p_product (defScope s_product) := ⟨rfl, rfl, rfl, by decide +kernel, rfl, by decide +kernel, by decide +kernel⟩
section
variable {P : Program} {w : World} {K : PySem.W.Frag} {mg : Str → Option Value} {base : Heap}
structure CProd (P : Program) (w : World) (K : PySem.W.Frag) (mg : Str → Option Value) (base : Heap) (k n : Nat) : Prop where
  product : Callee P w K mg base "product" k p_product (spProd n)
theorem ok_product {k : Nat} (D : HasDef K mg "product" s_product) (T : TxP K mg) (C : CProd P w K mg base k k) : Callee P w K mg base "product" (k + 1) p_product (spProd (k + 1)) := by
  refine D.ok sc_product (fun _ _ _ _ _ _ us hl => match us, hl with | [_, _, _], _ => rfl) (fun vs H Q E h => ?_) (fun f cdv A outer s H vs Q E hr h => ?_)
  · obtain ⟨a, b, d, rfl, _⟩ := h
    rfl
  obtain ⟨a, b, d, rfl, hD, hn, q⟩ := h
  refine ⟨_, (pss_cons (ps_if (PW.pt (pw_or (pt_cmpR op_lt (pv 0) pe_int (nomark _)) (pw_or1 (pt_cmpR op_lt (pv 1) pe_int (nomark _))))) (pss_one (ps_ret (pe_op op_mul (pv 0) (pv 1)))) pss_nil)
    (pss_cons (ps_set (i := 3) sc_product.nd rfl (Or.inl rfl) (pe_ix ix_tup (pe_globT T.BASES) (pe_op op_sub (pv 2) pe_int) (fun _ _ => rfl)))
    (pss_cons (ps_set (i := 4) sc_product.nd rfl (Or.inl rfl) (pe_op op_fdiv (pv 0) (pv 3)))
    (pss_cons (ps_set (i := 5) sc_product.nd rfl (Or.inl rfl) (pe_op op_mod (pv 0) (pv 3)))
    (pss_cons (ps_set (i := 6) sc_product.nd rfl (Or.inl rfl) (pe_op op_fdiv (pv 1) (pv 3)))
    (pss_cons (ps_set (i := 7) sc_product.nd rfl (Or.inl rfl) (pe_op op_mod (pv 1) (pv 3)))
    (pss_cons (ps_set (i := 8) sc_product.nd rfl (Or.inl rfl) (pe_callC C.product hr (by omega) rfl (pa_cons (pv 4) (pa_cons (pv 6) (pa_cons (pe_op op_sub (pv 2) pe_int) pa_nil)))))
    (pss_cons (ps_set (i := 9) sc_product.nd rfl (Or.inl rfl) (pe_callC C.product hr (by omega) rfl (pa_cons (pv 5) (pa_cons (pv 7) (pa_cons (pe_op op_sub (pv 2) pe_int) pa_nil)))))
    (pss_cons (ps_set (i := 10) sc_product.nd rfl (Or.inl rfl) (pe_callC C.product hr (by omega) rfl (pa_cons (pe_op op_xor (pv 4) (pv 5)) (pa_cons (pe_op op_xor (pv 6) (pv 7)) (pa_cons (pe_op op_sub (pv 2) pe_int) pa_nil)))))
    (pss_cons (ps_set (i := 11) sc_product.nd rfl (Or.inl rfl) (pe_op op_xor (pv 10) (pv 9)))
    (pss_cons (ps_set (i := 12) sc_product.nd rfl (Or.inl rfl) (pe_callC C.product hr (by omega) rfl (pa_cons (pv 8) (pa_cons (pe_op op_fdiv (pv 3) pe_int) (pa_cons (pe_op op_sub (pv 2) pe_int) pa_nil)))))
    (pss_one (ps_ret (pe_op op_xor (pe_op op_xor (pe_op op_mul (pv 11) (pv 3)) (pv 12)) (pv 9))))))))))))))), ?_⟩
  rw [show start n_product [V.int a, V.int b, V.int d] = [some (V.int a), some (V.int b), some (V.int d), none, none, none, none, none, none, none, none, none, none] from rfl]
  simp only [tSeq, tIfS, tRet, tRetN, tNext, tOr, tAnd, tNot, tTest, tB, tOp, tUn, tVar, tC, tCall, tCons, tNil, rI0, rI, rU, tGT, tAsg, gName, tDrop, tCB, tAndV, tOrV, tNotV, tIf, tChain, tTup, tLst, tNever, cxK, bkK, noxK, tRaise, tTry, xTry, endsH, tCallH]
  simp
  have cm : ∀ {x y : Int}, 0 ≤ x → x < 65536 → CMul x y := fun h1 h2 => .inl ⟨by omega, by omega⟩
  obtain ⟨a0, b0, hd⟩ := hD
  have ab : a < 65536 ∧ b < 65536 := by omega
  refine ite2 (fun c => ⟨cm a0 ab.1, ?_⟩) fun c => ite2 (fun c' => ⟨cm a0 ab.1, ?_⟩) fun c' => ?_
  · rw [K4.small a0 b0 hd (.inl c)]; exact q
  · rw [K4.small a0 b0 hd (.inr c')]; exact q
  intro aB hB
  obtain ⟨B, hat, B2, B256, hx, hp, hdm, q1, q2, htn⟩ : ∃ B : Int, atI [V.int 2, V.int 4, V.int 16, V.int 256] (d - 1) = some (.int B) ∧ 2 ≤ B ∧ B ≤ 256 ∧ (∀ x y : Int, x < B → y < B → xI x y < B) ∧ (∀ x y : Int, pI x y (d - 1) < B) ∧ (∀ x y : Int, 0 ≤ x → x < B → 0 ≤ y → y < B → Dom x y (d - 1)) ∧
      (0 ≤ a / B ∧ a / B < B ∧ 0 ≤ a % B ∧ a % B < B) ∧ (0 ≤ b / B ∧ b / B < B ∧ 0 ≤ b % B ∧ b % B < B) ∧
      xI (xI (xI (pI (xI (a / B) (a % B)) (xI (b / B) (b % B)) (d - 1)) (pI (a % B) (b % B) (d - 1)) * B) (pI (pI (a / B) (b / B) (d - 1)) (B / 2) (d - 1))) (pI (a % B) (b % B) (d - 1)) = pI a b d := by
    rcases hd with ⟨rfl, h1, h2⟩ | ⟨rfl, h1, h2⟩ | ⟨rfl, h1, h2⟩ | ⟨rfl, h1, h2⟩ | ⟨rfl, h1, h2⟩
    · exact absurd h1 c
    · exact ⟨2, rfl, by decide, by decide, fun x y h h' => xI_lt 1 h h', fun x y => pI_lt0 x y, fun x y _ _ _ _ => ⟨by omega, by omega, by omega⟩, ⟨by omega, by omega, by omega, by omega⟩, ⟨by omega, by omega, by omega, by omega⟩, turn1 a0 b0 h1 h2⟩
    · exact ⟨4, rfl, by decide, by decide, fun x y h h' => xI_lt 2 h h', fun x y => pI_lt1 x y, fun x y _ _ _ _ => ⟨by omega, by omega, by omega⟩, ⟨by omega, by omega, by omega, by omega⟩, ⟨by omega, by omega, by omega, by omega⟩, turn2 a0 b0 h1 h2⟩
    · exact ⟨16, rfl, by decide, by decide, fun x y h h' => xI_lt 4 h h', fun x y => pI_lt2 x y, fun x y _ _ _ _ => ⟨by omega, by omega, by omega⟩, ⟨by omega, by omega, by omega, by omega⟩, ⟨by omega, by omega, by omega, by omega⟩, turn3 a0 b0 h1 h2⟩
    · exact ⟨256, rfl, by decide, by decide, fun x y h h' => xI_lt 8 h h', fun x y => pI_lt3 x y, fun x y _ _ _ _ => ⟨by omega, by omega, by omega⟩, ⟨by omega, by omega, by omega, by omega⟩, ⟨by omega, by omega, by omega, by omega⟩, turn4 a0 b0 h1 h2⟩
  have hk : d - 1 < (k : Int) := by omega
  clear hd hn
  obtain ⟨a1, a2, a3, a4⟩ := q1
  obtain ⟨b1, b2, b3, b4⟩ := q2
  have cd : CDiv a B ∧ CDiv b B := ⟨⟨by omega, by omega⟩, ⟨by omega, by omega⟩⟩
  refine ⟨aB, _, _, .int B, rfl, rfl, hB H, hat, ?_⟩
  refine ⟨B, rfl, cd.1, B, rfl, by omega, B, rfl, cd.2, B, rfl, by omega, ?_⟩
  refine ⟨_, _, _, rfl, hdm _ _ a1 a2 b1 b2, hk, ?_⟩
  refine ⟨_, _, _, rfl, hdm _ _ a3 a4 b3 b4, hk, ?_⟩
  rw [bitXor_xI a1 a3, bitXor_xI b1 b3]
  refine ⟨_, _, _, rfl, hdm _ _ (xI_nonneg _ _) (hx _ _ a2 a4) (xI_nonneg _ _) (hx _ _ b2 b4), hk, ?_⟩
  have p1 := pI_nonneg (xI (a / B) (a % B)) (xI (b / B) (b % B)) (d - 1)
  have p2 := pI_nonneg (a % B) (b % B) (d - 1)
  have p3 := pI_nonneg (a / B) (b / B) (d - 1)
  refine ⟨_, rfl, _, rfl, B, rfl, ⟨by decide, by decide⟩, ?_⟩
  refine ⟨_, _, _, rfl, hdm _ _ p3 (hp _ _) (by omega) (by omega), hk, ?_⟩
  have n3 := xI_nonneg (pI (xI (a / B) (a % B)) (xI (b / B) (b % B)) (d - 1)) (pI (a % B) (b % B) (d - 1))
  have l3 := hx _ _ (hp (xI (a / B) (a % B)) (xI (b / B) (b % B))) (hp (a % B) (b % B))
  rw [bitXor_xI p1 p2]
  refine ⟨B, rfl, cm n3 (by omega), _, rfl, _, rfl, ?_⟩
  rw [bitXor_xI (x := _ * B) (Int.mul_nonneg n3 (by omega)) (pI_nonneg _ _ _), bitXor_xI (xI_nonneg _ _) p2]
  rw [← htn] at q
  exact q
end
theorem prod0 {P : Program} {w : World} {K : PySem.W.Frag} {mg : Str → Option Value} {base : Heap} (D : HasDef K mg "product" s_product) : Callee P w K mg base "product" 0 p_product (spProd 0) := by
  obtain ⟨f, fd, F, hm⟩ := D.ex
  have no : ∀ vs H Q E, ¬ spProd 0 vs H Q E := fun vs H Q E h => by
    obtain ⟨a, b, d, _, ⟨_, _, h1⟩, h2, _⟩ := h
    omega
  exact ⟨f, fd, hm, F.kp, F.binds fun _ _ _ _ _ _ us hl => match us, hl with | [_, _, _], _ => rfl, ⟨fun vs H Q E h => absurd h (no vs H Q E), fun A outer s H args us vs Q E _ _ _ _ h => absurd h (no vs H Q E)⟩⟩
theorem prodN {P : Program} {w : World} {K : PySem.W.Frag} {mg : Str → Option Value} {base : Heap} (D : HasDef K mg "product" s_product) (T : TxP K mg) : ∀ k, Callee P w K mg base "product" k p_product (spProd k)
  | 0 => prod0 D
  | k + 1 => ok_product D T ⟨prodN D T k⟩
noncomputable abbrev s_times : Stmt := top 19
noncomputable abbrev n_times : List Str := ["one", "two"]
noncomputable abbrev p_times : List Str := ["one", "two"]
theorem sc_times : FnScope n_times p_times (defScope s_times) := ⟨rfl, rfl, rfl, by decide +kernel, rfl, by decide +kernel, by decide +kernel⟩
noncomputable def spTimes : Sp := fun vs H Q _ => ∃ a b : Int, vs = [.int a, .int b] ∧ 0 ≤ a ∧ a < 65536 ∧ 0 ≤ b ∧ b < 65536 ∧ Q (.int (tI a b)) H
structure CsT (P : Program) (w : World) (K : PySem.W.Frag) (mg : Str → Option Value) (base : Heap) : Prop where
  check_number : Callee P w K mg base "check_number" 1 p_check_number spCheck
  product : Callee P w K mg base "product" 5 p_product (spProd 5)
section
variable {P : Program} {w : World} {K : PySem.W.Frag} {mg : Str → Option Value} {base : Heap}
theorem ok_times (D : HasDef K mg "times" s_times) (T : TxP K mg) (C : CsT P w K mg base) : Callee P w K mg base "times" 6 p_times spTimes := by
  refine D.ok sc_times (fun _ _ _ _ _ _ us hl => match us, hl with | [_, _], _ => rfl) (fun vs H Q E h => ?_) (fun f cdv A outer s H vs Q E hr h => ?_)
  · obtain ⟨a, b, rfl, _⟩ := h
    rfl
  obtain ⟨a, b, rfl, a0, a1, b0, b1, q⟩ := h
  refine ⟨_, (pss_cons (ps_expr (pe_callC C.check_number hr (by omega) rfl (pa_cons (pv 0) pa_nil)))
    (pss_cons (ps_expr (pe_callC C.check_number hr (by omega) rfl (pa_cons (pv 1) pa_nil)))
    (pss_one (ps_ret (pe_callC C.product hr (by omega) rfl (pa_cons (pv 0) (pa_cons (pv 1) (pa_cons (pe_callB call_len_seq rfl T.n_len bt_len (pa_cons (pe_globT T.BASES) pa_nil)) pa_nil)))))))), ?_⟩
  rw [show start n_times [V.int a, V.int b] = [some (V.int a), some (V.int b)] from rfl]
  simp only [tSeq, tIfS, tRet, tRetN, tNext, tOr, tAnd, tNot, tTest, tB, tOp, tUn, tVar, tC, tCall, tCons, tNil, rI0, rI, rU, tGT, tAsg, gName, tDrop, tCB, tAndV, tOrV, tNotV, tIf, tChain, tTup, tLst, tNever, cxK, bkK, noxK, tRaise, tTry, xTry, endsH, tCallH]
  simp
  refine ⟨a, rfl, a0, a1, b, rfl, b0, b1, ?_⟩
  intro aB hB
  refine ⟨_, .inr (hB H), ?_⟩
  exact ⟨a, b, 4, rfl, ⟨a0, b0, by omega⟩, by decide, q⟩
end
noncomputable abbrev s_check_rule : Stmt := top 12
noncomputable abbrev n_check_rule : List Str := ["rule"]
noncomputable abbrev p_check_rule : List Str := ["rule"]
theorem sc_check_rule : FnScope n_check_rule p_check_rule (defScope s_check_rule) := ⟨rfl, rfl, rfl, by decide +kernel, rfl, by decide +kernel, by decide +kernel⟩
noncomputable abbrev gk : List (Str × V) := [("most", .int 3), ("just", .int 3), ("run", .int 40)]
noncomputable def spCheckRule (K : PySem.W.Frag) : Sp := fun vs H Q _ => ∃ (pr : Addr) (r : Row.Rule), vs = [.ref pr] ∧ SqT K H pr (ruleV r) ∧ Row.Good r ∧ Q .non H
structure TxRu (K : PySem.W.Frag) (w : World) (mg : Str → Option Value) : Prop where
  GREATEST_K : GDic K w.params mg "GREATEST_K" gk
theorem gk_at {r : Row.Rule} (hg : Row.Good r) : ∃ m : Nat, atS gk (word r.1) = some (.int (m : Int)) ∧ 1 ≤ r.2 ∧ r.2 ≤ m := by
  obtain ⟨t, k⟩ := r
  rcases hg with ⟨h | h, h1, h3⟩ | ⟨h, h1, h3⟩ <;> simp only at h h1 h3 ⊢ <;> subst h
  · exact ⟨3, by decide, h1, h3⟩
  · exact ⟨3, by decide, h1, h3⟩
  · exact ⟨40, by decide, h1, h3⟩
section
variable {P : Program} {w : World} {K : PySem.W.Frag} {mg : Str → Option Value} {base : Heap}
theorem ok_checkRule (D : HasDef K mg "check_rule" s_check_rule) (T : TxRu K w mg) : Callee P w K mg base "check_rule" 1 p_check_rule (spCheckRule K) := by
  refine D.ok sc_check_rule (fun _ _ _ _ _ _ us hl => match us, hl with | [_], _ => rfl) (fun vs H Q E h => ?_) (fun f cdv A outer s H vs Q E hr h => ?_)
  · obtain ⟨pr, r, rfl, _⟩ := h
    rfl
  obtain ⟨pr, r, rfl, hR, hg, q⟩ := h
  obtain ⟨m, hm, h1, h2⟩ := gk_at hg
  refine ⟨_, (pss_cons (ps_if (pt_cmp (pc_knotin T.GREATEST_K (pe_ix ix_tup (pv 0) pe_int (fun _ _ => rfl)))) (pss_one ps_never) pss_nil)
    (pss_one (ps_if (PW.pt (pw_or (pt_cmpR op_lt (pe_ix ix_tup (pv 0) pe_int (fun _ _ => rfl)) pe_int (nomark _)) (pw_or1 (pt_cmpR op_gt (pe_ix ix_tup (pv 0) pe_int (fun _ _ => rfl)) (pe_kget T.GREATEST_K (pe_ix ix_tup (pv 0) pe_int (fun _ _ => rfl)) (fun _ _ => rfl)) (nomark _))))) (pss_one ps_never) pss_nil))), ?_⟩
  rw [show start n_check_rule [V.ref pr] = [some (V.ref pr)] from rfl]
  refine seq_of (ifS_of (ev_tB (ev_kin (ev_rule0 rfl hR))) (fun c => absurd c (by rw [hm]; simp)) (fun _ => next_of ?_))
  dsimp only
  refine ifS_of (ev_or (ev_test (ev_i0 (ev_rule1 rfl hR) ev_c)) (fun _ => ev_test (ev_i0 (ev_rule1 rfl hR) (ev_kget (ev_rule0 rfl hR) hm)))) (fun c => ?_) (fun _ => ?_)
  · rcases Bool.or_eq_true_iff.mp c with c | c <;> have c := of_decide_eq_true c <;> omega
  · exact q
end
noncomputable abbrev s_check_place : Stmt := top 13
noncomputable abbrev n_check_place : List Str := ["place"]
noncomputable abbrev p_check_place : List Str := ["place"]
theorem sc_check_place : FnScope n_check_place p_check_place (defScope s_check_place) := ⟨rfl, rfl, rfl, by decide +kernel, rfl, by decide +kernel, by decide +kernel⟩
noncomputable def spCheckPlace : Sp := fun vs H Q _ => ∃ n : Nat, vs = [.int (n : Int)] ∧ n < 40 ∧ Q .non H
structure TxPlc (mg : Str → Option Value) : Prop where
  GREATEST_PLACE : GInt mg "GREATEST_PLACE" 39
section
variable {P : Program} {w : World} {K : PySem.W.Frag} {mg : Str → Option Value} {base : Heap}
theorem ok_checkPlace (D : HasDef K mg "check_place" s_check_place) (T : TxPlc mg) : Callee P w K mg base "check_place" 1 p_check_place spCheckPlace := by
  refine D.ok sc_check_place (fun _ _ _ _ _ _ us hl => match us, hl with | [_], _ => rfl) (fun vs H Q E h => ?_) (fun f cdv A outer s H vs Q E hr h => ?_)
  · obtain ⟨n, rfl, _⟩ := h
    rfl
  obtain ⟨n, rfl, hn, q⟩ := h
  refine ⟨_, (pss_one (ps_if (PW.pt (pw_or (pt_cmpR op_lt (pv 0) pe_int (nomark _)) (pw_or1 (pt_cmpR op_gt (pv 0) (pe_globI T.GREATEST_PLACE) (nomark _))))) (pss_one ps_never) pss_nil)), ?_⟩
  rw [show start n_check_place [V.int n] = [some (V.int n)] from rfl]
  refine ifS_of (ev_or (ev_test (ev_i0 (ev_var rfl) ev_c)) (fun _ => ev_test (ev_i0 (ev_var rfl) ev_c))) (fun c => ?_) (fun _ => ?_)
  · rcases Bool.or_eq_true_iff.mp c with c | c <;> have c := of_decide_eq_true c <;> omega
  · exact q
end
noncomputable abbrev s_has_odd_ones : Stmt := top 28
noncomputable abbrev n_has_odd_ones : List Str := ["number", "odd"]
noncomputable abbrev p_has_odd_ones : List Str := ["number"]
theorem sc_has_odd_ones : FnScope n_has_odd_ones p_has_odd_ones (defScope s_has_odd_ones) := ⟨rfl, rfl, rfl, by decide +kernel, rfl, by decide +kernel, by decide +kernel⟩
noncomputable abbrev s_run_number : Stmt := top 29
noncomputable abbrev n_run_number : List Str := ["k", "place", "power"]
noncomputable abbrev p_run_number : List Str := ["k", "place"]
theorem sc_run_number : FnScope n_run_number p_run_number (defScope s_run_number) := ⟨rfl, rfl, rfl, by decide +kernel, rfl, by decide +kernel, by decide +kernel⟩
noncomputable abbrev s_most_number : Stmt := top 27
noncomputable abbrev n_most_number : List Str := ["k", "place"]
noncomputable abbrev p_most_number : List Str := ["k", "place"]
theorem sc_most_number : FnScope n_most_number p_most_number (defScope s_most_number) := ⟨rfl, rfl, rfl, by decide +kernel, rfl, by decide +kernel, by decide +kernel⟩
noncomputable abbrev s_place_number : Stmt := top 26
noncomputable abbrev n_place_number : List Str := ["rule", "place", "k"]
noncomputable abbrev p_place_number : List Str := ["rule", "place"]
theorem sc_place_number : FnScope n_place_number p_place_number (defScope s_place_number) := ⟨rfl, rfl, rfl, by decide +kernel, rfl, by decide +kernel, by decide +kernel⟩
noncomputable def spOdd : Sp := fun vs H Q _ => ∃ n : Nat, vs = [.int (n : Int)] ∧ n < 40 ∧ Q (.bl (Row.oddOnes n)) H
noncomputable def spRun : Sp := fun vs H Q _ => ∃ k n : Nat, vs = [.int (k : Int), .int (n : Int)] ∧ 1 ≤ k ∧ k ≤ 40 ∧ n < 40 ∧ Q (.int (Row.runNum k n : Int)) H
noncomputable def spMost : Sp := fun vs H Q _ => ∃ k n : Nat, vs = [.int (k : Int), .int (n : Int)] ∧ 1 ≤ k ∧ k ≤ 3 ∧ n < 40 ∧ Q (.int (Row.mostNum k n : Int)) H
noncomputable def spPlaceN (K : PySem.W.Frag) : Sp := fun vs H Q _ => ∃ (pr : Addr) (r : Row.Rule) (n : Nat), vs = [.ref pr, .int (n : Int)] ∧ SqT K H pr (ruleV r) ∧ Row.Good r ∧ n < 40 ∧ Q (.int (Row.num r n : Int)) H
theorem oddGo0 (f : Nat) : Row.oddOnesGo f 0 = false := by cases f <;> rfl
section
variable {P : Program} {w : World} {K : PySem.W.Frag} {mg : Str → Option Value} {base : Heap}
theorem ok_odd (D : HasDef K mg "has_odd_ones" s_has_odd_ones) : Callee P w K mg base "has_odd_ones" 1 p_has_odd_ones spOdd := by
  refine D.ok sc_has_odd_ones (fun _ _ _ _ _ _ us hl => match us, hl with | [_], _ => rfl) (fun vs H Q E h => ?_) (fun f cdv A outer s H vs Q E hr h => ?_)
  · obtain ⟨n, rfl, _⟩ := h
    rfl
  obtain ⟨n, rfl, hn, q⟩ := h
  refine ⟨_, (pss_cons (ps_set (i := 1) sc_has_odd_ones.nd rfl (Or.inl rfl) pe_bl)
    (pss_cons (ps_while PassesOwn.never (pt_cmpR op_gt (pv 0) pe_int (nomark _)) (pss_cons (ps_if (pt_cmpR op_eq (pe_op op_mod (pv 0) pe_int) pe_int (nomark _)) (pss_one (ps_set (i := 1) sc_has_odd_ones.nd rfl (Or.inl rfl) (pe_not (pv 1)))) pss_nil)
    (pss_one (ps_set (i := 0) sc_has_odd_ones.nd rfl (Or.inl rfl) (pe_op op_fdiv (pv 0) pe_int)))))
    (pss_one (ps_ret (pv 1))))), ?_⟩
  rw [show start n_has_odd_ones [V.int n] = [some (V.int n), none] from rfl]
  refine seq_of (asg_of ev_c ?_)
  dsimp only
  refine seq_of (while_ev (fun σ H' => H' = H ∧ ∃ (m fu : Nat) (b : Bool), σ = [some (V.int (m : Int)), some (V.bl b)] ∧ m < 2 ^ fu ∧ (b != Row.oddOnesGo fu m) = Row.oddOnes n) (fun σ _ => intAt 0 σ)
    ⟨rfl, n, 64, false, rfl, Nat.lt_of_lt_of_le hn (by decide), by simp [Row.oddOnes]⟩ ?_)
  rintro σ H' ⟨rfl, m, fu, b, rfl, hm, hb⟩
  refine ⟨_, ev_test (ev_i0 (ev_var rfl) ev_c), fun c => ?_, fun c => ?_⟩
  · have c : (m : Int) > 0 := of_decide_eq_true c
    obtain ⟨f', rfl⟩ : ∃ f', fu = f' + 1 := by
      cases fu with
      | zero => simp at hm; omega
      | succ f' => exact ⟨f', rfl⟩
    have e : Row.oddOnesGo (f' + 1) m = ((m % 2 == 1) != Row.oddOnesGo f' (m / 2)) := by
      rw [Row.oddOnesGo, if_neg (by omega)]
    rw [e] at hb
    have h2 : m / 2 < 2 ^ f' := by rw [Nat.pow_succ] at hm; omega
    have lt : intAt 0 [some (V.int ((m : Int) / 2)), some (V.bl b)] < intAt 0 [some (V.int (m : Int)), some (V.bl b)] := by
      show ((m : Int) / 2).toNat < ((m : Int)).toNat
      omega
    have ed : (m : Int) / 2 = ((m / 2 : Nat) : Int) := by omega
    refine seq_of (ifS_of (ev_test (ev_eqI (ev_i (ev_var rfl) ev_c (by decide)) ev_c)) (fun c2 => ?_) (fun c2 => next_of ?_))
    · have c2 : (m : Int) % 2 = 1 := of_decide_eq_true c2
      have m1 : (m % 2 == 1) = true := by rw [beq_iff_eq]; omega
      rw [m1] at hb
      refine asg_of (ev_notV (ev_var rfl)) ?_
      dsimp only
      refine asg_of (ev_i (ev_var rfl) ev_c (by unfold CDiv; decide)) ⟨⟨rfl, m / 2, f', !b, by rw [ed]; rfl, h2, ?_⟩, lt⟩
      rw [← hb]
      cases b <;> simp
    · have c2 : ¬ (m : Int) % 2 = 1 := of_decide_eq_false c2
      have m1 : (m % 2 == 1) = false := by rw [beq_eq_false_iff_ne]; omega
      rw [m1] at hb
      refine asg_of (ev_i (ev_var rfl) ev_c (by unfold CDiv; decide)) ⟨⟨rfl, m / 2, f', b, by rw [ed]; rfl, h2, ?_⟩, lt⟩
      rw [← hb]
      cases b <;> simp
  · have c : ¬ (m : Int) > 0 := of_decide_eq_false c
    have m0 : m = 0 := by omega
    subst m0
    rw [oddGo0] at hb
    have e : b = Row.oddOnes n := by rw [← hb]; simp
    rw [← e] at q
    exact ret_of (ev_var rfl) q
theorem ok_runNum (D : HasDef K mg "run_number" s_run_number) : Callee P w K mg base "run_number" 1 p_run_number spRun := by
  refine D.ok sc_run_number (fun _ _ _ _ _ _ us hl => match us, hl with | [_, _], _ => rfl) (fun vs H Q E h => ?_) (fun f cdv A outer s H vs Q E hr h => ?_)
  · obtain ⟨k, n, rfl, _⟩ := h
    rfl
  obtain ⟨k, n, rfl, hk1, hk, hn, q⟩ := h
  refine ⟨_, (pss_cons (ps_set (i := 2) sc_run_number.nd rfl (Or.inl rfl) pe_int)
    (pss_cons (ps_while PassesOwn.never (PW.pt (pw_and (pt_cmpR op_le (pe_op op_mul pe_int (pv 2)) (pv 0) (nomark _)) (pw_and1 (pt_cmpR op_eq (pe_op op_mod (pe_op op_add (pv 1) pe_int) (pe_op op_mul pe_int (pv 2))) pe_int (nomark _))))) (pss_one (ps_set (i := 2) sc_run_number.nd rfl (Or.inl rfl) (pe_op op_mul pe_int (pv 2)))))
    (pss_one (ps_ret (pv 2))))), ?_⟩
  rw [show start n_run_number [V.int k, V.int n] = [some (V.int k), some (V.int n), none] from rfl]
  refine seq_of (asg_of ev_c ?_)
  dsimp only
  refine seq_of (while_ev (fun σ H' => H' = H ∧ ∃ p fu : Nat, σ = [some (V.int (k : Int)), some (V.int (n : Int)), some (V.int (p : Int))] ∧ 1 ≤ p ∧ p ≤ k ∧ 64 < p * 2 ^ fu ∧ Row.runGo k n fu p = Row.runNum k n) (fun σ _ => 100 - intAt 2 σ)
    ⟨rfl, 1, 64, rfl, by decide, hk1, by decide, rfl⟩ ?_)
  rintro σ H' ⟨rfl, p, fu, rfl, hp1, hpk, hb, hr'⟩
  have cm : CMul 2 (p : Int) := .inl ⟨by omega, by omega⟩
  refine ⟨_, ev_and (ev_test (ev_i0 (ev_i ev_c (ev_var rfl) cm) (ev_var rfl))) (fun _ => ev_test (ev_eqI (ev_i (ev_i0 (ev_var rfl) ev_c) (ev_i ev_c (ev_var rfl) cm) (by omega)) ev_c)), fun c => ?_, fun c => ?_⟩
  · obtain ⟨c1, c2⟩ := Bool.and_eq_true_iff.mp c
    have c1 : 2 * (p : Int) ≤ k := of_decide_eq_true c1
    have c2 : ((n : Int) + 1) % (2 * (p : Int)) = 0 := of_decide_eq_true c2
    have c3 : (n + 1) % (2 * p) = 0 := by
      have : (((n + 1) % (2 * p) : Nat) : Int) = 0 := by rw [← c2]; simp
      omega
    obtain ⟨f', rfl⟩ : ∃ f', fu = f' + 1 := by
      cases fu with
      | zero => simp at hb; omega
      | succ f' => exact ⟨f', rfl⟩
    rw [Row.runGo, if_pos ⟨by omega, c3⟩] at hr'
    refine asg_of (ev_i ev_c (ev_var rfl) cm) ⟨⟨rfl, 2 * p, f', by rw [show 2 * (p : Int) = ((2 * p : Nat) : Int) by omega]; rfl, by omega, by omega, ?_, hr'⟩, ?_⟩
    · rw [Nat.pow_succ] at hb
      rw [Nat.mul_comm 2 p, Nat.mul_assoc, Nat.mul_comm 2]
      exact hb
    · show 100 - (2 * (p : Int)).toNat < 100 - ((p : Int)).toNat
      omega
  · have e : Row.runGo k n fu p = p := by
      cases fu with
      | zero => rfl
      | succ f' =>
        rw [Row.runGo, if_neg]
        rintro ⟨d1, d2⟩
        have x1 : 2 * (p : Int) ≤ k := by omega
        have x2 : ((n : Int) + 1) % (2 * (p : Int)) = 0 := by
          have : (((n + 1) % (2 * p) : Nat) : Int) = 0 := by rw [d2]; rfl
          rw [← this]; simp
        rw [decide_eq_true x1, decide_eq_true x2] at c
        cases c
    rw [e] at hr'
    refine ret_of (ev_var rfl) ?_
    rw [hr']
    exact q
structure CnMo (P : Program) (w : World) (K : PySem.W.Frag) (mg : Str → Option Value) (base : Heap) : Prop where
  has_odd_ones : Callee P w K mg base "has_odd_ones" 1 p_has_odd_ones spOdd
theorem ok_mostNum (D : HasDef K mg "most_number" s_most_number) (C : CnMo P w K mg base) : Callee P w K mg base "most_number" 2 p_most_number spMost := by
  refine D.ok sc_most_number (fun _ _ _ _ _ _ us hl => match us, hl with | [_, _], _ => rfl) (fun vs H Q E h => ?_) (fun f cdv A outer s H vs Q E hr h => ?_)
  · obtain ⟨k, n, rfl, _⟩ := h
    rfl
  obtain ⟨k, n, rfl, hk1, hk, hn, q⟩ := h
  refine ⟨_, (pss_cons (ps_if (pt_cmpR op_eq (pv 0) pe_int (nomark _)) (pss_one (ps_ret pe_int)) pss_nil)
    (pss_cons (ps_if (pt_cmpR op_eq (pv 0) pe_int (nomark _)) (pss_one (ps_ret (pe_op op_add (pv 1) pe_int))) pss_nil)
    (pss_cons (ps_if (pt_val (pe_callC C.has_odd_ones hr (by omega) rfl (pa_cons (pv 1) pa_nil))) (pss_one (ps_ret (pe_op op_mul pe_int (pv 1)))) pss_nil)
    (pss_one (ps_ret (pe_op op_add (pe_op op_mul pe_int (pv 1)) pe_int)))))), ?_⟩
  rw [show start n_most_number [V.int k, V.int n] = [some (V.int k), some (V.int n)] from rfl]
  have cm : CMul 2 (n : Int) := .inl ⟨by omega, by omega⟩
  refine seq_of (ifS_of (ev_test (ev_eqI (ev_var rfl) ev_c)) (fun c => ret_of ev_c ?_) (fun c1 => next_of ?_))
  · have c : (k : Int) = 1 := of_decide_eq_true c
    have : Row.mostNum k n = 1 := by unfold Row.mostNum; rw [if_pos (by omega)]
    rw [this] at q
    exact q
  have c1 : ¬ (k : Int) = 1 := of_decide_eq_false c1
  dsimp only
  refine seq_of (ifS_of (ev_test (ev_eqI (ev_var rfl) ev_c)) (fun c => ret_of (ev_i0 (ev_var rfl) ev_c) ?_) (fun c2 => next_of ?_))
  · have c : (k : Int) = 2 := of_decide_eq_true c
    have : Row.mostNum k n = n + 1 := by unfold Row.mostNum; rw [if_neg (by omega), if_pos (by omega)]
    rw [this] at q
    exact q
  have c2 : ¬ (k : Int) = 2 := of_decide_eq_false c2
  have e : Row.mostNum k n = if Row.oddOnes n then 2 * n else 2 * n + 1 := by unfold Row.mostNum; rw [if_neg (by omega), if_neg (by omega)]
  rw [e] at q
  dsimp only
  refine seq_of (ifS_of (ev_tB (ev_call (v := .bl (Row.oddOnes n)) (ev_cons (ev_var rfl) ev_nil) (fun Q q => ⟨n, rfl, hn, q⟩))) (fun c => ?_) (fun c => next_of ?_))
  · rw [if_pos c] at q
    exact ret_of (ev_i ev_c (ev_var rfl) cm) q
  · rw [if_neg (by rw [c]; decide)] at q
    dsimp only
    exact ret_of (ev_i0 (ev_i ev_c (ev_var rfl) cm) ev_c) q
structure CnPn (P : Program) (w : World) (K : PySem.W.Frag) (mg : Str → Option Value) (base : Heap) : Prop where
  run_number : Callee P w K mg base "run_number" 1 p_run_number spRun
  most_number : Callee P w K mg base "most_number" 2 p_most_number spMost
theorem ok_placeNum (D : HasDef K mg "place_number" s_place_number) (C : CnPn P w K mg base) : Callee P w K mg base "place_number" 3 p_place_number (spPlaceN K) := by
  refine D.ok sc_place_number (fun _ _ _ _ _ _ us hl => match us, hl with | [_, _], _ => rfl) (fun vs H Q E h => ?_) (fun f cdv A outer s H vs Q E hr h => ?_)
  · obtain ⟨pr, r, n, rfl, _⟩ := h
    rfl
  obtain ⟨pr, r, n, rfl, hR, hg, hn, q⟩ := h
  rw [Row.num_cl hg hn] at q
  have k40 : 1 ≤ r.2 ∧ r.2 ≤ 40 := by rcases hg with ⟨_, _, h⟩ | ⟨_, _, h⟩ <;> omega
  have r2 : r.1 ≤ 2 := by rcases hg with ⟨h, _⟩ | ⟨h, _⟩ <;> omega
  refine ⟨_, (pss_cons (ps_set (i := 2) sc_place_number.nd rfl (Or.inl rfl) (pe_ix ix_tup (pv 0) pe_int (fun _ _ => rfl)))
    (pss_cons (ps_if (pt_cmpR op_eq (pe_ix ix_tup (pv 0) pe_int (fun _ _ => rfl)) pe_str (nomark _)) (pss_one (ps_ret (pe_callC C.run_number hr (by omega) rfl (pa_cons (pv 2) (pa_cons (pv 1) pa_nil))))) pss_nil)
    (pss_cons (ps_if (pt_cmpR op_eq (pe_ix ix_tup (pv 0) pe_int (fun _ _ => rfl)) pe_str (nomark _)) (pss_one (ps_ret (pe_callC C.most_number hr (by omega) rfl (pa_cons (pv 2) (pa_cons (pv 1) pa_nil))))) pss_nil)
    (pss_cons (ps_if (pt_cmpR op_lt (pv 1) (pe_op op_sub (pv 2) pe_int) (nomark _)) (pss_one (ps_ret pe_int)) pss_nil)
    (pss_one (ps_ret (pe_callC C.most_number hr (by omega) rfl (pa_cons (pv 2) (pa_cons (pe_op op_sub (pv 1) (pe_op op_sub (pv 2) pe_int)) pa_nil))))))))), ?_⟩
  rw [show start n_place_number [V.ref pr, V.int n] = [some (V.ref pr), some (V.int n), none] from rfl]
  refine seq_of (asg_of (ev_rule1 rfl hR) ?_)
  dsimp only
  refine seq_of (ifS_of (ev_test (ev_isRun rfl hR r2)) (fun c => ?_) (fun c1 => next_of ?_))
  · have c := of_decide_eq_true c
    have e : Row.clNum r n = Row.runNum r.2 n := by unfold Row.clNum; rw [if_pos c]
    rw [e] at q
    exact ret_of (ev_call (v := .int (Row.runNum r.2 n : Int)) (ev_cons (ev_var rfl) (ev_cons (ev_var rfl) ev_nil)) (fun Q q => ⟨r.2, n, rfl, k40.1, k40.2, hn, q⟩)) q
  have c1 := of_decide_eq_false c1
  have k3 : r.2 ≤ 3 := by rcases hg with ⟨_, _, h⟩ | ⟨h, _⟩ <;> omega
  dsimp only
  refine seq_of (ifS_of (ev_test (ev_isMost rfl hR r2)) (fun c => ?_) (fun c2 => next_of ?_))
  · have c := of_decide_eq_true c
    have e : Row.clNum r n = Row.mostNum r.2 n := by unfold Row.clNum; rw [if_neg c1, if_pos c]
    rw [e] at q
    exact ret_of (ev_call (v := .int (Row.mostNum r.2 n : Int)) (ev_cons (ev_var rfl) (ev_cons (ev_var rfl) ev_nil)) (fun Q q => ⟨r.2, n, rfl, k40.1, k3, hn, q⟩)) q
  have c2 := of_decide_eq_false c2
  have e : Row.clNum r n = if n < r.2 - 1 then 0 else Row.mostNum r.2 (n - (r.2 - 1)) := by unfold Row.clNum; rw [if_neg c1, if_neg c2]
  rw [e] at q
  dsimp only
  refine seq_of (ifS_of (ev_test (ev_i0 (ev_var rfl) (ev_i0 (ev_var rfl) ev_c))) (fun c => ?_) (fun c3 => next_of ?_))
  · have c : (n : Int) < (r.2 : Int) - 1 := of_decide_eq_true c
    rw [if_pos (by omega)] at q
    exact ret_of ev_c q
  have c3 : ¬ (n : Int) < (r.2 : Int) - 1 := of_decide_eq_false c3
  rw [if_neg (by omega)] at q
  dsimp only
  exact ret_of (ev_call (v := .int (Row.mostNum r.2 (n - (r.2 - 1)) : Int)) (ev_cons (ev_var rfl) (ev_cons (ev_i0 (ev_var rfl) (ev_i0 (ev_var rfl) ev_c)) ev_nil)) (fun Q q => ⟨r.2, n - (r.2 - 1), by
    rw [show (n : Int) - ((r.2 : Int) - 1) = ((n - (r.2 - 1) : Nat) : Int) by omega]; rfl, k40.1, k3, by omega, q⟩)) q
end
noncomputable abbrev s_number_of : Stmt := top 22
noncomputable abbrev n_number_of : List Str := ["rule", "place"]
noncomputable abbrev p_number_of : List Str := ["rule", "place"]
theorem sc_number_of : FnScope n_number_of p_number_of (defScope s_number_of) := ⟨rfl, rfl, rfl, by decide +kernel, rfl, by decide +kernel, by decide +kernel⟩
section
variable {P : Program} {w : World} {K : PySem.W.Frag} {mg : Str → Option Value} {base : Heap}
structure CnNo (P : Program) (w : World) (K : PySem.W.Frag) (mg : Str → Option Value) (base : Heap) : Prop where
  check_rule : Callee P w K mg base "check_rule" 1 p_check_rule (spCheckRule K)
  check_place : Callee P w K mg base "check_place" 1 p_check_place spCheckPlace
  place_number : Callee P w K mg base "place_number" 3 p_place_number (spPlaceN K)
theorem ok_numberOf (D : HasDef K mg "number_of" s_number_of) (C : CnNo P w K mg base) : Callee P w K mg base "number_of" 5 p_number_of (spNumberOf K) := by
  refine D.ok sc_number_of (fun _ _ _ _ _ _ us hl => match us, hl with | [_, _], _ => rfl) (fun vs H Q E h => ?_) (fun f cdv A outer s H vs Q E hr h => ?_)
  · obtain ⟨pr, r, n, rfl, _⟩ := h
    rfl
  obtain ⟨pr, r, n, rfl, hR, hg, hn, q⟩ := h
  refine ⟨_, (pss_cons (ps_expr (pe_callC C.check_rule hr (by omega) rfl (pa_cons (pv 0) pa_nil)))
    (pss_cons (ps_expr (pe_callC C.check_place hr (by omega) rfl (pa_cons (pv 1) pa_nil)))
    (pss_one (ps_ret (pe_callC C.place_number hr (by omega) rfl (pa_cons (pv 0) (pa_cons (pv 1) pa_nil))))))), ?_⟩
  rw [show start n_number_of [V.ref pr, V.int n] = [some (V.ref pr), some (V.int n)] from rfl]
  exact ⟨_, rfl, pr, r, rfl, hR, hg, _, rfl, n, rfl, hn, _, rfl, _, rfl, pr, r, n, rfl, hR, hg, hn, q _ (Same.refl H)⟩
end
noncomputable abbrev s_check_board_place : Stmt := top 14
noncomputable abbrev n_check_board_place : List Str := ["x", "y"]
noncomputable abbrev p_check_board_place : List Str := ["x", "y"]
theorem sc_check_board_place : FnScope n_check_board_place p_check_board_place (defScope s_check_board_place) := ⟨rfl, rfl, rfl, by decide +kernel, rfl, by decide +kernel, by decide +kernel⟩
noncomputable abbrev s_board_number : Stmt := top 31
noncomputable abbrev n_board_number : List Str := ["rule_x", "rule_y", "x", "y"]
noncomputable abbrev p_board_number : List Str := ["rule_x", "rule_y", "x", "y"]
theorem sc_board_number : FnScope n_board_number p_board_number (defScope s_board_number) := ⟨rfl, rfl, rfl, by decide +kernel, rfl, by decide +kernel, by decide +kernel⟩
noncomputable def spCheckBP : Sp := fun vs H Q _ => ∃ x y : Nat, vs = [.int (x : Int), .int (y : Int)] ∧ x < 16 ∧ y < 16 ∧ Q .non H
structure TxBp (mg : Str → Option Value) : Prop where
  GREATEST_BOARD_PLACE : GInt mg "GREATEST_BOARD_PLACE" 15
section
variable {P : Program} {w : World} {K : PySem.W.Frag} {mg : Str → Option Value} {base : Heap}
theorem ok_checkBP (D : HasDef K mg "check_board_place" s_check_board_place) (T : TxBp mg) : Callee P w K mg base "check_board_place" 1 p_check_board_place spCheckBP := by
  refine D.ok sc_check_board_place (fun _ _ _ _ _ _ us hl => match us, hl with | [_, _], _ => rfl) (fun vs H Q E h => ?_) (fun f cdv A outer s H vs Q E hr h => ?_)
  · obtain ⟨x, y, rfl, _⟩ := h
    rfl
  obtain ⟨x, y, rfl, hx, hy, q⟩ := h
  refine ⟨_, (pss_one (ps_if (PW.pt (pw_or (pt_cmpR op_lt (pv 0) pe_int (nomark _)) (pw_or (pt_cmpR op_gt (pv 0) (pe_globI T.GREATEST_BOARD_PLACE) (nomark _)) (pw_or (pt_cmpR op_lt (pv 1) pe_int (nomark _)) (pw_or1 (pt_cmpR op_gt (pv 1) (pe_globI T.GREATEST_BOARD_PLACE) (nomark _))))))) (pss_one ps_never) pss_nil)), ?_⟩
  rw [show start n_check_board_place [V.int x, V.int y] = [some (V.int x), some (V.int y)] from rfl]
  refine ifS_of (ev_or (ev_test (ev_i0 (ev_var rfl) ev_c)) (fun _ => ev_or (ev_test (ev_i0 (ev_var rfl) ev_c)) (fun _ => ev_or (ev_test (ev_i0 (ev_var rfl) ev_c)) (fun _ => ev_test (ev_i0 (ev_var rfl) ev_c))))) (fun c => ?_) (fun _ => ?_)
  · simp only [Bool.or_eq_true, decide_eq_true_eq] at c
    omega
  · exact q
structure CnBn (P : Program) (w : World) (K : PySem.W.Frag) (mg : Str → Option Value) (base : Heap) : Prop where
  check_rule : Callee P w K mg base "check_rule" 1 p_check_rule (spCheckRule K)
  check_board_place : Callee P w K mg base "check_board_place" 1 p_check_board_place spCheckBP
  number_of : Callee P w K mg base "number_of" 5 p_number_of (spNumberOf K)
  times : Callee P w K mg base "times" 6 p_times spTimes
theorem ok_boardNumber (D : HasDef K mg "board_number" s_board_number) (C : CnBn P w K mg base) : Callee P w K mg base "board_number" 7 p_board_number (spBoardNumber K) := by
  refine D.ok sc_board_number (fun _ _ _ _ _ _ us hl => match us, hl with | [_, _, _, _], _ => rfl) (fun vs H Q E h => ?_) (fun f cdv A outer s H vs Q E hr h => ?_)
  · obtain ⟨px, py, rx, ry, x, y, rfl, _⟩ := h
    rfl
  obtain ⟨px, py, rx, ry, x, y, rfl, hRx, hRy, hgx, hgy, hx, hy, q⟩ := h
  refine ⟨_, (pss_cons (ps_expr (pe_callC C.check_rule hr (by omega) rfl (pa_cons (pv 0) pa_nil)))
    (pss_cons (ps_expr (pe_callC C.check_rule hr (by omega) rfl (pa_cons (pv 1) pa_nil)))
    (pss_cons (ps_expr (pe_callC C.check_board_place hr (by omega) rfl (pa_cons (pv 2) (pa_cons (pv 3) pa_nil))))
    (pss_one (ps_ret (pe_callC C.times hr (by omega) rfl (pa_cons (pe_callC C.number_of hr (by omega) rfl (pa_cons (pv 0) (pa_cons (pv 2) pa_nil))) (pa_cons (pe_callC C.number_of hr (by omega) rfl (pa_cons (pv 1) (pa_cons (pv 3) pa_nil))) pa_nil)))))))), ?_⟩
  rw [show start n_board_number [V.ref px, V.ref py, V.int x, V.int y] = [some (V.ref px), some (V.ref py), some (V.int x), some (V.int y)] from rfl]
  refine ⟨_, rfl, px, rx, rfl, hRx, hgx, _, rfl, py, ry, rfl, hRy, hgy, _, rfl, _, rfl, x, y, rfl, hx, hy, ?_⟩
  have nx : Row.num rx x < 65536 := Nat.lt_trans (Row.num_lt hgx (by omega)) (by decide)
  have ny : Row.num ry y < 65536 := Nat.lt_trans (Row.num_lt hgy (by omega)) (by decide)
  refine ⟨_, rfl, _, rfl, px, rx, x, rfl, hRx, hgx, by omega, fun H1 s1 => ⟨_, rfl, _, rfl, py, ry, y, rfl, s1.tup hRy, hgy, by omega, fun H2 s2 => ⟨_, _, rfl, by omega, by omega, by omega, by omega, ?_⟩⟩⟩
  have e : tI ((Row.num rx x : Nat) : Int) ((Row.num ry y : Nat) : Int) = ((Row.num2 rx ry (x, y) : Nat) : Int) := pI_nat (d := 4) (by decide) (by rw [N4]; exact nx) (by rw [N4]; exact ny)
  rw [e]
  exact q _ (s1.trans s2)
end
noncomputable abbrev s_summed : Stmt := top 18
noncomputable abbrev n_summed : List Str := ["one", "two"]
noncomputable abbrev p_summed : List Str := ["one", "two"]
theorem sc_summed : FnScope n_summed p_summed (defScope s_summed) := ⟨rfl, rfl, rfl, by decide +kernel, rfl, by decide +kernel, by decide +kernel⟩
noncomputable def spSummedN : Sp := fun vs H Q _ => ∃ a b : Nat, vs = [.int (a : Int), .int (b : Int)] ∧ a < 65536 ∧ b < 65536 ∧ Q (.int ((a ^^^ b : Nat) : Int)) H
section
variable {P : Program} {w : World} {K : PySem.W.Frag} {mg : Str → Option Value} {base : Heap}
structure CnCk (P : Program) (w : World) (K : PySem.W.Frag) (mg : Str → Option Value) (base : Heap) : Prop where
  check_number : Callee P w K mg base "check_number" 1 p_check_number spCheck
theorem ok_summedN (D : HasDef K mg "summed" s_summed) (C : CnCk P w K mg base) : Callee P w K mg base "summed" 2 p_summed spSummedN := by
  refine D.ok sc_summed (fun _ _ _ _ _ _ us hl => match us, hl with | [_, _], _ => rfl) (fun vs H Q E h => ?_) (fun f cdv A outer s H vs Q E hr h => ?_)
  · obtain ⟨a, b, rfl, _⟩ := h
    rfl
  obtain ⟨a, b, rfl, ha, hb, q⟩ := h
  refine ⟨_, (pss_cons (ps_expr (pe_callC C.check_number hr (by omega) rfl (pa_cons (pv 0) pa_nil)))
    (pss_cons (ps_expr (pe_callC C.check_number hr (by omega) rfl (pa_cons (pv 1) pa_nil)))
    (pss_one (ps_ret (pe_op op_xor (pv 0) (pv 1)))))), ?_⟩
  rw [show start n_summed [V.int (a : Int), V.int (b : Int)] = [some (V.int (a : Int)), some (V.int (b : Int))] from rfl]
  refine ⟨_, rfl, a, rfl, by omega, by omega, _, rfl, b, rfl, by omega, by omega, ?_⟩
  exact ret_of (ev_xorN (ev_var rfl) (ev_var rfl)) q
end
noncomputable abbrev s_sum_of_numbers : Stmt := top 25
noncomputable abbrev n_sum_of_numbers : List Str := ["rule", "places", "total", "place"]
noncomputable abbrev p_sum_of_numbers : List Str := ["rule", "places"]
theorem sc_sum_of_numbers : FnScope n_sum_of_numbers p_sum_of_numbers (defScope s_sum_of_numbers) := ⟨rfl, rfl, rfl, by decide +kernel, rfl, by decide +kernel, by decide +kernel⟩
noncomputable def spSumOf (K : PySem.W.Frag) : Sp := fun vs H Q _ => ∃ (pr pp : Addr) (r : Row.Rule) (ps : List Nat), vs = [.ref pr, .ref pp] ∧ SqT K H pr (ruleV r) ∧ Row.Good r ∧ SqL K H pp (nl ps) ∧ (∀ a ∈ ps, a < 40) ∧ Q (.int (Row.xs (Row.num r) ps : Int)) H
section
variable {P : Program} {w : World} {K : PySem.W.Frag} {mg : Str → Option Value} {base : Heap}
structure CnSu (P : Program) (w : World) (K : PySem.W.Frag) (mg : Str → Option Value) (base : Heap) : Prop where
  summed : Callee P w K mg base "summed" 2 p_summed spSummedN
  place_number : Callee P w K mg base "place_number" 3 p_place_number (spPlaceN K)
theorem ok_sumOf (D : HasDef K mg "sum_of_numbers" s_sum_of_numbers) (C : CnSu P w K mg base) : Callee P w K mg base "sum_of_numbers" 4 p_sum_of_numbers (spSumOf K) := by
  refine D.ok sc_sum_of_numbers (fun _ _ _ _ _ _ us hl => match us, hl with | [_, _], _ => rfl) (fun vs H Q E h => ?_) (fun f cdv A outer s H vs Q E hr h => ?_)
  · obtain ⟨pr, pp, r, ps, rfl, _⟩ := h
    rfl
  obtain ⟨pr, pp, r, ps, rfl, hR, hg, hp, hlt, q⟩ := h
  refine ⟨_, (pss_cons (ps_set (i := 2) sc_sum_of_numbers.nd rfl (Or.inl rfl) pe_int)
    (pss_cons (ps_for PassesOwn.never rfl (pi_list (pv 1)) (pg_name (i := 3) sc_sum_of_numbers.nd rfl (Or.inl rfl)) (pss_one (ps_set (i := 2) sc_sum_of_numbers.nd rfl (Or.inl rfl) (pe_callC C.summed hr (by omega) rfl (pa_cons (pv 2) (pa_cons (pe_callC C.place_number hr (by omega) rfl (pa_cons (pv 0) (pa_cons (pv 3) pa_nil))) pa_nil))))))
    (pss_one (ps_ret (pv 2))))), ?_⟩
  rw [show start n_sum_of_numbers [V.ref pr, V.ref pp] = [some (V.ref pr), some (V.ref pp), none, none] from rfl]
  refine seq_of (asg_of ev_c ?_)
  dsimp only
  refine seq_of ⟨_, rfl, pp, rfl, ⟨_, hp⟩, ?_⟩
  have h16 : ∀ l : List Nat, (∀ a ∈ l, a < 40) → Row.xs (Row.num r) l < 65536 := fun l hl => Row.xs_lt (k := 16) fun a ha => Nat.lt_trans (Row.num_lt hg (hl a ha)) (by decide)
  refine for_list (xs := nl ps) (fun i σ H' => H' = H ∧ ∃ u, σ = [some (V.ref pr), some (V.ref pp), some (V.int (Row.xs (Row.num r) (ps.take i) : Int)), u]) ⟨rfl, none, rfl⟩ ?_ ?_ ?_
  · rintro i σ H' _ ⟨rfl, _⟩
    exact hp
  · rintro i x σ H' hx ⟨rfl, u, rfl⟩
    obtain ⟨a, e, rfl⟩ := nl_mem hx
    have ha := hlt a (List.mem_of_getElem? e)
    dsimp only [gName]
    have e2 : ps.take (i + 1) = ps.take i ++ [a] := by
      rw [List.take_add_one, e]
      rfl
    refine asg_of (v := .int ((Row.xs (Row.num r) (ps.take i) ^^^ Row.num r a : Nat) : Int)) (ev_call (ev_cons (ev_var rfl) (ev_cons (ev_call (v := .int (Row.num r a : Int)) (ev_cons (ev_var rfl) (ev_cons (ev_var rfl) ev_nil)) (fun Q q => ⟨pr, r, a, rfl, hR, hg, ha, q⟩)) ev_nil)) (fun Q q => ⟨_, _, rfl, h16 _ fun b hb => hlt b (List.mem_of_mem_take hb), Nat.lt_trans (Row.num_lt hg ha) (by decide), q⟩)) ?_
    refine ⟨rfl, some (V.int (a : Int)), ?_⟩
    rw [e2, Row.xs_append]
    simp [Row.xs]
  · rintro σ H' ⟨rfl, u, rfl⟩
    dsimp only
    refine ret_of (ev_var rfl) ?_
    rw [nl_length, List.take_length]
    exact q
end
noncomputable abbrev s_check_board : Stmt := top 15
noncomputable abbrev n_check_board : List Str := ["heads", "ahead", "x", "y"]
noncomputable abbrev p_check_board : List Str := ["heads"]
theorem sc_check_board : FnScope n_check_board p_check_board (defScope s_check_board) := ⟨rfl, rfl, rfl, by decide +kernel, rfl, by decide +kernel, by decide +kernel⟩
noncomputable def spCheckBoard (K : PySem.W.Frag) : Sp := fun vs H Q _ => ∃ (ph : Addr) (ps : List (Nat × Nat)) (rs : List Addr), vs = [.ref ph] ∧ SqL K H ph (rs.map V.ref) ∧ BL K H ps rs ∧ Row.IsBoard ps ∧ ∀ H', Same H H' → Q .non H'
section
variable {P : Program} {w : World} {K : PySem.W.Frag} {mg : Str → Option Value} {base : Heap}
structure CnCb (P : Program) (w : World) (K : PySem.W.Frag) (mg : Str → Option Value) (base : Heap) : Prop where
  check_board_place : Callee P w K mg base "check_board_place" 1 p_check_board_place spCheckBP
theorem ok_checkBoard (D : HasDef K mg "check_board" s_check_board) (C : CnCb P w K mg base) : Callee P w K mg base "check_board" 2 p_check_board (spCheckBoard K) := by
  refine D.ok sc_check_board (fun _ _ _ _ _ _ us hl => match us, hl with | [_], _ => rfl) (fun vs H Q E h => ?_) (fun f cdv A outer s H vs Q E hr h => ?_)
  · obtain ⟨ph, ps, rs, rfl, _⟩ := h
    rfl
  obtain ⟨ph, ps, rs, rfl, hH, hB, hb, q⟩ := h
  refine ⟨_, (pss_cons (ps_set (i := 1) sc_check_board.nd rfl (Or.inl rfl) (pe_tup (pa_cons (pe_un un_neg pe_int) (pa_cons (pe_un un_neg pe_int) pa_nil))))
    (pss_one (ps_for PassesOwn.never rfl (pi_list (pv 0)) (pg_tup rfl (pgs_cons (pg_name (i := 2) sc_check_board.nd rfl (Or.inl rfl)) (pgs_cons (pg_name (i := 3) sc_check_board.nd rfl (Or.inl rfl)) pgs_nil))) (pss_cons (ps_expr (pe_callC C.check_board_place hr (by omega) rfl (pa_cons (pv 2) (pa_cons (pv 3) pa_nil))))
    (pss_cons (ps_if (pt_cmpR (op_leT (Nat.lt_of_succ_lt (hu_of hr))) (pe_tup (pa_cons (pv 2) (pa_cons (pv 3) pa_nil))) (pv 1) (nomark _)) (pss_one ps_never) pss_nil)
    (pss_one (ps_set (i := 1) sc_check_board.nd rfl (Or.inl rfl) (pe_tup (pa_cons (pv 2) (pa_cons (pv 3) pa_nil)))))))))), ?_⟩
  rw [show start n_check_board [V.ref ph] = [some (V.ref ph), none, none, none] from rfl]
  have two : ∀ a b : V, ([a, b] : List V).length ≤ sizeLine := fun a b => by show 2 ≤ sizeLine; decide
  refine seq_of (asgO_of (tup_of (ev_cons (ev_u ev_c) (ev_cons (ev_u ev_c) ev_nil)) (two _ _) fun t0 ht0 => ?_))
  dsimp only
  refine ⟨_, rfl, ph, rfl, ⟨_, (same_new ht0 _).seq hH⟩, ?_⟩
  refine for_list (xs := rs.map V.ref) (fun i σ H' => Same H H' ∧ ∃ (t : Addr) (a b : Int) (u v : Option V), SqT K H' t [.int a, .int b] ∧ (∀ p : Nat × Nat, ps[i]? = some p → HT.lexLe [(p.1 : Int), (p.2 : Int)] [a, b] = false) ∧ σ = [some (V.ref ph), some (V.ref t), u, v])
    ⟨same_new ht0 _, t0, -1, -1, none, none, .inl (.inl upd_same), fun p _ => ?_, rfl⟩ ?_ ?_ ?_
  · simp only [HT.lexLe]
    rw [if_neg (by omega), decide_eq_false (by omega)]
  · rintro i σ H' _ ⟨sm, _⟩
    exact sm.seq hH
  · rintro i x σ H' hx ⟨sm, t, a, b, u, v, hs, hnx, rfl⟩
    obtain ⟨p, r, hp, hr', rfl, hF⟩ := at_refs2 (hB.same sm) hx
    have lp := hb.lt p (List.mem_of_getElem? hp)
    refine ⟨r, _, rfl, hF, rfl, _, _, rfl, _, _, rfl, rfl, ?_⟩
    dsimp only [gName]
    refine seq_of ⟨_, rfl, _, rfl, p.1, p.2, rfl, lp.1, lp.2, ?_⟩
    dsimp only
    refine seq_of (ifO_of (opO_of (tup_of (ev_cons (ev_var rfl) (ev_cons (ev_var rfl) ev_nil)) (two _ _) fun t1 ht1 => ⟨_, rfl, t1, t, [(p.1 : Int), (p.2 : Int)], [a, b], rfl, rfl, .inl (.inl upd_same), (same_new ht1 _).tup hs, _, rfl, ?_⟩)))
    rw [hnx p hp, if_neg (by decide)]
    refine next_of (asgO_of (tup_of (ev_cons (ev_var rfl) (ev_cons (ev_var rfl) ev_nil)) (two _ _) fun t2 ht2 => ?_))
    refine ⟨(sm.new ht1).new ht2, t2, _, _, some (V.int (p.1 : Int)), some (V.int (p.2 : Int)), .inl (.inl upd_same), fun p' hp' => lexLe_plt ?_, rfl⟩
    obtain ⟨h1, e1⟩ := List.getElem?_eq_some_iff.mp hp
    obtain ⟨h2, e2⟩ := List.getElem?_eq_some_iff.mp hp'
    have := List.pairwise_iff_getElem.mp hb.sorted i (i + 1) h1 h2 (by omega)
    rw [e1, e2] at this
    exact this
  · rintro σ H' ⟨sm, _⟩
    exact q _ sm
end
noncomputable abbrev s_board_value : Stmt := top 32
noncomputable abbrev n_board_value : List Str := ["rule_x", "rule_y", "heads", "total", "x", "y"]
noncomputable abbrev p_board_value : List Str := ["rule_x", "rule_y", "heads"]
theorem sc_board_value : FnScope n_board_value p_board_value (defScope s_board_value) := ⟨rfl, rfl, rfl, by decide +kernel, rfl, by decide +kernel, by decide +kernel⟩
section
variable {P : Program} {w : World} {K : PySem.W.Frag} {mg : Str → Option Value} {base : Heap}
structure CnBv (P : Program) (w : World) (K : PySem.W.Frag) (mg : Str → Option Value) (base : Heap) : Prop where
  check_rule : Callee P w K mg base "check_rule" 1 p_check_rule (spCheckRule K)
  check_board : Callee P w K mg base "check_board" 2 p_check_board (spCheckBoard K)
  summed : Callee P w K mg base "summed" 2 p_summed spSummedN
  board_number : Callee P w K mg base "board_number" 7 p_board_number (spBoardNumber K)
theorem ok_boardValue (D : HasDef K mg "board_value" s_board_value) (C : CnBv P w K mg base) : Callee P w K mg base "board_value" 8 p_board_value (spBoardValue K) := by
  refine D.ok sc_board_value (fun _ _ _ _ _ _ us hl => match us, hl with | [_, _, _], _ => rfl) (fun vs H Q E h => ?_) (fun f cdv A outer s H vs Q E hr h => ?_)
  · obtain ⟨px, py, ph, rx, ry, ps, rs, rfl, _⟩ := h
    rfl
  obtain ⟨px, py, ph, rx, ry, ps, rs, rfl, hRx, hRy, hgx, hgy, hH, hB, hb, q⟩ := h
  refine ⟨_, (pss_cons (ps_expr (pe_callC C.check_rule hr (by omega) rfl (pa_cons (pv 0) pa_nil)))
    (pss_cons (ps_expr (pe_callC C.check_rule hr (by omega) rfl (pa_cons (pv 1) pa_nil)))
    (pss_cons (ps_expr (pe_callC C.check_board hr (by omega) rfl (pa_cons (pv 2) pa_nil)))
    (pss_cons (ps_set (i := 3) sc_board_value.nd rfl (Or.inl rfl) pe_int)
    (pss_cons (ps_for PassesOwn.never rfl (pi_list (pv 2)) (pg_tup rfl (pgs_cons (pg_name (i := 4) sc_board_value.nd rfl (Or.inl rfl)) (pgs_cons (pg_name (i := 5) sc_board_value.nd rfl (Or.inl rfl)) pgs_nil))) (pss_one (ps_set (i := 3) sc_board_value.nd rfl (Or.inl rfl) (pe_callC C.summed hr (by omega) rfl (pa_cons (pv 3) (pa_cons (pe_callC C.board_number hr (by omega) rfl (pa_cons (pv 0) (pa_cons (pv 1) (pa_cons (pv 4) (pa_cons (pv 5) pa_nil))))) pa_nil))))))
    (pss_one (ps_ret (pv 3)))))))), ?_⟩
  rw [show start n_board_value [V.ref px, V.ref py, V.ref ph] = [some (V.ref px), some (V.ref py), some (V.ref ph), none, none, none] from rfl]
  refine ⟨_, rfl, px, rx, rfl, hRx, hgx, _, rfl, py, ry, rfl, hRy, hgy, _, rfl, ph, ps, rs, rfl, hH, hB, hb, fun H0 s0 => ?_⟩
  dsimp only
  refine seq_of (asg_of ev_c ?_)
  dsimp only
  refine seq_of ⟨_, rfl, ph, rfl, ⟨_, s0.seq hH⟩, ?_⟩
  have h16 : ∀ l : List (Nat × Nat), (∀ p ∈ l, p.1 < 16 ∧ p.2 < 16) → Row.xs (Row.num2 rx ry) l < 65536 := fun l hl => Row.xs_lt (k := 16) fun p hp => Row.num2_lt (Row.n16 hgx (hl p hp).1) (Row.n16 hgy (hl p hp).2)
  refine for_list (xs := rs.map V.ref) (fun i σ H' => Same H H' ∧ ∃ u v, σ = [some (V.ref px), some (V.ref py), some (V.ref ph), some (V.int ((Row.xs (Row.num2 rx ry) (ps.take i) : Nat) : Int)), u, v]) ⟨s0, none, none, rfl⟩ ?_ ?_ ?_
  · rintro i σ H' _ ⟨sm, _⟩
    exact sm.seq hH
  · rintro i x σ H' hx ⟨sm, u, v, rfl⟩
    obtain ⟨p, r, hp, hr', rfl, hF⟩ := at_refs2 (hB.same sm) hx
    have lp := hb.lt p (List.mem_of_getElem? hp)
    refine ⟨r, _, rfl, hF, rfl, _, _, rfl, _, _, rfl, rfl, ?_⟩
    dsimp only [gName]
    refine ⟨_, rfl, _, rfl, _, rfl, _, rfl, _, rfl, px, py, rx, ry, p.1, p.2, rfl, sm.tup hRx, sm.tup hRy, hgx, hgy, lp.1, lp.2, fun H2 s2 => ⟨_, _, rfl, h16 _ fun b hb' => hb.lt b (List.mem_of_mem_take hb'), Row.num2_lt (Row.n16 hgx lp.1) (Row.n16 hgy lp.2), sm.trans s2, some (V.int (p.1 : Int)), some (V.int (p.2 : Int)), ?_⟩⟩
    have e2 : ps.take (i + 1) = ps.take i ++ [p] := by
      rw [List.take_add_one, hp]
      rfl
    rw [e2, Row.xs_append]
    simp [Row.xs]
  · rintro σ H' ⟨sm, u, v, rfl⟩
    dsimp only
    refine ret_of (ev_var rfl) ?_
    rw [List.length_map, ← hB.length, List.take_length]
    exact q _ sm
end
noncomputable abbrev s_choices : Stmt := top 24
noncomputable abbrev n_choices : List Str := ["start", "end", "count", "found", "first"]
noncomputable abbrev p_choices : List Str := ["start", "end", "count"]
theorem sc_choices : FnScope n_choices p_choices (defScope s_choices) := ⟨rfl, rfl, rfl, by decide +kernel, rfl, by decide +kernel, by decide +kernel⟩
noncomputable abbrev s_turns_ending : Stmt := top 23
noncomputable abbrev n_turns_ending : List Str := ["rule", "place", "k", "shortest", "found", "length"]
noncomputable abbrev p_turns_ending : List Str := ["rule", "place"]
theorem sc_turns_ending : FnScope n_turns_ending p_turns_ending (defScope s_turns_ending) := ⟨rfl, rfl, rfl, by decide +kernel, rfl, by decide +kernel, by decide +kernel⟩
noncomputable def spChoices (n : Nat) : Sp := fun vs H Q _ => ∃ s e c : Nat, vs = [.int (s : Int), .int (e : Int), .int (c : Int)] ∧ s ≤ 41 ∧ e ≤ 40 ∧ c < n ∧ c ≤ 2 ∧
  ∀ H' p rs, Same H H' → H p = none → H' p = some (.lst (rs.map V.ref)) → RL H H' (Row.chs e c s) rs → rs.Nodup → Q (.ref p) H'
noncomputable def spEnds (K : PySem.W.Frag) : Sp := fun vs H Q _ => ∃ (pr : Addr) (r : Row.Rule) (n : Nat), vs = [.ref pr, .int (n : Int)] ∧ SqT K H pr (ruleV r) ∧ Row.Good r ∧ n < 40 ∧
  ∀ H' p rs, Same H H' → H p = none → H' p = some (.lst (rs.map V.ref)) → RL H H' (Row.shapes r n) rs → rs.Nodup → Q (.ref p) H'
structure TxEn (mg : Str → Option Value) : Prop where
  n_range : mg "range" = none
  n_list : mg "list" = none
  n_min : mg "min" = none
section
variable {P : Program} {w : World} {K : PySem.W.Frag} {mg : Str → Option Value} {base : Heap}
structure CChs (P : Program) (w : World) (K : PySem.W.Frag) (mg : Str → Option Value) (base : Heap) (k n : Nat) : Prop where
  choices : Callee P w K mg base "choices" k p_choices (spChoices n)
theorem ok_choices {k : Nat} (D : HasDef K mg "choices" s_choices) (T : TxEn mg) (C : CChs P w K mg base k k) : Callee P w K mg base "choices" (k + 1) p_choices (spChoices (k + 1)) := by
  refine D.ok sc_choices (fun _ _ _ _ _ _ us hl => match us, hl with | [_, _, _], _ => rfl) (fun vs H Q E h => ?_) (fun f cdv A outer s H vs Q E hr h => ?_)
  · obtain ⟨s, e, c, rfl, _⟩ := h
    rfl
  obtain ⟨s0, e, c, rfl, hs, he, hc, hc2, q⟩ := h
  refine ⟨_, (pss_cons (ps_if (pt_cmpR op_eq (pv 2) pe_int (nomark _)) (pss_one (ps_ret (pe_lst (pa_cons (pe_lst pa_nil) pa_nil)))) pss_nil)
    (pss_cons (ps_set (i := 3) sc_choices.nd rfl (Or.inl rfl) (pe_lst pa_nil))
    (pss_cons (ps_for PassesOwn.never rfl (pi_range2 rfl T.n_range (pa_cons (pv 0) (pa_cons (pv 1) pa_nil))) (pg_name (i := 4) sc_choices.nd rfl (Or.inr rfl)) (pss_one (ps_expr (pe_bm PySem.F.plainAttrs_list PySem.F.slot_list_extend PySem.F.type_list_extend mt_extend (pv 3) (pa_cons (pe_comp (Block.of (out := defScope s_choices) (N := n_choices) (x := "rest") (frees := ["first"]) (ix := [4]) (by decide +kernel)) rfl (pi_list (pe_callC C.choices hr (by omega) rfl (pa_cons (pe_op op_add (pv 4) pe_int) (pa_cons (pv 1) (pa_cons (pe_op op_sub (pv 2) pe_int) pa_nil))))) (fun _ _ _ _ => pts_nil) (fun _ _ _ _ => (pe_op op_cat (pe_lst (pa_cons (pv 1) pa_nil)) (pv 0)))) pa_nil)))))
    (pss_one (ps_ret (pv 3)))))), ?_⟩
  rw [show start n_choices [V.int s0, V.int e, V.int c] = [some (V.int s0), some (V.int e), some (V.int c), none, none] from rfl]
  have hsz : ∀ {n : Nat}, n ≤ 100000 → n < sizeLine := fun h => Nat.lt_of_le_of_lt h (by decide)
  refine seq_of (ifS_of (ev_test (ev_eqI (ev_var rfl) ev_c)) (fun c0 => ?_) (fun c0 => next_of ?_))
  · have c0 : (c : Int) = 0 := of_decide_eq_true c0
    have c1 : c = 0 := by omega
    subst c1
    refine ⟨by decide, fun p hp => ⟨by show 1 ≤ sizeLine; decide, fun p2 hp2 => ?_⟩⟩
    have pp : p ≠ p2 := ne_of_none upd_same hp2
    refine q _ p2 [p] ((same_new hp _).trans (same_new hp2 _)) ((same_new hp _).free hp2) upd_same (.cons ⟨?_, hp⟩ .nil) (by simp)
    rw [upd_ne pp, upd_same]
    rfl
  have c0 : ¬ (c : Int) = 0 := of_decide_eq_false c0
  obtain ⟨d, rfl⟩ : ∃ d, c = d + 1 := ⟨c - 1, by omega⟩
  refine seq_of ⟨by decide, fun p hp => ?_⟩
  dsimp only [gName]
  refine seq_of (rng2_of (ev_cons (ev_var rfl) (ev_cons (ev_var rfl) ev_nil)) (by omega) (by omega) (by omega) (by omega) ?_)
  have hlen : ∀ i, i ≤ 40 → ((List.range' s0 i).flatMap fun f => (Row.chs e d (f + 1)).map fun rest => f :: rest).length ≤ 64000 := fun i hi => by
    refine Nat.le_trans (Row.flat_len (m := 1600) fun a _ => ?_) ?_
    · rw [List.length_map]
      refine Nat.le_trans (Row.chs_len he d _) ?_
      rcases (by omega : d = 0 ∨ d = 1) with rfl | rfl <;> decide
    · rw [List.length_range']
      omega
  refine for_range (fun i σ H' => ∃ rs u, Same H H' ∧ H' p = some (.lst (rs.map V.ref)) ∧ RL H H' ((List.range' s0 i).flatMap fun f => (Row.chs e d (f + 1)).map fun rest => f :: rest) rs ∧ rs.Nodup ∧
    σ = [some (V.int (s0 : Int)), some (V.int (e : Int)), some (V.int ((d + 1 : Nat) : Int)), some (V.ref p), u]) ⟨[], none, same_new hp _, upd_same, .nil, List.nodup_nil, rfl⟩ ?_ ?_
  · rintro i σ H' hi ⟨rs, u, sm, hl, hr', nd, rfl⟩
    dsimp only [gName]
    refine ⟨_, rfl, .inl ⟨rfl, _, .of hl⟩, ?_⟩
    have li : i < 40 := by omega
    refine comp_rows (K := K) (xss := Row.chs e d (s0 + i + 1)) (fun rest => (s0 + i) :: rest) (fun H1 la rs0 => Same H' H1 ∧ H1 la = some (.lst (rs0.map V.ref)) ∧ RL H' H1 (Row.chs e d (s0 + i + 1)) rs0) (fun R rr => ?_) (fun H1 la rs0 h => h) (hsz ?_) (fun x r H1 R hx s1 hx1 rr => ?_) (fun acc rs' H2 hacc s2 hacc2 hr2 nd2 => ?_)
    · refine iList_of (call_of (ev_cons (ev_i0 (ev_var rfl) ev_c) (ev_cons (ev_var rfl) (ev_cons (ev_i0 (ev_var rfl) ev_c) ev_nil))) ⟨s0 + i + 1, e, d, by simp, by omega, he, by omega, by omega, fun H1 la rs0 s1 hla hla2 hr1 _ => ⟨la, rfl, ⟨_, .of hla2⟩, rr _ _ _ ⟨s1, hla2, hr1⟩⟩⟩)
    · refine Nat.le_trans (Row.chs_len he d _) ?_
      rcases (by omega : d = 0 ∨ d = 1) with rfl | rfl <;> decide
    · refine ⟨_, rfl, by show 1 ≤ sizeLine; decide, fun p1 hp1 => ⟨_, rfl, p1, r, _, _, rfl, rfl, upd_same, by rw [upd_ne (ne_of_none hx1 hp1)]; exact hx1, ?_, fun p2 hp2 => ?_⟩⟩
      · have := Row.chs_mem_len hx
        rw [nl_length, this]
        exact Nat.le_trans (show 1 + d ≤ 10 by omega) (by decide)
      · refine rr p2 _ ((same_new hp1 _).trans (same_new hp2 _)) ((same_new hp1 _).free hp2) ?_
        rw [upd_same]
        unfold nl
        simp
    · have lr := hr'.length
      have lr2 := hr2.length
      have l1 := hlen i (by omega)
      have l2 : ((Row.chs e d (s0 + i + 1)).map fun rest => (s0 + i) :: rest).length ≤ 1600 := by
        rw [List.length_map]
        refine Nat.le_trans (Row.chs_len he d _) ?_
        rcases (by omega : d = 0 ∨ d = 1) with rfl | rfl <;> decide
      refine ⟨p, acc, _, _, rfl, rfl, s2 _ _ hl, hacc2, ?_, rs ++ rs', _, (sm.trans s2).upd hp, by rw [upd_same, List.map_append], ?_, nodup_behind hr' hr2 nd nd2, rfl⟩
      · rw [List.length_map, List.length_map]
        exact Nat.le_of_lt (hsz (by omega))
      · rw [List.range'_1_concat, List.flatMap_append, List.flatMap_singleton]
        have a1 : p ∉ rs := hr'.apart hl
        have a2 : p ∉ rs' := fun hm => by
          obtain ⟨_, _, _, e2⟩ := paired_mem hr2 hm
          rw [hl] at e2
          cases e2
        exact RL.app (RL.set (hr'.same s2) a1) (RL.set (hr2.base sm) a2)
  · rintro σ H' ⟨rs, u, sm, hl, hr', nd, rfl⟩
    dsimp only
    refine ret_of (ev_var rfl) ?_
    rw [show ((e : Int) - (s0 : Int)).toNat = e - s0 by omega] at hr'
    exact q _ p rs sm hp hl hr' nd
theorem chs0 (D : HasDef K mg "choices" s_choices) : Callee P w K mg base "choices" 0 p_choices (spChoices 0) := by
  obtain ⟨f, fd, F, hm⟩ := D.ex
  have no : ∀ vs H Q E, ¬ spChoices 0 vs H Q E := fun vs H Q E h => by
    obtain ⟨a, b, d, _, _, _, h2, _⟩ := h
    omega
  exact ⟨f, fd, hm, F.kp, F.binds fun _ _ _ _ _ _ us hl => match us, hl with | [_, _, _], _ => rfl, ⟨fun vs H Q E h => absurd h (no vs H Q E), fun A outer s H args us vs Q E _ _ _ _ h => absurd h (no vs H Q E)⟩⟩
theorem chsN (D : HasDef K mg "choices" s_choices) (T : TxEn mg) : ∀ k, Callee P w K mg base "choices" k p_choices (spChoices k)
  | 0 => chs0 D
  | k + 1 => ok_choices D T ⟨chsN D T k⟩
structure CnEn (P : Program) (w : World) (K : PySem.W.Frag) (mg : Str → Option Value) (base : Heap) : Prop where
  choices : Callee P w K mg base "choices" 3 p_choices (spChoices 3)
theorem ok_ends (D : HasDef K mg "turns_ending" s_turns_ending) (T : TxEn mg) (C : CnEn P w K mg base) : Callee P w K mg base "turns_ending" 5 p_turns_ending (spEnds K) := by
  refine D.ok sc_turns_ending (fun _ _ _ _ _ _ us hl => match us, hl with | [_, _], _ => rfl) (fun vs H Q E h => ?_) (fun f cdv A outer s H vs Q E hr h => ?_)
  · obtain ⟨pr, r, n, rfl, _⟩ := h
    rfl
  obtain ⟨pr, r, n, rfl, hR, hg, hn, q⟩ := h
  rw [← Row.endsAt_eq hg] at q
  have k40 : 1 ≤ r.2 ∧ r.2 ≤ 40 := by rcases hg with ⟨_, _, h⟩ | ⟨_, _, h⟩ <;> omega
  have r2 : r.1 ≤ 2 := by rcases hg with ⟨h, _⟩ | ⟨h, _⟩ <;> omega
  have hsz : ∀ {n : Nat}, n ≤ 100000 → n < sizeLine := fun h => Nat.lt_of_le_of_lt h (by decide)
  refine ⟨_, (pss_cons (ps_set (i := 2) sc_turns_ending.nd rfl (Or.inl rfl) (pe_ix ix_tup (pv 0) pe_int (fun _ _ => rfl)))
    (pss_cons (ps_if (pt_cmpR op_eq (pe_ix ix_tup (pv 0) pe_int (fun _ _ => rfl)) pe_str (nomark _)) (pss_one (ps_ret (pe_comp (Block.of (out := defScope s_turns_ending) (N := n_turns_ending) (x := "more") (frees := ["place"]) (ix := [1]) (by decide +kernel)) rfl (pi_range1 rfl T.n_range (pa_cons (pe_callB (call_min2 rfl) rfl T.n_min bt_min (pa_cons (pv 2) (pa_cons (pe_op op_add (pv 1) pe_int) pa_nil))) pa_nil)) (fun _ _ _ _ => pts_nil) (fun _ _ _ _ => (pe_callTy (call_list_rng rfl) rfl T.n_list bt_list (pa_cons (pe_callTy call_rng2 rfl T.n_range PyProof.Rows.boot_range (pa_cons (pe_op op_sub (pv 1) (pv 0)) (pa_cons (pe_op op_add (pv 1) pe_int) pa_nil))) pa_nil)))))) pss_nil)
    (pss_cons (ps_set (i := 3) sc_turns_ending.nd rfl (Or.inl rfl) (pe_ifExp (pt_cmpR op_eq (pe_ix ix_tup (pv 0) pe_int (fun _ _ => rfl)) pe_str (nomark _)) (pv 2) pe_int))
    (pss_cons (ps_set (i := 4) sc_turns_ending.nd rfl (Or.inl rfl) (pe_lst pa_nil))
    (pss_cons (ps_for PassesOwn.never rfl (pi_range2 rfl T.n_range (pa_cons (pv 3) (pa_cons (pe_op op_add (pv 2) pe_int) pa_nil))) (pg_name (i := 5) sc_turns_ending.nd rfl (Or.inl rfl)) (pss_one (ps_expr (pe_bm PySem.F.plainAttrs_list PySem.F.slot_list_extend PySem.F.type_list_extend mt_extend (pv 4) (pa_cons (pe_comp (Block.of (out := defScope s_turns_ending) (N := n_turns_ending) (x := "lesser") (frees := ["place"]) (ix := [1]) (by decide +kernel)) rfl (pi_list (pe_callC C.choices hr (by omega) rfl (pa_cons pe_int (pa_cons (pv 1) (pa_cons (pe_op op_sub (pv 5) pe_int) pa_nil))))) (fun _ _ _ _ => pts_nil) (fun _ _ _ _ => (pe_op op_cat (pv 0) (pe_lst (pa_cons (pv 1) pa_nil))))) pa_nil)))))
    (pss_one (ps_ret (pv 4)))))))), ?_⟩
  rw [show start n_turns_ending [V.ref pr, V.int n] = [some (V.ref pr), some (V.int n), none, none, none, none] from rfl]
  refine seq_of (asg_of (ev_rule1 rfl hR) ?_)
  dsimp only
  refine seq_of (ifS_of (ev_test (ev_isRun rfl hR r2)) (fun c => ?_) (fun c1 => next_of ?_))
  · have c := of_decide_eq_true c
    have e : Row.endsAt r n = Row.endRun r.2 n := by unfold Row.endsAt; rw [if_pos c]
    rw [e] at q
    refine retO_of (comp_range_rows (lo := 0) (n := min r.2 (n + 1)) (fun more => List.range' (n - more) (more + 1)) (fun R rr => ?_) (hsz (by omega)) (fun i H' R hi s1 rr => ?_) (fun acc rs H2 ha s2 ha2 hr2 nd => ?_))
    · refine rng1_of (ev_cons (ev_min2 (ev_cons (ev_var rfl) (ev_cons (ev_i0 (ev_var rfl) ev_c) ev_nil))) ev_nil) (by split <;> omega) (by split <;> omega) ?_
      rw [show (if ((n : Int) + 1) < (r.2 : Int) then ((n : Int) + 1) else (r.2 : Int)).toNat = min r.2 (n + 1) by split <;> omega]
      exact rr
    · have hi' : i ≤ n := by omega
      refine cb1_of (cb_of (ev_cons (ev_i0 (ev_var rfl) (ev_var rfl)) (ev_cons (ev_i0 (ev_var rfl) ev_c) ev_nil)) ⟨_, _, rfl, fun p1 hp1 => ?_⟩)
      refine ⟨p1, _, _, rfl, upd_same, by omega, by omega, by omega, by omega, by omega, fun p2 hp2 => ?_⟩
      refine rr p2 _ ((same_new hp1 _).trans (same_new hp2 _)) ((same_new hp1 _).free hp2) ?_
      rw [upd_same, show ((n : Int) + 1 - ((n : Int) - (0 + (i : Int)))).toNat = i + 1 by omega, List.range'_eq_map_range]
      unfold nl
      rw [List.map_map]
      congr 2
      refine List.map_congr_left fun k _ => ?_
      simp only [Function.comp_apply]
      congr 1
      omega
    · exact q _ acc rs s2 ha ha2 hr2 nd
  have c1 := of_decide_eq_false c1
  have k3 : r.2 ≤ 3 := by rcases hg with ⟨_, _, h⟩ | ⟨h, _⟩ <;> omega
  dsimp only
  obtain ⟨lo, hlo, h1, h2⟩ : ∃ lo, (if r.1 = 1 then r.2 else 1) = lo ∧ 1 ≤ lo ∧ lo ≤ r.2 := ⟨_, rfl, by split <;> omega, by split <;> omega⟩
  have e : Row.endsAt r n = Row.endFew lo r.2 n := by unfold Row.endsAt; rw [if_neg c1, hlo]
  rw [e] at q
  refine seq_of (asg_of (v := .int (lo : Int)) (fun Q q => ?_) ?_)
  · refine (ev_test (ev_isJust rfl hR r2)) _ ?_
    by_cases c : r.1 = 1
    · rw [if_pos c] at hlo
      rw [decide_eq_true c, if_pos rfl, ← hlo] at *
      exact ev_var rfl _ q
    · rw [if_neg c] at hlo
      rw [decide_eq_false c, if_neg (by decide)]
      rw [← hlo] at q
      exact q
  dsimp only
  refine seq_of ⟨by decide, fun p hp => ?_⟩
  dsimp only [gName]
  refine seq_of (rng2_of (ev_cons (ev_var rfl) (ev_cons (ev_i0 (ev_var rfl) ev_c) ev_nil)) (by omega) (by omega) (by omega) (by omega) ?_)
  have hlen : ∀ i, lo + i ≤ 4 → ((List.range' lo i).flatMap fun len => (Row.chs n (len - 1) 0).map fun l => l ++ [n]).length ≤ 6000 := fun i hi => by
    refine Nat.le_trans (Row.flat_len (m := 1600) fun a ha => ?_) ?_
    · rw [List.mem_range'_1] at ha
      rw [List.length_map]
      refine Nat.le_trans (Row.chs_len (by omega) _ _) ?_
      rcases (by omega : a - 1 = 0 ∨ a - 1 = 1 ∨ a - 1 = 2) with h | h | h <;> rw [h] <;> decide
    · rw [List.length_range']
      omega
  refine for_range (fun i σ H' => ∃ rs u, Same H H' ∧ H' p = some (.lst (rs.map V.ref)) ∧ RL H H' ((List.range' lo i).flatMap fun len => (Row.chs n (len - 1) 0).map fun l => l ++ [n]) rs ∧ rs.Nodup ∧
    σ = [some (V.ref pr), some (V.int (n : Int)), some (V.int (r.2 : Int)), some (V.int (lo : Int)), some (V.ref p), u]) ⟨[], none, same_new hp _, upd_same, .nil, List.nodup_nil, rfl⟩ ?_ ?_
  · rintro i σ H' hi ⟨rs, u, sm, hl, hr', nd, rfl⟩
    dsimp only [gName]
    refine ⟨_, rfl, .inl ⟨rfl, _, .of hl⟩, ?_⟩
    obtain ⟨d, hd⟩ : ∃ d, lo + i = d + 1 := ⟨lo + i - 1, by omega⟩
    have d2 : d ≤ 2 := by omega
    have cl : (Row.chs n d 0).length ≤ 1600 := by
      refine Nat.le_trans (Row.chs_len (by omega) _ _) ?_
      rcases (by omega : d = 0 ∨ d = 1 ∨ d = 2) with h | h | h <;> rw [h] <;> decide
    refine comp_rows (K := K) (xss := Row.chs n d 0) (fun l => l ++ [n]) (fun H1 la rs0 => Same H' H1 ∧ H1 la = some (.lst (rs0.map V.ref)) ∧ RL H' H1 (Row.chs n d 0) rs0) (fun R rr => ?_) (fun H1 la rs0 h => h) (hsz (by omega)) (fun x r' H1 R hx s1 hx1 rr => ?_) (fun acc rs' H2 hacc s2 hacc2 hr2 nd2 => ?_)
    · exact iList_of (call_of (ev_cons ev_c (ev_cons (ev_var rfl) (ev_cons (ev_i0 (ev_var rfl) ev_c) ev_nil))) ⟨0, n, d, by simp; omega, by omega, by omega, by omega, by omega, fun H1 la rs0 s1 hla hla2 hr1 _ => ⟨la, rfl, ⟨_, .of hla2⟩, rr _ _ _ ⟨s1, hla2, hr1⟩⟩⟩)
    · refine ⟨_, rfl, _, rfl, by show 1 ≤ sizeLine; decide, fun p1 hp1 => ⟨r', p1, _, _, rfl, rfl, by rw [upd_ne (ne_of_none hx1 hp1)]; exact hx1, upd_same, ?_, fun p2 hp2 => ?_⟩⟩
      · have := Row.chs_mem_len hx
        rw [nl_length, this]
        exact Nat.le_trans (show d + 1 ≤ 10 by omega) (by decide)
      · refine rr p2 _ ((same_new hp1 _).trans (same_new hp2 _)) ((same_new hp1 _).free hp2) ?_
        rw [upd_same, nl_append]
        rfl
    · have lr := hr'.length
      have lr2 := hr2.length
      have l1 := hlen i (by omega)
      rw [List.length_map] at lr2
      refine ⟨p, acc, _, _, rfl, rfl, s2 _ _ hl, hacc2, ?_, rs ++ rs', _, (sm.trans s2).upd hp, by rw [upd_same, List.map_append], ?_, nodup_behind hr' hr2 nd nd2, rfl⟩
      · rw [List.length_map, List.length_map]
        exact Nat.le_of_lt (hsz (by omega))
      · rw [List.range'_1_concat, List.flatMap_append, List.flatMap_singleton, show lo + i - 1 = d by omega]
        have a1 : p ∉ rs := hr'.apart hl
        have a2 : p ∉ rs' := fun hm => by
          obtain ⟨_, _, _, e2⟩ := paired_mem hr2 hm
          rw [hl] at e2
          cases e2
        exact RL.app (RL.set (hr'.same s2) a1) (RL.set (hr2.base sm) a2)
  · rintro σ H' ⟨rs, u, sm, hl, hr', nd, rfl⟩
    dsimp only
    refine ret_of (ev_var rfl) ?_
    rw [show ((r.2 : Int) + 1 - (lo : Int)).toNat = r.2 + 1 - lo by omega] at hr'
    exact q _ p rs sm hp hl hr' nd
end
noncomputable abbrev s_kept_product : Stmt := top 36
noncomputable abbrev n_kept_product : List Str := ["products", "one", "two"]
noncomputable abbrev p_kept_product : List Str := ["products", "one", "two"]
theorem sc_kept_product : FnScope n_kept_product p_kept_product (defScope s_kept_product) := ⟨rfl, rfl, rfl, by decide +kernel, rfl, by decide +kernel, by decide +kernel⟩
noncomputable abbrev s_turns_with_sums : Stmt := top 34
noncomputable abbrev n_turns_with_sums : List Str := ["rule", "place"]
noncomputable abbrev p_turns_with_sums : List Str := ["rule", "place"]
theorem sc_turns_with_sums : FnScope n_turns_with_sums p_turns_with_sums (defScope s_turns_with_sums) := ⟨rfl, rfl, rfl, by decide +kernel, rfl, by decide +kernel, by decide +kernel⟩
noncomputable abbrev s_first_adding : Stmt := top 35
noncomputable abbrev n_first_adding : List Str := ["goal", "x_turns", "y_turns", "products", "xs", "x_sum", "ys", "y_sum"]
noncomputable abbrev p_first_adding : List Str := ["goal", "x_turns", "y_turns", "products"]
theorem sc_first_adding : FnScope n_first_adding p_first_adding (defScope s_first_adding) := ⟨rfl, rfl, rfl, by decide +kernel, rfl, by decide +kernel, by decide +kernel⟩
noncomputable abbrev s_board_reply : Stmt := top 33
noncomputable abbrev n_board_reply : List Str := ["rule_x", "rule_y", "heads", "goal", "products", "x", "y", "found"]
noncomputable abbrev p_board_reply : List Str := ["rule_x", "rule_y", "heads"]
theorem sc_board_reply : FnScope n_board_reply p_board_reply (defScope s_board_reply) := ⟨rfl, rfl, rfl, by decide +kernel, rfl, by decide +kernel, by decide +kernel⟩
section
variable {P : Program} {w : World} {K : PySem.W.Frag} {mg : Str → Option Value} {base : Heap}
structure CnKp (P : Program) (w : World) (K : PySem.W.Frag) (mg : Str → Option Value) (base : Heap) : Prop where
  times : Callee P w K mg base "times" 6 p_times spTimes
theorem ok_kept (D : HasDef K mg "kept_product" s_kept_product) (C : CnKp P w K mg base) : Callee P w K mg base "kept_product" 7 p_kept_product spKept := by
  refine D.ok sc_kept_product (fun _ _ _ _ _ _ us hl => match us, hl with | [_, _, _], _ => rfl) (fun vs H Q E h => ?_) (fun f cdv A outer s H vs Q E hr h => ?_)
  · obtain ⟨d, a, b, kvs, rfl, _⟩ := h
    rfl
  obtain ⟨d, a, b, kvs, rfl, ha, hb, hd, pk', q⟩ := h
  refine ⟨_, (pss_cons (ps_if (pt_cmp (pc_dnotin (hu_of hr) (pe_tup (pa_cons (pv 1) (pa_cons (pv 2) pa_nil))) (pv 0))) (pss_one (ps_dput (hu_of hr) (pv 0) (pe_tup (pa_cons (pv 1) (pa_cons (pv 2) pa_nil))) (pe_callC C.times hr (by omega) rfl (pa_cons (pv 1) (pa_cons (pv 2) pa_nil))) rfl)) pss_nil)
    (pss_one (ps_ret (pe_dget (hu_of hr) (pv 0) (pe_tup (pa_cons (pv 1) (pa_cons (pv 2) pa_nil))) (fun _ _ => rfl))))), ?_⟩
  rw [show start n_kept_product [V.ref d, V.int a, V.int b] = [some (V.ref d), some (V.int a), some (V.int b)] from rfl]
  have two : ∀ a b : V, ([a, b] : List V).length ≤ sizeLine := fun a b => by show 2 ≤ sizeLine; decide
  have rd : ∀ (H1 : Hp) (kvs1 : List (List Key × V)), Kp d H H1 → H1 d = some (.dT kvs1) → PKs kvs1 → valV kvs1 (pk a b) = some (.int ((nim 4 a b : Nat) : Int)) →
      tRet (tDGet (tVar 0) (tTup (tCons (tVar 1) (tCons (tVar 2) tNil)))) { nx := fun x H' => Q V.non H', rt := Q } [some (V.ref d), some (V.int ↑a), some (V.int ↑b)] H1 := fun H1 kvs1 k1 hd1 p1 e1 => by
    refine ⟨_, rfl, tup_of (ev_cons (ev_var rfl) (ev_cons (ev_var rfl) ev_nil)) (two _ _) fun k3 hk3 => ⟨d, .int ((nim 4 a b : Nat) : Int), rfl, ?_, ?_⟩⟩
    · rw [← e1]
      exact DGet.t (k := pk a b) (by rw [upd_ne (ne_of_none hd1 hk3)]; exact hd1) upd_same
    · exact q _ kvs1 (k1.same (same_new hk3 _)) (by rw [upd_ne (ne_of_none hd1 hk3)]; exact hd1) p1
  refine seq_of (ifB_of (tup_of (ev_cons (ev_var rfl) (ev_cons (ev_var rfl) ev_nil)) (two _ _) fun k1 hk1 => ⟨_, rfl, d, _, rfl, DGet.t (k := pk a b) (by rw [upd_ne (ne_of_none hd hk1)]; exact hd) upd_same, _, rfl, ?_⟩))
  have hd1 : upd H k1 (.tup [.int (a : Int), .int (b : Int)]) d = some (.dT kvs) := by rw [upd_ne (ne_of_none hd hk1)]; exact hd
  have kp1 : Kp d H (upd H k1 (.tup [.int (a : Int), .int (b : Int)])) := Kp.of (same_new hk1 _)
  cases e : valV kvs (pk a b) with
  | some v =>
    rw [show (!(some v).isSome) = false from rfl, if_neg (by decide)]
    rw [pk'.get e] at e
    exact next_of (rd _ kvs kp1 hd1 pk' e)
  | none =>
    rw [show (!(none : Option V).isSome) = true from rfl, if_pos rfl]
    refine ⟨_, rfl, _, rfl, a, b, rfl, by omega, by omega, by omega, by omega, _, rfl, tup_of (ev_cons (ev_var rfl) (ev_cons (ev_var rfl) ev_nil)) (two _ _) fun k2 hk2 => ⟨d, _, rfl, DPut.t (k := pk a b) (by rw [upd_ne (ne_of_none hd1 hk2)]; exact hd1) upd_same ?_, ?_⟩⟩
    · exact Nat.lt_of_le_of_lt pk'.len (by decide)
    have et : tI (a : Int) (b : Int) = ((nim 4 a b : Nat) : Int) := pI_nat (d := 4) (by decide) (by rw [N4]; omega) (by rw [N4]; omega)
    rw [et]
    refine rd _ _ ((kp1.same (same_new hk2 _)).put) upd_same (pk'.put ha hb e) ?_
    rw [valV_put, if_pos rfl]
structure CnTs (P : Program) (w : World) (K : PySem.W.Frag) (mg : Str → Option Value) (base : Heap) : Prop where
  turns_ending : Callee P w K mg base "turns_ending" 5 p_turns_ending (spEnds K)
  sum_of_numbers : Callee P w K mg base "sum_of_numbers" 4 p_sum_of_numbers (spSumOf K)
theorem ok_sums (D : HasDef K mg "turns_with_sums" s_turns_with_sums) (C : CnTs P w K mg base) : Callee P w K mg base "turns_with_sums" 6 p_turns_with_sums (spSums K) := by
  refine D.ok sc_turns_with_sums (fun _ _ _ _ _ _ us hl => match us, hl with | [_, _], _ => rfl) (fun vs H Q E h => ?_) (fun f cdv A outer s H vs Q E hr h => ?_)
  · obtain ⟨pr, r, n, rfl, _⟩ := h
    rfl
  obtain ⟨pr, r, n, rfl, hR, hg, hn, q⟩ := h
  refine ⟨_, (pss_one (ps_ret (pe_comp (Block.of (out := defScope s_turns_with_sums) (N := n_turns_with_sums) (x := "turn") (frees := ["rule"]) (ix := [0]) (by decide +kernel)) rfl (pi_list (pe_callC C.turns_ending hr (by omega) rfl (pa_cons (pv 0) (pa_cons (pv 1) pa_nil)))) (fun _ _ _ _ => pts_nil) (fun _ _ _ _ => (pe_tup (pa_cons (pv 0) (pa_cons (pe_callC C.sum_of_numbers hr (by omega) rfl (pa_cons (pv 1) (pa_cons (pv 0) pa_nil))) pa_nil))))))), ?_⟩
  rw [show start n_turns_with_sums [V.ref pr, V.int n] = [some (V.ref pr), some (V.int n)] from rfl]
  refine retO_of (comp_tups (K := K) (xss := Row.shapes r n) (fun s a => [.ref a, .int ((Row.xs (Row.num r) s : Nat) : Int)]) (fun H1 la rs0 => Same H H1 ∧ H1 la = some (.lst (rs0.map V.ref)) ∧ RL H H1 (Row.shapes r n) rs0) (fun R rr => ?_) (fun H1 la rs0 h => h) ?_ (fun x r' H1 R hx s1 hx1 rr => ?_) (fun acc ts H2 hacc s2 hacc2 ht => ?_))
  · exact ⟨_, rfl, _, rfl, pr, r, n, rfl, hR, hg, hn, fun H1 la rs0 s1 hla hla2 hr1 _ => ⟨la, rfl, ⟨_, .of hla2⟩, rr _ _ _ ⟨s1, hla2, hr1⟩⟩⟩
  · exact Nat.lt_of_le_of_lt (Row.shapes_many hg hn) (by decide)
  · refine ⟨_, rfl, _, rfl, _, rfl, pr, r', r, x, rfl, s1.tup hR, hg, .of hx1, fun a ha => ?_, by show 2 ≤ sizeLine; decide, fun p hp => rr p hp⟩
    have := Row.shape_le hx a ha
    omega
  · exact q _ acc ts s2 hacc hacc2 ht
structure CnFa (P : Program) (w : World) (K : PySem.W.Frag) (mg : Str → Option Value) (base : Heap) : Prop where
  kept_product : Callee P w K mg base "kept_product" 7 p_kept_product spKept
theorem ok_firstAdd (D : HasDef K mg "first_adding" s_first_adding) (C : CnFa P w K mg base) : Callee P w K mg base "first_adding" 8 p_first_adding spFirstAdd := by
  refine D.ok sc_first_adding (fun _ _ _ _ _ _ us hl => match us, hl with | [_, _, _, _], _ => rfl) (fun vs H Q E h => ?_) (fun f cdv A outer s H vs Q E hr h => ?_)
  · obtain ⟨g, px, py, d, PA, PB, f, f', xss, yss, ts, us, kvs, rfl, _⟩ := h
    rfl
  obtain ⟨g, px, py, d, PA, PB, f1, f2, xss, yss, ts, us, kvs, rfl, hpx, hpy, hT, hU, hf1, hf2, hd, hpk, q0, q1⟩ := h
  refine ⟨_, (pss_cons (ps_for PassesOwn.never rfl (pi_list (pv 1)) (pg_tup rfl (pgs_cons (pg_name (i := 4) sc_first_adding.nd rfl (Or.inl rfl)) (pgs_cons (pg_name (i := 5) sc_first_adding.nd rfl (Or.inl rfl)) pgs_nil))) (pss_one (ps_for PassesOwn.never rfl (pi_list (pv 2)) (pg_tup rfl (pgs_cons (pg_name (i := 6) sc_first_adding.nd rfl (Or.inl rfl)) (pgs_cons (pg_name (i := 7) sc_first_adding.nd rfl (Or.inl rfl)) pgs_nil))) (pss_one (ps_if (pt_cmpR op_eq (pe_callC C.kept_product hr (by omega) rfl (pa_cons (pv 3) (pa_cons (pv 5) (pa_cons (pv 7) pa_nil)))) (pv 0) (nomark _)) (pss_one (ps_ret (pe_tup (pa_cons (pv 4) (pa_cons (pv 6) pa_nil))))) pss_nil)))))
    (pss_one (ps_ret pe_non))), ?_⟩
  rw [show start n_first_adding [V.int g, V.ref px, V.ref py, V.ref d] = [some (V.int g), some (V.ref px), some (V.ref py), some (V.ref d), none, none, none, none] from rfl]
  have two : ∀ a b : V, ([a, b] : List V).length ≤ sizeLine := fun a b => by show 2 ≤ sizeLine; decide
  refine seq_of ⟨_, rfl, px, rfl, ⟨_, .of hpx⟩, ?_⟩
  refine for_list (xs := ts.map V.ref) (fun i σ H' => ∃ (kvs' : List (List Key × V)) (u4 u5 u6 u7 : Option V), Kp d H H' ∧ H' d = some (.dT kvs') ∧ PKs kvs' ∧ (∀ t ∈ pairsOf (xss.take i) yss, nim 4 (f1 t.1) (f2 t.2) ≠ g) ∧ σ = [some (V.int (g : Int)), some (V.ref px), some (V.ref py), some (V.ref d), u4, u5, u6, u7])
    ⟨kvs, none, none, none, none, Kp.refl, hd, hpk, by simp [pairsOf], rfl⟩ ?_ ?_ ?_
  · rintro i σ H' _ ⟨_, _, _, _, _, kp, _⟩
    exact .of (kp.lstT hd hpx)
  · rintro i x σ H' hx ⟨kvs', u4, u5, u6, u7, kp, hd', pk', hno, rfl⟩
    rw [List.getElem?_map] at hx
    cases et : ts[i]? with
    | none => rw [et] at hx; cases hx
    | some t =>
      rw [et] at hx
      cases hx
      obtain ⟨s1, a, hs1, ht, ha, hPa⟩ := hT.2 i t et
      have hm1 := List.mem_of_getElem? hs1
      refine ⟨t, _, rfl, .inl (.inl (kp.tupT hd ht)), rfl, _, _, rfl, _, _, rfl, rfl, ?_⟩
      dsimp only [gName]
      refine ⟨_, rfl, py, rfl, ⟨_, .of (kp.lstT hd hpy)⟩, ?_⟩
      refine for_list (xs := us.map V.ref) (fun j σ H' => ∃ (kvs' : List (List Key × V)) (u6 u7 : Option V), Kp d H H' ∧ H' d = some (.dT kvs') ∧ PKs kvs' ∧ (∀ u ∈ yss.take j, nim 4 (f1 s1) (f2 u) ≠ g) ∧ σ = [some (V.int (g : Int)), some (V.ref px), some (V.ref py), some (V.ref d), some (V.ref a), some (V.int ((f1 s1 : Nat) : Int)), u6, u7])
        ⟨kvs', u6, u7, kp, hd', pk', by simp, rfl⟩ ?_ ?_ ?_
      · rintro j σ H2 _ ⟨_, _, _, kp2, _⟩
        exact .of (kp2.lstT hd hpy)
      · rintro j x σ H2 hx ⟨kvs2, u6, u7, kp2, hd2, pk2, hno2, rfl⟩
        rw [List.getElem?_map] at hx
        cases eu : us[j]? with
        | none => rw [eu] at hx; cases hx
        | some u =>
          rw [eu] at hx
          cases hx
          obtain ⟨s2, b, hs2, hu, hb, hPb⟩ := hU.2 j u eu
          have hm2 := List.mem_of_getElem? hs2
          refine ⟨u, _, rfl, .inl (.inl (kp2.tupT hd hu)), rfl, _, _, rfl, _, _, rfl, rfl, ?_⟩
          dsimp only [gName]
          refine ifO_of (opO_of ⟨_, rfl, _, rfl, _, rfl, d, f1 s1, f2 s2, kvs2, rfl, hf1 s1 hm1, hf2 s2 hm2, hd2, pk2, fun H3 kvs3 k3 hd3 pk3 => ⟨_, rfl, rfl, _, rfl, ?_⟩⟩)
          have kp3 := kp2.trans k3
          by_cases c : nim 4 (f1 s1) (f2 s2) = g
          · rw [decide_eq_true (by rw [c]), if_pos rfl]
            refine retO_of (tup_of (ev_cons (ev_var rfl) (ev_cons (ev_var rfl) ev_nil)) (two _ _) fun p hp => ?_)
            refine q1 (s1, s2) ?_ _ kvs3 p a b (kp3.same (same_new hp _)) (by rw [upd_ne (ne_of_none hd3 hp)]; exact hd3) pk3 (kp3.free hd3 hp) upd_same ha hPa hb hPb
            have hi : i < xss.length := (List.getElem?_eq_some_iff.mp hs1).1
            have hj : j < yss.length := (List.getElem?_eq_some_iff.mp hs2).1
            have a1 : xss = xss.take i ++ s1 :: xss.drop (i + 1) := by
              have := List.getElem_cons_drop (as := xss) (i := i) hi
              rw [(List.getElem?_eq_some_iff.mp hs1).2] at this
              rw [this, List.take_append_drop]
            have a2 : yss = yss.take j ++ s2 :: yss.drop (j + 1) := by
              have := List.getElem_cons_drop (as := yss) (i := j) hj
              rw [(List.getElem?_eq_some_iff.mp hs2).2] at this
              rw [this, List.take_append_drop]
            have a3 : pairsOf xss yss = pairsOf (xss.take i) yss ++ ((yss.take j).map (fun u => (s1, u)) ++ (s1, s2) :: ((yss.drop (j + 1)).map (fun u => (s1, u)) ++ pairsOf (xss.drop (i + 1)) yss)) := by
              have b1 : pairsOf xss yss = pairsOf (xss.take i) yss ++ (yss.map (fun u => (s1, u)) ++ pairsOf (xss.drop (i + 1)) yss) := by
                conv => lhs; rw [a1]
                unfold pairsOf
                rw [List.flatMap_append, List.flatMap_cons]
              have b2 : yss.map (fun u => (s1, u)) = (yss.take j).map (fun u => (s1, u)) ++ (s1, s2) :: (yss.drop (j + 1)).map (fun u => (s1, u)) := by
                conv => lhs; rw [a2]
                rw [List.map_append, List.map_cons]
              rw [b1, b2]
              simp
            rw [a3, List.find?_append, List.find?_eq_none.mpr, Option.none_or, List.find?_append, List.find?_eq_none.mpr, Option.none_or, List.find?_cons]
            · have : (nim 4 (f1 (s1, s2).1) (f2 (s1, s2).2) == g) = true := by rw [beq_iff_eq]; exact c
              rw [this]
            · intro t ht
              obtain ⟨u', hu', rfl⟩ := List.mem_map.mp ht
              rw [beq_iff_eq]
              exact hno2 u' hu'
            · intro t ht
              rw [beq_iff_eq]
              exact hno t ht
          · rw [decide_eq_false (fun z => c (by have := V.int.inj z; omega)), if_neg (by decide)]
            refine next_of ⟨kvs3, _, _, kp3, hd3, pk3, fun u' hu' => ?_, rfl⟩
            rw [List.take_add_one, hs2] at hu'
            rcases List.mem_append.mp hu' with z | z
            · exact hno2 u' z
            · have : u' = s2 := by simpa using z
              rw [this]
              exact c
      · rintro σ H2 ⟨kvs2, u6, u7, kp2, hd2, pk2, hno2, rfl⟩
        refine ⟨kvs2, _, _, _, _, kp2, hd2, pk2, fun t' ht' => ?_, rfl⟩
        rw [List.length_map, hU.1, List.take_length] at hno2
        unfold pairsOf at ht' hno
        rw [List.take_add_one, hs1, List.flatMap_append] at ht'
        rcases List.mem_append.mp ht' with z | z
        · exact hno t' z
        · simp at z
          obtain ⟨u', hu', rfl⟩ := z
          exact hno2 u' hu'
  · rintro σ H' ⟨kvs', u4, u5, u6, u7, kp, hd', pk', hno, rfl⟩
    dsimp only
    refine ret_of ev_c (q0 ?_ _ kvs' kp hd' pk')
    rw [List.length_map, hT.1, List.take_length] at hno
    rw [List.find?_eq_none]
    intro t ht
    rw [beq_iff_eq]
    exact hno t ht
structure CnBr (P : Program) (w : World) (K : PySem.W.Frag) (mg : Str → Option Value) (base : Heap) : Prop where
  board_value : Callee P w K mg base "board_value" 8 p_board_value (spBoardValue K)
  turns_with_sums : Callee P w K mg base "turns_with_sums" 6 p_turns_with_sums (spSums K)
  first_adding : Callee P w K mg base "first_adding" 8 p_first_adding spFirstAdd
theorem ok_boardReply (D : HasDef K mg "board_reply" s_board_reply) (C : CnBr P w K mg base) : Callee P w K mg base "board_reply" 20 p_board_reply (spBoardReply K) := by
  refine D.ok sc_board_reply (fun _ _ _ _ _ _ us hl => match us, hl with | [_, _, _], _ => rfl) (fun vs H Q E h => ?_) (fun f cdv A outer s H vs Q E hr h => ?_)
  · obtain ⟨px, py, ph, rx, ry, ps, rs, rfl, _⟩ := h
    rfl
  obtain ⟨px, py, ph, rx, ry, ps, rs, rfl, hRx, hRy, hgx, hgy, hH, hB, hb, q0, q1⟩ := h
  refine ⟨_, (pss_cons (ps_set (i := 3) sc_board_reply.nd rfl (Or.inl rfl) (pe_callC C.board_value hr (by omega) rfl (pa_cons (pv 0) (pa_cons (pv 1) (pa_cons (pv 2) pa_nil)))))
    (pss_cons (ps_set (i := 4) sc_board_reply.nd rfl (Or.inl rfl) pe_dnewT)
    (pss_cons (ps_for PassesOwn.never rfl (pi_list (pv 2)) (pg_tup rfl (pgs_cons (pg_name (i := 5) sc_board_reply.nd rfl (Or.inl rfl)) (pgs_cons (pg_name (i := 6) sc_board_reply.nd rfl (Or.inl rfl)) pgs_nil))) (pss_cons (ps_set (i := 7) sc_board_reply.nd rfl (Or.inl rfl) (pe_callC C.first_adding hr (by omega) rfl (pa_cons (pv 3) (pa_cons (pe_callC C.turns_with_sums hr (by omega) rfl (pa_cons (pv 0) (pa_cons (pv 5) pa_nil))) (pa_cons (pe_callC C.turns_with_sums hr (by omega) rfl (pa_cons (pv 1) (pa_cons (pv 6) pa_nil))) (pa_cons (pv 4) pa_nil))))))
    (pss_one (ps_if (pt_cmpR op_notN (pv 7) pe_non (nomark _)) (pss_one (ps_ret (pv 7))) pss_nil))))
    (pss_one (ps_ret pe_non))))), ?_⟩
  rw [show start n_board_reply [V.ref px, V.ref py, V.ref ph] = [some (V.ref px), some (V.ref py), some (V.ref ph), none, none, none, none, none] from rfl]
  refine seq_of ⟨_, rfl, _, rfl, _, rfl, px, py, ph, rx, ry, ps, rs, rfl, hRx, hRy, hgx, hgy, hH, hB, hb, fun Ha sa => ?_⟩
  dsimp only [gName]
  refine seq_of fun d nd => ?_
  dsimp only [gName]
  have hd0 : upd Ha d (.dT []) d = some (.dT []) := upd_same
  have sb : Same H (upd Ha d (.dT [])) := sa.new nd
  have nd0 : H d = none := sa.free nd
  generalize upd Ha d (.dT []) = Hb at hd0 sb
  refine seq_of ⟨_, rfl, ph, rfl, ⟨_, sb.seq hH⟩, ?_⟩
  refine for_list (xs := rs.map V.ref) (fun i σ H' => ∃ (kvs : List (List Key × V)) (u5 u6 u7 : Option V), Kp d Hb H' ∧ H' d = some (.dT kvs) ∧ PKs kvs ∧ (∀ t ∈ Row.turns2 rx ry (ps.take i), Row.tsum rx ry t ≠ Row.xs (Row.num2 rx ry) ps) ∧
    σ = [some (V.ref px), some (V.ref py), some (V.ref ph), some (V.int ((Row.xs (Row.num2 rx ry) ps : Nat) : Int)), some (V.ref d), u5, u6, u7]) ⟨[], none, none, none, Kp.refl, hd0, PKs.nil, by simp [Row.turns2], rfl⟩ ?_ ?_ ?_
  · rintro i σ H' _ ⟨_, _, _, _, kp, _⟩
    exact (kp.sameOf sb nd0).seq hH
  · rintro i x σ H' hx ⟨kvs, u5, u6, u7, kp, hd', pk', hno, rfl⟩
    have sm := kp.sameOf sb nd0
    obtain ⟨p, r, hp, hr', rfl, hF⟩ := at_refs2 (hB.same sm) hx
    have lp := hb.lt p (List.mem_of_getElem? hp)
    have hi : i < ps.length := (List.getElem?_eq_some_iff.mp hp).1
    refine ⟨r, _, rfl, hF, rfl, _, _, rfl, _, _, rfl, rfl, ?_⟩
    dsimp only [gName]
    have tk : Row.turns2 rx ry (ps.take (i + 1)) = Row.turns2 rx ry (ps.take i) ++ pairsOf (Row.shapes rx p.1) (Row.shapes ry p.2) := by
      unfold Row.turns2 pairsOf
      rw [List.take_add_one, hp, List.flatMap_append]
      simp
    refine seq_of ⟨_, rfl, _, rfl, _, rfl, px, rx, p.1, rfl, sm.tup hRx, hgx, by omega, fun H1 p1 ts s1 n1 hp1 hts => ⟨_, rfl, _, rfl, py, ry, p.2, rfl, s1.tup (sm.tup hRy), hgy, by omega, fun H2 p2 us s2 n2 hp2 hus => ⟨_, rfl, _, p1, p2, d, (fun a => H' a = none ∧ H1 a ≠ none), (fun a => H1 a = none), Row.xs (Row.num rx), Row.xs (Row.num ry), _, _, ts, us, kvs, rfl, s2 _ _ hp1, hp2,
      (hts.imp (Pr' := fun a => H' a = none ∧ H1 a ≠ none) fun a s e h => ⟨h, by rw [e]; simp⟩).keep (fun a xs e => s2 _ _ e) (fun a xs e => s2 _ _ e), hus, fun s hs => Row.sum32 hgx (Row.shape16 hs lp.1), fun s hs => Row.sum32 hgy (Row.shape16 hs lp.2), s2 _ _ (s1 _ _ hd'), pk', fun hn H3 kvs3 k3 hd3 pk3 => ?_, fun t ht H3 kvs3 z a b k3 hd3 pk3 nz hz ha hPa hb' hPb => ?_⟩⟩⟩
    · dsimp only [gName]
      refine ifS_of (ev_test fun Q q => ⟨_, rfl, rfl, q⟩) (fun c => absurd c (by simp)) (fun _ => next_of ⟨kvs3, _, _, _, (kp.trans (Kp.of (s1.trans s2))).trans k3, hd3, pk3, fun t ht => ?_, rfl⟩)
      rw [tk] at ht
      rcases List.mem_append.mp ht with w | w
      · exact hno t w
      · have := List.find?_eq_none.mp hn t w
        rw [beq_iff_eq] at this
        exact this
    · dsimp only [gName]
      refine ifS_of (ev_test fun Q q => ⟨_, rfl, rfl, q⟩) (fun _ => ?_) (fun c => absurd c (by simp))
      have k03 := (kp.trans (Kp.of (s1.trans s2))).trans k3
      refine ret_of (ev_var rfl) (q1 t ?_ H3 z a b (k03.sameOf sb nd0) (sm.free ((s1.trans s2).free nz)) hz (sm.free hPa.1) (sm.free (s1.free hPb)) (fun w => hPa.2 (w ▸ hPb)) ?_ ?_)
      · unfold Row.replyOf2
        have a1 : ps = ps.take (i + 1) ++ ps.drop (i + 1) := (List.take_append_drop _ _).symm
        have a2 : Row.turns2 rx ry ps = Row.turns2 rx ry (ps.take i) ++ (pairsOf (Row.shapes rx p.1) (Row.shapes ry p.2) ++ Row.turns2 rx ry (ps.drop (i + 1))) := by
          have : Row.turns2 rx ry ps = Row.turns2 rx ry (ps.take (i + 1)) ++ Row.turns2 rx ry (ps.drop (i + 1)) := by
            conv => lhs; rw [a1]
            unfold Row.turns2
            rw [List.flatMap_append]
          rw [this, tk, List.append_assoc]
        rw [a2, List.find?_append, List.find?_eq_none.mpr, Option.none_or, List.find?_append]
        · have ht' : List.find? (fun t => Row.tsum rx ry t == Row.xs (Row.num2 rx ry) ps) (pairsOf (Row.shapes rx p.1) (Row.shapes ry p.2)) = some t := ht
          rw [ht']
          rfl
        · intro t ht
          rw [beq_iff_eq]
          exact hno t ht
      · exact k3.lstT (s2 _ _ (s1 _ _ hd')) ha
      · exact k3.lstT (s2 _ _ (s1 _ _ hd')) hb'
  · rintro σ H' ⟨kvs, u5, u6, u7, kp, hd', pk', hno, rfl⟩
    dsimp only
    refine ret_of ev_c (q0 ?_ _ (kp.sameOf sb nd0))
    rw [List.length_map, ← hB.length, List.take_length] at hno
    unfold Row.replyOf2
    rw [List.find?_eq_none]
    intro t ht
    rw [beq_iff_eq]
    exact hno t ht
end
noncomputable abbrev s_law : Stmt := top 49
noncomputable abbrev n_law : List Str := ["script", "many", "rules", "heads", "by_y", "table", "one", "handed", "found", "due", "turned", "behind", "x"]
noncomputable abbrev p_law : List Str := ["script"]
theorem sc_law : FnScope n_law p_law (defScope s_law) := ⟨rfl, rfl, rfl, by decide +kernel, rfl, by decide +kernel, by decide +kernel⟩
structure Facts (K : PySem.W.Frag) (mg : Str → Option Value) : Prop where
  d_check_number : HasDef K mg "check_number" s_check_number
  d_check_rule : HasDef K mg "check_rule" s_check_rule
  d_check_place : HasDef K mg "check_place" s_check_place
  d_check_board_place : HasDef K mg "check_board_place" s_check_board_place
  d_check_board : HasDef K mg "check_board" s_check_board
  d_summed : HasDef K mg "summed" s_summed
  d_times : HasDef K mg "times" s_times
  d_product : HasDef K mg "product" s_product
  d_number_of : HasDef K mg "number_of" s_number_of
  d_turns_ending : HasDef K mg "turns_ending" s_turns_ending
  d_choices : HasDef K mg "choices" s_choices
  d_sum_of_numbers : HasDef K mg "sum_of_numbers" s_sum_of_numbers
  d_place_number : HasDef K mg "place_number" s_place_number
  d_most_number : HasDef K mg "most_number" s_most_number
  d_has_odd_ones : HasDef K mg "has_odd_ones" s_has_odd_ones
  d_run_number : HasDef K mg "run_number" s_run_number
  d_board_number : HasDef K mg "board_number" s_board_number
  d_board_value : HasDef K mg "board_value" s_board_value
  d_board_reply : HasDef K mg "board_reply" s_board_reply
  d_turns_with_sums : HasDef K mg "turns_with_sums" s_turns_with_sums
  d_first_adding : HasDef K mg "first_adding" s_first_adding
  d_kept_product : HasDef K mg "kept_product" s_kept_product
  d_law_cell_at : HasDef K mg "_law_cell_at" s_law_cell_at
  d_law_rule : HasDef K mg "_law_rule" s_law_rule
  d_law_far : HasDef K mg "_law_far" s_law_far
  d_law_board : HasDef K mg "_law_board" s_law_board
  d_law_shapes : HasDef K mg "_law_shapes" s_law_shapes
  d_law_numbers : HasDef K mg "_law_numbers" s_law_numbers
  d_law_times : HasDef K mg "_law_times" s_law_times
  d_law_over : HasDef K mg "_law_over" s_law_over
  d_law_crossed : HasDef K mg "_law_crossed" s_law_crossed
  d_law_first : HasDef K mg "_law_first" s_law_first
  d_law_is_turn : HasDef K mg "_law_is_turn" s_law_is_turn
  n_len : mg "len" = none
  n_range : mg "range" = none
  n_min : mg "min" = none
  n_sorted : mg "sorted" = none
  n_isinstance : mg "isinstance" = none
  n_tuple : mg "tuple" = none
  n_list : mg "list" = none
  n_int : mg "int" = none
  n_bool : mg "bool" = none
  GREATEST_NUMBER : GInt mg "GREATEST_NUMBER" 65535
  GREATEST_PLACE : GInt mg "GREATEST_PLACE" 39
  GREATEST_BOARD_PLACE : GInt mg "GREATEST_BOARD_PLACE" 15
  BASES : GTup K mg "BASES" [.int 2, .int 4, .int 16, .int 256]
structure Dics (K : PySem.W.Frag) (w : World) (mg : Str → Option Value) : Prop where
  GREATEST_K : GDic K w.params mg "GREATEST_K" [("most", .int 3), ("just", .int 3), ("run", .int 40)]
structure Cl (P : Program) (w : World) (K : PySem.W.Frag) (mg : Str → Option Value) (base : Heap) : Prop where
  board_reply : Callee P w K mg base "board_reply" 20 p_board_reply (spBoardReply K)
  law_cell_at : Callee P w K mg base "_law_cell_at" 1 p_law_cell_at (spCell K)
  law_rule : Callee P w K mg base "_law_rule" 1 p_law_rule spRule2
  law_board : Callee P w K mg base "_law_board" 1 p_law_board spBoard3
  law_far : Callee P w K mg base "_law_far" 2 p_law_far (spFar2 K)
  law_numbers : Callee P w K mg base "_law_numbers" 2 p_law_numbers (spNumbers K)
  law_times : Callee P w K mg base "_law_times" 5 p_law_times (spLTimes 5)
  law_over : Callee P w K mg base "_law_over" 1 p_law_over (spOver2 K)
  law_crossed : Callee P w K mg base "_law_crossed" 1 p_law_crossed (spCrossed K)
  law_first : Callee P w K mg base "_law_first" 2 p_law_first (spFirst2 K)
  law_is_turn : Callee P w K mg base "_law_is_turn" 1 p_law_is_turn spIsTurn14
section
variable {P : Program} {w : World} {K : PySem.W.Frag} {mg : Str → Option Value} {base : Heap}
theorem find_congr14 {α : Type} {p q : α → Bool} : ∀ {l : List α}, (∀ x ∈ l, p x = q x) → l.find? p = l.find? q
  | [], _ => rfl
  | x :: l, h => by
    rw [List.find?_cons, List.find?_cons, h x (List.mem_cons_self ..), find_congr14 fun y hy => h y (List.mem_cons_of_mem _ hy)]
set_option pp.deepTerms true in
theorem ok_law {f : Addr} {fd : FuncData} (F : Fun K "law" "law" s_law f fd) (T : Facts K mg) (C : Cl P w K mg base) : FnOk P w K mg base CX0 22 f fd ["script"] (spLaw K) := by
  refine F.ok sc_law (fun vs H Q E h => ?_) (fun cdv A outer s H vs Q E hr h => ?_)
  · obtain ⟨a, ns, rfl, _⟩ := h
    rfl
  obtain ⟨a, ns, rfl, hS, h63, q⟩ := h
  refine ⟨_, (pss_cons (ps_set (i := 1) sc_law.nd rfl (Or.inl rfl) pe_int)
    (pss_cons (ps_set (i := 2) sc_law.nd rfl (Or.inl rfl) (pe_lst (pa_cons (pe_callC C.law_rule hr (by omega) rfl (pa_cons (pe_callC C.law_cell_at hr (by omega) rfl (pa_cons (pv 0) (pa_cons pe_int pa_nil))) (pa_cons pe_int pa_nil))) (pa_cons (pe_callC C.law_rule hr (by omega) rfl (pa_cons (pe_callC C.law_cell_at hr (by omega) rfl (pa_cons (pv 0) (pa_cons pe_int pa_nil))) (pa_cons pe_int pa_nil))) pa_nil))))
    (pss_cons (ps_set (i := 3) sc_law.nd rfl (Or.inr rfl) (pe_callC C.law_board hr (by omega) rfl (pa_cons (pe_callC C.law_cell_at hr (by omega) rfl (pa_cons (pv 0) (pa_cons pe_int pa_nil))) pa_nil)))
    (pss_cons (ps_if (pt_cmpR op_eq (pe_op op_mod (pe_callC C.law_cell_at hr (by omega) rfl (pa_cons (pv 0) (pa_cons pe_int pa_nil))) pe_int) pe_int (nomark _)) (pss_cons (ps_set (i := 1) sc_law.nd rfl (Or.inl rfl) pe_int)
    (pss_cons (ps_set (i := 2) sc_law.nd rfl (Or.inl rfl) (pe_lst (pa_cons (pe_callC C.law_rule hr (by omega) rfl (pa_cons (pe_callC C.law_cell_at hr (by omega) rfl (pa_cons (pv 0) (pa_cons pe_int pa_nil))) (pa_cons pe_int pa_nil))) (pa_cons (pe_callC C.law_rule hr (by omega) rfl (pa_cons (pe_callC C.law_cell_at hr (by omega) rfl (pa_cons (pv 0) (pa_cons pe_int pa_nil))) (pa_cons pe_int pa_nil))) pa_nil))))
    (pss_one (ps_set (i := 3) sc_law.nd rfl (Or.inr rfl) (pe_callC C.law_far hr (by omega) rfl (pa_cons (pv 0) pa_nil)))))) pss_nil)
    (pss_cons (ps_set (i := 4) sc_law.nd rfl (Or.inl rfl) (pe_callC C.law_numbers hr (by omega) rfl (pa_cons (pe_ix ix_list (pv 2) pe_int (fun _ _ => rfl)) (pa_cons (pv 1) pa_nil))))
    (pss_cons (ps_set (i := 5) sc_law.nd rfl (Or.inl rfl) (pe_lst pa_nil))
    (pss_cons (ps_for PassesOwn.never rfl (pi_list (pe_callC C.law_numbers hr (by omega) rfl (pa_cons (pe_ix ix_list (pv 2) pe_int (fun _ _ => rfl)) (pa_cons (pv 1) pa_nil)))) (pg_name (i := 6) sc_law.nd rfl (Or.inr rfl)) (pss_one (ps_expr (pe_bm PySem.F.plainAttrs_list PySem.F.slot_list_append PySem.F.type_list_append mt_append (pv 5) (pa_cons (pe_comp (Block.of (out := defScope s_law) (N := n_law) (x := "two") (frees := ["one"]) (ix := [6]) (by decide +kernel)) rfl (pi_list (pv 4)) (fun _ _ _ _ => pts_nil) (fun _ _ _ _ => (pe_callC C.law_times hr (by omega) rfl (pa_cons (pv 1) (pa_cons (pv 0) (pa_cons pe_int pa_nil)))))) pa_nil)))))
    (pss_cons (ps_set (i := 7) sc_law.nd rfl (Or.inl rfl) (pe_callTy call_list_of rfl T.n_list bt_list (pa_cons (pv 3) pa_nil)))
    (pss_cons (ps_set (i := 8) sc_law.nd rfl (Or.inl rfl) (pe_callC C.board_reply hr (by omega) rfl (pa_cons (pe_ix ix_list (pv 2) pe_int (fun _ _ => rfl)) (pa_cons (pe_ix ix_list (pv 2) pe_int (fun _ _ => rfl)) (pa_cons (pv 7) pa_nil)))))
    (pss_cons (ps_if (pt_cmpR (op_neD (n := 1) hr (by decide)) (pv 7) (pv 3) (nomark _)) (pss_one (ps_ret pe_bl)) pss_nil)
    (pss_cons (ps_if (pt_cmpR op_eq (pe_callC C.law_over hr (by omega) rfl (pa_cons (pv 5) (pa_cons (pv 3) pa_nil))) pe_int (nomark _)) (pss_one (ps_ret (pe_cmpR op_isN (pv 8) pe_non (nomark _)))) pss_nil)
    (pss_cons (ps_set (i := 9) sc_law.nd rfl (Or.inl rfl) (pe_callC C.law_first hr (by omega) rfl (pa_cons (pv 2) (pa_cons (pv 5) (pa_cons (pv 3) pa_nil)))))
    (pss_cons (ps_if (PW.pt (pw_or (pt_cmpR op_isN (pv 9) pe_non (nomark _)) (pw_or1 (pt_not (pt_val (pe_callC C.law_is_turn hr (by omega) rfl (pa_cons (pv 8) (pa_cons (pv 9) pa_nil)))))))) (pss_one (ps_ret pe_bl)) pss_nil)
    (pss_cons (ps_expr (pe_bm PySem.F.plainAttrs_list PySem.F.slot_list_append PySem.F.type_list_append mt_append (pe_ix ix_tup (pv 8) pe_int (fun _ _ => rfl)) (pa_cons pe_int pa_nil)))
    (pss_cons (ps_if (pt_cmpR (op_neD (n := 0) hr (by decide)) (pe_ix ix_tup (pv 8) pe_int (fun _ _ => rfl)) (pe_ix ix_tup (pv 9) pe_int (fun _ _ => rfl)) (nomark _)) (pss_one (ps_ret pe_bl)) pss_nil)
    (pss_cons (ps_set (i := 10) sc_law.nd rfl (Or.inr rfl) (pe_callC C.law_crossed hr (by omega) rfl (pa_cons (pe_ix ix_tup (pv 9) pe_int (fun _ _ => rfl)) (pa_cons (pe_ix ix_tup (pv 9) pe_int (fun _ _ => rfl)) pa_nil))))
    (pss_cons (ps_set (i := 11) sc_law.nd rfl (Or.inl rfl) (pe_lst pa_nil))
    (pss_cons (ps_for PassesOwn.never rfl (pi_range1 rfl T.n_range (pa_cons (pv 1) pa_nil)) (pg_name (i := 12) sc_law.nd rfl (Or.inr rfl)) (pss_one (ps_set (i := 11) sc_law.nd rfl (Or.inl rfl) (pe_op op_cat (pv 11) (pe_comp (Block.of (out := defScope s_law) (N := n_law) (x := "y") (frees := ["heads", "turned", "x"]) (ix := [3, 10, 12]) (by decide +kernel)) rfl (pi_range1 rfl T.n_range (pa_cons (pv 1) pa_nil)) (fun _ _ _ _ => pts_one (pt_cmpR op_ne (pe_cmpR (op_inDK (K := K) (n := 1) rfl hr (by decide)) (pe_tup (pa_cons (pv 3) (pa_cons (pv 0) pa_nil))) (pv 1) rfl) (pe_cmpR (op_inDK (K := K) (n := 1) rfl hr (by decide)) (pe_tup (pa_cons (pv 3) (pa_cons (pv 0) pa_nil))) (pv 2) rfl) (nomark _))) (fun _ _ _ _ => (pe_tup (pa_cons (pv 3) (pa_cons (pv 0) pa_nil)))))))))
    (pss_one (ps_ret (pe_cmpR op_isN (pe_callC C.board_reply hr (by omega) rfl (pa_cons (pe_ix ix_list (pv 2) pe_int (fun _ _ => rfl)) (pa_cons (pe_ix ix_list (pv 2) pe_int (fun _ _ => rfl)) (pa_cons (pv 11) pa_nil)))) pe_non (nomark _)))))))))))))))))))))), ?_⟩
  rw [show start n_law [V.ref a] = [some (V.ref a), none, none, none, none, none, none, none, none, none, none, none, none] from rfl]
  have two : ∀ a b : V, ([a, b] : List V).length ≤ sizeLine := fun a b => by show 2 ≤ sizeLine; decide
  refine seq_of (asg_of ev_c ?_)
  dsimp only
  refine seq_of (ev_cell 0 rfl hS _ ⟨cell ns 0, 3, rfl, by decide, fun Hx px sx hx nx => ev_cell 1 rfl (sx.seq hS) _ ⟨cell ns 1, 3, rfl, by decide, fun Hy py sy hy ny => ⟨two _ _, fun pl hpl => ?_⟩⟩⟩)
  dsimp only [gName]
  have s1 := (sx.trans sy).trans (same_new hpl (.lst [V.ref px, V.ref py]))
  have hRx : SqT K (upd Hy pl (.lst [V.ref px, V.ref py])) px (ruleV (ruleOf (cell ns 0) 3 4)) := .inl (.inl (by rw [upd_ne (ne_of_none (sy _ _ hx) hpl)]; exact sy _ _ hx))
  have hRy : SqT K (upd Hy pl (.lst [V.ref px, V.ref py])) py (ruleV (ruleOf (cell ns 1) 3 4)) := .inl (.inl (by rw [upd_ne (ne_of_none hy hpl)]; exact hy))
  have hL : SqL K (upd Hy pl (.lst [V.ref px, V.ref py])) pl [V.ref px, V.ref py] := .of upd_same
  have hS1 := s1.seq hS
  generalize upd Hy pl (.lst [V.ref px, V.ref py]) = H1 at s1 hRx hRy hL hS1
  refine seq_of (ev_cell 2 rfl hS1 _ ⟨cell ns 2, rfl, fun H2 ph rs s2 n2 hh hp => ?_⟩)
  dsimp only [gName]
  refine cut (fun σ' H' => ∃ (m : Nat) (pl px py ph : Addr) (rx ry : Row.Rule) (ps : List (Nat × Nat)) (rs : List Addr), σ' = [some (V.ref a), some (V.int (m : Int)), some (V.ref pl), some (V.ref ph), none, none, none, none, none, none, none, none, none] ∧ SqL K H' pl [V.ref px, V.ref py] ∧ SqT K H' px (ruleV rx) ∧ SqT K H' py (ruleV ry) ∧ Row.Good rx ∧ Row.Good ry ∧
    (∀ i, i < m → Row.num rx i < 17) ∧ (∀ i, i < m → Row.num ry i < 17) ∧ m ≤ 16 ∧ Row.IsBoard ps ∧ (∀ p ∈ ps, p.1 < m ∧ p.2 < m) ∧ H' ph = some (.lst (rs.map V.ref)) ∧ PL H' ps rs) (fun X hX => ?_) ?_
  · have hS2 := s2.seq hS1
    refine ifS_of (ev_test (ev_eqI (ev_i (ev_cell 3 rfl hS2) ev_c (by decide)) ev_c)) (fun c => ?_) fun c => next_of (hX _ _ ?_)
    · refine seq_of (asg_of ev_c ?_)
      dsimp only
      refine seq_of (ev_cell 0 rfl hS2 _ ⟨cell ns 0, 2, rfl, by decide, fun Hx px sx hx nx => ev_cell 1 rfl (sx.seq hS2) _ ⟨cell ns 1, 2, rfl, by decide, fun Hy py sy hy ny => ⟨two _ _, fun pl hpl => ?_⟩⟩⟩)
      dsimp only [gName]
      have s1 := (sx.trans sy).trans (same_new hpl (.lst [V.ref px, V.ref py]))
      have hRx : SqT K (upd Hy pl (.lst [V.ref px, V.ref py])) px (ruleV (ruleOf (cell ns 0) 2 4)) := .inl (.inl (by rw [upd_ne (ne_of_none (sy _ _ hx) hpl)]; exact sy _ _ hx))
      have hRy : SqT K (upd Hy pl (.lst [V.ref px, V.ref py])) py (ruleV (ruleOf (cell ns 1) 2 4)) := .inl (.inl (by rw [upd_ne (ne_of_none hy hpl)]; exact hy))
      have hL : SqL K (upd Hy pl (.lst [V.ref px, V.ref py])) pl [V.ref px, V.ref py] := .of upd_same
      have hS1 := s1.seq hS2
      generalize upd Hy pl (.lst [V.ref px, V.ref py]) = H1 at s1 hRx hRy hL hS1
      refine ⟨_, rfl, a, ns, rfl, hS1, fun H3 ph ps rs s3 n3 hh hp hb => hX _ _ ?_⟩
      have gd : ∀ c, Row.Good (ruleOf c 2 4) := fun c => ruleOf_good (by decide) (by decide) (by decide) (by decide)
      have sm : ∀ c i, i < 16 → Row.num (ruleOf c 2 4) i < 17 := fun c i hi => Row.small16 (gd c) (ruleOf_le (c := c) (most := 2) (run := 4) (by decide) (by decide)) (fun h => by
        unfold ruleOf at h ⊢
        split at h
        · exact absurd rfl h
        · rename_i e
          rw [if_neg e]
          have := Int.emod_lt_of_pos (c / 3) (by decide : (0 : Int) < ((2 : Nat) : Int))
          have := Int.emod_nonneg (c / 3) (by decide : ((2 : Nat) : Int) ≠ 0)
          simp only
          omega) hi
      exact ⟨16, pl, px, py, ph, _, _, ps, rs, rfl, s3.seq hL, s3.tup hRx, s3.tup hRy, gd _, gd _, sm _, sm _, by decide, hb, hb.lt, hh, hp⟩
    · have gd : ∀ c, Row.Good (ruleOf c 3 4) := fun c => ruleOf_good (by decide) (by decide) (by decide) (by decide)
      have sm : ∀ c i, i < 3 → Row.num (ruleOf c 3 4) i < 17 := fun c i hi => Row.small_num (gd c) (Nat.le_trans (ruleOf_le (c := c) (most := 3) (run := 4) (by decide) (by decide)) (by decide)) (by omega)
      exact ⟨3, pl, px, py, ph, _, _, _, rs, rfl, s2.seq hL, s2.tup hRx, s2.tup hRy, gd _, gd _, sm _, sm _, by decide, board3_board _, board3_lt, hh, hp⟩
  clear hRx hRy hL hS1 hh hp hx hy sx sy nx ny hpl s1 s2 n2
  rintro σ0 H0 ⟨m, pl, px, py, ph, rx, ry, ps, rs, rfl, hL, hRx, hRy, hgx, hgy, smx, smy, m16, hbrd, hlt, hh, hp⟩
  have l16 : ∀ {ps : List (Nat × Nat)}, (∀ p ∈ ps, p.1 < m ∧ p.2 < m) → ∀ p ∈ ps, p.1 < 16 ∧ p.2 < 16 := fun hl p hp => by
    have := hl p hp
    omega
  have small : ∀ p ∈ ps, Row.num rx p.1 < 17 ∧ Row.num ry p.2 < 17 := fun p hp => ⟨smx _ (hlt p hp).1, smy _ (hlt p hp).2⟩
  have nlt : ∀ {r : Row.Rule}, (∀ i, i < m → Row.num r i < 17) → ∀ y ∈ Row.nums r m, y < N 4 := fun {r} h y hy => by
    obtain ⟨j, hj, e⟩ := List.getElem_of_mem hy
    have hjm : j < m := by rw [Row.nums_length] at hj; exact hj
    have e2 := Row.nums_at r hjm
    unfold Row.at0 at e2
    rw [List.getD_eq_getElem?_getD, List.getElem?_eq_getElem hj, e] at e2
    have e3 : y = Row.num r j := e2
    rw [e3, N4]
    exact Nat.lt_trans (h j hjm) (by decide)
  refine seq_of (asgO_of (call_of (ev_cons (ev_ixL (ev_var rfl) ev_c hL rfl) (ev_cons (ev_var rfl) ev_nil)) ⟨py, ry, m, rfl, hRy, hgy, by omega, fun H3 by' s3 n3 hby => ?_⟩))
  dsimp only
  refine seq_of ⟨by decide, fun pt npt => ?_⟩
  dsimp only [gName]
  have s4 := s3.trans (same_new npt (.lst []))
  refine seq_of (forO_of (iList_of (call_of (ev_cons (ev_ixL (ev_var rfl) ev_c (s4.seq hL) rfl) (ev_cons (ev_var rfl) ev_nil)) ⟨px, rx, m, rfl, s4.tup hRx, hgx, by omega, fun H5 bx s5 n5 hbx => ⟨bx, rfl, ⟨_, .of hbx⟩, ?_⟩⟩)))
  have bpt : bx ≠ pt := fun z => by rw [z, upd_same] at n5; cases n5
  have lx : (Row.nums rx m).length = m := Row.nums_length rx m
  have ly : (Row.nums ry m).length = m := Row.nums_length ry m
  refine for_list (xs := nl (Row.nums rx m)) (fun i σ H' => ∃ ts u, Same H3 H' ∧ H' bx = some (.lst (nl (Row.nums rx m))) ∧ H' pt = some (.lst (ts.map V.ref)) ∧ RL (fun _ => none) H' (tabOf ((Row.nums rx m).take i) (Row.nums ry m)) ts ∧ σ = [some (V.ref a), some (V.int (m : Int)), some (V.ref pl), some (V.ref ph), some (V.ref by'), some (V.ref pt), u, none, none, none, none, none, none])
    ⟨[], none, (same_new npt _).trans s5, hbx, s5 _ _ upd_same, .nil, rfl⟩ ?_ ?_ ?_
  · rintro i σ H' _ ⟨ts, u, sm, hb, _⟩
    exact .of hb
  · rintro i x σ H' hx ⟨ts, u, sm, hb, ht, hr', rfl⟩
    obtain ⟨one, e, rfl⟩ := nl_mem hx
    have hi : i < m := by have := (List.getElem?_eq_some_iff.mp e).1; omega
    have lts := hr'.length
    unfold tabOf at lts
    rw [List.length_map, List.length_take] at lts
    dsimp only [gName]
    refine ⟨_, rfl, .inl ⟨rfl, _, .of ht⟩, ?_⟩
    refine arg1_of (comp_list_g (K := K) (xs := Row.nums ry m) (fun y => nim 4 one y) (fun R rr => ⟨_, rfl, by', rfl, ⟨_, .of (sm _ _ hby)⟩, rr⟩) (sm _ _ hby) (small1000 (by omega)) (fun y H2 R hy s2 rr => ?_) (fun acc H2 nacc s2 hacc => ?_))
    · exact call_of (ev_cons (ev_var rfl) (ev_cons (ev_var rfl) (ev_cons ev_c ev_nil))) ⟨one, y, 4, rfl, nlt smx _ (List.mem_of_getElem? e), nlt smy _ hy, by decide, by decide, fun H5 s5 => rr _ s5⟩
    · refine ⟨pt, _, _, rfl, rfl, s2 _ _ ht, by rw [List.length_map]; exact small1000 (by omega), ?_⟩
      dsimp only
      have np : pt ≠ acc := ne_of_none ht nacc
      refine ⟨ts ++ [acc], _, (sm.trans s2).upd npt, by rw [upd_ne bpt]; exact s2 _ _ hb, by rw [upd_same, List.map_append]; rfl, ?_, rfl⟩
      have e2 : tabOf ((Row.nums rx m).take (i + 1)) (Row.nums ry m) = tabOf ((Row.nums rx m).take i) (Row.nums ry m) ++ [(Row.nums ry m).map fun y => nim 4 one y] := by
        unfold tabOf
        rw [List.take_add_one, e, List.map_append]
        rfl
      rw [e2]
      exact RL.app (RL.set (hr'.same s2) (hr'.apart ht)) (.cons ⟨by rw [upd_ne (Ne.symm np)]; exact hacc, rfl⟩ .nil)
  rintro σ H' ⟨ts, u, sm, hb, htb, htr, rfl⟩
  rw [nl_length, List.take_length] at htr
  generalize htt : tabOf (Row.nums rx m) (Row.nums ry m) = tt at htr
  have tvn : ∀ p : Nat × Nat, p.1 < m ∧ p.2 < m → tv tt p = Row.num2 rx ry p := fun p hp => by
    rw [← htt, tab_at (by omega) (by omega), Row.nums_at rx hp.1, Row.nums_at ry hp.2]
    rfl
  have xeq : ∀ {l : List (Nat × Nat)}, (∀ p ∈ l, p.1 < m ∧ p.2 < m) → Row.xs (tv tt) l = Row.xs (Row.num2 rx ry) l := fun h => Row.xs_congr fun p hp => tvn p (h p hp)
  have ttl : tt.length = m := by rw [← htt]; unfold tabOf; rw [List.length_map]; exact lx
  have ttr : ∀ i, i < m → (tt.getD i []).length = m := fun i hi => by rw [← htt, tab_row (by omega)]; exact ly
  have bdt : ∀ p ∈ ps, p.1 < tt.length ∧ p.2 < (tt.getD p.1 []).length := fun p hp => by
    have := hlt p hp
    rw [ttl, ttr p.1 this.1]
    exact this
  have fe : first2 tt rx ry ps = Row.replyOf2 rx ry ps := by
    unfold first2 Row.replyOf2
    refine find_congr14 fun t ht => ?_
    obtain ⟨p, hp, h1, h2⟩ := Row.mem_turns2.mp ht
    have lp := hlt p hp
    have a1 : ∀ z ∈ t.1, z < m := fun z hz => by have := Row.shape_le h1 z hz; omega
    have a2 : ∀ z ∈ t.2, z < m := fun z hz => by have := Row.shape_le h2 z hz; omega
    rw [xeq hlt, xeq (fun q hq => ⟨a1 _ (Row.mem_cross.mp hq).1, a2 _ (Row.mem_cross.mp hq).2⟩), Row.tsum_cross hgx hgy (fun z hz => by have := a1 z hz; omega) fun z hz => by have := a2 z hz; omega]
  dsimp only
  have s03 := s3.trans sm
  have hh3 := s03 _ _ hh
  refine seq_of ⟨_, rfl, ph, _, rfl, .inl (.of hh3), fun pc hpc => ?_⟩
  dsimp only [gName]
  have sc := same_new hpc (.lst (rs.map V.ref))
  have hc : upd H' pc (.lst (rs.map V.ref)) pc = some (.lst (rs.map V.ref)) := upd_same
  have s05 := s03.trans sc
  have htb5 := sc _ _ htb
  have htr5 := htr.same sc
  generalize upd H' pc (.lst (rs.map V.ref)) = H5 at sc hc s05 htb5 htr5
  have hh5 := s05 _ _ hh
  have hp5 := hp.same s05
  have hL5 := s05.seq hL
  have hRx5 := s05.tup hRx
  have hRy5 := s05.tup hRy
  clear sc htb htr hh3 s03 hpc hb
  refine seq_of (asgO_of (call_of (ev_cons (ev_ixL (ev_var rfl) ev_c hL5 rfl) (ev_cons (ev_ixL (ev_var rfl) ev_c hL5 rfl) (ev_cons (ev_var rfl) ev_nil))) ⟨px, py, pc, rx, ry, ps, rs, rfl, hRx5, hRy5, hgx, hgy, .of hc, hp5.bl, hbrd, fun hn H2 s2 => ?_, fun t ht H2 pf ta tb s2 np hpf na nb nab hta htb => ?_⟩))
  · dsimp only
    refine seq_of (ifS_of (ev_test (ev_neBd (ps := ps) (qs := ps) (ev_var rfl) (ev_var rfl) (.of (s2 _ _ hc)) (hp5.same s2).bl (.of (s2 _ _ hh5)) (hp5.same s2).bl)) (fun c => absurd c (by simp)) fun _ => next_of ?_)
    dsimp only
    have hz : Row.xs (Row.num2 rx ry) ps = 0 := by
      by_cases z : Row.xs (Row.num2 rx ry) ps = 0
      · exact z
      · obtain ⟨t, ht⟩ := Row.reply2_some hgx hgy (l16 hlt) small z
        rw [hn] at ht
        cases ht
    refine seq_of (ifS_of (ev_test (ev_eqI (i := ((Row.xs (tv tt) ps : Nat) : Int)) (ev_call (ev_cons (ev_var rfl) (ev_cons (ev_var rfl) ev_nil)) (fun Q q => ⟨pt, ph, tt, ts, ps, rs, rfl, .of (s2 _ _ htb5), htr5.same s2, .of (s2 _ _ hh5), (hp5.same s2).bl, bdt, q⟩)) ev_c)) (fun c => ?_) fun c => ?_)
    · refine ret_of (ev_isN (ev_var rfl) ev_c) ?_
      rw [decide_eq_true rfl]
      exact q _
    · have c : ¬ ((Row.xs (tv tt) ps : Nat) : Int) = 0 := of_decide_eq_false c
      rw [xeq hlt, hz] at c
      exact absurd rfl c
  dsimp only
  have hnz : Row.xs (Row.num2 rx ry) ps ≠ 0 := fun z => by
    rw [Row.reply2_zero hgx hgy (l16 hlt) z] at ht
    cases ht
  refine seq_of (ifS_of (ev_test (ev_neBd (ps := ps) (qs := ps) (ev_var rfl) (ev_var rfl) (.of (s2 _ _ hc)) (hp5.same s2).bl (.of (s2 _ _ hh5)) (hp5.same s2).bl)) (fun c => absurd c (by simp)) fun _ => next_of ?_)
  dsimp only
  refine seq_of (ifS_of (ev_test (ev_eqI (i := ((Row.xs (tv tt) ps : Nat) : Int)) (ev_call (ev_cons (ev_var rfl) (ev_cons (ev_var rfl) ev_nil)) (fun Q q => ⟨pt, ph, tt, ts, ps, rs, rfl, .of (s2 _ _ htb5), htr5.same s2, .of (s2 _ _ hh5), (hp5.same s2).bl, bdt, q⟩)) ev_c)) (fun c => ?_) fun c => next_of ?_)
  · have c : ((Row.xs (tv tt) ps : Nat) : Int) = 0 := of_decide_eq_true c
    rw [xeq hlt] at c
    exact absurd (by omega) hnz
  dsimp only
  refine seq_of (asgO_of (call_of (ev_cons (ev_var rfl) (ev_cons (ev_var rfl) (ev_cons (ev_var rfl) ev_nil))) ⟨pl, px, py, pt, ph, rx, ry, tt, ts, ps, rs, m, rfl, s2.seq hL5, s2.tup hRx5, s2.tup hRy5, hgx, hgy, .of (s2 _ _ htb5), htr5.same s2, .of (s2 _ _ hh5), (hp5.same s2).bl, hlt, m16, ttl, ttr, fun h0 => ?_, fun t' ht' H3' pd da db s3' nd hpd nda ndb hda hdb => ?_⟩))
  · rw [fe, ht] at h0
    cases h0
  rw [fe, ht] at ht'
  cases ht'
  dsimp only
  obtain ⟨tm, tvl⟩ := Row.reply2_mem ht
  obtain ⟨p0, hp0, h1, h2⟩ := Row.mem_turns2.mp tm
  have lp0 := hlt p0 hp0
  have l1 : t.1.length ≤ 40 := Row.sorted_len (Row.shape_sorted h1) fun z hz => by have := Row.shape_le h1 z hz; omega
  have l2 : t.2.length ≤ 40 := Row.sorted_len (Row.shape_sorted h2) fun z hz => by have := Row.shape_le h2 z hz; omega
  have hpf3 := s3' _ _ hpf
  have hta3 := s3' _ _ hta
  have htb3 := s3' _ _ htb
  refine seq_of (ifS_of (ev_or (ev_test (ev_isN (ev_var rfl) ev_c)) fun _ => ev_not (ev_tB (ev_call (v := .bl true) (ev_cons (ev_var rfl) (ev_cons (ev_var rfl) ev_nil)) fun Q q => ⟨pf, pd, ta, tb, da, db, t, rfl, hpf3, hta3, htb3, hpd, hda, hdb, by omega, by omega, q⟩))) (fun c => absurd c (by simp)) fun _ => next_of ?_)
  dsimp only
  refine seq_of (ev_ixT (v := V.ref ta) (ev_var rfl) ev_c (.inl (.inl hpf3)) rfl _ ⟨.inl ⟨rfl, _, .of hta3⟩, ta, _, _, rfl, rfl, hta3, by rw [nl_length]; exact small1000 (by omega), ?_⟩)
  dsimp only
  have s25 := s2.trans s3'
  have s6 : Same H5 (upd H3' ta (.lst (nl t.1 ++ [V.int 16]))) := s25.upd na
  have kf : ∀ {z : Addr} {vs : List V}, H3' z = some (.tup vs) → upd H3' ta (.lst (nl t.1 ++ [V.int 16])) z = some (.tup vs) := fun {z vs} h => by
    rw [upd_ne (ne_of h hta3 (by intro z; cases z))]
    exact h
  have hpf6 := kf hpf3
  have hpd6 := kf hpd
  have htb6 : upd H3' ta (.lst (nl t.1 ++ [V.int 16])) tb = some (.lst (nl t.2)) := by rw [upd_ne (Ne.symm nab)]; exact htb3
  have hda6 : upd H3' ta (.lst (nl t.1 ++ [V.int 16])) da = some (.lst (nl t.1)) := by rw [upd_ne (Ne.symm (ne_of_none hta nda))]; exact hda
  have hdb6 : upd H3' ta (.lst (nl t.1 ++ [V.int 16])) db = some (.lst (nl t.2)) := by rw [upd_ne (Ne.symm (ne_of_none hta ndb))]; exact hdb
  generalize upd H3' ta (.lst (nl t.1 ++ [V.int 16])) = H6 at s6 hpf6 hpd6 htb6 hda6 hdb6
  refine seq_of (ifS_of (ev_test (ev_neL (ev_ixT (ev_var rfl) ev_c (.inl (.inl hpf6)) rfl) (ev_ixT (ev_var rfl) ev_c (.inl (.inl hpd6)) rfl) (.of htb6) (.of hdb6))) (fun c => absurd c (by simp)) fun _ => next_of ?_)
  dsimp only
  refine seq_of (asgO_of (call_of (ev_cons (ev_ixT (ev_var rfl) ev_c (.inl (.inl hpd6)) rfl) (ev_cons (ev_ixT (ev_var rfl) ev_c (.inl (.inl hpd6)) rfl) ev_nil)) ⟨da, db, t.1, t.2, rfl, hda6, hdb6, l1, l2, fun H7 pr cs s7 n7 hpr hcs => ?_⟩))
  dsimp only
  have s57 := s6.trans s7
  have hh7 := s57 _ _ hh5
  have hp7 := hp5.same s57
  refine seq_of ⟨by decide, fun pb npb => ?_⟩
  dsimp only [gName]
  let pr' : Nat × Nat → Bool := fun p => decide (p ∈ ps) != (decide (p.1 ∈ t.1) && decide (p.2 ∈ t.2))
  refine seq_of (rng1_of (ev_cons (ev_var rfl) ev_nil) (by omega) (by omega) ?_)
  rw [Int.toNat_natCast]
  refine for_range (fun i σ H' => ∃ pb bs v, Same H7 H' ∧ H7 pb = none ∧ H' pb = some (.lst (bs.map V.ref)) ∧ PL H' (((List.range i).flatMap fun x => (List.range m).map fun y => (x, y)).filter pr') bs ∧ bs.length ≤ 16 * i ∧ σ = [some (V.ref a), some (V.int (m : Int)), some (V.ref pl), some (V.ref ph), some (V.ref by'), some (V.ref pt), u, some (V.ref pc), some (V.ref pf), some (V.ref pd), some (V.ref pr), some (V.ref pb), v])
    ⟨pb, [], none, same_new npb _, npb, upd_same, .nil, by simp, rfl⟩ ?_ ?_
  · rintro i σ H' hi ⟨pb, bs, v, sm, npb, hpb, hbs, lbs, rfl⟩
    dsimp only [gName]
    refine asgO_of (op_of (ev_var rfl) (comp_range_tif (lo := 0) (n := m) (fun y => pr' (i, y)) (fun y => [.int (i : Int), .int (y : Int)]) (fun R rr => ?_) (small1000 (by omega)) (fun y H2 R hy s2 rr => ?_) (fun y H2 R hy _ s2 rr => ?_) (fun acc ds H2 hacc s2 hacc2 hds => ?_)))
    · refine rng1_of (ev_cons (ev_var rfl) ev_nil) (by omega) (by omega) ?_
      rw [Int.toNat_natCast]
      exact rr
    · have sm2 := sm.trans s2
      refine opO_of (opO_of (tup_of (ev_cons (ev_var rfl) (ev_cons (ev_var rfl) ev_nil)) (two _ _) fun z hz => ⟨_, rfl, in_board (p := (i, y)) (.inl (.inl (by rw [upd_same]; simp))) (.of ((sm2.trans (same_new hz _)) _ _ hh7)) (hp7.same (sm2.trans (same_new hz _))).bl ?_⟩))
      have s3 := sm2.trans (same_new hz (.tup [V.int (0 + (i : Int)), V.int (0 + (y : Int))]))
      refine opO_of (tup_of (ev_cons (ev_var rfl) (ev_cons (ev_var rfl) ev_nil)) (two _ _) fun z2 hz2 => ⟨_, rfl, in_board (p := (i, y)) (.inl (.inl (by rw [upd_same]; simp))) (.of ((s3.trans (same_new hz2 _)) _ _ hpr)) (hcs.same (s3.trans (same_new hz2 _))).bl ?_⟩)
      refine ⟨rfl, _, rfl, ?_⟩
      have : (!decide (V.bl (decide ((i, y) ∈ ps) != false) = V.bl (decide ((i, y) ∈ Row.cross t.1 t.2) != false))) = pr' (i, y) := by
        show _ = (decide ((i, y) ∈ ps) != (decide (i ∈ t.1) && decide (y ∈ t.2)))
        have e : decide ((i, y) ∈ Row.cross t.1 t.2) = (decide (i ∈ t.1) && decide (y ∈ t.2)) := by
          rw [Bool.eq_iff_iff]
          simp [Row.mem_cross]
        rw [e]
        cases decide ((i, y) ∈ ps) <;> cases (decide (i ∈ t.1) && decide (y ∈ t.2)) <;> simp
      rw [this]
      exact rr _ ((same_new hz _).trans (same_new hz2 _))
    · refine tup_of (ev_cons (ev_var rfl) (ev_cons (ev_var rfl) ev_nil)) (two _ _) fun z hz => ?_
      have := rr z hz
      simpa using this
    · have lc : ds.length ≤ 16 := by
        rw [← Paired.length hds]
        exact Nat.le_trans (List.length_filter_le _ _) (by simp; omega)
      refine ⟨pb, acc, _, _, rfl, rfl, s2 _ _ hpb, hacc2, by rw [List.length_map, List.length_map]; exact Nat.le_of_lt (small1000 (by omega)), fun p7 hp7 => ?_⟩
      have s7 := same_new hp7 (.lst (bs.map V.ref ++ ds.map V.ref))
      refine ⟨p7, bs ++ ds, _, (sm.trans s2).trans s7, (sm.trans s2).free hp7, by rw [upd_same, List.map_append], ?_, by rw [List.length_append]; omega, rfl⟩
      rw [List.range_succ (n := i), List.flatMap_append, List.filter_append]
      refine paired_app ((hbs.same s2).same s7) ?_
      have e : List.filter pr' (List.flatMap (fun x => List.map (fun y => (x, y)) (List.range m)) [i]) = ((List.range m).filter fun y => pr' (i, y)).map fun y => (i, y) := by
        rw [List.flatMap_singleton, List.filter_map]
        rfl
      rw [e]
      refine paired_of (by rw [List.length_map]; exact Paired.length hds) fun k x y hx hy => ?_
      obtain ⟨yy, h1, h2⟩ := paired_get hds hy
      rw [List.getElem?_map, h1] at hx
      cases hx
      exact s7 _ _ h2
  rintro σ H' ⟨pb, bs, v, sm, npb, hpb, hbs, lbs, rfl⟩
  dsimp only
  have sf := s57.trans sm
  have bb := Row.behind2_board (n := m) m16 ps t
  obtain ⟨v1, v2, v3⟩ := Row.turn2_value hgx hgy m16 hbrd.sorted hlt tm
  have hv0 : Row.xs (Row.num2 rx ry) (Row.behind2 m ps t) = 0 := by rw [v1]; exact Row.xor_zero tvl.symm
  refine retO_of (opO_of (call_of (ev_cons (ev_ixL (ev_var rfl) ev_c (sf.seq hL5) rfl) (ev_cons (ev_ixL (ev_var rfl) ev_c (sf.seq hL5) rfl) (ev_cons (ev_var rfl) ev_nil))) ⟨px, py, pb, rx, ry, Row.behind2 m ps t, bs, rfl, sf.tup hRx5, sf.tup hRy5, hgx, hgy, .of hpb, PL.bl hbs, bb, fun hn H2 s2 => ⟨rfl, ?_⟩, fun t' ht' => ?_⟩))
  · rw [decide_eq_true rfl]
    exact q _
  · rw [Row.reply2_zero hgx hgy (l16 Row.behind2_lt) hv0] at ht'
    cases ht'
end
section
variable {P : Program} {w : World} {K : PySem.W.Frag} {mg : Str → Option Value} {base : Heap}
theorem all {f : Addr} {fd : FuncData} (D : Facts K mg) (D2 : Dics K w mg) (F : Fun K "law" "law" s_law f fd) : FnOk P w K mg base CX0 22 f fd ["script"] (spLaw K) := by
  have cr : Callee P w K mg base "check_rule" 1 p_check_rule (spCheckRule K) := ok_checkRule D.d_check_rule ⟨D2.GREATEST_K⟩
  have cp : Callee P w K mg base "check_place" 1 p_check_place spCheckPlace := ok_checkPlace D.d_check_place ⟨D.GREATEST_PLACE⟩
  have pn : Callee P w K mg base "place_number" 3 p_place_number (spPlaceN K) := ok_placeNum D.d_place_number ⟨ok_runNum D.d_run_number, ok_mostNum D.d_most_number ⟨ok_odd D.d_has_odd_ones⟩⟩
  have ck : Callee P w K mg base "check_number" 1 p_check_number spCheck := ok_check D.d_check_number ⟨D.GREATEST_NUMBER⟩
  have su : Callee P w K mg base "summed" 2 p_summed spSummedN := ok_summedN D.d_summed ⟨ck⟩
  have so : Callee P w K mg base "sum_of_numbers" 4 p_sum_of_numbers (spSumOf K) := ok_sumOf D.d_sum_of_numbers ⟨su, pn⟩
  have ti : Callee P w K mg base "times" 6 p_times spTimes := ok_times D.d_times ⟨D.n_len, D.BASES⟩ ⟨ck, prodN D.d_product ⟨D.n_len, D.BASES⟩ 5⟩
  have cb : Callee P w K mg base "check_board_place" 1 p_check_board_place spCheckBP := ok_checkBP D.d_check_board_place ⟨D.GREATEST_BOARD_PLACE⟩
  have bn : Callee P w K mg base "board_number" 7 p_board_number (spBoardNumber K) := ok_boardNumber D.d_board_number ⟨cr, cb, ok_numberOf D.d_number_of ⟨cr, cp, pn⟩, ti⟩
  have bv : Callee P w K mg base "board_value" 8 p_board_value (spBoardValue K) := ok_boardValue D.d_board_value ⟨cr, ok_checkBoard D.d_check_board ⟨cb⟩, su, bn⟩
  have te : Callee P w K mg base "turns_ending" 5 p_turns_ending (spEnds K) := ok_ends D.d_turns_ending ⟨D.n_range, D.n_list, D.n_min⟩ ⟨chsN D.d_choices ⟨D.n_range, D.n_list, D.n_min⟩ 3⟩
  have br : Callee P w K mg base "board_reply" 20 p_board_reply (spBoardReply K) := ok_boardReply D.d_board_reply ⟨bv, ok_sums D.d_turns_with_sums ⟨te, so⟩, ok_firstAdd D.d_first_adding ⟨ok_kept D.d_kept_product ⟨ti⟩⟩⟩
  have sh : Callee P w K mg base "_law_shapes" 1 p_law_shapes (spShapes K) := ok_shapes D.d_law_shapes ⟨D.n_range⟩
  have nu : Callee P w K mg base "_law_numbers" 2 p_law_numbers (spNumbers K) := ok_numbers D.d_law_numbers ⟨D.n_range⟩ ⟨sh⟩
  have ov : Callee P w K mg base "_law_over" 1 p_law_over (spOver2 K) := ok_over D.d_law_over
  have cx : Callee P w K mg base "_law_crossed" 1 p_law_crossed (spCrossed K) := ok_crossed D.d_law_crossed
  have ce : Callee P w K mg base "_law_cell_at" 1 p_law_cell_at (spCell K) := ok_cell D.d_law_cell_at D.n_len
  exact ok_law F D ⟨br, ce, ok_rule D.d_law_rule, ok_board D.d_law_board ⟨D.n_range⟩, ok_far D.d_law_far ⟨D.n_range, D.n_sorted⟩ ⟨ce⟩, nu, ltN D.d_law_times 5, ov, cx, ok_first D.d_law_first ⟨sh, ov, cx⟩, ok_is_turn D.d_law_is_turn ⟨D.n_isinstance, D.n_list, D.n_int, D.n_bool, D.n_tuple, D.n_len, D.n_range⟩⟩
end
end H
open PySem PySem.W PyProof.Rows
set_option maxRecDepth 100000 in
set_option maxHeartbeats 0 in
theorem PySem.Challenge.cw_coinrows_k14_first_replies_on_boards_holds : PySem.Challenge.rw_coinrows_k14_first_replies_on_boards.Holds := by
  w_on; o_law; k_head; (case hw => w_witness2)
  k_fill
  refine L2.law_walk (l := PySem.Challenge.rw_coinrows_k14_first_replies_on_boards) (k := 22) (st := H.s_law) ⟨rfl, by decide, by decide⟩ rfl rfl rfl (fun _ _ _ _ _ _ u => rfl) (fun w h Y => PySem.W.kIn_of Y) ?F
  case F =>
    intro w mg h KX G
    have D : H.Facts (L2.KOf KX) mg := by
      dsimp only [L2.KOf]
      refine' ⟨L2.hasDef KX G ?a1 ?l1 ?c1 ?k1, L2.hasDef KX G ?a2 ?l2 ?c2 ?k2, L2.hasDef KX G ?a3 ?l3 ?c3 ?k3, L2.hasDef KX G ?a4 ?l4 ?c4 ?k4, L2.hasDef KX G ?a5 ?l5 ?c5 ?k5, L2.hasDef KX G ?a6 ?l6 ?c6 ?k6, L2.hasDef KX G ?a7 ?l7 ?c7 ?k7, L2.hasDef KX G ?a8 ?l8 ?c8 ?k8, L2.hasDef KX G ?a9 ?l9 ?c9 ?k9, L2.hasDef KX G ?a10 ?l10 ?c10 ?k10, L2.hasDef KX G ?a11 ?l11 ?c11 ?k11, L2.hasDef KX G ?a12 ?l12 ?c12 ?k12, L2.hasDef KX G ?a13 ?l13 ?c13 ?k13, L2.hasDef KX G ?a14 ?l14 ?c14 ?k14, L2.hasDef KX G ?a15 ?l15 ?c15 ?k15, L2.hasDef KX G ?a16 ?l16 ?c16 ?k16, L2.hasDef KX G ?a17 ?l17 ?c17 ?k17, L2.hasDef KX G ?a18 ?l18 ?c18 ?k18, L2.hasDef KX G ?a19 ?l19 ?c19 ?k19, L2.hasDef KX G ?a20 ?l20 ?c20 ?k20, L2.hasDef KX G ?a21 ?l21 ?c21 ?k21, L2.hasDef KX G ?a22 ?l22 ?c22 ?k22, L2.hasDef KX G ?a23 ?l23 ?c23 ?k23, L2.hasDef KX G ?a24 ?l24 ?c24 ?k24, L2.hasDef KX G ?a25 ?l25 ?c25 ?k25, L2.hasDef KX G ?a26 ?l26 ?c26 ?k26, L2.hasDef KX G ?a27 ?l27 ?c27 ?k27, L2.hasDef KX G ?a28 ?l28 ?c28 ?k28, L2.hasDef KX G ?a29 ?l29 ?c29 ?k29, L2.hasDef KX G ?a30 ?l30 ?c30 ?k30, L2.hasDef KX G ?a31 ?l31 ?c31 ?k31, L2.hasDef KX G ?a32 ?l32 ?c32 ?k32, L2.hasDef KX G ?a33 ?l33 ?c33 ?k33, PySem.W.mg_none_of KX G ?z34, PySem.W.mg_none_of KX G ?z35, PySem.W.mg_none_of KX G ?z36, PySem.W.mg_none_of KX G ?z37, PySem.W.mg_none_of KX G ?z38, PySem.W.mg_none_of KX G ?z39, PySem.W.mg_none_of KX G ?z40, PySem.W.mg_none_of KX G ?z41, PySem.W.mg_none_of KX G ?z42, L2.glob_int KX G ?z43, L2.glob_int KX G ?z44, L2.glob_int KX G ?z45, L2.glob_tup KX G ?y47 ?z47 ?v47 ?w47⟩
      (case a1 => k_is); (case l1 => k_is); (case c1 => k_is); (case k1 => k_is)
      (case a2 => k_is); (case l2 => k_is); (case c2 => k_is); (case k2 => k_is)
      (case a3 => k_is); (case l3 => k_is); (case c3 => k_is); (case k3 => k_is)
      (case a4 => k_is); (case l4 => k_is); (case c4 => k_is); (case k4 => k_is)
      (case a5 => k_is); (case l5 => k_is); (case c5 => k_is); (case k5 => k_is)
      (case a6 => k_is); (case l6 => k_is); (case c6 => k_is); (case k6 => k_is)
      (case a7 => k_is); (case l7 => k_is); (case c7 => k_is); (case k7 => k_is)
      (case a8 => k_is); (case l8 => k_is); (case c8 => k_is); (case k8 => k_is)
      (case a9 => k_is); (case l9 => k_is); (case c9 => k_is); (case k9 => k_is)
      (case a10 => k_is); (case l10 => k_is); (case c10 => k_is); (case k10 => k_is)
      (case a11 => k_is); (case l11 => k_is); (case c11 => k_is); (case k11 => k_is)
      (case a12 => k_is); (case l12 => k_is); (case c12 => k_is); (case k12 => k_is)
      (case a13 => k_is); (case l13 => k_is); (case c13 => k_is); (case k13 => k_is)
      (case a14 => k_is); (case l14 => k_is); (case c14 => k_is); (case k14 => k_is)
      (case a15 => k_is); (case l15 => k_is); (case c15 => k_is); (case k15 => k_is)
      (case a16 => k_is); (case l16 => k_is); (case c16 => k_is); (case k16 => k_is)
      (case a17 => k_is); (case l17 => k_is); (case c17 => k_is); (case k17 => k_is)
      (case a18 => k_is); (case l18 => k_is); (case c18 => k_is); (case k18 => k_is)
      (case a19 => k_is); (case l19 => k_is); (case c19 => k_is); (case k19 => k_is)
      (case a20 => k_is); (case l20 => k_is); (case c20 => k_is); (case k20 => k_is)
      (case a21 => k_is); (case l21 => k_is); (case c21 => k_is); (case k21 => k_is)
      (case a22 => k_is); (case l22 => k_is); (case c22 => k_is); (case k22 => k_is)
      (case a23 => k_is); (case l23 => k_is); (case c23 => k_is); (case k23 => k_is)
      (case a24 => k_is); (case l24 => k_is); (case c24 => k_is); (case k24 => k_is)
      (case a25 => k_is); (case l25 => k_is); (case c25 => k_is); (case k25 => k_is)
      (case a26 => k_is); (case l26 => k_is); (case c26 => k_is); (case k26 => k_is)
      (case a27 => k_is); (case l27 => k_is); (case c27 => k_is); (case k27 => k_is)
      (case a28 => k_is); (case l28 => k_is); (case c28 => k_is); (case k28 => k_is)
      (case a29 => k_is); (case l29 => k_is); (case c29 => k_is); (case k29 => k_is)
      (case a30 => k_is); (case l30 => k_is); (case c30 => k_is); (case k30 => k_is)
      (case a31 => k_is); (case l31 => k_is); (case c31 => k_is); (case k31 => k_is)
      (case a32 => k_is); (case l32 => k_is); (case c32 => k_is); (case k32 => k_is)
      (case a33 => k_is); (case l33 => k_is); (case c33 => k_is); (case k33 => k_is)
      (case z34 => k_is)
      (case z35 => k_is)
      (case z36 => k_is)
      (case z37 => k_is)
      (case z38 => k_is)
      (case z39 => k_is)
      (case z40 => k_is)
      (case z41 => k_is)
      (case z42 => k_is)
      (case z43 => k_is)
      (case z44 => k_is)
      (case z45 => k_is)
      (case y47 => k_is); (case z47 => k_is); (case v47 => exact (.cons ⟨_, rfl⟩ (.cons ⟨_, rfl⟩ (.cons ⟨_, rfl⟩ (.cons ⟨_, rfl⟩ .nil))))); (case w47 => decide)
    have L : L2.HasDef (L2.KOf KX) mg "law" H.s_law := by
      dsimp only [L2.KOf]
      refine' L2.hasDef KX G ?a1 ?l1 ?c1 ?k1
      (case a1 => k_is); (case l1 => k_is); (case c1 => k_is); (case k1 => k_is)
    have D2 : H.Dics (L2.KOf KX) w mg := by
      dsimp only [L2.KOf]
      refine' ⟨L2.glob_dic KX G ?da0 ?dl0 ?dk0 ?ds0 ?dv0⟩
      (case da0 => k_is); (case dl0 => k_is); (case dk0 => k_keys); (case ds0 => decide); (case dv0 => exact (.cons ⟨⟨_, rfl⟩, ⟨_, rfl⟩⟩ (.cons ⟨⟨_, rfl⟩, ⟨_, rfl⟩⟩ (.cons ⟨⟨_, rfl⟩, ⟨_, rfl⟩⟩ .nil))))
    exact ⟨L, fun base f fd F => H.all D D2 F⟩
