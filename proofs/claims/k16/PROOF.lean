import PyProof.Rows.All
import Wide.All
import OpenK.AllK
import Wide.FinOn
import Lean
import PyProof.EqAt
import PyProof.EqKinds
import PyProof.TupleCall
import PySem.Challenge.RW_coinrows_k16_written_and_read
set_option Elab.async false
set_option linter.all false
set_option maxRecDepth 100000
namespace L2
open PySem PySem.Spec PyProof.Rows
abbrev Key := Sum Int Str
def keyIs : Key → Value → Bool
  | .inl k, v => Value.isInt k v
  | .inr x, v => Value.isStrOf x v
def keyH (w : World) : Key → Int
  | .inl k => hashInt k
  | .inr x => hashStr w x
theorem keyIs_shape : ∀ {k : Key} {v : Value}, keyIs k v = true → (∃ i t, k = Sum.inl i ∧ v = Value.int i t) ∨ (∃ x t, k = Sum.inr x ∧ v = Value.str x t)
  | .inl i, v, h => by
    obtain ⟨t, e⟩ := Value.isInt_shape (k := i) (v := v) h
    exact .inl ⟨i, t, rfl, e⟩
  | .inr x, v, h => by
    obtain ⟨t, e⟩ := Value.isStrOf_shape (x := x) (v := v) h
    exact .inr ⟨x, t, rfl, e⟩
theorem key_ll (a b : Int) : decide ((Sum.inl a : Key) = Sum.inl b) = (a == b) := by
  by_cases e : a = b
  · subst e; simp
  · have h : ¬ (Sum.inl a : Key) = Sum.inl b := fun q => e (Sum.inl.inj q)
    rw [decide_eq_false h]
    exact (beq_eq_false_iff_ne.mpr e).symm
theorem key_rr (a b : Str) : decide ((Sum.inr a : Key) = Sum.inr b) = decide (a = b) := by
  by_cases e : a = b
  · subst e; simp
  · have h : ¬ (Sum.inr a : Key) = Sum.inr b := fun q => e (Sum.inr.inj q)
    rw [decide_eq_false h, decide_eq_false e]
theorem key_lr (a : Int) (b : Str) : decide ((Sum.inl a : Key) = Sum.inr b) = false := decide_eq_false (fun q => nomatch q)
theorem key_rl (a : Str) (b : Int) : decide ((Sum.inr a : Key) = Sum.inl b) = false := decide_eq_false (fun q => nomatch q)
def mixKind (prog : Program) (w : World) : PySem.KeyKind prog w Key where
  is := keyIs
  hash := keyH w
  inj := fun v a b ha hb => by
    rcases keyIs_shape ha with ⟨i, t, rfl, rfl⟩ | ⟨x, t, rfl, rfl⟩
    · rcases keyIs_shape hb with ⟨j, u, rfl, e⟩ | ⟨y, u, rfl, e⟩
      · injection e with e1 _; rw [e1]
      · exact nomatch e
    · rcases keyIs_shape hb with ⟨j, u, rfl, e⟩ | ⟨y, u, rfl, e⟩
      · exact nomatch e
      · injection e with e1 _; rw [e1]
  byValue := fun k v h => by
    rcases keyIs_shape h with ⟨i, t, rfl, rfl⟩ | ⟨x, t, rfl, rfl⟩ <;> rfl
  pyHash := fun hv h => by
    rcases keyIs_shape hv with ⟨i, t, rfl, rfl⟩ | ⟨x, t, rfl, rfl⟩
    · exact wpAny_pyHash_int h
    · exact wpAny_pyHash_str h
  eqBool := fun hu hv h => by
    rcases keyIs_shape hu with ⟨i, t, rfl, rfl⟩ | ⟨x, t, rfl, rfl⟩
    · rcases keyIs_shape hv with ⟨j, u, rfl, rfl⟩ | ⟨y, u, rfl, rfl⟩
      · rw [key_ll] at h; exact wpAny_eqBool_int h
      · rw [key_lr] at h; exact SeqAt.EqAt.int_str i t y u _ _ _ _ h
    · rcases keyIs_shape hv with ⟨j, u, rfl, rfl⟩ | ⟨y, u, rfl, rfl⟩
      · rw [key_rl] at h; exact SeqAt.EqAt.str_int x t j u _ _ _ _ h
      · rw [key_rr] at h; exact wpAny_eqBool_str h
  «strs» := fun k x t v h => by
    rcases keyIs_shape h with ⟨i, u, rfl, e⟩ | ⟨y, u, rfl, e⟩
    · exact nomatch e
    · injection e with e1 _
      subst e1
      cases v <;> rfl
end L2
namespace L2
open PySem PySem.Spec PyProof.Rows
inductive V where
  | non | bl (b : Bool) | int (i : Int) | str (x : Str) | byt (b : Array UInt8) | flt (b : UInt64) | ref (a : Addr) | ty (n : String)
  deriving DecidableEq
def RelV : V → Value → Prop
  | .non, u => u = Value.none
  | .bl b, u => u = Value.bool b
  | .int i, u => ∃ t, u = Value.int i t
  | .str x, u => ∃ t, u = Value.str x t
  | .byt b, u => ∃ t, u = Value.bytes b t
  | .flt b, u => ∃ t, u = Value.float b t
  | .ref a, u => u = Value.ref a
  | .ty n, u => u = Value.type n
abbrev Vals : List V → List Value → Prop := Paired RelV
theorem Vals.length {xs : List V} {us : List Value} (r : Vals xs us) : xs.length = us.length := Paired.length r
theorem Vals.get : ∀ {xs : List V} {us : List Value} {i : Nat} {x : V}, Vals xs us → xs[i]? = some x → ∃ u, us[i]? = some u ∧ RelV x u
  | _, _, _, _, .nil, e => by simp at e
  | _, _, 0, _, .cons r _, e => by simp at e; subst e; exact ⟨_, rfl, r⟩
  | _, _, i + 1, x, .cons _ t, e => by
    obtain ⟨u, h1, h2⟩ := Vals.get (i := i) (x := x) t (by simpa using e)
    exact ⟨u, by simpa using h1, h2⟩
theorem Vals.set {x : V} {u : Value} (r : RelV x u) : ∀ {xs : List V} {us : List Value} (i : Nat), Vals xs us → Vals (xs.set i x) (us.set i u)
  | _, _, _, .nil => .nil
  | _, _, 0, .cons _ t => .cons r t
  | _, _, i + 1, .cons q t => .cons q (Vals.set r i t)
theorem Vals.append : ∀ {xs ys : List V} {us ws : List Value}, Vals xs us → Vals ys ws → Vals (xs ++ ys) (us ++ ws)
  | _, _, _, _, .nil, s => s
  | _, _, _, _, .cons r t, s => .cons r (Vals.append t s)
theorem Vals.take : ∀ {xs : List V} {us : List Value} (n : Nat), Vals xs us → Vals (xs.take n) (us.take n)
  | _, _, 0, _ => .nil
  | _, _, _ + 1, .nil => .nil
  | _, _, n + 1, .cons r t => .cons r (Vals.take n t)
theorem Vals.drop : ∀ {xs : List V} {us : List Value} (n : Nat), Vals xs us → Vals (xs.drop n) (us.drop n)
  | _, _, 0, r => r
  | _, _, _ + 1, .nil => .nil
  | _, _, n + 1, .cons _ t => Vals.drop n t
theorem Vals.none_of : ∀ {xs : List V} {us : List Value} {i : Nat}, Vals xs us → xs[i]? = none → us[i]? = none := fun {xs us i} r e => by
  have h1 := r.length
  have h2 : xs.length ≤ i := List.getElem?_eq_none_iff.mp e
  exact List.getElem?_eq_none_iff.mpr (by omega)
def RelO : Option V → Option Value → Prop
  | some v, some u => RelV v u
  | none, none => True
  | _, _ => False
def KV {κ : Type} : List (κ × V) → List (κ × Value) → Prop := Paired fun (p : κ × V) (q : κ × Value) => p.1 = q.1 ∧ RelV p.2 q.2
def kV : Key → V
  | .inl i => .int i
  | .inr x => .str x
inductive HO where
    | lst (xs : List V)
    | tup (xs : List V)
    | dK (kvs : List (Key × V)) | dT (kvs : List (List Key × V))
    | set (S : Int → Bool) (n : Nat)
    | ins (C dx : Addr) (fs : List (Str × V))
    | own (x : Addr)
    | xd (fs : List (Str × V))
    | met (f x : Addr)
    | rng (lo hi : Int)
    | frz (o : Obj) (u : HO)
    | tbl (ps : Array Value)
    | ext (φ : Heap → Prop)
abbrev Hp := Addr → Option HO
def upd (H : Hp) (a : Addr) (o : HO) : Hp := fun b => if b = a then some o else H b
theorem upd_same {H : Hp} {a : Addr} {o : HO} : upd H a o a = some o := by unfold upd; rw [if_pos rfl]
theorem upd_ne {H : Hp} {a b : Addr} {o : HO} (h : b ≠ a) : upd H a o b = H b := by unfold upd; rw [if_neg h]
theorem upd_upd {H : Hp} {a : Addr} {o u : HO} : upd (upd H a o) a u = upd H a u := by
  funext b; unfold upd; split <;> rfl
theorem ne_of {H : Hp} {a b : Addr} {o u : HO} (h : H a = some o) (h' : H b = some u) (d : o ≠ u) : a ≠ b := by
  intro e; subst e; rw [h] at h'; exact d (Option.some.inj h')
theorem ne_of_none {H : Hp} {a b : Addr} {o : HO} (h : H a = some o) (h' : H b = none) : a ≠ b := by
  intro e; subst e; rw [h] at h'; cases h'
section
variable (P : Program) (w : World)
def ObjOk (H : Hp) (h : Heap) (a : Addr) : HO → Prop
  | .lst xs => xs.length ≤ sizeLine ∧ ∃ (its : List Value) (n : Nat), Vals xs its ∧ h.get? a = some { cls := .type "list", data := .seq its.toArray n }
  | .tup xs => xs.length ≤ sizeLine ∧ ∃ its : List Value, Vals xs its ∧ IsTup h a its.toArray
  | .dK kvs => kvs.length ≤ sizeLine ∧ (a == sysModules) = false ∧ ∃ vs, KV kvs vs ∧ h.DictOf (mixKind P w) a vs
  | .dT kvs => kvs.length ≤ sizeLine ∧ (a == sysModules) = false ∧ ∃ xs : List (List Key × Addr × Value),
      Paired (fun (p : List Key × V) (q : List Key × Addr × Value) => p.1 = q.1 ∧ H q.2.1 = some (.tup (p.1.map kV)) ∧ RelV p.2 q.2.2) kvs xs ∧
      ∃ o es ep, h.get? a = some o ∧ o.ExactDict ∧ o.data = .dict es ep ∧ es.toList = xs.map (entryOfKey (tupleKind (mixKind P w))) ∧ (xs.map (·.1)).Nodup
  | .set S n => h.SetOf (intKind P w) a S n
  | .ins C dx fs => H dx = some (.own a) ∧ fs.length ≤ 1000 ∧ dx ≠ a ∧ h.get? a = some (PySem.W.instObj C dx) ∧
      ∃ mA, h.Ns1 dx mA ∧ (∀ f, RelO (fs.lookup f) (mA f)) ∧ PySem.Within mA (fs.map (·.1))
  | .own _ => ∃ o, h.get? a = some o
  | .xd fs => ∃ mA, h.Ns1 a mA ∧ ∀ f, RelO (fs.lookup f) (mA f)
  | .rng lo hi => ∃ t u v, h.get? a = some { cls := .type "range", data := .fields #[.int lo t, .int hi u, .int 1 v] }
  | .frz o u => h.get? a = some o ∧ ObjOk H h a u
  | .tbl ps => h.get? a = some { cls := .none, data := .fields ps }
  | .met f x => h.get? a = some (PySem.W.methodObj (.ref f) (.ref x))
  | .ext φ => φ h ∧ (∃ o, h.get? a = some o) ∧ ∀ h1 h2 : Heap, φ h1 → (∀ o, h1.get? a = some o → h2.get? a = some o) → φ h2
def HOk (H : Hp) (h : Heap) : Prop := ∀ a o, H a = some o → ObjOk P w H h a o
end
section
variable {P : Program} {w : World} {H H' : Hp} {h h' : Heap} {a : Addr} {o : HO}
theorem ObjOk.lt (x : ObjOk P w H h a o) : a < h.objs.size := by
  cases o with
  | lst xs => obtain ⟨_, _, _, _, e⟩ := x; exact Heap.lt_size e
  | tup xs => obtain ⟨_, _, _, p⟩ := x; exact p.lt
  | dK kvs => obtain ⟨_, _, _, _, o, _, _, e, _⟩ := x; exact Heap.lt_size e
  | dT kvs => obtain ⟨_, _, _, _, o, _, _, e, _⟩ := x; exact Heap.lt_size e
  | set S n => obtain ⟨o, _, _, _, e, _⟩ := x; exact Heap.lt_size e
  | ins C dx fs => obtain ⟨_, _, _, e, _⟩ := x; exact Heap.lt_size e
  | own y => obtain ⟨_, e⟩ := x; exact Heap.lt_size e
  | xd fs => obtain ⟨_, ⟨_, _, _, e, _⟩, _⟩ := x; exact Heap.lt_size e
  | rng lo hi => obtain ⟨_, _, _, e⟩ := x; exact Heap.lt_size e
  | frz ob u => obtain ⟨e, _⟩ := x; exact Heap.lt_size e
  | tbl ps => exact Heap.lt_size (show h.get? a = some _ from x)
  | met f y => exact Heap.lt_size (show h.get? a = some _ from x)
  | ext φ => obtain ⟨_, ⟨_, e⟩, _⟩ := x; exact Heap.lt_size e
theorem Paired.mapP {α β : Type} {F G : α → β → Prop} : ∀ {l₁ : List α} {l₂ : List β}, Paired F l₁ l₂ → (∀ a b, F a b → G a b) → Paired G l₁ l₂
  | _, _, .nil, _ => .nil
  | _, _, .cons r t, f => .cons (f _ _ r) (Paired.mapP t f)
theorem ObjOk.stay (x : ObjOk P w H h a o) (k : ∀ b u, (b = a ∨ H b = some (.own a)) → h.get? b = some u → h'.get? b = some u)
    (ho : ∀ b, H b = some (.own a) → H' b = some (.own a)) (ht : ∀ b xs, H b = some (.tup xs) → H' b = some (.tup xs)) : ObjOk P w H' h' a o := by
  induction o with
  | lst xs => obtain ⟨z, its, n, r, e⟩ := x; exact ⟨z, its, n, r, k _ _ (.inl rfl) e⟩
  | tup xs => obtain ⟨z, its, r, ob, e, c⟩ := x; exact ⟨z, its, r, ob, k _ _ (.inl rfl) e, c⟩
  | dK kvs => obtain ⟨z, y, vs, r, ob, es, ep, e, c⟩ := x; exact ⟨z, y, vs, r, ob, es, ep, k _ _ (.inl rfl) e, c⟩
  | dT kvs =>
    obtain ⟨z, y, xs, r, ob, es, ep, e, c⟩ := x
    exact ⟨z, y, xs, Paired.mapP r fun p q z => ⟨z.1, ht _ _ z.2.1, z.2.2⟩, ob, es, ep, k _ _ (.inl rfl) e, c⟩
  | set S n => obtain ⟨ob, es, ep, t, e, c⟩ := x; exact ⟨ob, es, ep, t, k _ _ (.inl rfl) e, c⟩
  | ins C dx fs =>
    obtain ⟨d, z, ne, e, mA, ⟨od, es, ep, e2, c⟩, r⟩ := x
    exact ⟨ho _ d, z, ne, k _ _ (.inl rfl) e, mA, ⟨od, es, ep, k _ _ (.inr d) e2, c⟩, r⟩
  | own y => obtain ⟨ob, e⟩ := x; exact ⟨ob, k _ _ (.inl rfl) e⟩
  | xd fs => obtain ⟨mA, ⟨od, es, ep, e, c⟩, r⟩ := x; exact ⟨mA, ⟨od, es, ep, k _ _ (.inl rfl) e, c⟩, r⟩
  | rng lo hi => obtain ⟨t, u, v, e⟩ := x; exact ⟨t, u, v, k _ _ (.inl rfl) e⟩
  | frz ob u ih => obtain ⟨e, q⟩ := x; exact ⟨k _ _ (.inl rfl) e, ih q⟩
  | tbl ps =>
    have e : h.get? a = some { cls := .none, data := .fields ps } := x
    show h'.get? a = some { cls := .none, data := .fields ps }
    exact k a _ (.inl rfl) e
  | met f y =>
    have e : h.get? a = some (PySem.W.methodObj (.ref f) (.ref y)) := x
    show h'.get? a = some (PySem.W.methodObj (.ref f) (.ref y))
    exact k a _ (.inl rfl) e
  | ext φ => obtain ⟨p, ⟨o, e⟩, st⟩ := x; exact ⟨st _ _ p fun o q => k _ _ (.inl rfl) q, ⟨o, k _ _ (.inl rfl) e⟩, st⟩
theorem HOk.lt (x : HOk P w H h) (e : H a = some o) : a < h.objs.size := (x a o e).lt
theorem HOk.fresh (x : HOk P w H h) (e : h.objs.size ≤ a) : H a = none := by
  cases q : H a with
  | none => rfl
  | some u => exact absurd (Nat.lt_of_lt_of_le (x.lt q) e) (Nat.lt_irrefl _)
theorem HOk.kept (x : HOk P w H h) (k : ∀ b u, h.get? b = some u → h'.get? b = some u) : HOk P w H h' := fun a o e =>
  (x a o e).stay (fun b u _ q => k b u q) (fun _ q => q) fun _ _ q => q
theorem HOk.laid (x : HOk P w H h) (k : ∀ b u, h.get? b = some u → h'.get? b = some u) (hp : h.objs.size ≤ a) (new : ObjOk P w (upd H a o) h' a o) : HOk P w (upd H a o) h' := fun b u e => by
  have hn := x.fresh hp
  by_cases hb : b = a
  · subst hb; rw [upd_same] at e; cases e; exact new
  · rw [upd_ne hb] at e
    exact (x b u e).stay (fun c v _ q => k c v q) (fun c q => by rw [upd_ne (ne_of_none q hn)]; exact q) fun c xs q => by rw [upd_ne (ne_of_none q hn)]; exact q
end
def Rd (H : Hp) (a : Addr) (u : HO) : Prop := H a = some u ∨ ∃ o, H a = some (.frz o u)
theorem Rd.of {H : Hp} {a : Addr} {u : HO} (h : H a = some u) : Rd H a u := .inl h
theorem Rd.ok {P : Program} {w : World} {H : Hp} {h : Heap} {a : Addr} {u : HO} (r : Rd H a u) (x : HOk P w H h) : ObjOk P w H h a u := by
  rcases r with r | ⟨o, r⟩
  · exact x a u r
  · obtain ⟨_, q⟩ := x a _ r
    exact q
def Mut : Option HO → Prop
  | some (.lst _) => True
  | some (.dK _) => True
  | some (.dT _) => True
  | some (.set _ _) => True
  | some (.ins _ _ _) => True
  | some (.ext _) => True
  | _ => False
section
variable {P : Program} {w : World} {H : Hp} {h h' : Heap} {x e : Addr} {o' : HO}
theorem HOk.write (ok : HOk P w H h) (mu : Mut (H x)) (he : e = x ∨ H e = some (.own x)) (k : ∀ b u, b ≠ e → h.get? b = some u → h'.get? b = some u) (heo : ∃ u, h'.get? e = some u)
    (new : ObjOk P w (upd H x o') h' x o') : HOk P w (upd H x o') h' := fun b u q => by
  have nown : ∀ c y, H c = some (.own y) → c ≠ x := fun c y r z => by subst z; rw [r] at mu; exact mu
  have ntup : ∀ c xs, H c = some (.tup xs) → c ≠ x := fun c xs r z => by subst z; rw [r] at mu; exact mu
  by_cases hb : b = x
  · subst hb; rw [upd_same] at q; cases q; exact new
  · rw [upd_ne hb] at q
    by_cases hbe : b = e
    · have q' : H b = some (.own x) := by
        rcases he with z | z
        · exact absurd (hbe.trans z) hb
        · rw [hbe]; exact z
      rw [q] at q'; cases q'
      obtain ⟨v, hv⟩ := heo
      exact ⟨v, by rw [hbe]; exact hv⟩
    · refine (ok b u q).stay (fun c v hc r => k c v ?_ r) (fun c r => by rw [upd_ne (nown c b r)]; exact r) fun c xs r => by rw [upd_ne (ntup c xs r)]; exact r
      rcases hc with rfl | hc
      · exact hbe
      · rintro rfl
        rcases he with z | z
        · exact nown c b hc z
        · rw [hc] at z; cases z; exact hb rfl
end
structure Un (fs ex : List Addr) (H H' : Hp) (h h' : Heap) : Prop where
  keep : ∀ b o, h.get? b = some o → H b = none → b ∉ fs → b ∉ ex → h'.get? b = some o
  slot : ∀ b o, h.get? b = some o → H b = none → b ∈ fs → b ∉ ex → ∃ sl, h'.get? b = some { o with slots := sl }
  free : ∀ b o, h.get? b = some o → H b = none → b ∉ ex → H' b = none
  there : ∀ b o, h.get? b = some o → b ∉ ex → ∃ o', h'.get? b = some o'
  tups : ∀ b xs, H b = some (.tup xs) → H' b = some (.tup xs)
  frzs : ∀ b o u, H b = some (.frz o u) → H' b = some (.frz o u)
  tbls : ∀ b ps, H b = some (.tbl ps) → ∃ more, H' b = some (.tbl (ps ++ more))
section
variable {fs fs' ex ex' : List Addr} {H H1 H2 : Hp} {h h1 h2 h' : Heap} {a x e : Addr} {o : HO}
theorem Un.any (u : Un fs ex H H1 h h1) {b : Addr} {ob : Obj} (q : h.get? b = some ob) (n : H b = none) (hx : b ∉ ex) : ∃ sl, h1.get? b = some { ob with slots := sl } := by
  by_cases hb : b ∈ fs
  · exact u.slot b ob q n hb hx
  · exact ⟨ob.slots, u.keep b ob q n hb hx⟩
theorem Un.trans (a : Un fs ex H H1 h h1) (b : Un fs ex H1 H2 h1 h2) : Un fs ex H H2 h h2 where
  keep := fun c ob q n hc hx => b.keep c ob (a.keep c ob q n hc hx) (a.free c ob q n hx) hc hx
  slot := fun c ob q n hc hx => by
    obtain ⟨sl, e1⟩ := a.slot c ob q n hc hx
    obtain ⟨sl', e2⟩ := b.slot c _ e1 (a.free c ob q n hx) hc hx
    exact ⟨sl', e2⟩
  free := fun c ob q n hx => by
    obtain ⟨o', e1⟩ := a.there c ob q hx
    exact b.free c o' e1 (a.free c ob q n hx) hx
  there := fun c ob q hx => by
    obtain ⟨o', e1⟩ := a.there c ob q hx
    exact b.there c o' e1 hx
  tups := fun c xs q => b.tups c xs (a.tups c xs q)
  frzs := fun c ob xs q => b.frzs c ob xs (a.frzs c ob xs q)
  tbls := fun c ps q => by
    obtain ⟨m1, e1⟩ := a.tbls c ps q
    obtain ⟨m2, e2⟩ := b.tbls c _ e1
    exact ⟨m1 ++ m2, by rw [e2, Array.append_assoc]⟩
theorem Un.kept (k : ∀ b u, h.get? b = some u → h'.get? b = some u) : Un fs ex H H h h' :=
  ⟨fun b ob q _ _ _ => k b ob q, fun b ob q _ _ _ => ⟨ob.slots, k b ob q⟩, fun _ _ _ n _ => n, fun b ob q _ => ⟨ob, k b ob q⟩, fun _ _ q => q, fun _ _ _ q => q, fun _ ps q => ⟨#[], by rw [q]; simp⟩⟩
theorem Un.refl : Un fs ex H H h h := Un.kept fun _ _ q => q
theorem Un.laid (k : ∀ b u, h.get? b = some u → h'.get? b = some u) (hp : h.objs.size ≤ a) (hn : H a = none) : Un fs ex H (upd H a o) h h' where
  keep := fun b u q _ _ _ => k b u q
  slot := fun b u q _ _ _ => ⟨u.slots, k b u q⟩
  free := fun b u q n _ => by rw [upd_ne (Nat.ne_of_lt (Nat.lt_of_lt_of_le (Heap.lt_size q) hp))]; exact n
  there := fun b u q _ => ⟨u, k b u q⟩
  tups := fun b xs q => by rw [upd_ne (ne_of_none q hn)]; exact q
  frzs := fun b u xs q => by rw [upd_ne (ne_of_none q hn)]; exact q
  tbls := fun b ps q => ⟨#[], by rw [upd_ne (ne_of_none q hn), q]; simp⟩
theorem Un.write (mu : Mut (H x)) (he : e = x ∨ H e = some (.own x)) (k : ∀ b u, b ≠ e → h.get? b = some u → h'.get? b = some u) (heo : ∃ u, h'.get? e = some u) : Un fs ex H (upd H x o) h h' := by
  have hx : ∀ b, H b = none → b ≠ x := fun b n z => by subst z; rw [n] at mu; exact mu
  have hb : ∀ b, H b = none → b ≠ e := fun b n z => by
    subst z
    rcases he with r | r
    · exact hx b n r
    · rw [n] at r; cases r
  have hm : ∀ b u, H b = some u → ¬ Mut (some u) → b ≠ x := fun b u q nm z => by subst z; rw [q] at mu; exact nm mu
  refine ⟨fun b u q n _ _ => k b u (hb b n) q, fun b u q n _ _ => ⟨u.slots, k b u (hb b n) q⟩, fun b u q n _ => by rw [upd_ne (hx b n)]; exact n, fun b u q _ => ?_,
    fun b xs q => by rw [upd_ne (hm b _ q fun z => z)]; exact q, fun b u xs q => by rw [upd_ne (hm b _ q fun z => z)]; exact q, fun b ps q => ⟨#[], by rw [upd_ne (hm b _ q fun z => z), q]; simp⟩⟩
  by_cases hbe : b = e
  · subst hbe; exact heo
  · exact ⟨u, k b u hbe q⟩
theorem Un.mono (u : Un fs ex H H1 h h1) (hs : ∀ b ∈ fs, b ∈ fs') (hx : ∀ b ∈ ex, b ∈ ex') : Un fs' ex' H H1 h h1 :=
  ⟨fun b ob q n hb he => u.keep b ob q n (fun z => hb (hs b z)) fun z => he (hx b z), fun _ _ q n _ he => u.any q n fun z => he (hx _ z), fun b ob q n he => u.free b ob q n fun z => he (hx b z), fun b ob q he => u.there b ob q fun z => he (hx b z), u.tups, u.frzs, u.tbls⟩
end
def trk (h : Heap) (H : Hp) : List Addr := (List.range h.objs.size).filter fun a => (H a).isSome
def hidT (h : Heap) (H : Hp) : Heap := PySem.W.hideAll h (trk h H)
theorem hidT_size (h : Heap) (H : Hp) : (hidT h H).objs.size = h.objs.size := PySem.W.hideAll_size _ _
theorem hidT_get {h : Heap} {H : Hp} {b : Addr} {o : Obj} (e : h.get? b = some o) (n : H b = none) : (hidT h H).get? b = some o :=
  PySem.W.hideAll_get _ e fun hm => by
    have q : (H b).isSome = true := (List.mem_filter.mp hm).2
    rw [n] at q; simp at q
theorem of_hidT {h : Heap} {H : Hp} {b : Addr} {o : Obj} (e : (hidT h H).get? b = some o) : h.get? b = some o ∧ H b = none := by
  have e' : h.get? b = some o := PySem.W.of_hideAll (trk h H) e
  refine ⟨e', ?_⟩
  cases q : H b with
  | none => rfl
  | some x =>
    have hm : b ∈ trk h H := List.mem_filter.mpr ⟨List.mem_range.mpr (Heap.lt_size e'), by simp [q]⟩
    have z : (hidT h H).get? b = none := PySem.W.hideAll_none (trk h H) hm
    rw [z] at e; cases e
def allNews (g h : Heap) (L : Addr) : List (Addr × Obj) := (List.range h.objs.size).filterMap fun a => if a = L ∨ (g.get? a).isSome = true then none else (h.get? a).map fun o => (a, o)
def rest (g h : Heap) (L d : Addr) : List (Addr × Obj) := (allNews g h L).filter fun p => decide (p.1 ≠ d)
end L2
namespace L2
open PySem PySem.Spec PyProof.Rows
structure Mod (K : PySem.W.Frag) (mg : Str → Option Value) (base : Heap) : Prop where
  kin : K.In base
  glob : base.Ns mainGlobals mg
  blt : ∃ mb, base.Ns builtinsNs mb ∧ ∀ x : Str, x ≠ "__name__" → mb x = bootBuiltins x
  nolimit : base.NoLimit
structure Cx where
  prog : Program
  w : World
  K : PySem.W.Frag
  mg : Str → Option Value
  base : Heap
  A : Around
  N : List Str
  s₀ : Shared
  H₀ : Hp
  env : Env
  outer : List Env
  stack : List Env
  ex : List Addr
  fn : Str → Bool
  calm : Bool
  pn : List (Addr × Obj)
  xe : Value → Shared → Prop
def frs (l : List Env) : List Addr := l.filterMap (·.frame)
abbrev Cx.fs (X : Cx) : List Addr := frs X.outer
def Vis (sc : Scope) (x : Str) : Prop := sc.names.lookup x = some .local ∨ sc.names.lookup x = some .cell ∨ sc.names.lookup x = some .free
def Loc (sc : Scope) (x : Str) : Prop := sc.names.lookup x = some .local ∨ sc.names.lookup x = some .cell
def Look (env : Env) (h : Heap) (m : Str → Option Value) (x : Str) (u : Value) : Prop :=
  (env.kindOf x = some .local ∧ m x = some u) ∨ ((env.kindOf x = some .cell ∨ env.kindOf x = some .free) ∧ ∃ c, env.cells.lookup x = some c ∧ h.IsCell c (some u))
structure Cx.Ok (X : Cx) : Prop where
  mod : Mod X.K X.mg X.base
  kind : X.env.scope.kind = .function
  glob : X.env.globals = mainGlobals
  blt : X.env.builtins = builtinsNs
  above : X.s₀.heap.objs.size ≤ X.env.locals
  inj : ∀ x y c, X.env.cells.lookup x = some c → X.env.cells.lookup y = some c → x = y
  has : ∀ x, (X.env.kindOf x = some .cell ∨ X.env.kindOf x = some .free) → ∃ c, X.env.cells.lookup x = some c
  cab : ∀ x c, X.fn x = true → X.env.cells.lookup x = some c → X.s₀.heap.objs.size ≤ c
  hd : X.calm = true → X.A.handled = none
  frames : X.A.frames = some X.stack
  stk : X.stack = X.outer ∨ (X.stack = X.env :: X.outer ∧ X.env.frame = some X.env.locals)
  exf : ∀ b ∈ X.ex, b ≠ X.env.locals ∧ ∀ x c, X.env.cells.lookup x = some c → c ≠ b
  bs : ∀ b o, X.base.get? b = some o → X.s₀.heap.get? b = some o ∧ X.H₀ b = none
  bsz : X.base.objs.size ≤ X.s₀.heap.objs.size
  noex : ∀ b o, X.base.get? b = some o → b ∉ X.ex
  exfs : ∀ b ∈ X.ex, b ∉ X.fs
  funs : X.s₀.heap.FunFrames X.base X.outer
  frf : ∀ b ∈ X.fs, X.H₀ b = none
structure Inv (X : Cx) (pins : List (Addr × Obj)) (σ : List (Option V)) (H : Hp) (s : Shared) : Prop where
  ok : X.Ok
  os : s.os = X.s₀.os
  bare : AllBare s.gens
  base : Un X.fs X.ex X.H₀ H X.s₀.heap s.heap
  loc : ∃ m, s.heap.Ns X.env.locals m ∧ ∀ (i : Nat) (x : Str) (v : V), X.N[i]? = some x → σ[i]? = some (some v) → Vis X.env.scope x → ∃ u, RelV v u ∧ Look X.env s.heap m x u
  cell : ∀ x c, X.env.cells.lookup x = some c → ∃ v, s.heap.IsCell c v
  free : H X.env.locals = none
  freeC : ∀ x c, X.env.cells.lookup x = some c → H c = none
  pin : ∀ p ∈ X.pn ++ pins, s.heap.get? p.1 = some p.2 ∧ H p.1 = none ∧ p.1 ≠ X.env.locals ∧ p.1 ∉ X.fs ∧ ∀ v, p.2.data ≠ .cell v
  hok : HOk X.prog X.w H s.heap
  len : σ.length = X.N.length
section
variable {X : Cx} {pins : List (Addr × Obj)} {σ : List (Option V)} {H H' : Hp} {s : Shared} {h' : Heap}
theorem Cx.Ok.nofr (ok : X.Ok) {b : Addr} {o : Obj} (e : X.base.get? b = some o) : b ∉ X.fs := fun hb => by
  have := (ok.funs.mem hb).1
  rw [e] at this; cases this
theorem Inv.bs (I : Inv X pins σ H s) : ∀ b o, X.base.get? b = some o → s.heap.get? b = some o ∧ H b = none := fun b o e =>
  ⟨I.base.keep b o (I.ok.bs b o e).1 (I.ok.bs b o e).2 (I.ok.nofr e) (I.ok.noex b o e), I.base.free b o (I.ok.bs b o e).1 (I.ok.bs b o e).2 (I.ok.noex b o e)⟩
theorem Inv.bk (I : Inv X pins σ H s) : ∀ b o, X.base.get? b = some o → s.heap.get? b = some o := fun b o e => (I.bs b o e).1
theorem Inv.mod (I : Inv X pins σ H s) : Mod X.K X.mg X.base := I.ok.mod
theorem Inv.kIn (I : Inv X pins σ H s) : X.K.In s.heap := I.ok.mod.kin.keeps I.bk
theorem Inv.nolimit (I : Inv X pins σ H s) : s.heap.NoLimit := I.ok.mod.nolimit.keeps I.bk
theorem Inv.fr (I : Inv X pins σ H s) : ∃ m, Fr X.base X.env.locals s.heap m :=
  let ⟨m, hn, _⟩ := I.loc
  ⟨m, hn, I.bk, Nat.le_trans I.ok.bsz I.ok.above⟩
theorem Inv.lt (I : Inv X pins σ H s) : X.env.locals < s.heap.objs.size := let ⟨_, hn, _⟩ := I.loc; hn.lt
theorem Inv.sz (I : Inv X pins σ H s) : X.s₀.heap.objs.size ≤ s.heap.objs.size := Nat.le_trans I.ok.above (Nat.le_of_lt I.lt)
theorem Inv.nofs (I : Inv X pins σ H s) {a : Addr} (h : s.heap.objs.size ≤ a) : a ∉ X.fs := fun hb => by
  obtain ⟨_, o, ho, _⟩ := I.ok.funs.mem hb
  exact absurd (Nat.lt_of_lt_of_le (Heap.lt_size ho) (Nat.le_trans I.sz h)) (Nat.lt_irrefl _)
theorem Inv.cne (I : Inv X pins σ H s) : ∀ x c, X.env.cells.lookup x = some c → c ≠ X.env.locals := fun x c e z => by
  obtain ⟨v, o, ho, hd⟩ := I.cell x c e
  obtain ⟨m, ⟨o', es, ep, ho', hd', _⟩, _⟩ := I.loc
  rw [z, ho'] at ho; cases ho; rw [hd'] at hd; cases hd
theorem Inv.funs (I : Inv X pins σ H s) : s.heap.FunFrames X.base X.outer := by
  have all : ∀ (l : List Env), (∀ b ∈ frs l, b ∈ X.fs) → X.s₀.heap.FunFrames X.base l → s.heap.FunFrames X.base l := by
    intro l
    induction l with
    | nil => intro _ _; trivial
    | cons env r ih =>
      intro hs hl
      obtain ⟨hk, ⟨L, o, hf, hn, ho, hd⟩, hr⟩ := hl
      have hL : L ∈ X.fs := hs L (by unfold frs; rw [List.filterMap_cons, hf]; exact List.mem_cons_self)
      obtain ⟨sl, e⟩ := I.base.slot L o ho (I.ok.frf L hL) hL fun z => I.ok.exfs L z hL
      exact ⟨hk, ⟨L, _, hf, hn, e, hd⟩, ih (fun b hb => hs b (by unfold frs; rw [List.filterMap_cons, hf]; exact List.mem_cons_of_mem _ hb)) hr⟩
  exact all X.outer (fun _ hb => hb) I.ok.funs
theorem Inv.stack (I : Inv X pins σ H s) : s.heap.FunFrames X.base X.stack := by
  rcases I.ok.stk with e | ⟨e, hf⟩
  · rw [e]; exact I.funs
  · rw [e]
    obtain ⟨m, hn, _⟩ := I.loc
    refine .cons (by rw [I.ok.kind]; decide) hf hn ?_ I.funs
    exact Heap.get?_none_of_le (Nat.le_trans I.ok.bsz I.ok.above)
theorem Inv.stkSub (I : Inv X pins σ H s) : ∀ b ∈ frs X.stack, b ∈ X.env.locals :: X.fs := fun b hb => by
  rcases I.ok.stk with e | ⟨e, hf⟩
  · rw [e] at hb; exact List.mem_cons_of_mem _ hb
  · rw [e] at hb
    unfold frs at hb
    rw [List.filterMap_cons, hf] at hb
    exact hb
theorem Inv.stkFree (I : Inv X pins σ H s) : ∀ b ∈ frs X.stack, H b = none := fun b hb => by
  rcases List.mem_cons.mp (I.stkSub b hb) with e | hb
  · rw [e]; exact I.free
  · obtain ⟨_, o, ho, _⟩ := I.ok.funs.mem hb
    exact I.base.free b o ho (I.ok.frf b hb) fun z => I.ok.exfs b z hb
theorem Inv.step {g' : Array GenState} {t' : Nat} {d' : Drawn} {ch : List Addr} (I : Inv X pins σ H s)
    (hch : ∀ b ∈ ch, (b ∈ X.ex ∨ X.s₀.heap.objs.size ≤ b) ∧ b ≠ X.env.locals ∧ (∀ x c, X.env.cells.lookup x = some c → c ≠ b) ∧ ∀ p ∈ X.pn ++ pins, p.1 ≠ b)
    (keep : ∀ b o, b ≠ X.env.locals → b ∉ X.fs → b ∉ ch → s.heap.get? b = some o → H b = none → h'.get? b = some o)
    (slot : ∀ b o, b ≠ X.env.locals → b ∈ X.fs → b ∉ ch → s.heap.get? b = some o → H b = none → ∃ sl, h'.get? b = some { o with slots := sl }) (free : ∀ b o, b ∉ ch → s.heap.get? b = some o → H b = none → H' b = none)
    (there : ∀ b o, b ∉ ch → s.heap.get? b = some o → ∃ o', h'.get? b = some o')
    (tups : ∀ b xs, H b = some (.tup xs) → H' b = some (.tup xs)) (frzs : ∀ b o u, H b = some (.frz o u) → H' b = some (.frz o u)) (tbls : ∀ b ps, H b = some (.tbl ps) → ∃ more, H' b = some (.tbl (ps ++ more)))
    (ns : ∀ m, s.heap.Ns X.env.locals m → h'.Ns X.env.locals m) (hok : HOk X.prog X.w H' h') (hg : AllBare g') :
    Inv X pins σ H' { s with heap := h', gens := g', drawn := d', toks := t' } := by
  have neL : ∀ b o, X.s₀.heap.get? b = some o → b ≠ X.env.locals := fun b o e => Nat.ne_of_lt (Nat.lt_of_lt_of_le (Heap.lt_size e) I.ok.above)
  have neC : ∀ b o, X.s₀.heap.get? b = some o → b ∉ X.ex → b ∉ ch := fun b o e hx hb => by
    rcases (hch b hb).1 with z | z
    · exact hx z
    · exact absurd (Nat.lt_of_lt_of_le (Heap.lt_size e) z) (Nat.lt_irrefl _)
  have cellK : ∀ x c, X.env.cells.lookup x = some c → ∀ v, s.heap.IsCell c v → h'.IsCell c v := fun x c e v ⟨o, ho, hd⟩ => by
    have nch : c ∉ ch := fun z => (hch c z).2.2.1 x c e rfl
    by_cases hc : c ∈ X.fs
    · obtain ⟨sl, q⟩ := slot c o (I.cne x c e) hc nch ho (I.freeC x c e)
      exact ⟨_, q, hd⟩
    · exact ⟨o, keep c o (I.cne x c e) hc nch ho (I.freeC x c e), hd⟩
  refine ⟨I.ok, I.os, hg, ⟨fun b o e n hb hx => ?_, fun b o e n hb hx => ?_, fun b o e n hx => ?_, fun b o e hx => ?_, fun b xs e => tups b xs (I.base.tups b xs e), fun b o xs e => frzs b o xs (I.base.frzs b o xs e), fun b ps e => ?_⟩, ?_, fun x c e => ?_, ?_, fun x c e => ?_, fun p hp => ?_, hok, I.len⟩
  · exact keep b o (neL b o e) hb (neC b o e hx) (I.base.keep b o e n hb hx) (I.base.free b o e n hx)
  · obtain ⟨sl, e1⟩ := I.base.slot b o e n hb hx
    obtain ⟨sl', e2⟩ := slot b _ (neL b o e) hb (neC b o e hx) e1 (I.base.free b o e n hx)
    exact ⟨sl', e2⟩
  · obtain ⟨o', e1⟩ := I.base.there b o e hx
    exact free b o' (neC b o e hx) e1 (I.base.free b o e n hx)
  · obtain ⟨o', e1⟩ := I.base.there b o e hx
    exact there b o' (neC b o e hx) e1
  · obtain ⟨m1, e1⟩ := I.base.tbls b ps e
    obtain ⟨m2, e2⟩ := tbls b _ e1
    exact ⟨m1 ++ m2, by rw [e2, Array.append_assoc]⟩
  · obtain ⟨m, hn, hl⟩ := I.loc
    refine ⟨m, ns m hn, fun i x v e1 e2 e3 => ?_⟩
    obtain ⟨u, r, l⟩ := hl i x v e1 e2 e3
    refine ⟨u, r, ?_⟩
    rcases l with l | ⟨k, c, e, z⟩
    · exact .inl l
    · exact .inr ⟨k, c, e, cellK x c e _ z⟩
  · obtain ⟨v, z⟩ := I.cell x c e
    exact ⟨v, cellK x c e v z⟩
  · obtain ⟨m, ⟨o, _, _, ho, _⟩, _⟩ := I.loc
    exact free _ o (fun z => (hch _ z).2.1 rfl) ho I.free
  · obtain ⟨v, o, ho, hd⟩ := I.cell x c e
    exact free c o (fun z => (hch c z).2.2.1 x c e rfl) ho (I.freeC x c e)
  · obtain ⟨e, n, ne, nf, d⟩ := I.pin p hp
    have nch : p.1 ∉ ch := fun z => (hch p.1 z).2.2.2 p hp rfl
    exact ⟨keep p.1 p.2 ne nf nch e n, free p.1 p.2 nch e n, ne, nf, d⟩
theorem Inv.un {t' : Nat} (I : Inv X pins σ H s) (u : Un X.fs [] H H' s.heap h') (hok : HOk X.prog X.w H' h') : Inv X pins σ H' { s with heap := h', toks := t' } := by
  obtain ⟨m, ⟨o, es, ep, ho, r⟩, _⟩ := id I.loc
  obtain ⟨sl, hL⟩ := u.any ho I.free (by simp)
  exact I.step (g' := s.gens) (d' := s.drawn) (ch := []) (fun _ z => nomatch z) (fun b o _ hb _ e n => u.keep b o e n hb (by simp)) (fun b o _ hb _ e n => u.slot b o e n hb (by simp)) (fun b o _ e n => u.free b o e n (by simp)) (fun b o _ e => u.there b o e (by simp)) u.tups u.frzs u.tbls (fun m' hm => by
    obtain ⟨o', es', ep', ho', r'⟩ := hm
    rw [ho] at ho'; cases ho'
    exact ⟨_, es', ep', hL, r'⟩) hok I.bare
theorem Inv.call {g' : Array GenState} {t' : Nat} {d' : Drawn} {ch : List Addr} (I : Inv X pins σ H s) (u : Un (frs X.stack) ch H H' s.heap h') (hok : HOk X.prog X.w H' h') (hg : AllBare g')
    (hch : ∀ b ∈ ch, (b ∈ X.ex ∨ X.s₀.heap.objs.size ≤ b) ∧ b ≠ X.env.locals ∧ (∀ x c, X.env.cells.lookup x = some c → c ≠ b) ∧ ∀ p ∈ X.pn ++ pins, p.1 ≠ b) :
    Inv X pins σ H' { s with heap := h', gens := g', drawn := d', toks := t' } := by
  obtain ⟨m, ⟨o, es, ep, ho, r⟩, _⟩ := id I.loc
  obtain ⟨sl, hL⟩ := u.any ho I.free fun z => (hch _ z).2.1 rfl
  exact I.step (ch := ch) hch (fun b o hL hb hc e n => u.keep b o e n (fun z => (List.mem_cons.mp (I.stkSub b z)).elim hL hb) hc) (fun b o _ _ hc e n => u.any e n hc) (fun b o hc e n => u.free b o e n hc) (fun b o hc e => u.there b o e hc) u.tups u.frzs u.tbls (fun m' hm => by
    obtain ⟨o', es', ep', ho', r'⟩ := hm
    rw [ho] at ho'; cases ho'
    exact ⟨_, es', ep', hL, r'⟩) hok hg
theorem Inv.turned {t' : Nat} {it : Addr} (I : Inv X pins σ H s) (k : ∀ b o, b ≠ it → s.heap.get? b = some o → h'.get? b = some o) (hn : H it = none) (hL : it ≠ X.env.locals)
    (h1 : it ∈ X.ex ∨ X.s₀.heap.objs.size ≤ it) (h2 : ∀ x c, X.env.cells.lookup x = some c → c ≠ it) (h3 : ∀ p ∈ X.pn ++ pins, p.1 ≠ it) : Inv X pins σ H { s with heap := h', toks := t' } := by
  have nit : ∀ b u, H b = some u → b ≠ it := fun b u e z => by rw [z, hn] at e; cases e
  refine I.step (g' := s.gens) (d' := s.drawn) (ch := [it]) (fun b hb => ?_) (fun b o _ _ hc e _ => k b o (fun z => hc (by simp [z])) e) (fun b o _ _ hc e _ => ⟨o.slots, k b o (fun z => hc (by simp [z])) e⟩) (fun _ _ _ _ n => n)
    (fun b o hc e => ⟨o, k b o (fun z => hc (by simp [z])) e⟩) (fun _ _ e => e) (fun _ _ _ e => e) (fun b ps e => ⟨#[], by rw [e]; simp⟩) (fun m hm => ?_) (fun b u e => ?_) I.bare
  · have e : b = it := by simpa using hb
    subst e
    exact ⟨h1, hL, h2, h3⟩
  · obtain ⟨o, es, ep, ho, r⟩ := hm
    exact ⟨o, es, ep, k _ o (Ne.symm hL) ho, r⟩
  · refine (I.hok b u e).stay (fun c v hc q => k c v ?_ q) (fun _ q => q) fun _ _ q => q
    rcases hc with z | z
    · rw [z]; exact nit b u e
    · exact nit c _ z
theorem Inv.tok (I : Inv X pins σ H s) (t : Nat) : Inv X pins σ H { s with toks := t } := I.un (h' := s.heap) (t' := t) Un.refl I.hok
theorem Inv.kept {t' : Nat} (I : Inv X pins σ H s) (k : ∀ b u, s.heap.get? b = some u → h'.get? b = some u) : Inv X pins σ H { s with heap := h', toks := t' } := I.un (Un.kept k) (I.hok.kept k)
theorem Inv.laid {a : Addr} {o : HO} {t' : Nat} (I : Inv X pins σ H s) (k : ∀ b u, s.heap.get? b = some u → h'.get? b = some u) (hp : s.heap.objs.size ≤ a) (new : ObjOk X.prog X.w (upd H a o) h' a o) :
    Inv X pins σ (upd H a o) { s with heap := h', toks := t' } := I.un (Un.laid k hp (I.hok.fresh hp)) (I.hok.laid k hp new)
theorem Inv.write {x e : Addr} {o : HO} {t' : Nat} (I : Inv X pins σ H s) (mu : Mut (H x)) (he : e = x ∨ H e = some (.own x)) (k : ∀ b u, b ≠ e → s.heap.get? b = some u → h'.get? b = some u) (heo : ∃ u, h'.get? e = some u)
    (new : ObjOk X.prog X.w (upd H x o) h' x o) : Inv X pins σ (upd H x o) { s with heap := h', toks := t' } := I.un (Un.write mu he k heo) (I.hok.write mu he k heo new)
theorem Inv.weak {σ' : List (Option V)} (I : Inv X pins σ H s) (hl : σ'.length = σ.length) (w : ∀ (i : Nat) v, σ'[i]? = some (some v) → σ[i]? = some (some v)) : Inv X pins σ' H s :=
  ⟨I.ok, I.os, I.bare, I.base, let ⟨m, hn, hl'⟩ := I.loc; ⟨m, hn, fun i x v e1 e2 e3 => hl' i x v e1 (w i v e2) e3⟩, I.cell, I.free, I.freeC, I.pin, I.hok, hl.trans I.len⟩
theorem Inv.pins_of {pins' : List (Addr × Obj)} (I : Inv X pins σ H s) (h : ∀ p ∈ pins', s.heap.get? p.1 = some p.2 ∧ H p.1 = none ∧ p.1 ≠ X.env.locals ∧ p.1 ∉ X.fs ∧ ∀ v, p.2.data ≠ .cell v) : Inv X pins' σ H s :=
  ⟨I.ok, I.os, I.bare, I.base, I.loc, I.cell, I.free, I.freeC, fun p hp => (List.mem_append.mp hp).elim (fun z => I.pin p (List.mem_append_left _ z)) (h p), I.hok, I.len⟩
theorem nodup_ix {N : List Str} (hN : N.Nodup) {i j : Nat} {x : Str} (a : N[i]? = some x) (b : N[j]? = some x) : i = j := by
  obtain ⟨h1, e1⟩ := List.getElem?_eq_some_iff.mp a
  obtain ⟨h2, e2⟩ := List.getElem?_eq_some_iff.mp b
  exact (List.getElem_inj hN).mp (e1.trans e2.symm)
theorem store_ok2 {M : Model} {A : Around} {E : Value → Shared → Prop} {i : Nat} {x : Str} {v : V} {u : Value} {Q : Unit → Shared → Prop} (I : Inv X pins σ H s) (hN : X.N.Nodup) (hi : X.N[i]? = some x) (hx : Loc X.env.scope x) (r : RelV v u)
    (h : ∀ s', Inv X pins (σ.set i (some v)) H s' → (∃ a, Heap.SameBut a s.heap s'.heap ∧ (a = X.env.locals ∨ X.env.cells.lookup x = some a)) → Q () s') (hf : X.fn x = true ∨ X.env.scope.names.lookup x = some .local := by first | exact .inl rfl | exact .inr rfl | assumption) : wpAny M A (storeName X.env x u) Q E s := by
  obtain ⟨m, hn, hl⟩ := id I.loc
  have hcls : (X.env.scope.kind == .class || (X.env.scope.kind == .module && X.env.locals != X.env.globals)) = false := by rw [I.ok.kind]; rfl
  have hiσ : i < σ.length := by rw [I.len]; exact (List.getElem?_eq_some_iff.mp hi).1
  have cne := I.cne
  have tracked : ∀ {a : Addr} {h' : Heap}, (∃ o, s.heap.get? a = some o ∧ H a = none) → Heap.SameBut a s.heap h' → HOk X.prog X.w H h' := fun {a h'} ha hs b ob e => by
    obtain ⟨_, _, hfree⟩ := ha
    refine (I.hok b ob e).stay (fun c w' hc q => (hs.2 c ?_).trans q) (fun _ q => q) fun _ _ q => q
    rintro rfl
    rcases hc with rfl | hc
    · rw [hfree] at e; cases e
    · rw [hfree] at hc; cases hc
  rcases hx with hk | hk
  · refine wpAny_storeName_local hk hn (fun h' hn' hs => ?_) hcls
    obtain ⟨oL, _, _, hoL, _⟩ := id hn
    refine h _ ⟨I.ok, I.os, I.bare, ⟨fun b o e n hb hx => ?_, fun b o e n hb hx => ?_, I.base.free, fun b o e hx => ?_, I.base.tups, I.base.frzs, I.base.tbls⟩, ⟨_, hn', fun j y v' e1 e2 e3 => ?_⟩, fun y c e => ?_, I.free, I.freeC, fun p hp => ?_, tracked ⟨oL, hoL, I.free⟩ hs, by simpa using I.len⟩ ⟨_, hs, .inl rfl⟩
    · exact (hs.2 b (Nat.ne_of_lt (Nat.lt_of_lt_of_le (Heap.lt_size e) I.ok.above))).trans (I.base.keep b o e n hb hx)
    · obtain ⟨sl, e1⟩ := I.base.slot b o e n hb hx
      exact ⟨sl, (hs.2 b (Nat.ne_of_lt (Nat.lt_of_lt_of_le (Heap.lt_size e) I.ok.above))).trans e1⟩
    · obtain ⟨o', e1⟩ := I.base.there b o e hx
      exact ⟨o', (hs.2 b (Nat.ne_of_lt (Nat.lt_of_lt_of_le (Heap.lt_size e) I.ok.above))).trans e1⟩
    · by_cases hj : j = i
      · subst hj
        rw [hi] at e1; cases e1
        rw [List.getElem?_set_self hiσ] at e2
        cases e2
        exact ⟨u, r, .inl ⟨hk, by simp⟩⟩
      · rw [List.getElem?_set_ne (Ne.symm hj)] at e2
        obtain ⟨u', r', q⟩ := hl j y v' e1 e2 e3
        refine ⟨u', r', ?_⟩
        rcases q with ⟨k, e⟩ | ⟨k, c, e, z⟩
        · refine .inl ⟨k, ?_⟩
          have : y ≠ x := fun e => hj (nodup_ix hN e1 (e ▸ hi))
          simp [this, e]
        · exact .inr ⟨k, c, e, z.sameBut hs (cne y c e)⟩
    · obtain ⟨w', z⟩ := I.cell y c e
      exact ⟨w', z.sameBut hs (cne y c e)⟩
    · obtain ⟨e, n, ne, nf, d⟩ := I.pin p hp
      exact ⟨(hs.2 p.1 ne).trans e, n, ne, nf, d⟩
  · have hfn : X.fn x = true := by
      rcases hf with z | z
      · exact z
      · rw [z] at hk; cases hk
    obtain ⟨c, hc⟩ := I.ok.has x (.inl hk)
    obtain ⟨w', z⟩ := I.cell x c hc
    refine wpAny_storeName_cell I.ok.kind hk hc z (fun h' hc' hs => ?_)
    obtain ⟨oc, hoc, hocd⟩ := id z
    refine h { s with heap := h' } ⟨I.ok, I.os, I.bare, ⟨fun b o e n hb hx => ?_, fun b o e n hb hx => ?_, I.base.free, fun b o e hx => ?_, I.base.tups, I.base.frzs, I.base.tbls⟩, ⟨m, hn.sameBut hs (Ne.symm (cne x c hc)), fun j y v' e1 e2 e3 => ?_⟩, fun y c' e => ?_, I.free, I.freeC, fun p hp => ?_, tracked ⟨oc, hoc, I.freeC x c hc⟩ hs, by simpa using I.len⟩ ⟨c, hs, .inr hc⟩
    · exact (hs.2 b (Nat.ne_of_lt (Nat.lt_of_lt_of_le (Heap.lt_size e) (I.ok.cab x c hfn hc)))).trans (I.base.keep b o e n hb hx)
    · obtain ⟨sl, e1⟩ := I.base.slot b o e n hb hx
      exact ⟨sl, (hs.2 b (Nat.ne_of_lt (Nat.lt_of_lt_of_le (Heap.lt_size e) (I.ok.cab x c hfn hc)))).trans e1⟩
    · obtain ⟨o', e1⟩ := I.base.there b o e hx
      exact ⟨o', (hs.2 b (Nat.ne_of_lt (Nat.lt_of_lt_of_le (Heap.lt_size e) (I.ok.cab x c hfn hc)))).trans e1⟩
    · by_cases hj : j = i
      · subst hj
        rw [hi] at e1; cases e1
        rw [List.getElem?_set_self hiσ] at e2
        cases e2
        exact ⟨u, r, .inr ⟨.inl hk, c, hc, hc'⟩⟩
      · rw [List.getElem?_set_ne (Ne.symm hj)] at e2
        obtain ⟨u', r', q⟩ := hl j y v' e1 e2 e3
        refine ⟨u', r', ?_⟩
        rcases q with q | ⟨k, c', e, z'⟩
        · exact .inl q
        · refine .inr ⟨k, c', e, z'.sameBut hs ?_⟩
          rintro rfl
          exact hj (nodup_ix hN e1 (I.ok.inj _ _ _ e hc ▸ hi))
    · by_cases hcc : c' = c
      · subst hcc; exact ⟨_, hc'⟩
      · obtain ⟨w2, z2⟩ := I.cell y c' e
        exact ⟨w2, z2.sameBut hs hcc⟩
    · obtain ⟨e, n, ne, nf, d⟩ := I.pin p hp
      refine ⟨(hs.2 p.1 ?_).trans e, n, ne, nf, d⟩
      intro q
      rw [q, hoc] at e
      have q' : oc = p.2 := Option.some.inj e
      exact d w' (by rw [← q']; exact hocd)
theorem store_ok {M : Model} {A : Around} {E : Value → Shared → Prop} {i : Nat} {x : Str} {v : V} {u : Value} {Q : Unit → Shared → Prop} (I : Inv X pins σ H s) (hN : X.N.Nodup) (hi : X.N[i]? = some x) (hx : Loc X.env.scope x) (r : RelV v u)
    (h : ∀ s', Inv X pins (σ.set i (some v)) H s' → Q () s') (hf : X.fn x = true ∨ X.env.scope.names.lookup x = some .local := by first | exact .inl rfl | exact .inr rfl | assumption) : wpAny M A (storeName X.env x u) Q E s :=
  store_ok2 I hN hi hx r (fun s' I' _ => h s' I') hf
theorem Inv.call' {s' : Shared} {ch : List Addr} (I : Inv X pins σ H s) (ho : s'.os = s.os) (u : Un (frs X.stack) ch H H' s.heap s'.heap) (hok : HOk X.prog X.w H' s'.heap) (hg : AllBare s'.gens)
    (hch : ∀ b ∈ ch, (b ∈ X.ex ∨ X.s₀.heap.objs.size ≤ b) ∧ b ≠ X.env.locals ∧ (∀ x c, X.env.cells.lookup x = some c → c ≠ b) ∧ ∀ p ∈ X.pn ++ pins, p.1 ≠ b) : Inv X pins σ H' s' := by
  obtain ⟨h', g', d', t', o'⟩ := s'
  have e : o' = s.os := ho
  subst e
  exact I.call (g' := g') (t' := t') (d' := d') u hok hg hch
end
abbrev XK := Value → Option Addr → Hp → Prop
abbrev St := List (Option V)
abbrev VK := V → Hp → Prop
abbrev TE := St → Hp → VK → Prop
abbrev TT := St → Hp → (Bool → Hp → Prop) → Prop
abbrev TA := St → Hp → (List V → Hp → Prop) → Prop
structure Ends where
  nx : St → Hp → Prop
  rt : VK
  bk : St → Hp → Prop := fun _ _ => False
  ct : St → Hp → Prop := fun _ _ => False
abbrev TS := Ends → St → Hp → Prop
def EP (X : Cx) (pins : List (Addr × Obj)) (σ : St) (Q : VK) (u : Value) (s' : Shared) : Prop := ∃ v H', Inv X pins σ H' s' ∧ RelV v u ∧ Q v H'
def TP (X : Cx) (pins : List (Addr × Obj)) (σ : St) (Q : Bool → Hp → Prop) (b : Bool) (s' : Shared) : Prop := ∃ H', Inv X pins σ H' s' ∧ Q b H'
def AP (X : Cx) (pins : List (Addr × Obj)) (σ : St) (Q : List V → Hp → Prop) (us : List Value) (s' : Shared) : Prop := ∃ vs H', Inv X pins σ H' s' ∧ Vals vs us ∧ Q vs H'
def SP (X : Cx) (pins : List (Addr × Obj)) (D : Ends) (f : Flow) (s' : Shared) : Prop :=
  match f with
  | .next => ∃ σ' H', Inv X pins σ' H' s' ∧ D.nx σ' H'
  | .brk => ∃ σ' H', Inv X pins σ' H' s' ∧ D.bk σ' H'
  | .cont => ∃ σ' H', Inv X pins σ' H' s' ∧ D.ct σ' H'
  | .ret u => ∃ v σ' H', Inv X pins σ' H' s' ∧ RelV v u ∧ D.rt v H'
def PE (X : Cx) (e : Expr) (t : TE) : Prop :=
  ∀ (pins : List (Addr × Obj)) (s : Shared) (σ : St) (H : Hp) (Q : VK), Inv X pins σ H s → t σ H Q → wpAny (model X.prog X.w) X.A (eval e X.env) (EP X pins σ Q) X.xe s
def PT (X : Cx) (e : Expr) (t : TT) : Prop :=
  ∀ (pins : List (Addr × Obj)) (s : Shared) (σ : St) (H : Hp) (Q : Bool → Hp → Prop), Inv X pins σ H s → t σ H Q → wpAny (model X.prog X.w) X.A (isTrue e X.env (eval e X.env)) (TP X pins σ Q) X.xe s
def PW (X : Cx) (e : Expr) (t : TT) : Prop :=
  ∀ (whole : Sem Value) (pins : List (Addr × Obj)) (s : Shared) (σ : St) (H : Hp) (Q : Bool → Hp → Prop), Inv X pins σ H s → t σ H Q → wpAny (model X.prog X.w) X.A (isTrue e X.env whole) (TP X pins σ Q) X.xe s
theorem PW.pt {X : Cx} {e : Expr} {t : TT} (h : PW X e t) : PT X e t := h _
def PA (X : Cx) (es : List Expr) (t : TA) : Prop :=
  ∀ (pos : Pos) (pins : List (Addr × Obj)) (s : Shared) (σ : St) (H : Hp) (Q : List V → Hp → Prop), Inv X pins σ H s → t σ H Q → wpAny (model X.prog X.w) X.A (spliced (backTo pos (starEach es X.env))) (AP X pins σ Q) X.xe s
def PS (X : Cx) (st : Stmt) (t : TS) : Prop :=
  ∀ (pins : List (Addr × Obj)) (s : Shared) (σ : St) (H : Hp) (D : Ends), Inv X pins σ H s → t D σ H → wpAny (model X.prog X.w) X.A (exec st X.env) (SP X pins D) X.xe s
def PSs (X : Cx) (st : List Stmt) (t : TS) : Prop :=
  ∀ (pins : List (Addr × Obj)) (s : Shared) (σ : St) (H : Hp) (D : Ends), Inv X pins σ H s → t D σ H → wpAny (model X.prog X.w) X.A (execs st X.env) (SP X pins D) X.xe s
theorem thn {α : Type} {t : Sem α} {Q Q' : α → Shared → Prop} {M : Model} {A : Around} {E : Value → Shared → Prop} {s : Shared} (h : wpAny M A t Q E s) (hQ : ∀ a s, Q a s → Q' a s) : wpAny M A t Q' E s := wpAny_mono h hQ fun _ _ x => x
end L2
namespace L2
open PySem PySem.Spec PyProof.Rows
section
variable {X : Cx}
def tVar (i : Nat) : TE := fun σ H Q => ∃ v, σ[i]? = some (some v) ∧ Q v H
def tC (v : V) : TE := fun _ H Q => Q v H
theorem pe_var {i : Nat} {x : Str} {pos : Pos} (hN : X.N[i]? = some x) (hv : Vis X.env.scope x) (hd : (x == ("__debug__" : Str)) = false := by decide) (hcd : (x == ("__classdict__" : Str)) = false := by decide) : PE X (.Name x pos) (tVar i) := by
  intro pins s σ H Q I h
  obtain ⟨v, e, h⟩ := h
  obtain ⟨m, hn, hl⟩ := I.loc
  obtain ⟨u, r, l⟩ := hl i x v hN e hv
  have fin : EP X pins σ Q u s := ⟨v, H, I, r, h⟩
  rcases l with ⟨hk, hm⟩ | ⟨hk, c, hc, hcell⟩
  · exact wpAny_Name (wpAny_loadName_local I.ok.kind hk hn hm fin) hd
  · rcases hk with hk | hk
    · exact wpAny_Name (wpAny_loadName_cell I.ok.kind hk hc hcell fin) hd
    · exact wpAny_Name (wpAny_loadName_free I.ok.kind hk hc hcell fin hcd) hd
theorem pe_int {i j pos} : PE X (.Constant (.int i) j pos) (tC (.int i)) := fun _ _ _ H _ I h => wpAny_Constant_int ⟨.int i, H, I.tok _, ⟨_, rfl⟩, h⟩
theorem pe_bl {b j pos} : PE X (.Constant (.bool b) j pos) (tC (.bl b)) := fun _ _ _ H _ I h => Constant_bool ⟨.bl b, H, I, rfl, h⟩
theorem pe_non {j pos} : PE X (.Constant .none j pos) (tC .non) := fun _ _ _ H _ I h => Constant_none ⟨.non, H, I, rfl, h⟩
theorem pe_str {x j pos} : PE X (.Constant (.str x) j pos) (tC (.str x)) := fun _ _ _ H _ I h => Calls.Constant_str ⟨.str x, H, I.tok _, ⟨_, rfl⟩, h⟩
def Gl (X : Cx) (x : Str) : Prop := X.env.kindOf x = some .globalImplicit
theorem ld_glob {E : Value → Shared → Prop} {pins : List (Addr × Obj)} {s : Shared} {σ : St} {H : Hp} {x : Str} {u : Value} {pos : Pos} {Q : Value → Shared → Prop} (I : Inv X pins σ H s) (hg : Gl X x) (hm : X.mg x = some u) (h : Q u s)
    (hd : (x == ("__debug__" : Str)) = false := by decide) : wpAny (model X.prog X.w) X.A (eval (.Name x pos) X.env) Q E s :=
  Calls.Name_function_global I.ok.kind hg (Calls.loadGlobal_global (by rw [I.ok.glob]; exact I.mod.glob.keeps I.bk) hm h) hd
theorem ld_blt {E : Value → Shared → Prop} {pins : List (Addr × Obj)} {s : Shared} {σ : St} {H : Hp} {x : Str} {u : Value} {pos : Pos} {Q : Value → Shared → Prop} (I : Inv X pins σ H s) (hg : Gl X x) (hm : X.mg x = none) (hv : bootBuiltins x = some u) (h : Q u s)
    (hn : x ≠ "__name__" := by decide) (hd : (x == ("__debug__" : Str)) = false := by decide) : wpAny (model X.prog X.w) X.A (eval (.Name x pos) X.env) Q E s := by
  obtain ⟨mb, h1, h2⟩ := I.mod.blt
  exact Calls.Name_function_global I.ok.kind hg (Calls.loadGlobal_builtin (by rw [I.ok.glob]; exact I.mod.glob.keeps I.bk) hm (by rw [I.ok.blt]; exact h1.keeps I.bk) ((h2 x hn).trans hv) h) hd
theorem pe_glob {x : Str} {v : V} {u : Value} {pos : Pos} (hg : Gl X x) (hm : X.mg x = some u) (r : RelV v u) (hd : (x == ("__debug__" : Str)) = false := by decide) : PE X (.Name x pos) (tC v) :=
  fun _ _ _ H _ I h => ld_glob I hg hm ⟨v, H, I, r, h⟩ hd
theorem pe_bltn {x : Str} {v : V} {u : Value} {pos : Pos} (hg : Gl X x) (hm : X.mg x = none) (hv : bootBuiltins x = some u) (r : RelV v u) (hn : x ≠ "__name__" := by decide) (hd : (x == ("__debug__" : Str)) = false := by decide) : PE X (.Name x pos) (tC v) :=
  fun _ _ _ H _ I h => ld_blt I hg hm hv ⟨v, H, I, r, h⟩ hn hd
def t2I (ta tb : TE) (k : Int → Int → Hp → Prop) : St → Hp → Prop := fun σ H => ta σ H fun x H1 => tb σ H1 fun y H2 => ∃ i j, x = .int i ∧ y = .int j ∧ k i j H2
def tAdd (ta tb : TE) : TE := fun σ H Q => t2I ta tb (fun i j H2 => Q (.int (i + j)) H2) σ H
def tSub (ta tb : TE) : TE := fun σ H Q => t2I ta tb (fun i j H2 => Q (.int (i - j)) H2) σ H
def tMul (ta tb : TE) : TE := fun σ H Q => t2I ta tb (fun i j H2 => (-(2 ^ 64) < i ∧ i < 2 ^ 64) ∧ Q (.int (i * j)) H2) σ H
variable {a b : Expr} {ta tb : TE} {pos : Pos}
def PC (X : Cx) (op : CmpOp) (a b : Expr) (t : TE) : Prop :=
  ∀ (pins : List (Addr × Obj)) (s : Shared) (σ : St) (H : Hp) (Q : VK), Inv X pins σ H s → t σ H Q →
    wpAny (model X.prog X.w) X.A (eval a X.env) (fun v s₁ => wpAny (model X.prog X.w) X.A (eval b X.env) (fun u s₂ => wpAny (model X.prog X.w) X.A (compareOp op v u) (EP X pins σ Q) X.xe s₂) X.xe s₁) X.xe s
def tCmp (p : Int → Int → Bool) (ta tb : TE) : TE := fun σ H Q => t2I ta tb (fun i j H2 => Q (.bl (p i j)) H2) σ H
abbrev tLt : TE → TE → TE := tCmp fun i j => decide (i < j)
abbrev tLe : TE → TE → TE := tCmp fun i j => decide (i ≤ j)
abbrev tGt : TE → TE → TE := tCmp fun i j => decide (j < i)
abbrev tGe : TE → TE → TE := tCmp fun i j => decide (j ≤ i)
abbrev tEqI : TE → TE → TE := tCmp fun i j => decide (i = j)
abbrev tNeI : TE → TE → TE := tCmp fun i j => !decide (i = j)
def tIsN (ta : TE) : TE := fun σ H Q => ta σ H fun x H1 => Q (.bl (decide (x = .non))) H1
def tNotN (ta : TE) : TE := fun σ H Q => ta σ H fun x H1 => Q (.bl (!decide (x = .non))) H1
def tB (t : TE) : TT := fun σ H Q => t σ H fun x H1 => ∃ c, x = .bl c ∧ Q c H1
theorem pt_val {e : Expr} {t : TE} (h : PE X e t) (he : ∀ whole, isTrue e X.env whole = (do let v ← whole; standAt e.pos; holding [v] (truthy v)) := by intro _; rfl) : PT X e (tB t) := by
  intro pins s σ H Q I hw
  refine isTrue_plain (thn (h pins s σ H _ I hw) fun v s1 ⟨x, H1, I1, r1, q1⟩ => ?_) (he _)
  obtain ⟨d, rfl, q⟩ := q1
  cases r1
  exact wpAny_truthy_bool ⟨H1, I1, q⟩
variable {tA tB' : TT} {rest : List Expr}
def tAnd (t u : TT) : TT := fun σ H Q => t σ H fun c H1 => if c = true then u σ H1 Q else Q false H1
def tOr (t u : TT) : TT := fun σ H Q => t σ H fun c H1 => if c = true then Q true H1 else u σ H1 Q
def tNot (t : TT) : TT := fun σ H Q => t σ H fun c H1 => Q (!c) H1
theorem pw_and1 (ha : PT X a tA) : PW X (.BoolOp .And [a] pos) tA := by
  intro wh pins s σ H Q I h
  refine isTrue_and (thn (ha pins s σ H Q I h) fun c s1 e => ?_)
  cases c with
  | true => exact isTrue_and_nil e
  | false => exact e
theorem pw_or1 (ha : PT X a tA) : PW X (.BoolOp .Or [a] pos) tA := by
  intro wh pins s σ H Q I h
  refine isTrue_or (thn (ha pins s σ H Q I h) fun c s1 e => ?_)
  cases c with
  | false => exact isTrue_or_nil e
  | true => exact e
theorem pw_and (ha : PT X a tA) (hb : PW X (.BoolOp .And (b :: rest) pos) tB') : PW X (.BoolOp .And (a :: b :: rest) pos) (tAnd tA tB') := by
  intro wh pins s σ H Q I h
  refine isTrue_and (thn (ha pins s σ H _ I h) fun c s1 ⟨H1, I1, q1⟩ => ?_)
  cases c with
  | true => exact hb wh pins s1 σ H1 Q I1 q1
  | false => exact ⟨H1, I1, q1⟩
theorem pw_or (ha : PT X a tA) (hb : PW X (.BoolOp .Or (b :: rest) pos) tB') : PW X (.BoolOp .Or (a :: b :: rest) pos) (tOr tA tB') := by
  intro wh pins s σ H Q I h
  refine isTrue_or (thn (ha pins s σ H _ I h) fun c s1 ⟨H1, I1, q1⟩ => ?_)
  cases c with
  | true => exact ⟨H1, I1, q1⟩
  | false => exact hb wh pins s1 σ H1 Q I1 q1
theorem pt_not (ha : PT X a tA) : PT X (.UnaryOp .Not a pos) (tNot tA) := by
  intro pins s σ H Q I h
  exact isTrue_not (ha pins s σ H (fun c H1 => Q (!c) H1) I h)
def tAndV (ta tb : TE) : TE := fun σ H Q => ta σ H fun x H1 => ∃ c, x = .bl c ∧ if c = true then tb σ H1 Q else Q (.bl false) H1
def tOrV (ta tb : TE) : TE := fun σ H Q => ta σ H fun x H1 => ∃ c, x = .bl c ∧ if c = true then Q (.bl true) H1 else tb σ H1 Q
def tNotV (ta : TE) : TE := fun σ H Q => ta σ H fun x H1 => ∃ c, x = .bl c ∧ Q (.bl (!c)) H1
theorem pe_one {op} {t : TE} (h : PE X a t) : PE X (.BoolOp op [a] pos) t := fun pins s σ H Q I hw => BoolOp_one (h pins s σ H Q I hw)
theorem pe_and (ha : PE X a ta) (hb : PE X (.BoolOp .And (b :: rest) pos) tb) : PE X (.BoolOp .And (a :: b :: rest) pos) (tAndV ta tb) := by
  intro pins s σ H Q I h
  refine BoolOp_and (thn (ha pins s σ H _ I h) fun v s1 ⟨x, H1, I1, r1, q1⟩ => ?_)
  obtain ⟨c, rfl, q1⟩ := q1
  cases r1
  refine wpAny_truthy_bool ?_
  cases c with
  | true => exact hb pins s1 σ H1 Q I1 q1
  | false => exact ⟨.bl false, H1, I1, rfl, q1⟩
theorem pe_not (ha : PE X a ta) : PE X (.UnaryOp .Not a pos) (tNotV ta) := by
  intro pins s σ H Q I h
  refine UnaryOp_ (thn (ha pins s σ H _ I h) fun v s1 ⟨x, H1, I1, r1, q1⟩ => ?_)
  obtain ⟨c, rfl, q1⟩ := q1
  cases r1
  exact not_of (wpAny_truthy_bool ⟨.bl (!c), H1, I1, rfl, q1⟩)
def tIf (t : TT) (ta tb : TE) : TE := fun σ H Q => t σ H fun c H1 => if c = true then ta σ H1 Q else tb σ H1 Q
theorem pe_ifExp {c : Expr} (hc : PT X c tA) (ha : PE X a ta) (hb : PE X b tb) : PE X (.IfExp c a b pos) (tIf tA ta tb) := by
  intro pins s σ H Q I h
  refine wpAny_IfExp (thn (hc pins s σ H _ I h) fun d s1 ⟨H1, I1, q1⟩ => ?_)
  cases d with
  | true => exact ha pins s1 σ H1 Q I1 q1
  | false => exact hb pins s1 σ H1 Q I1 q1
end
end L2
namespace L2
open PySem PySem.Spec PyProof.Rows
def SqL (K : PySem.W.Frag) (H : Hp) (a : Addr) (xs : List V) : Prop :=
  Rd H a (.lst xs) ∨
    ∃ (o : Obj) (its : Array Value) (n : Nat), K.lookup a = some o ∧ o.cls = .type "list" ∧ o.dict = none ∧ o.data = .seq its n ∧ its.size ≤ sizeLine ∧ Vals xs its.toList
def SqT (K : PySem.W.Frag) (H : Hp) (a : Addr) (xs : List V) : Prop :=
  Rd H a (.tup xs) ∨
    ∃ (o : Obj) (its : Array Value) (n : Nat), K.lookup a = some o ∧ o.cls = .type "tuple" ∧ o.data = .seq its n ∧ its.size ≤ sizeLine ∧ Vals xs its.toList
def absV : Value → Option V
  | .none => some .non
  | .bool b => some (.bl b)
  | .int i _ => some (.int i)
  | .str x _ => some (.str x)
  | .bytes b _ => some (.byt b)
  | .float b _ => some (.flt b)
  | .ref a => some (.ref a)
  | .type n => some (.ty n)
  | _ => none
theorem RelV.abs {x : V} {u : Value} (r : RelV x u) : absV u = some x := by
  cases x with
  | non => cases r; rfl
  | bl _ => cases r; rfl
  | int _ => obtain ⟨t, rfl⟩ := r; rfl
  | str _ => obtain ⟨t, rfl⟩ := r; rfl
  | byt _ => obtain ⟨t, rfl⟩ := r; rfl
  | flt _ => obtain ⟨t, rfl⟩ := r; rfl
  | ref _ => cases r; rfl
  | ty _ => cases r; rfl
theorem RelV.inj {x y : V} {u : Value} (r : RelV x u) (q : RelV y u) : x = y := Option.some.inj (r.abs.symm.trans q.abs)
theorem Vals.inj : ∀ {xs ys : List V} {us : List Value}, Vals xs us → Vals ys us → xs = ys
  | _, _, _, .nil, .nil => rfl
  | _, _, _, .cons r t, .cons r' t' => by rw [r.inj r', Vals.inj t t']
section
variable {X : Cx} {pins : List (Addr × Obj)} {σ : St} {H : Hp} {s : Shared} {a : Addr} {xs ys : List V}
theorem SqL.of {K : PySem.W.Frag} (h : H a = some (.lst xs)) : SqL K H a xs := .inl (.inl h)
theorem SqT.of {K : PySem.W.Frag} (h : H a = some (.tup xs)) : SqT K H a xs := .inl (.inl h)
theorem Inv.list (I : Inv X pins σ H s) (h : SqL X.K H a xs) : ∃ its : List Value, Vals xs its ∧ PlainL s.heap a its.toArray ∧ xs.length ≤ sizeLine := by
  rcases h with h | ⟨o, its, n, hk, hc, hd, hs, hz, r⟩
  · obtain ⟨z, its, n, r, e⟩ := h.ok I.hok
    exact ⟨its, r, ⟨_, n, e, rfl, rfl, rfl⟩, z⟩
  · refine ⟨its.toList, r, ⟨o, n, I.kIn a o hk, hc, hd, by simpa using hs⟩, ?_⟩
    have e := r.length
    simp only [Array.length_toList] at e
    omega
theorem Inv.tuple (I : Inv X pins σ H s) (h : SqT X.K H a xs) : ∃ its : List Value, Vals xs its ∧ IsTup s.heap a its.toArray ∧ xs.length ≤ sizeLine := by
  rcases h with h | ⟨o, its, n, hk, hc, hs, hz, r⟩
  · obtain ⟨z, its, r, p⟩ := h.ok I.hok
    exact ⟨its, r, p, z⟩
  · refine ⟨its.toList, r, ⟨o, I.kIn a o hk, hc, n, by simpa using hs⟩, ?_⟩
    have e := r.length
    simp only [Array.length_toList] at e
    omega
theorem Inv.list_inj (I : Inv X pins σ H s) (h : SqL X.K H a xs) (h' : SqL X.K H a ys) : xs = ys := by
  obtain ⟨its, r, ⟨o, n, e, _, _, d⟩, _⟩ := I.list h
  obtain ⟨its', r', ⟨o', n', e', _, _, d'⟩, _⟩ := I.list h'
  rw [e] at e'; cases e'
  rw [d] at d'
  injection d' with d1 _
  have : its = its' := by simpa using congrArg Array.toList d1
  subst this
  exact r.inj r'
theorem Inv.tuple_inj (I : Inv X pins σ H s) (h : SqT X.K H a xs) (h' : SqT X.K H a ys) : xs = ys := by
  obtain ⟨its, r, ⟨o, e, _, n, d⟩, _⟩ := I.tuple h
  obtain ⟨its', r', ⟨o', e', _, n', d'⟩, _⟩ := I.tuple h'
  rw [e] at e'; cases e'
  rw [d] at d'
  injection d' with d1 _
  have : its = its' := by simpa using congrArg Array.toList d1
  subst this
  exact r.inj r'
end
abbrev Cx.wish (X : Cx) (E : Value → Shared → Prop) : Cx := { X with xe := E }
abbrev Cx.nox (X : Cx) : Cx := X.wish fun _ _ => False
theorem Cx.Ok.wish {X : Cx} (ok : X.Ok) (E : Value → Shared → Prop) : (X.wish E).Ok :=
  ⟨ok.mod, ok.kind, ok.glob, ok.blt, ok.above, ok.inj, ok.has, ok.cab, ok.hd, ok.frames, ok.stk, ok.exf, ok.bs, ok.bsz, ok.noex, ok.exfs, ok.funs, ok.frf⟩
theorem Cx.Ok.unwish {X : Cx} {E : Value → Shared → Prop} (ok : (X.wish E).Ok) : X.Ok :=
  ⟨ok.mod, ok.kind, ok.glob, ok.blt, ok.above, ok.inj, ok.has, ok.cab, ok.hd, ok.frames, ok.stk, ok.exf, ok.bs, ok.bsz, ok.noex, ok.exfs, ok.funs, ok.frf⟩
section
variable {X : Cx} {pins : List (Addr × Obj)} {σ : St} {H : Hp} {s : Shared} {E : Value → Shared → Prop}
theorem Inv.wish (I : Inv X pins σ H s) (E : Value → Shared → Prop) : Inv (X.wish E) pins σ H s := ⟨I.ok.wish E, I.os, I.bare, I.base, I.loc, I.cell, I.free, I.freeC, I.pin, I.hok, I.len⟩
theorem Inv.unwish (I : Inv (X.wish E) pins σ H s) : Inv X pins σ H s := ⟨I.ok.unwish, I.os, I.bare, I.base, I.loc, I.cell, I.free, I.freeC, I.pin, I.hok, I.len⟩
theorem SP.unwish {D : Ends} {f : Flow} {s' : Shared} (h : SP (X.wish E) pins D f s') : SP X pins D f s' := by
  cases f with
  | next => obtain ⟨σ', H', I, q⟩ := h; exact ⟨σ', H', I.unwish, q⟩
  | brk => obtain ⟨σ', H', I, q⟩ := h; exact ⟨σ', H', I.unwish, q⟩
  | cont => obtain ⟨σ', H', I, q⟩ := h; exact ⟨σ', H', I.unwish, q⟩
  | ret u => obtain ⟨v, σ', H', I, r, q⟩ := h; exact ⟨v, σ', H', I.unwish, r, q⟩
theorem PE.nox {e : Expr} {t : TE} (h : PE X.nox e t) : PE X e t := fun pins s σ H Q I hw =>
  wpAny_mono (h pins s σ H Q (I.wish _) hw) (fun _ _ ⟨v, H', I', r, q⟩ => ⟨v, H', I'.unwish, r, q⟩) fun _ _ z => False.elim z
theorem PT.nox {e : Expr} {t : TT} (h : PT X.nox e t) : PT X e t := fun pins s σ H Q I hw =>
  wpAny_mono (h pins s σ H Q (I.wish _) hw) (fun _ _ ⟨H', I', q⟩ => ⟨H', I'.unwish, q⟩) fun _ _ z => False.elim z
theorem PSs.nox {st : List Stmt} {t : TS} (h : PSs X.nox st t) : PSs X st t := fun pins s σ H D I hw =>
  wpAny_mono (h pins s σ H D (I.wish _) hw) (fun _ _ q => q.unwish) fun _ _ z => False.elim z
end
section
variable {X : Cx} {st : Stmt} {rest : List Stmt} {t u : TS} {e : Expr} {te : TE} {pos : Pos}
def tNext : TS := fun D σ H => D.nx σ H
def tSeq (t u : TS) : TS := fun D σ H => t { D with nx := u D } σ H
theorem pss_nil : PSs X [] tNext := fun _ _ σ H _ I h => wpAny_execs_nil ⟨σ, H, I, h⟩
theorem pss_cons (h1 : PS X st t) (h2 : PSs X rest u) : PSs X (st :: rest) (tSeq t u) := by
  intro pins s σ H D I h
  refine wpAny_execs_cons (thn (h1 pins s σ H { D with nx := u D } I h) fun f s1 q => ?_)
  cases f with
  | next =>
    obtain ⟨σ', H', I', q⟩ := q
    exact h2 pins s1 σ' H' D I' q
  | ret v => exact q
  | brk => exact q
  | cont => exact q
theorem pss_one (h1 : PS X st t) : PSs X [st] t := by
  intro pins s σ H D I h
  refine wpAny_execs_cons (thn (h1 pins s σ H D I h) fun f s1 q => ?_)
  cases f with
  | next => exact wpAny_execs_nil q
  | ret v => exact q
  | brk => exact q
  | cont => exact q
def tBreak : TS := fun D σ H => D.bk σ H
def tCont : TS := fun D σ H => D.ct σ H
theorem Inv.quiet {pins : List (Addr × Obj)} {σ : St} {H : Hp} {s : Shared} (I : Inv X pins σ H s) : interactive X.env = false := by simp [interactive, I.ok.kind]
def tDrop (te : TE) : TS := fun D σ H => te σ H fun _ H1 => D.nx σ H1
theorem ps_expr (he : PE X e te) (hs : swapsWith e none pos.line X.env = pure false := by rfl) : PS X (.Expr e pos) (tDrop te) := by
  intro pins s σ H D I h
  exact wpAny_Expr_any (thn (he pins s σ H _ I h) fun v s1 ⟨x, H1, I1, r1, q1⟩ => ⟨σ, H1, I1, q1⟩) I.quiet hs
def tRet (te : TE) : TS := fun D σ H => te σ H D.rt
theorem ps_ret (he : PE X e te) : PS X (.Return (some e) pos) (tRet te) := by
  intro pins s σ H D I h
  exact wpAny_Return_some (thn (he pins s σ H _ I h) fun v s1 ⟨x, H1, I1, r1, q1⟩ => ⟨x, σ, H1, I1, r1, q1⟩)
def tRetN : TS := fun D _ H => D.rt .non H
def tIfS (c : TT) (t u : TS) : TS := fun D σ H => c σ H fun b H1 => if b = true then t D σ H1 else u D σ H1
theorem ps_if {c : Expr} {a b : List Stmt} {tc : TT} (hc : PT X c tc) (ha : PSs X a t) (hb : PSs X b u) : PS X (.If c a b pos) (tIfS tc t u) := by
  intro pins s σ H D I h
  refine wpAny_If (thn (hc pins s σ H _ I h) fun d s1 ⟨H1, I1, q1⟩ => ?_)
  cases d with
  | true => exact ha pins s1 σ H1 D I1 q1
  | false => exact hb pins s1 σ H1 D I1 q1
def tNever : TS := fun _ _ _ => False
end
abbrev TG := V → St → Hp → (St → Hp → Prop) → Prop
abbrev TGs := List V → St → Hp → (St → Hp → Prop) → Prop
def PG (X : Cx) (target : Expr) (t : TG) : Prop :=
  ∀ (pins : List (Addr × Obj)) (s : Shared) (σ : St) (H : Hp) (v : V) (u : Value) (Q : St → Hp → Prop), Inv X pins σ H s → RelV v u → t v σ H Q →
    wpAny (model X.prog X.w) X.A (assign target X.env u) (fun _ s' => ∃ σ' H', Inv X pins σ' H' s' ∧ Q σ' H') X.xe s
def PGs (X : Cx) (ts : List Expr) (t : TGs) : Prop :=
  ∀ (pins : List (Addr × Obj)) (s : Shared) (σ : St) (H : Hp) (vs : List V) (us : List Value) (Q : St → Hp → Prop), Inv X pins σ H s → Vals vs us → t vs σ H Q →
    wpAny (model X.prog X.w) X.A (assignInOrder ((assignEach ts X.env).map (·.2)) us) (fun _ s' => ∃ σ' H', Inv X pins σ' H' s' ∧ Q σ' H') X.xe s
abbrev TSet := V → V → V → Hp → (Hp → Prop) → Prop
def PSet (X : Cx) (t : TSet) : Prop :=
  ∀ (pins : List (Addr × Obj)) (s : Shared) (σ : St) (H : Hp) (o i v : V) (ov iv u : Value) (Q : Hp → Prop), Inv X pins σ H s → RelV o ov → RelV i iv → RelV v u → t o i v H Q →
    wpAny (model X.prog X.w) X.A (setItem ov iv u) (fun _ s' => ∃ H', Inv X pins σ H' s' ∧ Q H') X.xe s
abbrev TIp := V → V → Hp → VK → Prop
def PIp (X : Cx) (op : Operator) (t : TIp) : Prop :=
  ∀ (pins : List (Addr × Obj)) (s : Shared) (σ : St) (H : Hp) (x y : V) (v u : Value) (Q : VK), Inv X pins σ H s → RelV x v → RelV y u → t x y H Q →
    wpAny (model X.prog X.w) X.A (inplaceOp op v u) (EP X pins σ Q) X.xe s
section
variable {X : Cx} {pos : Pos}
def gName (i : Nat) : TG := fun v σ H Q => Q (σ.set i (some v)) H
theorem pg_name {i : Nat} {x : Str} (hN : X.N.Nodup) (hi : X.N[i]? = some x) (hx : Loc X.env.scope x) (hf : X.fn x = true ∨ X.env.scope.names.lookup x = some .local := by first | exact .inl rfl | exact .inr rfl | assumption) : PG X (.Name x pos) (gName i) := by
  intro pins s σ H v u Q I r h
  exact wpAny_assign_Name (store_ok I hN hi hx r (fun s' I' => ⟨_, H, I', h⟩) hf)
def gNil : TGs := fun vs σ H Q => vs = [] ∧ Q σ H
def gCons (t : TG) (u : TGs) : TGs := fun vs σ H Q => ∃ v r, vs = v :: r ∧ t v σ H fun σ' H' => u r σ' H' Q
theorem pgs_nil : PGs X [] gNil := by
  intro pins s σ H vs us Q I r h
  obtain ⟨e, h⟩ := h
  subst e
  cases r
  exact assignInOrder_nil ⟨σ, H, I, h⟩
theorem pgs_cons {e : Expr} {es : List Expr} {t : TG} {u : TGs} (h1 : PG X e t) (h2 : PGs X es u)
    (hs : (assignEach (e :: es) X.env).map (·.2) = assign e X.env :: (assignEach es X.env).map (·.2) := by rfl) : PGs X (e :: es) (gCons t u) := by
  intro pins s σ H vs us Q I r h
  obtain ⟨v, vr, e1, h⟩ := h
  subst e1
  cases r with
  | cons r rr =>
    rw [hs]
    refine assignInOrder_cons (thn (h1 pins s σ H _ _ _ I r h) fun _ s1 ⟨σ1, H1, I1, q1⟩ => ?_)
    exact h2 pins s1 σ1 H1 _ _ Q I1 rr q1
def gTup (K : PySem.W.Frag) (n : Nat) (t : TGs) : TG := fun v σ H Q => ∃ a xs, v = .ref a ∧ SqT K H a xs ∧ xs.length = n ∧ t xs σ H Q
theorem pg_tup {es : List Expr} {k : Nat} {t : TGs} {n : Nat} (hc : X.calm = true) (h : PGs X es t)
    (hn : (assignEach es X.env).length = n := by rfl) (hst : (assignEach es X.env).findIdx? (·.1) = none := by rfl) : PG X (.Tuple es k pos) (gTup X.K n t) := by
  intro pins s σ H v u Q I r hw
  obtain ⟨a, xs, e1, hq, hl, hw⟩ := hw
  subst e1
  cases r
  obtain ⟨its, rv, ht, hz⟩ := I.tuple hq
  refine assign_Tuple_tuple (I.ok.hd hc) ht (by simp [hn, ← hl, rv.length]) hst fun h' hx => ?_
  have I1 : Inv X pins σ H { s with heap := h' } := I.kept (t' := s.toks) fun b o e => hx b o (Nat.ne_of_lt (Heap.lt_size e)) e
  exact h pins _ σ H xs _ Q I1 (by simpa using rv) hw
def gSub (to ti : TE) (t : TSet) : TG := fun v σ H Q => to σ H fun o H1 => ti σ H1 fun i H2 => t o i v H2 fun H3 => Q σ H3
def tAsg (te : TE) (g : TG) : TS := fun D σ H => te σ H fun x H1 => g x σ H1 D.nx
theorem ps_set {i : Nat} {x : Str} {e : Expr} {te : TE} {pos' : Pos} (hN : X.N.Nodup) (hi : X.N[i]? = some x) (hx : Loc X.env.scope x) (he : PE X e te) (hs : swapsWith e (some (.Name x pos')) pos.line X.env = pure false := by rfl) (hf : X.fn x = true ∨ X.env.scope.names.lookup x = some .local := by first | exact .inl rfl | exact .inr rfl | assumption) :
    PS X (.Assign [.Name x pos'] e pos) (tAsg te (gName i)) := by
  intro pins s σ H D I h
  refine wpAny_Assign_Name (thn (he pins s σ H _ I h) fun v s1 ⟨y, H1, I1, r1, q1⟩ => ?_) hs
  exact store_ok I1 hN hi hx r1 (fun s2 I2 => ⟨_, H1, I2, q1⟩) hf
def tPar (i j : Nat) (ta : TA) : TS := fun D σ H => ta σ H fun vs H1 => ∃ v w, vs = [v, w] ∧ D.nx ((σ.set i (some v)).set j (some w)) H1
def tAug (i : Nat) (te : TE) (ti : TIp) : TS := fun D σ H => ∃ x, σ[i]? = some (some x) ∧ te σ H fun y H1 => ti x y H1 fun z H2 => D.nx (σ.set i (some z)) H2
def tAugS (to ti te : TE) (tget : V → V → Hp → VK → Prop) (tip : TIp) (tset : TSet) : TS := fun D σ H => to σ H fun o H1 => ti σ H1 fun i H2 => tget o i H2 fun x H3 => te σ H3 fun y H4 => tip x y H4 fun z H5 => tset o i z H5 fun H6 => D.nx σ H6
def PGet (X : Cx) (t : V → V → Hp → VK → Prop) : Prop :=
  ∀ (pins : List (Addr × Obj)) (s : Shared) (σ : St) (H : Hp) (o i : V) (ov iv : Value) (Q : VK), Inv X pins σ H s → RelV o ov → RelV i iv → t o i H Q →
    wpAny (model X.prog X.w) X.A (getItem ov iv) (EP X pins σ Q) X.xe s
def ipI (f : Int → Int → Int) : TIp := fun x y H Q => ∃ i j, x = .int i ∧ y = .int j ∧ Q (.int (f i j)) H
end
section
variable {X : Cx} {pos : Pos}
def tWhile (c : TT) (tb : TS) : TS := fun D σ H => ∃ W : Nat → St → Hp → Prop, (∃ m, W m σ H) ∧ ∀ m σ H, W m σ H →
  c σ H fun b H1 => if b = true then ∃ N : St → Hp → Prop, (∀ σ' H', N σ' H' → ∃ m', m' < m ∧ W m' σ' H') ∧ tb { D with nx := N, ct := N, bk := D.nx } σ H1 else D.nx σ H1
end
structure It where
  go : Nat → Hp → Prop
  yld : Nat → Hp → V → Hp → Prop
  stop : Nat → Hp → Prop
def FpOk (X : Cx) (pins : List (Addr × Obj)) (H : Hp) (b : Addr) : Prop :=
  H b = none ∧ b ≠ X.env.locals ∧ b ∉ X.fs ∧ (b ∈ X.ex ∨ X.s₀.heap.objs.size ≤ b) ∧ (∀ x c, X.env.cells.lookup x = some c → c ≠ b) ∧ ∀ p ∈ X.pn ++ pins, p.1 ≠ b
theorem Inv.fpOk {X : Cx} {pins : List (Addr × Obj)} {σ : St} {H H' : Hp} {s : Shared} {b : Addr} (I : Inv X pins σ H s) (hb : s.heap.objs.size ≤ b) (hn : H' b = none) : FpOk X pins H' b := by
  refine ⟨hn, Nat.ne_of_gt (Nat.lt_of_lt_of_le I.lt hb), I.nofs hb, .inr (Nat.le_trans I.sz hb), fun x c e z => ?_, fun p hp z => ?_⟩
  · obtain ⟨v, q⟩ := I.cell x c e
    exact absurd (Nat.lt_of_lt_of_le q.lt (by rw [z]; exact hb)) (Nat.lt_irrefl _)
  · exact absurd (Nat.lt_of_lt_of_le (Heap.lt_size (I.pin p hp).1) (by rw [z]; exact hb)) (Nat.lt_irrefl _)
structure Turn (P : Program) (w : World) (K : PySem.W.Frag) (tg : Expr) (J : It) (fp : List Addr) (it : Addr) (tn : Nat → Heap → Prop) : Prop where
  mem : it ∈ fp
  obj : ∀ i h, tn i h → ∀ b ∈ fp, ∃ o, h.get? b = some o ∧ ∀ v, o.data ≠ .cell v
  keep : ∀ i h h', tn i h → (∀ b ∈ fp, ∀ o, h.get? b = some o → h'.get? b = some o) → tn i h'
  item : ∀ (X : Cx), X.prog = P → X.w = w → X.K = K → X.calm = true → ∀ (i : Nat) (pins : List (Addr × Obj)) (s : Shared) (σ : St) (H : Hp) (E : Value → Shared → Prop), Inv X pins σ H s → (∀ b ∈ fp, FpOk X pins H b) → tn i s.heap → J.go i H →
    wpAny (model P w) X.A (pyNext (.ref it)) (fun r s1 => ∃ u, r = some u ∧
      wpAny (model P w) X.A (letOwnedTupleGo tg (.ref it) u) (fun _ s2 => ∃ x H', Inv X pins σ H' s2 ∧ RelV x u ∧ J.yld i H x H' ∧ tn (i + 1) s2.heap ∧ ∀ b ∈ fp, H' b = none) E s1) E s
  done : ∀ (X : Cx), X.prog = P → X.w = w → X.K = K → X.calm = true → ∀ (i : Nat) (pins : List (Addr × Obj)) (s : Shared) (σ : St) (H : Hp) (E : Value → Shared → Prop), Inv X pins σ H s → (∀ b ∈ fp, FpOk X pins H b) → tn i s.heap → J.stop i H →
    wpAny (model P w) X.A (pyNext (.ref it)) (fun r s1 => r = none ∧ Inv X pins σ H s1) E s
  self : ∀ (A : Around) (i : Nat) (s : Shared) (Q : Value → Shared → Prop) (E : Value → Shared → Prop), tn i s.heap → Q (.ref it) s → wpAny (model P w) A (pyIter (.ref it)) Q E s
abbrev TI := St → Hp → (It → Hp → Prop) → Prop
def PIE (X : Cx) (pins : List (Addr × Obj)) (σ : St) (tg : Expr) (R : It → Hp → Prop) (itv : Value) (s2 : Shared) : Prop :=
  ∃ (it : Addr) (fp : List Addr) (tn : Nat → Heap → Prop) (J : It) (H' : Hp), itv = .ref it ∧ Inv X pins σ H' s2 ∧ Turn X.prog X.w X.K tg J fp it tn ∧ tn 0 s2.heap ∧ (∀ b ∈ fp, FpOk X pins H' b) ∧ R J H'
def PI (X : Cx) (tg iter : Expr) (wi : TI) : Prop :=
  ∀ (pins : List (Addr × Obj)) (s : Shared) (σ : St) (H : Hp) (R : It → Hp → Prop), Inv X pins σ H s → wi σ H R →
    wpAny (model X.prog X.w) X.A (eval iter X.env) (fun v s1 => wpAny (model X.prog X.w) X.A (pyIter v) (PIE X pins σ tg R) X.xe s1) X.xe s
theorem go_of {M : Model} {A : Around} {E : Value → Shared → Prop} {s : Shared} {tg : Expr} {it : Addr} {u : Value} {o : Obj} {n : String} {vs : Array Value} {Q : Unit → Shared → Prop} (ho : s.heap.get? it = some o) (hc : o.cls = .type n) (hd : o.data = .fields vs)
    (hn : ["enumerate", "zip", "dict_itemiterator", "dict_reverseitemiterator", "odict_iterator", "itertools.zip_longest", "itertools.pairwise"].contains n = false) (hQ : Q () s) : wpAny M A (letOwnedTupleGo tg (.ref it) u) Q E s := by
  unfold letOwnedTupleGo
  cases tg <;> first
    | exact wpAny_pure hQ
    | (cases u <;> first
        | exact wpAny_pure hQ
        | (refine wpAny_bind (wpAny_load ho ?_)
           rw [hc, hd]
           show wpAny M A (if (["enumerate", "zip", "dict_itemiterator", "dict_reverseitemiterator", "odict_iterator", "itertools.zip_longest", "itertools.pairwise"].contains n && vs[0]? == some (rawInt _)) = true then _ else _) Q E s
           rw [if_neg (by intro h; rw [hn, Bool.false_and] at h; cases h)]
           exact wpAny_pure hQ))
def Itl (K : PySem.W.Frag) (a : Addr) : It :=
  ⟨fun i H => ∃ xs x, SqL K H a xs ∧ xs[i]? = some x, fun i H x H' => H' = H ∧ ∀ xs, SqL K H a xs → xs[i]? = some x, fun i H => ∃ xs, SqL K H a xs ∧ xs.length ≤ i⟩
def Itt (K : PySem.W.Frag) (a : Addr) : It :=
  ⟨fun i H => ∃ xs x, SqT K H a xs ∧ xs[i]? = some x, fun i H x H' => H' = H ∧ ∀ xs, SqT K H a xs → xs[i]? = some x, fun i H => ∃ xs, SqT K H a xs ∧ xs.length ≤ i⟩
def Itr (lo : Int) (n : Nat) : It := ⟨fun i _ => i < n, fun i H x H' => H' = H ∧ x = .int (lo + i), fun i _ => n ≤ i⟩
theorem turn_list {P : Program} {w : World} {K : PySem.W.Frag} {tg : Expr} (a it : Addr) : Turn P w K tg (Itl K a) [it] it (fun i h => h.IsListIter it a i) where
  mem := by simp
  obj := fun i h st b hb => by
    have e : b = it := by simpa using hb
    subst e
    obtain ⟨o, e, c, d⟩ := st
    exact ⟨o, e, fun v z => by rw [d] at z; cases z⟩
  keep := fun i h h' st k => st.at fun o e => k it (by simp) o e
  item := by
    intro X hP hw hK hc i pins s σ H E I hf st hg
    subst hP hw hK
    obtain ⟨xs, x, hq, hx⟩ := hg
    obtain ⟨its, rv, p, hz⟩ := I.list hq
    obtain ⟨u, hu, ru⟩ := rv.get hx
    obtain ⟨f0, f1, f2, f3, f4, f5⟩ := hf it (by simp)
    refine wpAny_pyNext_list_item st p.isList (x := u) (by simpa using hu) fun h' st' sb => ?_
    have I1 : Inv X pins σ H { s with heap := h' } := I.turned (t' := s.toks) (fun b o hb e => (sb.2 b hb).trans e) f0 f1 f3 f4 f5
    obtain ⟨o, e, c, d⟩ := id st'
    exact ⟨u, rfl, go_of (s := { s with heap := h' }) e c d (by decide) ⟨x, H, I1, ru, ⟨rfl, fun ys hy => by rw [I.list_inj hy hq]; exact hx⟩, st', fun b hb => (hf b hb).1⟩⟩
  done := by
    intro X hP hw hK hc i pins s σ H E I hf st hg
    subst hP hw hK
    obtain ⟨xs, hq, hx⟩ := hg
    obtain ⟨its, rv, p, hz⟩ := I.list hq
    obtain ⟨f0, f1, f2, f3, f4, f5⟩ := hf it (by simp)
    have hl := rv.length
    exact wpAny_pyNext_list_end (I.ok.hd hc) st p.isList (by simp; omega) fun h' eb => ⟨rfl, I.turned (t' := s.toks) (fun b o hb e => eb b o hb e) f0 f1 f3 f4 f5⟩
  self := fun _ _ _ _ _ st h => wpAny_pyIter_listiter st h
theorem turn_range {P : Program} {w : World} {K : PySem.W.Frag} {tg : Expr} (it : Addr) (lo : Int) (n : Nat) : Turn P w K tg (Itr lo n) [it] it (fun i h => IsRangeIter h it (lo + (i : Nat) * 1) ((n : Int) - (i : Nat)) 1) where
  mem := by simp
  obj := fun i h st b hb => by
    have e : b = it := by simpa using hb
    subst e
    exact ⟨_, st, fun v z => by
      have z' : Data.fields _ = Data.cell v := z
      cases z'⟩
  keep := fun i h h' st k => k it (by simp) _ st
  item := by
    intro X hP hw hK hc i pins s σ H E I hf st hg
    subst hP hw hK
    obtain ⟨f0, f1, f2, f3, f4, f5⟩ := hf it (by simp)
    have W := Walks.range (prog := X.prog) (w := X.w) (I.ok.hd hc) it lo 1 n
    refine W.item i s _ _ hg st fun v h' tk hv st' kk => ?_
    obtain ⟨t, rfl⟩ := hv
    have I1 : Inv X pins σ H { s with heap := h', toks := tk } := I.turned (fun b o hb e => kk b o (by simpa using hb) e) f0 f1 f3 f4 f5
    refine ⟨_, rfl, go_of (s := { s with heap := h', toks := tk }) (n := "range_iterator") st' rfl rfl (by decide) ⟨.int (lo + i), H, I1, ⟨t, ?_⟩, ⟨rfl, rfl⟩, st', fun b hb => (hf b hb).1⟩⟩
    rw [Int.mul_one]
  done := by
    intro X hP hw hK hc i pins s σ H E I hf st hg
    subst hP hw hK
    obtain ⟨f0, f1, f2, f3, f4, f5⟩ := hf it (by simp)
    exact wpAny_pyNext_range_end (I.ok.hd hc) st (by have : n ≤ i := hg; omega) fun h' eb => ⟨rfl, I.turned (t' := s.toks) (fun b o hb e => eb b o hb e) f0 f1 f3 f4 f5⟩
  self := fun _ _ _ _ _ st h => wpAny_pyIter_rangeiter st h
end L2
namespace L2
open PySem PySem.Spec PyProof.Rows
section
variable {X : Cx} {tg : Expr}
def iList (K : PySem.W.Frag) (tl : TE) : TI := fun σ H R => tl σ H fun x H1 => ∃ a, x = .ref a ∧ (∃ xs, SqL K H1 a xs) ∧ R (Itl K a) H1
def iTup (K : PySem.W.Frag) (tl : TE) : TI := fun σ H R => tl σ H fun x H1 => ∃ a, x = .ref a ∧ (∃ xs, SqT K H1 a xs) ∧ R (Itt K a) H1
theorem pi_list {l : Expr} {tl : TE} (hl : PE X l tl) : PI X tg l (iList X.K tl) := by
  intro pins s σ H R I h
  refine thn (hl pins s σ H _ I h) fun v s1 ⟨x, H1, I1, r1, q1⟩ => ?_
  obtain ⟨a, e, ⟨xs, hq⟩, q⟩ := q1
  subst e
  cases r1
  obtain ⟨its, rv, p, hz⟩ := I1.list hq
  refine wpAny_pyIter_list p.isList ?_
  refine ⟨s1.heap.objs.size, [s1.heap.objs.size], _, _, H1, rfl, I1.kept (t' := s1.toks) fun b o e => Heap.get?_push_of_some _ e, turn_list a _, ⟨_, Heap.get?_push_size _ rfl, rfl, rfl⟩, fun b hb => ?_, q⟩
  have e : b = s1.heap.objs.size := by simpa using hb
  subst e
  exact I1.fpOk (Nat.le_refl _) (I1.hok.fresh (Nat.le_refl _))
theorem range_it {pins : List (Addr × Obj)} {σ : St} {H : Hp} {s : Shared} {R : It → Hp → Prop} {E : Value → Shared → Prop} {lo hi : Int} {t u v : Tok} {tk : Nat} (I : Inv X pins σ H s) (h1 : -(2 ^ 62) ≤ lo) (h2 : lo < 2 ^ 62) (h3 : -(2 ^ 62) ≤ hi) (h4 : hi < 2 ^ 62)
    (q : R (Itr lo (hi - lo).toNat) H) : wpAny (model X.prog X.w) X.A (pyIter (.ref s.heap.objs.size)) (PIE X pins σ tg R) E { s with heap := s.heap.push { cls := .type "range", data := .fields #[.int lo t, .int hi u, .int 1 v] }, toks := tk } := by
  refine wpAny_pyIter_range (IsRange.new ..) (small_one h1 h2 h3 h4) ?_
  have I1 : Inv X pins σ H { s with heap := s.heap.push { cls := .type "range", data := .fields #[.int lo t, .int hi u, .int 1 v] }, toks := tk } := I.kept fun b o e => Heap.get?_push_of_some _ e
  refine ⟨(s.heap.push { cls := .type "range", data := .fields #[.int lo t, .int hi u, .int 1 v] }).objs.size, [(s.heap.push { cls := .type "range", data := .fields #[.int lo t, .int hi u, .int 1 v] }).objs.size], _, _, H, rfl,
    I1.kept (t' := tk) fun b o e => Heap.get?_push_of_some _ e, turn_range _ lo (hi - lo).toNat, ?_, fun b hb => ?_, q⟩
  · have e1 : lo + ((0 : Nat) : Int) * 1 = lo := by simp
    have e2 : (((hi - lo).toNat : Nat) : Int) - ((0 : Nat) : Int) = Builtin.Range.rangeSize lo hi 1 := by rw [rangeSize_one]; split <;> omega
    show IsRangeIter _ _ (lo + ((0 : Nat) : Int) * 1) ((((hi - lo).toNat : Nat) : Int) - ((0 : Nat) : Int)) 1
    rw [e1, e2]
    exact Heap.get?_push_size _ rfl
  · have e : b = (s.heap.push { cls := .type "range", data := .fields #[.int lo t, .int hi u, .int 1 v] }).objs.size := by simpa using hb
    subst e
    exact I1.fpOk (Nat.le_refl _) (I1.hok.fresh (Nat.le_refl _))
def iRng1 (ta : TA) : TI := fun σ H R => ta σ H fun vs H1 => ∃ j : Int, vs = [.int j] ∧ -(2 ^ 62) ≤ j ∧ j < 2 ^ 62 ∧ R (Itr 0 j.toNat) H1
def iRng2 (ta : TA) : TI := fun σ H R => ta σ H fun vs H1 => ∃ i j : Int, vs = [.int i, .int j] ∧ (-(2 ^ 62) ≤ i ∧ i < 2 ^ 62 ∧ -(2 ^ 62) ≤ j ∧ j < 2 ^ 62) ∧ R (Itr i (j - i).toNat) H1
theorem pi_range1 {a : Expr} {ta : TA} {p pos : Pos} (hg : Gl X "range") (hm : X.mg "range" = none) (ha : PA X [a] ta) (hs : starEach [a] X.env = [(false, eval a X.env)] := by rfl) : PI X tg (.Call (.Name "range" p) [a] [] pos) (iRng1 ta) := by
  intro pins s σ H R I h
  refine Call_ (ld_blt I hg hm boot_range (PyProof.Rows.callWith_type1 (thn (ha pos pins s σ H _ I h) fun us s1 ⟨vs, H1, I1, r1, q1⟩ => ?_) hs rfl))
  obtain ⟨j, e, q1, q2, q⟩ := q1
  subst e
  cases r1 with
  | cons r rr =>
    cases rr
    obtain ⟨t, rfl⟩ := r
    exact call_range_1 (range_it I1 (by omega) (by omega) q1 q2 (by simpa using q))
def tFor (wi : TI) (g : TG) (tb : TS) : TS := fun D σ H => wi σ H fun J H1 => ∃ W : Nat → Nat → St → Hp → Prop, (∃ m, W 0 m σ H1) ∧ ∀ i m σ H, W i m σ H →
  (J.stop i H ∧ D.nx σ H) ∨ (J.go i H ∧ ∃ N : St → Hp → Prop, (∀ σ' H', N σ' H' → ∃ m', m' < m ∧ W (i + 1) m' σ' H') ∧ ∀ x H', J.yld i H x H' → g x σ H' fun σ2 H2 => tb { D with nx := N, ct := N, bk := D.nx } σ2 H2)
def pinsAt (fp : List Addr) (h : Heap) : List (Addr × Obj) := fp.filterMap fun b => (h.get? b).map fun o => (b, o)
theorem mem_pinsAt {fp : List Addr} {h : Heap} {b : Addr} {o : Obj} (hb : b ∈ fp) (e : h.get? b = some o) : (b, o) ∈ pinsAt fp h := List.mem_filterMap.mpr ⟨b, hb, by rw [e]; rfl⟩
theorem of_pinsAt {fp : List Addr} {h : Heap} {p : Addr × Obj} (hp : p ∈ pinsAt fp h) : p.1 ∈ fp ∧ h.get? p.1 = some p.2 := by
  obtain ⟨b, hb, e⟩ := List.mem_filterMap.mp hp
  cases q : h.get? b with
  | none => rw [q] at e; cases e
  | some o =>
    rw [q] at e
    have e' : (b, o) = p := Option.some.inj e
    subst e'
    exact ⟨hb, q⟩
theorem Inv.pinned {pins : List (Addr × Obj)} {σ : St} {H : Hp} {s : Shared} {fp : List Addr} (I : Inv X pins σ H s) (hf : ∀ b ∈ fp, FpOk X pins H b) (ho : ∀ b ∈ fp, ∃ o, s.heap.get? b = some o ∧ ∀ v, o.data ≠ .cell v) : Inv X (pins ++ pinsAt fp s.heap) σ H s :=
  I.pins_of fun p hp => (List.mem_append.mp hp).elim (fun z => I.pin p (List.mem_append_right _ z)) fun z => by
    obtain ⟨hb, e⟩ := of_pinsAt z
    obtain ⟨f0, f1, f2, _⟩ := hf p.1 hb
    obtain ⟨o, e', d⟩ := ho p.1 hb
    rw [e] at e'; cases e'
    exact ⟨e, f0, f1, f2, d⟩
theorem Inv.unpinned {pins pl : List (Addr × Obj)} {σ : St} {H : Hp} {s : Shared} (I : Inv X (pins ++ pl) σ H s) : Inv X pins σ H s := I.pins_of fun p hp => I.pin p (List.mem_append_right _ (List.mem_append_left _ hp))
theorem ps_for {iter : Expr} {body : List Stmt} {wi : TI} {g : TG} {tb : TS} {pos : Pos} (hp : PassesOwn (model X.prog X.w) X.A X.env X.xe) (hc : X.calm = true) (hi : PI X tg iter wi) (hg : PG X tg g) (hb : PSs X body tb)
    (hs : ∀ x, foldedSetIterable iter X.env x = pure x := by intro _; rfl) : PS X (.For tg iter body [] pos) (tFor wi g tb) := by
  intro pins s σ H D I h
  refine wpAny_For (thn (hi pins s σ H _ I h) fun v s1 h1 => thn h1 fun itv s2 h2 => ?_) hs
  obtain ⟨it, fp, tn, J, H2, e, I2, T, st2, f2, W, ⟨m0, w0⟩, turn⟩ := h2
  subst e
  have stat : ∀ {H' : Hp}, (∀ b ∈ fp, H' b = none) → ∀ b ∈ fp, FpOk X pins H' b := fun hn b hb => ⟨hn b hb, (f2 b hb).2⟩
  refine codeAny_forLoop_any (fun n s' => ∃ i σ' H', Inv X pins σ' H' s' ∧ tn i s'.heap ∧ (∀ b ∈ fp, H' b = none) ∧ W i n σ' H') ?_ m0 ⟨0, σ, H2, I2, st2, fun b hb => (f2 b hb).1, w0⟩
  rintro n s3 ⟨i, σ3, H3, I3, st3, fr3, w3⟩
  rcases turn i n σ3 H3 w3 with ⟨stop, qn⟩ | ⟨go, N, hN, step⟩
  · refine wpAny_passesOwn hp (thn (T.done X rfl rfl rfl hc i pins s3 σ3 H3 X.xe I3 (stat fr3) st3 stop) fun r s4 ⟨hr, I4⟩ => ?_)
    subst hr
    exact wpAny_execs_nil ⟨σ3, H3, I4, qn⟩
  · refine wpAny_passesOwn hp (thn (T.item X rfl rfl rfl hc i pins s3 σ3 H3 X.xe I3 (stat fr3) st3 go) fun r s4 ⟨u, hr, h4⟩ => ?_)
    subst hr
    refine wpAny_passesOwn hp (thn h4 fun _ s5 ⟨x, H5, I5, r5, y5, st5, fr5⟩ => ?_)
    have I5' := I5.pinned (stat fr5) (T.obj _ _ st5)
    refine wpAny_passesOwn hp (thn (hg _ s5 σ3 H5 x u _ I5' r5 (step x H5 y5)) fun _ s6 ⟨σ6, H6, I6, q6⟩ => ?_)
    refine wpAny_passesOwn hp (thn (hb _ s6 σ6 H6 _ I6 q6) fun f s7 q7 => ?_)
    have again : ∀ {σ7 : St} {H7 : Hp}, Inv X (pins ++ pinsAt fp s5.heap) σ7 H7 s7 → N σ7 H7 → ∃ m, m < n ∧ ∃ i σ' H', Inv X pins σ' H' s7 ∧ tn i s7.heap ∧ (∀ b ∈ fp, H' b = none) ∧ W i m σ' H' := fun {σ7 H7} I7 n7 => by
      obtain ⟨m', hm, w7⟩ := hN σ7 H7 n7
      refine ⟨m', hm, i + 1, σ7, H7, I7.unpinned, T.keep _ _ _ st5 fun b hb o e => (I7.pin (b, o) (List.mem_append_right _ (List.mem_append_right _ (mem_pinsAt hb e)))).1, fun b hb => ?_, w7⟩
      obtain ⟨o, e, d⟩ := T.obj _ _ st5 b hb
      exact (I7.pin (b, o) (List.mem_append_right _ (List.mem_append_right _ (mem_pinsAt hb e)))).2.1
    cases f with
    | next => obtain ⟨σ7, H7, I7, n7⟩ := q7; exact again I7 n7
    | cont => obtain ⟨σ7, H7, I7, n7⟩ := q7; exact again I7 n7
    | brk => obtain ⟨σ7, H7, I7, q7⟩ := q7; exact ⟨σ7, H7, I7.unpinned, q7⟩
    | ret v => obtain ⟨x7, σ7, H7, I7, r7, q7⟩ := q7; exact ⟨x7, σ7, H7, I7.unpinned, r7, q7⟩
end
theorem for_list {K : PySem.W.Frag} {a : Addr} {xs : List V} {g : TG} {tb : TS} {D : Ends} {σ : St} {H : Hp} (Pv : Nat → St → Hp → Prop) (h0 : Pv 0 σ H) (hl : ∀ i σ H, i ≤ xs.length → Pv i σ H → SqL K H a xs)
    (hs : ∀ i x σ H, xs[i]? = some x → Pv i σ H → g x σ H fun σ2 H2 => tb { D with nx := Pv (i + 1), ct := Pv (i + 1), bk := D.nx } σ2 H2) (hd : ∀ σ H, Pv xs.length σ H → D.nx σ H) :
    ∃ W : Nat → Nat → St → Hp → Prop, (∃ m, W 0 m σ H) ∧ ∀ i m σ H, W i m σ H →
      ((Itl K a).stop i H ∧ D.nx σ H) ∨ ((Itl K a).go i H ∧ ∃ N : St → Hp → Prop, (∀ σ' H', N σ' H' → ∃ m', m' < m ∧ W (i + 1) m' σ' H') ∧ ∀ x H', (Itl K a).yld i H x H' → g x σ H' fun σ2 H2 => tb { D with nx := N, ct := N, bk := D.nx } σ2 H2) := by
  refine ⟨fun i m σ H => m = xs.length - i ∧ i ≤ xs.length ∧ Pv i σ H, ⟨xs.length, by simp, Nat.zero_le _, h0⟩, ?_⟩
  rintro i m σ H ⟨rfl, hi, p⟩
  have q := hl i σ H hi p
  by_cases hlt : i < xs.length
  · refine .inr ⟨⟨xs, xs[i], q, by simp [hlt]⟩, Pv (i + 1), fun σ' H' p' => ⟨xs.length - (i + 1), by omega, rfl, hlt, p'⟩, fun x H' y => ?_⟩
    obtain ⟨e, y⟩ := y
    subst e
    exact hs i x σ _ (y xs q) p
  · have e : i = xs.length := by omega
    subst e
    exact .inl ⟨⟨xs, q, Nat.le_refl _⟩, hd σ H p⟩
theorem for_range {lo : Int} {n : Nat} {g : TG} {tb : TS} {D : Ends} {σ : St} {H : Hp} (Pv : Nat → St → Hp → Prop) (h0 : Pv 0 σ H)
    (hs : ∀ i σ H, i < n → Pv i σ H → g (.int (lo + i)) σ H fun σ2 H2 => tb { D with nx := Pv (i + 1), ct := Pv (i + 1), bk := D.nx } σ2 H2) (hd : ∀ σ H, Pv n σ H → D.nx σ H) :
    ∃ W : Nat → Nat → St → Hp → Prop, (∃ m, W 0 m σ H) ∧ ∀ i m σ H, W i m σ H →
      ((Itr lo n).stop i H ∧ D.nx σ H) ∨ ((Itr lo n).go i H ∧ ∃ N : St → Hp → Prop, (∀ σ' H', N σ' H' → ∃ m', m' < m ∧ W (i + 1) m' σ' H') ∧ ∀ x H', (Itr lo n).yld i H x H' → g x σ H' fun σ2 H2 => tb { D with nx := N, ct := N, bk := D.nx } σ2 H2) := by
  refine ⟨fun i m σ H => m = n - i ∧ i ≤ n ∧ Pv i σ H, ⟨n, by simp, Nat.zero_le _, h0⟩, ?_⟩
  rintro i m σ H ⟨rfl, hi, p⟩
  by_cases hlt : i < n
  · refine .inr ⟨hlt, Pv (i + 1), fun σ' H' p' => ⟨n - (i + 1), by omega, rfl, hlt, p'⟩, fun x H' y => ?_⟩
    obtain ⟨e, y⟩ := y
    subst e y
    exact hs i σ _ hlt p
  · have e : i = n := by omega
    subst e
    exact .inl ⟨Nat.le_refl _, hd σ H p⟩
end L2
namespace L2
open PySem PySem.Spec PyProof.Rows
abbrev R2 := V → V → Hp → VK → Prop
def OpR (X : Cx) (f : Value → Value → Sem Value) (r : R2) : Prop :=
  ∀ (pins : List (Addr × Obj)) (s : Shared) (σ : St) (H : Hp) (x y : V) (v u : Value) (Q : VK), Inv X pins σ H s → RelV x v → RelV y u → r x y H Q →
    wpAny (model X.prog X.w) X.A (f v u) (EP X pins σ Q) X.xe s
def UnR (X : Cx) (f : Value → Sem Value) (r : V → Hp → VK → Prop) : Prop :=
  ∀ (pins : List (Addr × Obj)) (s : Shared) (σ : St) (H : Hp) (x : V) (v : Value) (Q : VK), Inv X pins σ H s → RelV x v → r x H Q →
    wpAny (model X.prog X.w) X.A (f v) (EP X pins σ Q) X.xe s
def CallR (X : Cx) (f : Value) (r : List V → Hp → VK → Prop) : Prop :=
  ∀ (pins : List (Addr × Obj)) (s : Shared) (σ : St) (H : Hp) (xs : List V) (us : List Value) (Q : VK), Inv X pins σ H s → Vals xs us → r xs H Q →
    wpAny (model X.prog X.w) X.A (call f us) (EP X pins σ Q) X.xe s
def TruR (X : Cx) (r : V → Hp → (Bool → Hp → Prop) → Prop) : Prop :=
  ∀ (pins : List (Addr × Obj)) (s : Shared) (σ : St) (H : Hp) (x : V) (v : Value) (Q : Bool → Hp → Prop), Inv X pins σ H s → RelV x v → r x H Q →
    wpAny (model X.prog X.w) X.A (truthy v) (TP X pins σ Q) X.xe s
def tOp (r : R2) (ta tb : TE) : TE := fun σ H Q => ta σ H fun x H1 => tb σ H1 fun y H2 => r x y H2 Q
def tUn (r : V → Hp → VK → Prop) (ta : TE) : TE := fun σ H Q => ta σ H fun x H1 => r x H1 Q
def rI (C : Int → Int → Prop) (g : Int → Int → V) : R2 := fun x y H Q => ∃ i j, x = .int i ∧ y = .int j ∧ C i j ∧ Q (g i j) H
def rI0 (g : Int → Int → V) : R2 := fun x y H Q => ∃ i j, x = .int i ∧ y = .int j ∧ Q (g i j) H
def rU (g : Int → V) : V → Hp → VK → Prop := fun x H Q => ∃ i, x = .int i ∧ Q (g i) H
section
variable {X : Cx} {a b c : Expr} {ta tb tc : TE} {pos : Pos}
theorem binT (ha : PE X a ta) (hb : PE X b tb) {pins : List (Addr × Obj)} {s : Shared} {σ : St} {H : Hp} {R : V → V → Hp → Prop} (I : Inv X pins σ H s)
    (h : ta σ H fun x H1 => tb σ H1 fun y H2 => R x y H2) {Q : Value → Shared → Prop} {f : Value → Value → Sem Value}
    (hf : ∀ v u s2 x y H2, Inv X pins σ H2 s2 → RelV x v → RelV y u → R x y H2 → wpAny (model X.prog X.w) X.A (f v u) Q X.xe s2) :
    wpAny (model X.prog X.w) X.A (eval a X.env) (fun v s₁ => wpAny (model X.prog X.w) X.A (eval b X.env) (fun u s₂ => wpAny (model X.prog X.w) X.A (f v u) Q X.xe s₂) X.xe s₁) X.xe s := by
  refine thn (ha pins s σ H _ I h) fun v s1 ⟨x, H1, I1, r1, q1⟩ => ?_
  refine thn (hb pins s1 σ H1 _ I1 q1) fun u s2 ⟨y, H2, I2, r2, q2⟩ => ?_
  exact hf v u s2 x y H2 I2 r1 r2 q2
theorem pe_op {op : Operator} {r : R2} (ho : OpR X (binaryOp op) r) (ha : PE X a ta) (hb : PE X b tb) : PE X (.BinOp a op b pos) (tOp r ta tb) := by
  intro pins s σ H Q I h
  exact wpAny_BinOp (binT ha hb I h fun v u s2 x y H2 I2 rx ry q => ho pins s2 σ H2 x y v u Q I2 rx ry q)
theorem pe_un {op : UnaryOp} {r : V → Hp → VK → Prop} (ho : UnR X (unaryOp op) r) (ha : PE X a ta) : PE X (.UnaryOp op a pos) (tUn r ta) := by
  intro pins s σ H Q I h
  exact UnaryOp_ (thn (ha pins s σ H _ I h) fun v s1 ⟨x, H1, I1, r1, q1⟩ => ho pins s1 σ H1 x v Q I1 r1 q1)
theorem opI {f : Value → Value → Sem Value} {C : Int → Int → Prop} {g : Int → Int → Int}
    (rule : ∀ (i j : Int) (t u : Tok) (s : Shared) (Q : Value → Shared → Prop) (E : Value → Shared → Prop), C i j → Q (.int (g i j) s.toks) { s with toks := s.toks + 1 } → wpAny (model X.prog X.w) X.A (f (.int i t) (.int j u)) Q E s) :
    OpR X f (rI C fun i j => .int (g i j)) := by
  intro pins s σ H x y v u Q I rx ry h
  obtain ⟨i, j, rfl, rfl, hc, q⟩ := h
  obtain ⟨t, rfl⟩ := rx
  obtain ⟨t', rfl⟩ := ry
  exact rule i j t t' s _ _ hc ⟨.int (g i j), H, I.tok _, ⟨_, rfl⟩, q⟩
theorem opI0 {f : Value → Value → Sem Value} {g : Int → Int → Int}
    (rule : ∀ (i j : Int) (t u : Tok) (s : Shared) (Q : Value → Shared → Prop) (E : Value → Shared → Prop), Q (.int (g i j) s.toks) { s with toks := s.toks + 1 } → wpAny (model X.prog X.w) X.A (f (.int i t) (.int j u)) Q E s) :
    OpR X f (rI0 fun i j => .int (g i j)) := by
  intro pins s σ H x y v u Q I rx ry h
  obtain ⟨i, j, rfl, rfl, q⟩ := h
  obtain ⟨t, rfl⟩ := rx
  obtain ⟨t', rfl⟩ := ry
  exact rule i j t t' s _ _ ⟨.int (g i j), H, I.tok _, ⟨_, rfl⟩, q⟩
theorem opB0 {f : Value → Value → Sem Value} {g : Int → Int → Bool}
    (rule : ∀ (i j : Int) (t u : Tok) (s : Shared) (Q : Value → Shared → Prop) (E : Value → Shared → Prop), Q (.bool (g i j)) s → wpAny (model X.prog X.w) X.A (f (.int i t) (.int j u)) Q E s) :
    OpR X f (rI0 fun i j => .bl (g i j)) := by
  intro pins s σ H x y v u Q I rx ry h
  obtain ⟨i, j, rfl, rfl, q⟩ := h
  obtain ⟨t, rfl⟩ := rx
  obtain ⟨t', rfl⟩ := ry
  exact rule i j t t' s _ _ ⟨.bl (g i j), H, I, rfl, q⟩
def CDiv (i j : Int) : Prop := 0 < j ∧ j < 1073741824
def CDivN (i j : Int) : Prop := j ≠ 0 ∧ j.natAbs < 1073741824
def CPow (i j : Int) : Prop := 0 ≤ j ∧ j ≤ 1000000 ∧ i.natAbs < 2 ^ 64
def CMul (i j : Int) : Prop := (-(2 ^ 64) < i ∧ i < 2 ^ 64) ∨ (-(2 ^ 64) < j ∧ j < 2 ^ 64)
theorem CMul.ok {i j : Int} (h : CMul i j) : IntMulOk i j := by
  rcases h with ⟨h1, h2⟩ | ⟨h1, h2⟩
  · exact .of_left (intBits_le_64 h1 h2)
  · exact .of_right (intBits_le_64 h1 h2)
theorem op_add : OpR X (binaryOp .Add) (rI0 fun i j => .int (i + j)) := opI0 fun _ _ _ _ _ _ _ q => add_int q
theorem op_fdiv : OpR X (binaryOp .FloorDiv) (rI CDiv fun i j => .int (i / j)) := opI fun i j _ _ _ _ _ hc q => by
  have h1 : (0 : Int) < j := hc.1
  have h2 : j < 1073741824 := hc.2
  exact floordiv_int (by omega) (by rw [Int.fdiv_eq_ediv_of_nonneg i (by omega)]; exact q) (.inl (PyProof.noPylong_small (by omega)))
theorem op_mod : OpR X (binaryOp .Mod) (rI (fun _ j => 0 < j) fun i j => .int (i % j)) := opI fun i j _ _ _ _ _ hc q => by
  have h1 : (0 : Int) < j := hc
  exact mod_int' (by omega) (by rw [Int.fmod_eq_emod_of_nonneg i (by omega)]; exact q)
theorem unI {f : Value → Sem Value} {g : Int → Int}
    (rule : ∀ (i : Int) (t : Tok) (s : Shared) (Q : Value → Shared → Prop) (E : Value → Shared → Prop), Q (.int (g i) s.toks) { s with toks := s.toks + 1 } → wpAny (model X.prog X.w) X.A (f (.int i t)) Q E s) :
    UnR X f (rU fun i => .int (g i)) := by
  intro pins s σ H x v Q I rx h
  obtain ⟨i, rfl, q⟩ := h
  obtain ⟨t, rfl⟩ := rx
  exact rule i t s _ _ ⟨.int (g i), H, I.tok _, ⟨_, rfl⟩, q⟩
theorem un_neg : UnR X (unaryOp .USub) (rU fun i => .int (-i)) := unI fun _ _ _ _ _ q => neg_int q
end
def scal : V → V → Bool
  | .non, .non => true | .non, .int _ => true | .int _, .non => true | .non, .bl _ => true | .bl _, .non => true | .non, .str _ => true | .str _, .non => true
  | .int _, .int _ => true | .bl _, .bl _ => true | .str _, .str _ => true | .byt _, .byt _ => true
  | .int _, .str _ => true | .str _, .int _ => true | .bl _, .str _ => true | .str _, .bl _ => true
  | _, _ => false
def rEq : R2 := fun x y H Q => scal x y = true ∧ Q (.bl (decide (x = y))) H
def rNe : R2 := fun x y H Q => scal x y = true ∧ Q (.bl (!decide (x = y))) H
theorem dec_int {i j : Int} : decide (V.int i = V.int j) = (i == j) := by
  rw [Bool.eq_iff_iff]
  simp
theorem dec_bl {i j : Bool} : decide (V.bl i = V.bl j) = (i == j) := by
  rw [Bool.eq_iff_iff]
  simp
theorem dec_str {i j : Str} : decide (V.str i = V.str j) = (i == j) := by
  rw [Bool.eq_iff_iff]
  simp
theorem dec_byt {i j : Array UInt8} : decide (V.byt i = V.byt j) = (i.toList == j.toList) := by
  rw [Bool.eq_iff_iff]
  cases i
  cases j
  simp
section
variable {X : Cx} {a b c : Expr} {ta tb tc : TE} {pos : Pos}
theorem fin_bl {pins : List (Addr × Obj)} {σ : St} {H : Hp} {s : Shared} {Q : VK} {k k' : Bool} (I : Inv X pins σ H s) (q : Q (.bl k) H) (e : k = k') : EP X pins σ Q (.bool k') s := by
  subst e
  exact ⟨.bl k, H, I, rfl, q⟩
theorem op_eq : OpR X (compareOp .Eq) rEq := by
  intro pins s σ H x y v u Q I rx ry h
  obtain ⟨hs, q⟩ := h
  cases x with
  | non =>
    cases rx
    cases y with
    | non => cases ry; exact PySem.EqNone.eq_none_none (fin_bl I q (by simp))
    | bl j => cases ry; exact PySem.EqNone.eq_none_bool (fin_bl I q (by simp))
    | int j => obtain ⟨t', rfl⟩ := ry; exact PySem.EqNone.eq_none_int (fin_bl I q (by simp))
    | str j => obtain ⟨t', rfl⟩ := ry; exact PySem.EqNone.eq_none_str (fin_bl I q (by simp))
    | _ => exact absurd (show false = true from hs) Bool.false_ne_true
  | bl i =>
    cases rx
    cases y with
    | non => cases ry; exact PySem.EqNone.eq_bool_none (fin_bl I q (by simp))
    | bl j => cases ry; exact eq_bool (fin_bl I q dec_bl)
    | str j => obtain ⟨t', rfl⟩ := ry; exact PySem.EqMixed.eq_bool_str (fin_bl I q (by simp))
    | _ => exact absurd (show false = true from hs) Bool.false_ne_true
  | int i =>
    obtain ⟨t, rfl⟩ := rx
    cases y with
    | non => cases ry; exact PySem.EqNone.eq_int_none (fin_bl I q (by simp))
    | int j => obtain ⟨t', rfl⟩ := ry; exact eq_int (fin_bl I q dec_int)
    | str j => obtain ⟨t', rfl⟩ := ry; exact PySem.EqMixed.eq_int_str (fin_bl I q (by simp))
    | _ => exact absurd (show false = true from hs) Bool.false_ne_true
  | str i =>
    obtain ⟨t, rfl⟩ := rx
    cases y with
    | non => cases ry; exact PySem.EqNone.eq_str_none (fin_bl I q (by simp))
    | bl j => cases ry; exact PySem.EqMixed.eq_str_bool (fin_bl I q (by simp))
    | int j => obtain ⟨t', rfl⟩ := ry; exact PySem.EqMixed.eq_str_int (fin_bl I q (by simp))
    | str j => obtain ⟨t', rfl⟩ := ry; exact eq_str (fin_bl I q dec_str)
    | _ => exact absurd (show false = true from hs) Bool.false_ne_true
  | byt i =>
    obtain ⟨t, rfl⟩ := rx
    cases y with
    | byt j => obtain ⟨t', rfl⟩ := ry; exact PySem.W.eq_bytes (fin_bl I q dec_byt)
    | _ => exact absurd (show false = true from hs) Bool.false_ne_true
  | _ => cases y <;> exact absurd (show false = true from hs) Bool.false_ne_true
theorem op_ne : OpR X (compareOp .NotEq) rNe := by
  intro pins s σ H x y v u Q I rx ry h
  obtain ⟨hs, q⟩ := h
  cases x with
  | non =>
    cases rx
    cases y with
    | non => cases ry; exact PySem.EqNone.ne_none_none (fin_bl I q (by simp))
    | bl j => cases ry; exact PySem.EqNone.ne_none_bool (fin_bl I q (by simp))
    | int j => obtain ⟨t', rfl⟩ := ry; exact PySem.EqNone.ne_none_int (fin_bl I q (by simp))
    | str j => obtain ⟨t', rfl⟩ := ry; exact PySem.EqNone.ne_none_str (fin_bl I q (by simp))
    | _ => exact absurd (show false = true from hs) Bool.false_ne_true
  | bl i =>
    cases rx
    cases y with
    | non => cases ry; exact PySem.EqNone.ne_bool_none (fin_bl I q (by simp))
    | bl j => cases ry; exact ne_bool (fin_bl I q (congrArg not dec_bl))
    | str j => obtain ⟨t', rfl⟩ := ry; exact PySem.EqMixed.ne_bool_str (fin_bl I q (by simp))
    | _ => exact absurd (show false = true from hs) Bool.false_ne_true
  | int i =>
    obtain ⟨t, rfl⟩ := rx
    cases y with
    | non => cases ry; exact PySem.EqNone.ne_int_none (fin_bl I q (by simp))
    | int j => obtain ⟨t', rfl⟩ := ry; exact ne_int (fin_bl I q (congrArg not dec_int))
    | str j => obtain ⟨t', rfl⟩ := ry; exact PySem.EqMixed.ne_int_str (fin_bl I q (by simp))
    | _ => exact absurd (show false = true from hs) Bool.false_ne_true
  | str i =>
    obtain ⟨t, rfl⟩ := rx
    cases y with
    | non => cases ry; exact PySem.EqNone.ne_str_none (fin_bl I q (by simp))
    | bl j => cases ry; exact PySem.EqMixed.ne_str_bool (fin_bl I q (by simp))
    | int j => obtain ⟨t', rfl⟩ := ry; exact PySem.EqMixed.ne_str_int (fin_bl I q (by simp))
    | str j => obtain ⟨t', rfl⟩ := ry; exact ne_str (fin_bl I q (congrArg not dec_str))
    | _ => exact absurd (show false = true from hs) Bool.false_ne_true
  | byt i =>
    obtain ⟨t, rfl⟩ := rx
    cases y with
    | byt j => obtain ⟨t', rfl⟩ := ry; exact PySem.W.ne_bytes (fin_bl I q (congrArg not dec_byt))
    | _ => exact absurd (show false = true from hs) Bool.false_ne_true
  | _ => cases y <;> exact absurd (show false = true from hs) Bool.false_ne_true
theorem op_lt : OpR X (compareOp .Lt) (rI0 fun i j => .bl (decide (i < j))) := opB0 fun _ _ _ _ _ _ _ q => lt_int q
theorem op_le : OpR X (compareOp .LtE) (rI0 fun i j => .bl (decide (i ≤ j))) := opB0 fun _ _ _ _ _ _ _ q => le_int q
theorem op_gt : OpR X (compareOp .Gt) (rI0 fun i j => .bl (decide (j < i))) := opB0 fun _ _ _ _ _ _ _ q => gt_int q
theorem op_ge : OpR X (compareOp .GtE) (rI0 fun i j => .bl (decide (j ≤ i))) := opB0 fun _ _ _ _ _ _ _ q => ge_int q
def isObj : HO → Bool
  | .lst _ => true
  | .ins _ _ _ => true
  | _ => false
theorem OpR.or {f : Value → Value → Sem Value} {r r' : R2} (h : OpR X f r) (h' : OpR X f r') : OpR X f (fun x y H Q => r x y H Q ∨ r' x y H Q) := by
  intro pins s σ H x y v u Q I rx ry q
  rcases q with q | q
  · exact h pins s σ H x y v u Q I rx ry q
  · exact h' pins s σ H x y v u Q I rx ry q
theorem nomark (b : Expr) {op : CmpOp} (h : op ≠ .In := by decide) (h2 : op ≠ .NotIn := by decide) : behindInMarks op b = false := by
  have e1 : (op == CmpOp.In) = false := by cases op <;> first | rfl | exact absurd rfl h
  have e2 : (op == CmpOp.NotIn) = false := by cases op <;> first | rfl | exact absurd rfl h2
  cases b <;> simp [behindInMarks, e1, e2]
theorem pe_cmpR {op : CmpOp} {r : R2} (ho : OpR X (compareOp op) r) (ha : PE X a ta) (hb : PE X b tb) (hm : behindInMarks op b = false) : PE X (.Compare a [op] [b] pos) (tOp r ta tb) := by
  intro pins s σ H Q I h
  exact wpAny_Compare1 (binT ha hb I h fun v u s2 x y H2 I2 rx ry q => ho pins s2 σ H2 x y v u Q I2 rx ry q) hm
def tTest (t : TE) : TT := fun σ H Q => t σ H fun x H' => ∃ k, x = .bl k ∧ Q k H'
theorem pt_cmpR {op : CmpOp} {r : R2} (ho : OpR X (compareOp op) r) (ha : PE X a ta) (hb : PE X b tb) (hm : behindInMarks op b = false) : PT X (.Compare a [op] [b] pos) (tTest (tOp r ta tb)) := by
  intro pins s σ H Q I h
  refine wpAny_isTrue_Compare1 (thn (ha pins s σ H _ I h) fun v s1 ⟨x, H1, I1, r1, q1⟩ => thn (hb pins s1 σ H1 _ I1 q1) fun u s2 ⟨y, H2, I2, r2, q2⟩ =>
    thn (ho pins s2 σ H2 x y v u _ I2 r1 r2 q2) fun c s3 ⟨z, H3, I3, r3, k, e, q3⟩ => ?_) hm
  subst e
  cases r3
  exact wpAny_truthy_bool ⟨H3, I3, q3⟩
def tChain (r r' : R2) (ta tb tc : TE) : TE := fun σ H Q => ta σ H fun x H1 => tb σ H1 fun y H2 => r x y H2 fun z H3 => ∃ k, z = .bl k ∧
  (if k = true then tc σ H3 fun w' H4 => r' y w' H4 Q else Q (.bl false) H3)
def TruV (K : PySem.W.Frag) (x : V) (H : Hp) (k : Bool) : Prop :=
  match x with
  | .non => k = false
  | .bl b => k = b
  | .int i => k = (i != 0)
  | .str y => y.length ≤ sizeLine ∧ k = ((y.length : Int) != 0)
  | .byt y => y.size ≤ sizeLine ∧ k = ((y.size : Int) != 0)
  | .ref p => (∃ xs, SqL K H p xs ∧ k = !xs.isEmpty) ∨ (∃ xs, SqT K H p xs ∧ k = !xs.isEmpty) ∨ ∃ kvs, H p = some (.dK kvs) ∧ k = !kvs.isEmpty
  | _ => False
theorem line63 : (sizeLine : Nat) < 2 ^ 63 := by rw [sizeLine_eq]; decide
theorem op_add_str : OpR X (binaryOp .Add) (fun x y H Q => ∃ i j, x = .str i ∧ y = .str j ∧ i.length + j.length ≤ sizeLine ∧ Q (.str (i ++ j)) H) := by
  intro pins s σ H x y v u Q I rx ry h
  obtain ⟨i, j, rfl, rfl, hz, q⟩ := h
  obtain ⟨t, rfl⟩ := rx
  obtain ⟨t', rfl⟩ := ry
  exact add_str (fun t' tk => ⟨.str (i ++ j), H, I.tok _, ⟨_, rfl⟩, q⟩) hz
def PlainIxT (b : Expr) : Prop := ∀ o i, subscripted b false o i = operate [o, i] (getItem o i)
theorem vals1 {x : V} {us : List Value} (r : Vals [x] us) : ∃ u, us = [u] ∧ RelV x u := by
  cases r with
  | cons r1 r2 => cases r2; exact ⟨_, rfl, r1⟩
theorem vals2 {x y : V} {us : List Value} (r : Vals [x, y] us) : ∃ u w', us = [u, w'] ∧ RelV x u ∧ RelV y w' := by
  cases r with
  | cons r1 r2 =>
    cases r2 with
    | cons r3 r4 => cases r4; exact ⟨_, _, rfl, r1, r3⟩
theorem call_int1 : CallR X (.type "int") (fun xs H Q => (∃ i, xs = [.int i] ∧ Q (.int i) H) ∨ ∃ k, xs = [.bl k] ∧ Q (.int (if k then 1 else 0)) H) := by
  intro pins s σ H xs us Q I r h
  rcases h with ⟨i, rfl, q⟩ | ⟨k, rfl, q⟩
  · obtain ⟨u, rfl, t, rfl⟩ := vals1 r
    exact call_int_int ⟨.int i, H, I, ⟨_, rfl⟩, q⟩
  · obtain ⟨u, rfl, r1⟩ := vals1 r
    cases r1
    exact call_int_bool ⟨.int (if k then 1 else 0), H, I.tok _, ⟨_, rfl⟩, q⟩
def LenV (K : PySem.W.Frag) (x : V) (H : Hp) (n : Nat) : Prop :=
  match x with
  | .str y => y.length ≤ sizeLine ∧ n = y.length
  | .byt y => y.size ≤ sizeLine ∧ n = y.size
  | .ref p => (∃ xs, SqL K H p xs ∧ n = xs.length) ∨ ∃ xs, SqT K H p xs ∧ n = xs.length
  | _ => False
end
end L2
namespace L2
open PySem PySem.Spec PyProof.Rows
structure ObjM (h : Heap) (x dx C : Addr) (mA : Str → Option Value) : Prop where
  obj : h.get? x = some (PySem.W.instObj C dx)
  ns : h.Ns1 dx mA
  ne : dx ≠ x
theorem lookIn_ns {h : Heap} {dx : Addr} {mA : Str → Option Value} (n : h.Ns1 dx mA) : ∃ od, h.get? dx = some od ∧ ∀ name, PySem.W.lookIn name od = some (mA name) := by
  obtain ⟨o, es, ep, ho, hd, hk, _, hm⟩ := n
  refine ⟨o, ho, fun name => ?_⟩
  have e := hm name
  unfold nsFind findBy at e
  rw [← Array.find?_toList] at e
  unfold PySem.W.lookIn
  rw [hd]
  dsimp only
  split
  · rename_i y q
    rw [q] at e
    exact congrArg some e
  · rename_i q
    rw [q] at e
    have a : es.toList.any (·.refKey) = false := by
      rw [List.any_eq_false]
      intro y hy
      obtain ⟨z, t, hkey⟩ := hk y (Array.mem_toList_iff.mp hy)
      simp [DictEntry.refKey, hkey]
    have a' : ¬ es.toList.any (·.refKey) = true := by rw [a]; exact Bool.false_ne_true
    rw [if_neg a']
    exact congrArg some e
theorem ObjM.look {h : Heap} {x dx C : Addr} {mA : Str → Option Value} (I : ObjM h x dx C mA) : ∃ od, PySem.W.InstAt h x (PySem.W.instObj C dx) C (some od) ∧ ∀ name, PySem.W.lookIn name od = some (mA name) :=
  let ⟨od, ho, hl⟩ := lookIn_ns I.ns
  ⟨od, ⟨I.obj, rfl, rfl, ho⟩, hl⟩
section
variable {prog : Program} {w : World} {A : Around} {E : Value → Shared → Prop} {s : Shared} {K : PySem.W.Frag} {x dx C f : Addr} {mA : Str → Option Value} {name : Str} {v : Value}
end
def putF (f : Str) (v : V) : List (Str × V) → List (Str × V)
  | [] => [(f, v)]
  | (g, x) :: r => if g = f then (g, v) :: r else (g, x) :: putF f v r
theorem RelO.none_of {o : Option Value} (r : RelO none o) : o = none := by
  cases o with
  | none => rfl
  | some u => exact (show False from r).elim
section
variable {P : Program} {w : World} {H H' : Hp} {h h' : Heap} {a C dx : Addr} {fs fs' : List (Str × V)}
theorem ins_get (hok : HOk P w H h) (e : H a = some (.ins C dx fs)) : ∃ mA, ObjM h a dx C mA ∧ (∀ f, RelO (fs.lookup f) (mA f)) ∧ PySem.Within mA (fs.map (·.1)) ∧ fs.length ≤ 1000 ∧ H dx = some (.own a) := by
  obtain ⟨d, z, ne, ob, mA, n, r, q⟩ := (show ObjOk P w H h a (.ins C dx fs) from hok a _ e)
  exact ⟨mA, ⟨ob, n, ne⟩, r, q, z, d⟩
end
structure Cls (K : PySem.W.Frag) (C : Addr) : Prop where
  pg : PySem.W.plainGet K C Str.empty = true
  hd : PySem.W.hasDictIn K C = true
  po : PySem.W.plainOver K C = true
  sa : PySem.W.findIn K (.ref C) "__setattr__" = some (some (.builtin "object.__setattr__"))
theorem Cls.get {K : PySem.W.Frag} {C : Addr} (c : Cls K C) (f : Str) : PySem.W.plainGet K C f = true := c.pg
def NoAttr (K : PySem.W.Frag) (C : Addr) (f : Str) : Prop := PySem.W.findIn K (.ref C) f = some none
structure Con (K : PySem.W.Frag) (C : Addr) (f : Str) (v : V) (u : Value) : Prop where
  at_ : PySem.W.findIn K (.ref C) f = some (some u)
  rel : RelV v u
  get : PySem.W.specialIn K u "__get__" = some none
  cp : PySem.W.copiedNames.contains f = false
structure Meth (K : PySem.W.Frag) (C : Addr) (m : Str) (f : Addr) : Prop where
  at_ : PySem.W.findIn K (.ref C) m = some (some (.ref f))
  fn : PySem.W.isFn K (.ref f) = true
  kp : PySem.W.keepIn K (.ref f) = true
section
variable {X : Cx} {pins : List (Addr × Obj)} {σ : St} {H : Hp} {s : Shared} {a C dx : Addr} {fs : List (Str × V)} {f : Str} {v : V} {A : Around} {E : Value → Shared → Prop}
end
def tFld (K : PySem.W.Frag) (ta : TE) (f : Str) : TE := fun σ H Q => ta σ H fun x H1 => ∃ a C dx fs v, x = .ref a ∧ H1 a = some (.ins C dx fs) ∧ Cls K C ∧ NoAttr K C f ∧ fs.lookup f = some v ∧ Q v H1
def tCon (K : PySem.W.Frag) (ta : TE) (f : Str) : TE := fun σ H Q => ta σ H fun x H1 => ∃ a C dx fs v u, x = .ref a ∧ H1 a = some (.ins C dx fs) ∧ Cls K C ∧ Con K C f v u ∧ fs.lookup f = none ∧ Q v H1
def sFld (K : PySem.W.Frag) (ta tv : TE) (f : Str) : TS := fun D σ H => tv σ H fun y H1 => ta σ H1 fun x H2 => ∃ a C dx fs, x = .ref a ∧ H2 a = some (.ins C dx fs) ∧ Cls K C ∧ NoAttr K C f ∧ fs.length < 1000 ∧
  D.nx σ (upd H2 a (.ins C dx (putF f y fs)))
def InOp (X : Cx) (op : Operator) (rd : V → V → Hp → VK → Prop) : Prop :=
  ∀ (pins : List (Addr × Obj)) (s : Shared) (σ : St) (H : Hp) (x y : V) (u v : Value) (Q : VK), Inv X pins σ H s → RelV x u → RelV y v → rd x y H Q → wpAny (model X.prog X.w) X.A (inplaceOp op u v) (EP X pins σ Q) X.xe s
def sFldAug (K : PySem.W.Frag) (ta tv : TE) (rd : V → V → Hp → VK → Prop) (f : Str) : TS := fun D σ H => ta σ H fun x H1 => ∃ a C dx fs v, x = .ref a ∧ H1 a = some (.ins C dx fs) ∧ Cls K C ∧ NoAttr K C f ∧ fs.lookup f = some v ∧
  tv σ H1 fun y H2 => rd v y H2 fun z H3 => ∃ dx' fs', H3 a = some (.ins C dx' fs') ∧ fs'.length < 1000 ∧ D.nx σ (upd H3 a (.ins C dx' (putF f z fs')))
section
variable {X : Cx} {o e value : Expr} {f : Str} {pos pos' tpos : Pos} {ta tv : TE}
def rAdd : V → V → Hp → VK → Prop := fun x y H Q => ∃ i j, x = .int i ∧ y = .int j ∧ Q (.int (i + j)) H
def rSub : V → V → Hp → VK → Prop := fun x y H Q => ∃ i j, x = .int i ∧ y = .int j ∧ Q (.int (i - j)) H
end
section
variable {X : Cx} {pins : List (Addr × Obj)} {σ : St} {H : Hp} {s : Shared} {A : Around} {E : Value → Shared → Prop} {Q : Value → Shared → Prop} {c : Value} {b : Bool}
inductive TyOf (K : PySem.W.Frag) (H : Hp) : V → Value → Prop where
  | non : TyOf K H .non (.type "NoneType")
  | bl (x : Bool) : TyOf K H (.bl x) (.type "bool")
  | int (i : Int) : TyOf K H (.int i) (.type "int")
  | str (x : Str) : TyOf K H (.str x) (.type "str")
  | flt (x : UInt64) : TyOf K H (.flt x) (.type "float")
  | lst {a : Addr} {xs : List V} (e : H a = some (.lst xs)) : TyOf K H (.ref a) (.type "list")
  | frz {a : Addr} {o : Obj} {xs : List V} (e : H a = some (.frz o (.lst xs))) : TyOf K H (.ref a) (.type "list")
  | tup {a : Addr} {xs : List V} (e : H a = some (.tup xs)) : TyOf K H (.ref a) (.type "tuple")
  | dK {a : Addr} {kvs : List (Key × V)} (e : H a = some (.dK kvs)) : TyOf K H (.ref a) (.type "dict")
  | dT {a : Addr} {kvs : List (List Key × V)} (e : H a = some (.dT kvs)) : TyOf K H (.ref a) (.type "dict")
  | ins {a C dx : Addr} {fs : List (Str × V)} (e : H a = some (.ins C dx fs)) (cl : Cls K C) (ha : PySem.W.findIn K (.ref C) "__class__" = some (some (.builtin "object.__class__")))
      (hn : PySem.W.specialIn K (.builtin "object.__class__") "__get__" = some (some (.builtin "getset_descriptor.__get__"))) (htk : PySem.W.takesIn K (.builtin "object.__class__") = some true)
      (hm : PySem.W.mroIn K C (.type "object") = some true) : TyOf K H (.ref a) (.ref C)
theorem isinst_ok {x : V} {u t : Value} (I : Inv X pins σ H s) (rx : RelV x u) (ty : TyOf X.K H x t) (e : PySem.W.kitOne X.K t c = some b) (h : ∀ tk, Q (.bool b) { s with toks := tk }) :
    wpAny (model X.prog X.w) A (call (.builtin "isinstance") [u, c]) Q E s := by
  cases ty with
  | non => cases (show u = Value.none from rx); exact PySem.W.kia_one PySem.W.kitx_none I.kIn True.intro e (fun z => nomatch z) h
  | bl y => cases (show u = Value.bool y from rx); exact PySem.W.kia_one PySem.W.kitx_bool I.kIn True.intro e (fun z => nomatch z) h
  | int i => obtain ⟨t, q⟩ := (show ∃ t, u = Value.int i t from rx); cases q; exact PySem.W.kia_one PySem.W.kitx_int I.kIn True.intro e (fun z => nomatch z) h
  | str y => obtain ⟨t, q⟩ := (show ∃ t, u = Value.str y t from rx); cases q; exact PySem.W.kia_one PySem.W.kitx_str I.kIn True.intro e (fun z => nomatch z) h
  | flt y => obtain ⟨t, q⟩ := (show ∃ t, u = Value.float y t from rx); cases q; exact PySem.W.kia_one PySem.W.kitx_float I.kIn True.intro e (fun z => nomatch z) h
  | @lst a xs ea =>
    cases (show u = Value.ref a from rx)
    obtain ⟨_, _, n, _, h1⟩ := (show ObjOk X.prog X.w H s.heap a (.lst xs) from I.hok a _ ea)
    exact PySem.W.kia_one PySem.W.kitx_list I.kIn ⟨_, h1, rfl⟩ e (fun z => nomatch z) h
  | @frz a ob xs ea =>
    cases (show u = Value.ref a from rx)
    obtain ⟨_, _, _, n, _, h1⟩ := (show ObjOk X.prog X.w H s.heap a (.frz ob (.lst xs)) from I.hok a _ ea)
    exact PySem.W.kia_one PySem.W.kitx_list I.kIn ⟨_, h1, rfl⟩ e (fun z => nomatch z) h
  | @tup a xs ea =>
    cases (show u = Value.ref a from rx)
    obtain ⟨_, _, _, p⟩ := (show ObjOk X.prog X.w H s.heap a (.tup xs) from I.hok a _ ea)
    obtain ⟨o, h1, h2, _⟩ := p
    exact PySem.W.kia_one PySem.W.kitx_tuple I.kIn ⟨o, h1, h2⟩ e (fun z => nomatch z) h
  | @dK a kvs ea =>
    cases (show u = Value.ref a from rx)
    obtain ⟨_, _, vs, _, p⟩ := (show ObjOk X.prog X.w H s.heap a (.dK kvs) from I.hok a _ ea)
    obtain ⟨o, es, ep, h1, h2, _⟩ := p
    exact PySem.W.kia_one PySem.W.kitx_dict I.kIn ⟨o, h1, h2.1⟩ e (fun z => nomatch z) h
  | @dT a kvs ea =>
    cases (show u = Value.ref a from rx)
    obtain ⟨_, _, xs, _, o, es, ep, h1, h2, _⟩ := (show ObjOk X.prog X.w H s.heap a (.dT kvs) from I.hok a _ ea)
    exact PySem.W.kia_one PySem.W.kitx_dict I.kIn ⟨o, h1, h2.1⟩ e (fun z => nomatch z) h
  | @ins a C dx fs ea cl ha hn htk hm =>
    cases (show u = Value.ref a from rx)
    obtain ⟨mA, O, _⟩ := ins_get I.hok ea
    obtain ⟨od, J, _⟩ := O.look
    exact PySem.W.kia_one (PySem.W.kitx_own (cl.get _) cl.hd ha hn htk hm) I.kIn J e (fun z => nomatch z) h
end
end L2
namespace L2
open PySem PySem.Spec PyProof.Rows
structure Room (k : Nat) (A : Around) : Prop where
  hd : A.handled = none
  dp : A.depth + 3 * k + 5 < recursionLimit
  un : A.units + 16 * k + 200 < cLine
theorem Room.mono {j k : Nat} {A : Around} (r : Room k A) (h : j ≤ k) : Room j A := ⟨r.hd, by have := r.dp; omega, by have := r.un; omega⟩
theorem Room.deeper {k : Nat} {A : Around} (r : Room (k + 1) A) (env : Env) : Room k (A.deeper env) :=
  ⟨r.hd, by have := r.dp; show A.depth + 1 + 3 * k + 5 < _; omega, by have := r.un; show A.units + 3 + 16 * k + 200 < _; omega⟩
theorem Room.in1 {k : Nat} {A : Around} (r : Room (k + 1) A) : Room k A.in1 :=
  ⟨r.hd, by have := r.dp; show A.depth + 3 * k + 5 < _; omega, by have := r.un; show A.units + 1 + 16 * k + 200 < _; omega⟩
theorem make_depth {A : Around} {C : Addr} {us : List Value} {kw : List (Str × Value)} : (A.under (.builtin "type.__call__" ⟨.ref C :: us, kw⟩)).depth = A.depth + 1 := by
  first | rfl | simp [Around.under, Code.weight, Code.isCreation, Code.isGuard, Code.isCaller, Code.frames, Code.isFrame, guardIds]
theorem make_units {A : Around} {C : Addr} {us : List Value} {kw : List (Str × Value)} : (A.under (.builtin "type.__call__" ⟨.ref C :: us, kw⟩)).units = A.units + 1 := by
  first | rfl | simp [Around.under, Code.cUnits, Code.frames, Code.isFrame]
theorem Room.make {k : Nat} {A : Around} (r : Room (k + 1) A) (C : Addr) (us : List Value) (kw : List (Str × Value)) : Room k (A.under (.builtin "type.__call__" ⟨.ref C :: us, kw⟩)) :=
  ⟨r.hd, by have := r.dp; rw [make_depth]; omega, by have := r.un; rw [make_units]; omega⟩
theorem Room.depth {k : Nat} {A : Around} (r : Room k A) : A.depth < recursionLimit := by have := r.dp; omega
theorem Room.units {k : Nat} {A : Around} (r : Room k A) : A.units + 64 < cLine := by have := r.un; omega
def tNil : TA := fun _ H Q => Q [] H
def tCons (ta : TE) (tr : TA) : TA := fun σ H Q => ta σ H fun x H1 => tr σ H1 fun xs H2 => Q (x :: xs) H2
section
variable {X : Cx} {e : Expr} {es : List Expr} {te : TE} {t : TA} {pos : Pos}
theorem pa_nil : PA X [] tNil := fun _ _ _ _ H Q I h => Calls.spliced_nil ⟨[], H, I, .nil, h⟩
theorem pa_cons (ha : PE X e te) (hr : PA X es t) (hs : starEach (e :: es) X.env = (false, eval e X.env) :: starEach es X.env := by rfl) : PA X (e :: es) (tCons te t) := by
  intro pos pins s σ H Q I h
  rw [hs]
  show wpAny _ _ (spliced ((false, eval e X.env) :: backTo pos (starEach es X.env))) _ _ s
  refine Calls.spliced_cons (thn (ha pins s σ H _ I h) fun u s1 ⟨x, H1, I1, r1, q1⟩ => ?_)
  exact thn (hr pos pins s1 σ H1 _ I1 q1) fun us s2 ⟨xs, H2, I2, r2, q2⟩ => ⟨x :: xs, H2, I2, .cons r1 r2, q2⟩
def tTup (t : TA) : TE := fun σ H Q => t σ H fun xs H1 => xs.length ≤ sizeLine ∧ ∀ p, H1 p = none → Q (.ref p) (upd H1 p (.tup xs))
def tLst (t : TA) : TE := fun σ H Q => t σ H fun xs H1 => xs.length ≤ sizeLine ∧ ∀ p, H1 p = none → Q (.ref p) (upd H1 p (.lst xs))
theorem pe_tup {x1} (h : PA X es t) : PE X (.Tuple es x1 pos) (tTup t) := by
  intro pins s σ H Q I hq
  refine wpAny_Tuple_spliced (thn (h pos pins s σ H _ I hq) fun us s1 ⟨xs, H1, I1, r, z, q⟩ => ⟨by rw [← r.length]; exact z, ?_⟩)
  have hf : H1 s1.heap.objs.size = none := I1.hok.fresh (Nat.le_refl _)
  refine ⟨.ref s1.heap.objs.size, upd H1 s1.heap.objs.size (.tup xs), I1.laid (t' := s1.toks) (fun b u e => Heap.get?_push_of_some _ e) (Nat.le_refl _) ?_, rfl, q _ hf⟩
  exact ⟨z, us, r, ⟨_, Heap.get?_push_size _ rfl, rfl, _, rfl⟩⟩
theorem pe_lst (h : PA X es t) : PE X (.List es pos) (tLst t) := by
  intro pins s σ H Q I hq
  refine wpAny_List_spliced (thn (h pos pins s σ H _ I hq) fun us s1 ⟨xs, H1, I1, r, z, q⟩ => ⟨by rw [← r.length]; exact z, ?_⟩)
  have hf : H1 s1.heap.objs.size = none := I1.hok.fresh (Nat.le_refl _)
  refine ⟨.ref s1.heap.objs.size, upd H1 s1.heap.objs.size (.lst xs), I1.laid (t' := s1.toks) (fun b u e => Heap.get?_push_of_some _ e) (Nat.le_refl _) ?_, rfl, q _ hf⟩
  exact ⟨z, us, 0, r, Heap.get?_push_size _ rfl⟩
end
abbrev Sp := List V → Hp → VK → XK → Prop
abbrev CXT := List Env → Hp → Shared → XK → Value → Shared → Prop
structure Env0 (P : Program) (w : World) (K : PySem.W.Frag) (mg : Str → Option Value) (base : Heap) (A : Around) (outer : List Env) (s : Shared) (H : Hp) : Prop where
  frames : A.frames = some outer
  mod : Mod K mg base
  bs : ∀ b o, base.get? b = some o → s.heap.get? b = some o ∧ H b = none
  bsz : base.objs.size ≤ s.heap.objs.size
  funs : s.heap.FunFrames base outer
  frf : ∀ b ∈ frs outer, H b = none
  hok : HOk P w H s.heap
  bare : AllBare s.gens
def CE (outer : List Env) (P : Program) (w : World) (H : Hp) (s : Shared) (Q : VK) (u : Value) (s' : Shared) : Prop :=
  ∃ v H', s'.os = s.os ∧ AllBare s'.gens ∧ Un (frs outer) [] H H' s.heap s'.heap ∧ HOk P w H' s'.heap ∧ RelV v u ∧ Q v H'
def CR (CX : CXT) (outer : List Env) (P : Program) (w : World) (H : Hp) (s : Shared) (Q : VK) (E : XK) (r : Result) (s' : Shared) : Prop :=
  match r with
  | .ok (.ret u) => CE outer P w H s Q u s'
  | .ok _ => False
  | .error e => CX outer H s E e s'
structure FnOk (P : Program) (w : World) (K : PySem.W.Frag) (mg : Str → Option Value) (base : Heap) (CX : CXT) (k : Nat) (f : Addr) (fd : FuncData) (ps : List Str) (sp : Sp) : Prop where
  len : ∀ vs H Q E, sp vs H Q E → vs.length = ps.length
  run : ∀ (A : Around) (outer : List Env) (s : Shared) (H : Hp) (args : Args) (us : List Value) (vs : List V) (Q : VK) (E : XK), Room k A → Env0 P w K mg base A outer s H → BindsTo s fd args (ps.zip us) → Vals vs us → sp vs H Q E →
    codeAny (model P w) A (.call (.ref f) args) (CR CX outer P w H s Q E) s
theorem FnOk.mono {P : Program} {w : World} {K : PySem.W.Frag} {mg : Str → Option Value} {base : Heap} {CX : CXT} {j k : Nat} {f : Addr} {fd : FuncData} {ps : List Str} {sp : Sp} (F : FnOk P w K mg base CX j f fd ps sp) (h : j ≤ k) :
    FnOk P w K mg base CX k f fd ps sp := ⟨F.len, fun A outer s H args us vs Q E hr => F.run A outer s H args us vs Q E (hr.mono h)⟩
theorem FnOk.imp {P : Program} {w : World} {K : PySem.W.Frag} {mg : Str → Option Value} {base : Heap} {CX : CXT} {k : Nat} {f : Addr} {fd : FuncData} {ps : List Str} {sp sp' : Sp} (F : FnOk P w K mg base CX k f fd ps sp)
    (h : ∀ vs H Q E, sp' vs H Q E → sp vs H Q E) : FnOk P w K mg base CX k f fd ps sp' :=
  ⟨fun vs H Q E q => F.len vs H Q E (h _ _ _ _ q), fun A outer s H args us vs Q E hr he hb hv hs => F.run A outer s H args us vs Q E hr he hb hv (h _ _ _ _ hs)⟩
theorem Env0.make {P : Program} {w : World} {K : PySem.W.Frag} {mg : Str → Option Value} {base : Heap} {A : Around} {outer : List Env} {s : Shared} {H : Hp} (e : Env0 P w K mg base A outer s H) (C : Addr) (us : List Value) (kw : List (Str × Value)) :
    Env0 P w K mg base (A.under (.builtin "type.__call__" ⟨.ref C :: us, kw⟩)) outer s H := ⟨by first | exact e.frames | (simpa [Around.under, Code.envs, Code.isFrame, pushEnvs] using e.frames), e.mod, e.bs, e.bsz, e.funs, e.frf, e.hok, e.bare⟩
theorem Env0.in1 {P : Program} {w : World} {K : PySem.W.Frag} {mg : Str → Option Value} {base : Heap} {A : Around} {outer : List Env} {s : Shared} {H : Hp} (e : Env0 P w K mg base A outer s H) :
    Env0 P w K mg base A.in1 outer s H := ⟨e.frames, e.mod, e.bs, e.bsz, e.funs, e.frf, e.hok, e.bare⟩
section
variable {X : Cx} {pins : List (Addr × Obj)} {σ : St} {H : Hp} {s s' : Shared}
theorem Inv.env0 (I : Inv X pins σ H s) : Env0 X.prog X.w X.K X.mg X.base X.A X.stack s H :=
  ⟨I.ok.frames, I.ok.mod, I.bs, Nat.le_trans I.ok.bsz I.sz, I.stack, I.stkFree, I.hok, I.bare⟩
theorem Inv.after {Q : VK} {u : Value} (I : Inv X pins σ H s) (h : CE X.stack X.prog X.w H s Q u s') : EP X pins σ Q u s' := by
  obtain ⟨v, H', os, bare, un, hok, r, q⟩ := h
  obtain ⟨hh, g, d, t, os'⟩ := s'
  obtain rfl : os' = s.os := os
  exact ⟨v, H', I.call (h' := hh) (g' := g) (d' := d) (t' := t) (ch := []) un hok bare (fun b z => absurd z (by simp)), r, q⟩
end
def tCall (sp : Sp) (dvs : List V) (E : XK) (t : TA) : TE := fun σ H Q => t σ H fun vs H1 => sp (vs ++ dvs) H1 Q E
def tMeth (C : Addr) (m : Str) (sp : Sp) (dvs : List V) (E : XK) (ta : TE) (t : TA) : TE := fun σ H Q => ta σ H fun x H1 => ∃ a dx fs, x = .ref a ∧ H1 a = some (.ins C dx fs) ∧ fs.lookup m = none ∧
  t σ H1 fun vs H2 => sp (x :: (vs ++ dvs)) H2 Q E
def tMake (C : Addr) (sp : Sp) (dvs : List V) (E : XK) (t : TA) : TE := fun σ H Q => t σ H fun vs H1 => ∀ x dx, H1 x = none → H1 dx = none → dx ≠ x →
  sp (.ref x :: (vs ++ dvs)) (upd (upd H1 dx (.own x)) x (.ins C dx [])) (fun v H2 => v = .non ∧ Q (.ref x) H2) E
def Binds (K : PySem.W.Frag) (fd : FuncData) (ps : List Str) (ds : List Value) : Prop :=
  ∀ (s : Shared) (us : List Value), K.In s.heap → (us ++ ds).length = ps.length → BindsTo s fd ⟨us, []⟩ (ps.zip (us ++ ds))
theorem Binds.all {K : PySem.W.Frag} {fd : FuncData} {ps : List Str} (h : ∀ us : List Value, us.length = ps.length → bindArgs fd ⟨us, []⟩ = pure (ps.zip us)) : Binds K fd ps [] := fun s us _ hl => by
  rw [List.append_nil] at hl ⊢
  exact .of_eq (h us hl)
def Passes (CX : CXT) (X : Cx) (E : XK) : Prop := ∀ (pins : List (Addr × Obj)) (σ : St) (H : Hp) (s : Shared) (e : Value) (s' : Shared), Inv X pins σ H s → CX X.stack H s E e s' → X.xe e s'
section
variable {X : Cx} {CX : CXT} {k : Nat} {f C : Addr} {fd : FuncData} {ps : List Str} {sp : Sp} {dvs : List V} {ds : List Value} {E : XK} {x m : Str} {p pos apos : Pos} {e o : Expr} {es : List Expr} {ta : TE} {t : TA}
theorem run_fn {pins : List (Addr × Obj)} {σ : St} {H : Hp} {s : Shared} {Q : VK} {us : List Value} {vs : List V} (F : FnOk X.prog X.w X.K X.mg X.base CX k f fd ps sp) (hr : Room k X.A) (hb : Binds X.K fd ps ds) (hd : Vals dvs ds) (hx : Passes CX X E)
    (I : Inv X pins σ H s) (r : Vals vs us) (h : sp (vs ++ dvs) H Q E) : wpAny (model X.prog X.w) X.A (call (.ref f) us) (EP X pins σ Q) X.xe s := by
  have r2 : Vals (vs ++ dvs) (us ++ ds) := r.append hd
  have hl : (us ++ ds).length = ps.length := by rw [← r2.length]; exact F.len _ _ _ _ h
  refine wpAny_call (codeAny_mono (F.run X.A X.stack s H ⟨us, []⟩ (us ++ ds) (vs ++ dvs) Q E hr I.env0 (hb s us I.kIn hl) r2 h) fun r s' hq => ?_)
  cases r with
  | error e => exact hx pins σ H s e s' I hq
  | ok fl =>
    cases fl with
    | ret u => exact I.after hq
    | next => exact False.elim hq
    | brk => exact False.elim hq
    | cont => exact False.elim hq
theorem pe_call (F : FnOk X.prog X.w X.K X.mg X.base CX k f fd ps sp) (hr : Room k X.A) (hg : Gl X x) (hm : X.mg x = some (.ref f)) (hk : PySem.W.keepIn X.K (.ref f) = true) (hb : Binds X.K fd ps ds) (hd : Vals dvs ds) (hx : Passes CX X E)
    (ha : PA X (e :: es) t) (hdb : (x == ("__debug__" : Str)) = false := by decide) (he : starEach (e :: es) X.env = (false, eval e X.env) :: starEach es X.env := by rfl) (hpl : (backTo pos (starEach es X.env)).any (·.1) = false := by rfl) :
    PE X (.Call (.Name x p) (e :: es) [] pos) (tCall sp dvs E t) := by
  intro pins s σ H Q I h
  refine wpAny_Call_Name_kw (ld_glob I hg hm ?_ hdb)
  refine PySem.W.callWith_K (h₀ := X.base) I.ok.mod.kin hk (thn (ha pos pins s σ H _ I h) fun us s1 ⟨vs, H1, I1, r, q⟩ => ⟨I1.kIn, ?_⟩) he hpl
  exact run_fn F hr hb hd hx I1 r q
structure Mk (K : PySem.W.Frag) (C f : Addr) : Prop where
  makes : PySem.W.makesIn K C = true
  init : PySem.W.findIn K (.ref C) "__init__" = some (some (.ref f))
  fn : PySem.W.isFn K (.ref f) = true
  kp : PySem.W.keepIn K (.ref C) = true
end
def PK (X : Cx) (kws : List Keyword) (t : TA) : Prop :=
  ∀ (pos : Pos) (pins : List (Addr × Obj)) (s : Shared) (σ : St) (H : Hp) (Q : List V → Hp → Prop), Inv X pins σ H s → t σ H Q → wpAny (model X.prog X.w) X.A (evalAll ((backToKw pos (keywordEach kws X.env)).map (·.2))) (AP X pins σ Q) X.xe s
section
variable {X : Cx} {CX : CXT} {k : Nat} {f C : Addr} {fd : FuncData} {ps ks : List Str} {sp : Sp} {E : XK} {x m : Str} {p pos apos kpos : Pos} {e o : Expr} {es : List Expr} {kws : List Keyword} {te ta : TE} {t tk : TA} {nm : Option Str}
structure KBinds (K : PySem.W.Frag) (fd : FuncData) (ps ks : List Str) (g : List Value → List Value → List Value) (gV : List V → List V → List V) : Prop where
  to : ∀ (s : Shared) (us ws : List Value), K.In s.heap → (g us ws).length = ps.length → BindsTo s fd ⟨us, ks.zip ws⟩ (ps.zip (g us ws))
  rel : ∀ {vs : List V} {us : List Value} {zs : List V} {ws : List Value}, Vals vs us → Vals zs ws → Vals (gV vs zs) (g us ws)
def tCallK (sp : Sp) (gV : List V → List V → List V) (E : XK) (t tk : TA) : TE := fun σ H Q => t σ H fun vs H1 => tk σ H1 fun zs H2 => sp (gV vs zs) H2 Q E
variable {g : List Value → List Value → List Value} {gV : List V → List V → List V}
end
structure FnScope (N P : List Str) (sc : Scope) : Prop where
  kind : sc.kind = .function
  co : sc.isCoroutine = false
  gen : sc.isGenerator = false
  nd : N.Nodup
  pre : N.take P.length = P
  par : ∀ x ∈ P, sc.names.lookup x = some .local ∨ sc.names.lookup x = some .cell
  nofree : ∀ y ∈ sc.names, y.2 ≠ .free
theorem bindL_out {kindOf : Str → Option NameKind} {x : Str} : ∀ {binds : List (Str × Value)} {m : Str → Option Value}, (∀ v, (x, v) ∉ binds) → bindL kindOf binds m x = m x
  | [], _, _ => rfl
  | (n, v) :: r, m, h => by
    unfold bindL
    rw [bindL_out fun w hw => h w (List.mem_cons_of_mem _ hw)]
    split
    · have : x ≠ n := by rintro rfl; exact h v List.mem_cons_self
      simp [this]
    · rfl
theorem bindC_out {kindOf : Str → Option NameKind} {x : Str} : ∀ {binds : List (Str × Value)} {m : Str → Option Value}, (∀ v, (x, v) ∉ binds) → bindC kindOf binds m x = m x
  | [], _, _ => rfl
  | (n, v) :: r, m, h => by
    unfold bindC
    rw [bindC_out fun w hw => h w (List.mem_cons_of_mem _ hw)]
    split
    · rfl
    · have : x ≠ n := by rintro rfl; exact h v List.mem_cons_self
      simp [this]
theorem bindL_get {kindOf : Str → Option NameKind} {x : Str} {v : Value} : ∀ {P : List Str} {vs : List Value} {i : Nat} {m : Str → Option Value}, P.Nodup → P[i]? = some x → vs[i]? = some v → kindOf x = some .local →
    bindL kindOf (P.zip vs) m x = some v
  | [], _, _, _, _, h, _, _ => by simp at h
  | _ :: _, [], _, _, _, _, h, _ => by simp at h
  | p :: P, w :: vs, 0, m, nd, h1, h2, hk => by
    simp at h1 h2; subst h1; subst h2
    show bindL kindOf ((p, w) :: P.zip vs) m p = _
    unfold bindL
    rw [bindL_out fun v hv => (List.nodup_cons.mp nd).1 (List.of_mem_zip hv).1, if_pos hk]
    simp
  | p :: P, w :: vs, i + 1, m, nd, h1, h2, hk => by
    show bindL kindOf ((p, w) :: P.zip vs) m x = _
    unfold bindL
    exact bindL_get (i := i) (List.nodup_cons.mp nd).2 (by simpa using h1) (by simpa using h2) hk
theorem bindC_get {kindOf : Str → Option NameKind} {x : Str} {v : Value} : ∀ {P : List Str} {vs : List Value} {i : Nat} {m : Str → Option Value}, P.Nodup → P[i]? = some x → vs[i]? = some v → kindOf x ≠ some .local →
    bindC kindOf (P.zip vs) m x = some v
  | [], _, _, _, _, h, _, _ => by simp at h
  | _ :: _, [], _, _, _, _, h, _ => by simp at h
  | p :: P, w :: vs, 0, m, nd, h1, h2, hk => by
    simp at h1 h2; subst h1; subst h2
    show bindC kindOf ((p, w) :: P.zip vs) m p = _
    unfold bindC
    rw [bindC_out fun v hv => (List.nodup_cons.mp nd).1 (List.of_mem_zip hv).1, if_neg hk]
    simp
  | p :: P, w :: vs, i + 1, m, nd, h1, h2, hk => by
    show bindC kindOf ((p, w) :: P.zip vs) m x = _
    unfold bindC
    exact bindC_get (i := i) (List.nodup_cons.mp nd).2 (by simpa using h1) (by simpa using h2) hk
def start (N : List Str) (vs : List V) : St := vs.map some ++ List.replicate (N.length - vs.length) none
def cxOf (CX : CXT) (P : Program) (w : World) (K : PySem.W.Frag) (mg : Str → Option Value) (base : Heap) (N : List Str) (qual : Str) (scope : Scope) (f : Addr) (cd : Value) (A : Around) (outer : List Env) (s : Shared) (H : Hp) (E : XK) : Cx where
  prog := P
  w := w
  K := K
  mg := mg
  base := base
  A := A.deeper (envOfC qual scope s.heap.objs.size f cd)
  N := N
  s₀ := s
  H₀ := H
  env := envOfC qual scope s.heap.objs.size f cd
  outer := outer
  stack := envOfC qual scope s.heap.objs.size f cd :: outer
  ex := []
  calm := true
  fn := fun _ => true
  pn := []
  xe := fun e s' => wpAny (model P w) (A.deeper (envOfC qual scope s.heap.objs.size f cd)) (leaving (envOfC qual scope s.heap.objs.size f cd) e) (fun _ s'' => CX outer H s E e s'') (fun e' s'' => CX outer H s E e' s'') s'
theorem cell_has {sc : Scope} {n : Nat} {x : Str} (h : sc.names.lookup x = some .cell) : ∃ c, (cellsFrom n sc.names []).lookup x = some c := by
  have q := PySem.W.cellsFrom_some sc.names n [] (.inl h)
  exact Option.isSome_iff_exists.mp q
theorem inv_start {CX : CXT} {P : Program} {w : World} {K : PySem.W.Frag} {mg : Str → Option Value} {base : Heap} {N ps : List Str} {qual : Str} {scope : Scope} {f : Addr} {cd : Value} {A : Around} {outer : List Env} {s s1 : Shared} {H : Hp} {E : XK} {us : List Value} {vs : List V}
    (S : FnScope N ps scope) (hd : A.handled = none) (e0 : Env0 P w K mg base A outer s H) (hl : vs.length = ps.length) (r : Vals vs us)
    (x : InCallC s s.heap.objs.size (bindL (envOfC qual scope s.heap.objs.size f cd).kindOf (ps.zip us) fun _ => none) (cellsFrom (s.heap.objs.size + 1) scope.names []) (bindC (envOfC qual scope s.heap.objs.size f cd).kindOf (ps.zip us) fun _ => none) s1) :
    Inv (cxOf CX P w K mg base N qual scope f cd A outer s H E) [] (start N vs) H s1 := by
  have hpl : ps.length ≤ N.length := by have := congrArg List.length S.pre; rw [List.length_take] at this; omega
  obtain ⟨h1, tk, rfl, hk⟩ := x.done
  have noA : ∀ b : Addr, b ∉ (cxOf CX P w K mg base N qual scope f cd A outer s H E).ex := fun b z => absurd (show b ∈ ([] : List Addr) from z) (by simp)
  refine ⟨⟨e0.mod, S.kind, rfl, rfl, Nat.le_refl _, fun y z c h1 h2 => ?_, fun y hy => ?_, fun y c _ h => ?_, fun _ => hd, Around.frames_deeper e0.frames, .inr ⟨rfl, rfl⟩, fun b z => absurd z (noA b), e0.bs, e0.bsz, fun b _ _ => noA b, fun b z => absurd z (noA b), e0.funs, e0.frf⟩,
    rfl, e0.bare, Un.kept hk, ⟨_, x.toInCall.ns, fun i y v h1 h2 h3 => ?_⟩, fun y c h => ⟨_, x.cell y c h⟩, e0.hok.fresh (Nat.le_refl _), fun y c h => ?_, fun p hp => absurd (show p ∈ ([] : List (Addr × Obj)) from hp) (by simp), e0.hok.kept hk, ?_⟩
  · exact name_of_addr x.apart (PySem.mem_of_lookup h1) (PySem.mem_of_lookup h2)
  · have hy : scope.names.lookup y = some .cell ∨ scope.names.lookup y = some .free := hy
    rcases hy with hy | hy
    · exact cell_has hy
    · exact absurd rfl (S.nofree _ (PySem.mem_of_lookup hy))
  · exact Nat.le_of_lt (x.above y c (PySem.mem_of_lookup h))
  · have hi : i < vs.length := by
      unfold start at h2
      by_cases hi : i < vs.length
      · exact hi
      · rw [List.getElem?_append_right (by simpa using hi)] at h2
        rw [List.getElem?_replicate] at h2
        split at h2 <;> cases h2
    have ha : vs[i]? = some v := by
      unfold start at h2
      rw [List.getElem?_append_left (by simpa using hi), List.getElem?_map] at h2
      cases e : vs[i]? with
      | none => rw [e] at h2; cases h2
      | some a => rw [e] at h2; cases h2; rfl
    obtain ⟨u, hu, rv⟩ := r.get ha
    have hp : ps[i]? = some y := by
      rw [← S.pre, List.getElem?_take_of_lt (by omega)]; exact h1
    have ndP : ps.Nodup := by rw [← S.pre]; exact S.nd.sublist (List.take_sublist _ _)
    refine ⟨u, rv, ?_⟩
    rcases S.par y (List.mem_of_getElem? hp) with k | k
    · exact .inl ⟨k, bindL_get ndP hp hu k⟩
    · obtain ⟨c, e⟩ := cell_has (n := s.heap.objs.size + 1) k
      refine .inr ⟨.inl k, c, e, ?_⟩
      have q := x.cell y c e
      rw [bindC_get ndP hp hu (by show scope.names.lookup y ≠ _; rw [k]; decide)] at q
      exact q
  · exact e0.hok.fresh (Nat.le_of_lt (x.above y c (PySem.mem_of_lookup h)))
  · unfold start
    show _ = N.length
    rw [List.length_append, List.length_map, List.length_replicate]
    omega
theorem fn_of {CX : CXT} {P : Program} {w : World} {K : PySem.W.Frag} {mg : Str → Option Value} {base : Heap} {k : Nat} {f : Addr} {name qual : Str} {params : Arguments} {body : List Stmt} {scope : Scope} {dV kV doc pm cdv ct oc : Value} {an od : Option Addr}
    {osl : Array (Option Value)} {N ps : List Str} {sp : Sp} (lk : K.lookup f = some ⟨oc, od, .func (PySem.W.fnOf name qual params body scope dV kV doc pm an cdv ct), osl⟩) (hcd : PySem.W.codeIn K cdv qual = true) (S : FnScope N ps scope)
    (len : ∀ vs H Q E, sp vs H Q E → vs.length = ps.length)
    (hbody : ∀ (A : Around) (outer : List Env) (s : Shared) (H : Hp) (vs : List V) (Q : VK) (E : XK), Room k (A.deeper (envOfC qual scope s.heap.objs.size f cdv)) → sp vs H Q E →
      ∃ t, PSs (cxOf CX P w K mg base N qual scope f cdv A outer s H E) body t ∧ t { nx := fun _ H' => Q .non H', rt := Q } (start N vs) H) :
    FnOk P w K mg base CX (k + 1) f (PySem.W.fnOf name qual params body scope dV kV doc pm an cdv ct) ps sp := by
  refine ⟨len, fun A outer s H args us vs Q E hr e0 hb r hsp => ?_⟩
  have hl := len _ _ _ _ hsp
  have KX : K.In s.heap := e0.mod.kin.keeps fun b o e => (e0.bs b o e).1
  have lim : s.heap.NoLimit := e0.mod.nolimit.keeps fun b o e => (e0.bs b o e).1
  have hkind : ∀ y ∈ ps.zip us, scope.names.lookup y.1 = some .local ∨ (scope.names.lookup y.1 = some .cell ∧ ((cellsFrom (s.heap.objs.size + 1) scope.names []).lookup y.1).isSome = true) := fun ⟨n, v⟩ hy => by
    rcases S.par n (List.of_mem_zip hy).1 with q | q
    · exact .inl q
    · exact .inr ⟨q, PySem.W.cellsFrom_some _ _ _ (.inl q)⟩
  refine codeAny_call_function hr.depth (KX _ _ lk) rfl S.co S.gen rfl (PySem.W.codeRec_of KX hcd) (hb _ _ _ _ ?_)
  refine wpAny_newFunctionEnv_cells S.kind hkind fun env he s1 x => ?_
  subst he
  refine ⟨lim.keeps x.toInCall.keep, codeAny_func ?_⟩
  obtain ⟨t, ht, hq⟩ := hbody A outer s H vs Q E (hr.deeper _) hsp
  have I : Inv (cxOf CX P w K mg base N qual scope f cdv A outer s H E) [] (start N vs) H s1 := inv_start S hr.hd e0 hl r x
  refine wpAny_mono (ht [] s1 (start N vs) H _ I hq) (fun fl s' hs => ?_) fun e s' hs => hs
  have fin : ∀ {σ' : St} {H' : Hp} {v : V} {u : Value}, Inv (cxOf CX P w K mg base N qual scope f cdv A outer s H E) [] σ' H' s' → RelV v u → Q v H' → CE outer P w H s Q u s' :=
    fun {σ' H' v u} J rv q => ⟨v, H', J.os, J.bare, J.base, J.hok, rv, q⟩
  cases fl with
  | ret u =>
    obtain ⟨v, σ', H', J, rv, q⟩ := hs
    exact fin J rv q
  | next =>
    obtain ⟨σ', H', J, q⟩ := hs
    exact fin (v := V.non) (u := Value.none) J rfl q
  | brk =>
    obtain ⟨_, _, _, q⟩ := hs
    exact False.elim q
  | cont =>
    obtain ⟨_, _, _, q⟩ := hs
    exact False.elim q
end L2
namespace L2
open PySem PySem.Spec PyProof.Rows
section
variable {X : Cx} {x : Str} {p pos : Pos} {e : Expr} {es : List Expr} {t : TA} {id T : String} {r : List V → Hp → VK → Prop}
def tCB (r : List V → Hp → VK → Prop) (t : TA) : TE := fun σ H Q => t σ H fun vs H1 => r vs H1 Q
theorem pe_callB (hc : CallR X (.builtin id) r) (hg : Gl X x) (hm : X.mg x = none) (hv : bootBuiltins x = some (.builtin id)) (ha : PA X (e :: es) t) (hn : x ≠ "__name__" := by decide) (hdb : (x == ("__debug__" : Str)) = false := by decide)
    (he : starEach (e :: es) X.env = (false, eval e X.env) :: starEach es X.env := by rfl) (hpl : (backTo pos (starEach es X.env)).any (·.1) = false := by rfl) : PE X (.Call (.Name x p) (e :: es) [] pos) (tCB r t) := by
  intro pins s σ H Q I h
  refine wpAny_Call_Name_kw (ld_blt I hg hm hv ?_ hn hdb)
  exact PyProof.Rows.callWith_builtin1 (thn (ha pos pins s σ H _ I h) fun us s1 ⟨vs, H1, I1, r1, q1⟩ => hc pins s1 σ H1 vs us Q I1 r1 q1) he hpl
theorem pe_callTy (hc : CallR X (.type T) r) (hg : Gl X x) (hm : X.mg x = none) (hv : bootBuiltins x = some (.type T)) (ha : PA X (e :: es) t) (hn : x ≠ "__name__" := by decide) (hdb : (x == ("__debug__" : Str)) = false := by decide)
    (he : starEach (e :: es) X.env = (false, eval e X.env) :: starEach es X.env := by rfl) (hpl : (backTo pos (starEach es X.env)).any (·.1) = false := by rfl) : PE X (.Call (.Name x p) (e :: es) [] pos) (tCB r t) := by
  intro pins s σ H Q I h
  refine wpAny_Call_Name_kw (ld_blt I hg hm hv ?_ hn hdb)
  exact PyProof.Rows.callWith_type1 (thn (ha pos pins s σ H _ I h) fun us s1 ⟨vs, H1, I1, r1, q1⟩ => hc pins s1 σ H1 vs us Q I1 r1 q1) he hpl
end
end L2
namespace HT
open PySem PyProof.Rows
def lexLt : List Int → List Int → Bool
  | [], [] => false
  | [], _ :: _ => true
  | _ :: _, [] => false
  | x :: xs, y :: ys => if x = y then lexLt xs ys else decide (x < y)
section
open PySem.SeqAt
open PySem.AutoSeq1 (wpAny_loadPart')
open PySem.MeetsSeq PySem.MeetsSeq2 PySem.MeetsSeq3
end
section
variable {prog : Program} {w : World} {A : Around} {E : Value → Shared → Prop} {s : Shared}
def sIx (n d : Nat) : Option Int → Nat
  | none => d
  | some v => if v < 0 then (v + (n : Int)).toNat else min v.toNat n
theorem sIx_none (n d : Nat) : sIx n d none = d := rfl
end
end HT
namespace L2
open PySem PySem.Spec PyProof.Rows
abbrev TO := St → Hp → (Option Int → Hp → Prop) → Prop
def PO (X : Cx) (e : Option Expr) (t : TO) : Prop :=
  ∀ (pins : List (Addr × Obj)) (s : Shared) (σ : St) (H : Hp) (Q : Option Int → Hp → Prop), Inv X pins σ H s → t σ H Q →
    wpAny (model X.prog X.w) X.A (evalPart e X.env) (fun u s' => ∃ o H', Inv X pins σ H' s' ∧ IsPart u o ∧ Q o H') X.xe s
def tNoPart : TO := fun _ H Q => Q none H
def tPart (t : TE) : TO := fun σ H Q => t σ H fun x H1 => ∃ i, x = .int i ∧ Q (some i) H1
section
variable {X : Cx} {e : Expr} {te : TE} {lo hi : Option Expr} {tl th : TO} {pos p2 : Pos}
theorem po_none : PO X none tNoPart := by
  intro pins s σ H Q I h
  rw [evalPart_none]
  exact wpAny_pure ⟨none, H, I, .none, h⟩
theorem po_some (h : PE X e te) : PO X (some e) (tPart te) := by
  intro pins s σ H Q I hw
  rw [evalPart_some]
  refine thn (h pins s σ H _ I hw) fun u s1 ⟨x, H1, I1, r1, q1⟩ => ?_
  obtain ⟨i, rfl, q⟩ := q1
  obtain ⟨t, rfl⟩ := r1
  exact ⟨some i, H1, I1, .int i t, q⟩
def SlR (X : Cx) (r : V → Option Int → Option Int → Hp → VK → Prop) : Prop :=
  ∀ (pins : List (Addr × Obj)) (s : Shared) (σ : St) (H : Hp) (x : V) (v vl vu : Value) (lo hi : Option Int) (sl : Addr) (Q : VK), Inv X pins σ H s → RelV x v → s.heap.IsSliceOf sl vl vu .none → IsPart vl lo → IsPart vu hi → r x lo hi H Q →
    ∃ T id, typeLookup (.type T) "__getitem__" = pure (some (.builtin id)) ∧ s.TypeIs v T ∧ wpAny (model X.prog X.w) X.A (getItem v (.ref sl)) (EP X pins σ Q) X.xe s
theorem SlR.or {r r' : V → Option Int → Option Int → Hp → VK → Prop} (h : SlR X r) (h' : SlR X r') : SlR X (fun x lo hi H Q => r x lo hi H Q ∨ r' x lo hi H Q) := by
  intro pins s σ H x v vl vu lo hi sl Q I rx hs pl pu q
  rcases q with q | q
  · exact h pins s σ H x v vl vu lo hi sl Q I rx hs pl pu q
  · exact h' pins s σ H x v vl vu lo hi sl Q I rx hs pl pu q
def tSl (r : V → Option Int → Option Int → Hp → VK → Prop) (te : TE) (tl th : TO) : TE := fun σ H Q => te σ H fun x H1 => tl σ H1 fun l H2 => th σ H2 fun u H3 => r x l u H3 Q
theorem pe_slice {r : V → Option Int → Option Int → Hp → VK → Prop} (hr : SlR X r) (he : PE X e te) (hl : PO X lo tl) (hu : PO X hi th) : PE X (.Subscript e (.Slice lo hi none p2) pos) (tSl r te tl th) := by
  intro pins s σ H Q I h
  refine Subscript_ (thn (he pins s σ H _ I h) fun v s1 ⟨x, H1, I1, r1, q1⟩ => ?_)
  refine wpAny_Slice (thn (hl pins s1 σ H1 _ I1 q1) fun vl s2 ⟨l, H2, I2, pl, q2⟩ => thn (hu pins s2 σ H2 _ I2 q2) fun vu s3 ⟨u, H3, I3, pu, q3⟩ => ?_)
  rw [evalPart_none]
  refine wpAny_pure ?_
  have I4 : Inv X pins σ H3 { s3 with heap := s3.heap.push { cls := .type "slice", data := .fields #[vl, vu, .none] } } := I3.kept (t' := s3.toks) fun b ob q => Heap.get?_push_of_some _ q
  obtain ⟨T, id, hT, ht, hg⟩ := hr pins { s3 with heap := s3.heap.push { cls := .type "slice", data := .fields #[vl, vu, .none] } } σ H3 x v vl vu l u s3.heap.objs.size Q I4 r1 (Heap.IsSliceOf.new ..) pl pu q3
  show wpAny (model X.prog X.w) X.A (subscriptTail e (.Slice lo hi none p2) v (.ref s3.heap.objs.size)) (EP X pins σ Q) X.xe { s3 with heap := s3.heap.push { cls := .type "slice", data := .fields #[vl, vu, .none] } }
  exact tail_any (ops := [.ref s3.heap.objs.size, v]) ht hT hg (by with_unfolding_all rfl)
def cutV (xs : List V) (lo hi : Option Int) : List V := (xs.drop (HT.sIx xs.length 0 lo)).take (HT.sIx xs.length xs.length hi - HT.sIx xs.length 0 lo)
theorem cutV_length (xs : List V) (lo hi : Option Int) : (cutV xs lo hi).length ≤ xs.length := by
  unfold cutV
  rw [List.length_take, List.length_drop]
  omega
def rSlT (K : PySem.W.Frag) : V → Option Int → Option Int → Hp → VK → Prop := fun x lo hi H Q => ∃ a xs, x = .ref a ∧ SqT K H a xs ∧
  ¬ (HT.sIx xs.length 0 lo = 0 ∧ HT.sIx xs.length xs.length hi = xs.length) ∧ ∀ p, H p = none → Q (.ref p) (upd H p (.tup (cutV xs lo hi)))
def rLtT (K : PySem.W.Frag) : R2 := fun x y H Q => ∃ a b ns ms, x = .ref a ∧ y = .ref b ∧ SqT K H a (ns.map V.int) ∧ SqT K H b (ms.map V.int) ∧ Q (.bl (HT.lexLt ns ms)) H
def rCatT (K : PySem.W.Frag) : R2 := fun x y H Q => ∃ a b xs ys, x = .ref a ∧ y = .ref b ∧ SqT K H a xs ∧ SqT K H b ys ∧ xs ≠ [] ∧ xs.length + ys.length ≤ sizeLine ∧
  (ys = [] → Q (.ref a) H) ∧ (ys ≠ [] → ∀ p, H p = none → Q (.ref p) (upd H p (.tup (xs ++ ys))))
end
end L2
namespace L2
open PySem PySem.Spec PyProof.Rows
def ixN (n : Nat) (i : Int) : Option Nat := if 0 ≤ i then (if i < n then some i.toNat else none) else if -(n : Int) ≤ i then some (i + n).toNat else none
def atI {α : Type} (xs : List α) (i : Int) : Option α := (ixN xs.length i).bind fun j => xs[j]?
theorem ixN_seq {n : Nat} {i : Int} {j : Nat} (h : ixN n i = some j) : seqIndex? i n = some j ∧ j < n ∧ -(n : Int) ≤ i ∧ i < n := by
  unfold ixN at h
  by_cases h0 : 0 ≤ i
  · rw [if_pos h0] at h
    by_cases h1 : i < n
    · rw [if_pos h1] at h
      have e : i.toNat = j := Option.some.inj h
      exact ⟨by rw [seqIndex_of h0 h1, e], by omega, by omega, h1⟩
    · rw [if_neg h1] at h; cases h
  · rw [if_neg h0] at h
    by_cases h1 : -(n : Int) ≤ i
    · rw [if_pos h1] at h
      have e : (i + n).toNat = j := Option.some.inj h
      exact ⟨by rw [seqIndex_neg (by omega) h1, e], by omega, h1, by omega⟩
    · rw [if_neg h1] at h; cases h
theorem atI_get {α : Type} {xs : List α} {i : Int} {v : α} (h : atI xs i = some v) : ∃ j, seqIndex? i xs.length = some j ∧ xs[j]? = some v ∧ j < xs.length ∧ -(xs.length : Int) ≤ i ∧ i < xs.length := by
  unfold atI at h
  cases e : ixN xs.length i with
  | none => rw [e] at h; cases h
  | some j =>
    rw [e] at h
    obtain ⟨h1, h2, h3, h4⟩ := ixN_seq e
    exact ⟨j, h1, h, h2, h3, h4⟩
theorem atI_nat {α : Type} {xs : List α} {j : Nat} {v : α} (h : xs[j]? = some v) : atI xs (j : Int) = some v := by
  have hj : j < xs.length := (List.getElem?_eq_some_iff.mp h).1
  have e : ixN xs.length (j : Int) = some j := by
    unfold ixN
    rw [if_pos (by omega), if_pos (by omega)]; simp
  unfold atI; rw [e]; exact h
theorem atI_last {α : Type} (xs : List α) (v : α) : atI (xs ++ [v]) (-1) = some v := by
  have hl : (xs ++ [v]).length = xs.length + 1 := by simp
  have e : ixN (xs ++ [v]).length (-1) = some xs.length := by
    unfold ixN
    rw [hl, if_neg (by decide), if_pos (by omega)]
    congr 1
    omega
  unfold atI
  rw [e]
  show (xs ++ [v])[xs.length]? = some v
  simp
def PlainIx (b : Expr) : Prop := ∀ o i, subscripted b false o i = operate [o, i] (getItem o i)
def IxR (X : Cx) (r : R2) : Prop :=
  ∀ (value slice : Expr) (pins : List (Addr × Obj)) (s : Shared) (σ : St) (H : Hp) (x y : V) (v u : Value) (Q : VK), Inv X pins σ H s → RelV x v → RelV y u → r x y H Q →
    subscripted slice false v u = operate [v, u] (getItem v u) → wpAny (model X.prog X.w) X.A (subscriptTail value slice v u) (EP X pins σ Q) X.xe s
def MtR (X : Cx) (id : String) (r : V → List V → Hp → VK → Prop) : Prop :=
  ∀ (pins : List (Addr × Obj)) (s : Shared) (σ : St) (H : Hp) (x : V) (xs : List V) (v : Value) (us : List Value) (Q : VK), Inv X pins σ H s → RelV x v → Vals xs us → r x xs H Q →
    wpAny (model X.prog X.w) X.A (call (.builtin id) (v :: us)) (EP X pins σ Q) X.xe s
section
variable {X : Cx} {a b : Expr} {ta tb : TE} {pos : Pos}
theorem IxR.or {r r' : R2} (h : IxR X r) (h' : IxR X r') : IxR X (fun x y H Q => r x y H Q ∨ r' x y H Q) := by
  intro value slice pins s σ H x y v u Q I rx ry q hs
  rcases q with q | q
  · exact h value slice pins s σ H x y v u Q I rx ry q hs
  · exact h' value slice pins s σ H x y v u Q I rx ry q hs
theorem MtR.or {id : String} {r r' : V → List V → Hp → VK → Prop} (h : MtR X id r) (h' : MtR X id r') : MtR X id (fun x xs H Q => r x xs H Q ∨ r' x xs H Q) := by
  intro pins s σ H x xs v us Q I rx rs q
  rcases q with q | q
  · exact h pins s σ H x xs v us Q I rx rs q
  · exact h' pins s σ H x xs v us Q I rx rs q
theorem pe_ix {r : R2} (hr : IxR X r) (ha : PE X a ta) (hb : PE X b tb) (hs : PlainIx b) : PE X (.Subscript a b pos) (tOp r ta tb) := by
  intro pins s σ H Q I h
  exact Subscript_ (binT ha hb I h fun v u s2 x y H2 I2 rx ry q => hr a b pins s2 σ H2 x y v u Q I2 rx ry q (hs _ _))
def rIxL (K : PySem.W.Frag) : R2 := fun x y H Q => ∃ p xs i v, x = .ref p ∧ y = .int i ∧ SqL K H p xs ∧ atI xs i = some v ∧ Q v H
def rIxT (K : PySem.W.Frag) : R2 := fun x y H Q => ∃ p xs i v, x = .ref p ∧ y = .int i ∧ SqT K H p xs ∧ atI xs i = some v ∧ Q v H
def rIxS : R2 := fun x y H Q => ∃ z i c, x = .str z ∧ y = .int i ∧ z.length ≤ sizeLine ∧ atI z.cps.toList i = some c ∧ Q (.str ⟨#[c]⟩) H
theorem ix_list : IxR X (rIxL X.K) := by
  intro value slice pins s σ H x y v u Q I rx ry h hs
  obtain ⟨p, xs, i, z, rfl, rfl, hq, he, q⟩ := h
  cases rx
  obtain ⟨t, rfl⟩ := ry
  obtain ⟨its, r, pl, hz⟩ := I.list hq
  obtain ⟨j, h1, h2, h3, h4, h5⟩ := atI_get he
  obtain ⟨w, ew, rw'⟩ := r.get h2
  have hl := r.length
  have hn := line63
  have fin : EP X pins σ Q w s := ⟨z, H, I, rw', q⟩
  by_cases h0 : 0 ≤ i
  · have hj : i.toNat = j := by
      rw [seqIndex_of h0 h5] at h1
      exact Option.some.inj h1
    exact item_listR pl.isList h0 (by omega) (by rw [hj]; simpa using ew) fin hs
  · have hj : (i + (its.toArray.size : Int)).toNat = j := by
      rw [seqIndex_neg (by omega) h4] at h1
      rw [List.size_toArray, ← hl]
      exact Option.some.inj h1
    exact subscriptTail_builtinR (x := w) pl.isList.typeIs slot_list_getitem.lookup
      (wpAny_getItem_list_neg (Q := fun r s' => r = w ∧ EP X pins σ Q r s') pl.isList (by omega) (by rw [List.size_toArray] <;> omega) (by omega) (by rw [hj]; simpa using ew) ⟨rfl, fin⟩) hs
theorem ix_tup : IxR X (rIxT X.K) := by
  intro value slice pins s σ H x y v u Q I rx ry h hs
  obtain ⟨p, xs, i, z, rfl, rfl, hq, he, q⟩ := h
  cases rx
  obtain ⟨t, rfl⟩ := ry
  obtain ⟨its, r, pl, hz⟩ := I.tuple hq
  obtain ⟨j, h1, h2, h3, h4, h5⟩ := atI_get he
  obtain ⟨w, ew, rw'⟩ := r.get h2
  have hl := r.length
  have hn := line63
  have fin : EP X pins σ Q w s := ⟨z, H, I, rw', q⟩
  exact subscriptTail_builtinR (x := w) pl.typeIs slot_tuple_getitem.lookup
    (getItem_tuple (j := j) (Q := fun r s' => r = w ∧ EP X pins σ Q r s') pl (by omega) (by omega) (by rw [List.size_toArray, ← hl]; exact h1) (by simpa using ew) ⟨rfl, fin⟩) hs
theorem ix_str : IxR X rIxS := by
  intro value slice pins s σ H x y v u Q I rx ry h hs
  obtain ⟨z, i, c, rfl, rfl, hz, he, q⟩ := h
  obtain ⟨t, rfl⟩ := rx
  obtain ⟨t', rfl⟩ := ry
  obtain ⟨j, h1, h2, h3, h4, h5⟩ := atI_get he
  have hl : z.cps.toList.length = z.length := by simp [Str.length]
  rw [hl] at h1 h4 h5
  have hn := line63
  exact tail_any (typeIs_str s z t) slot_str_getitem.lookup (getItem_str (c := c) (by
    have e1 : decide (i < -(2 ^ 63 : Int)) = false := decide_eq_false (by omega)
    have e2 : decide (i ≥ 2 ^ 63) = false := decide_eq_false (by omega)
    rw [e1, e2, Bool.or_false]) (by rw [h1]; simpa using h2) ⟨.str ⟨#[c]⟩, H, I.tok _, ⟨_, rfl⟩, q⟩) hs
def rIx (K : PySem.W.Frag) : R2 := fun x y H Q => rIxL K x y H Q ∨ rIxT K x y H Q ∨ rIxS x y H Q
theorem Inv.lst {pins : List (Addr × Obj)} {σ : St} {H : Hp} {s : Shared} {p : Addr} {xs : List V} (I : Inv X pins σ H s) (h : H p = some (.lst xs)) :
    ∃ (its : List Value) (n : Nat), Vals xs its ∧ s.heap.get? p = some { cls := .type "list", data := .seq its.toArray n } ∧ xs.length ≤ sizeLine := by
  obtain ⟨z, its, n, r, e⟩ := I.hok p _ h
  exact ⟨its, n, r, e, z⟩
def rSetL : V → V → V → Hp → (Hp → Prop) → Prop := fun o i v H Q => ∃ p xs k j, o = .ref p ∧ i = .int k ∧ H p = some (.lst xs) ∧ ixN xs.length k = some j ∧ Q (upd H p (.lst (xs.set j v)))
theorem slice_bounds (lo hi : Option Int) (n : Nat) : (sliceBounds lo hi none n).1 = ((HT.sIx n 0 lo : Nat) : Int) ∧ (sliceBounds lo hi none n).2.1 = ((HT.sIx n n hi : Nat) : Int) ∧ (sliceBounds lo hi none n).2.2 = 1 := by
  refine ⟨?_, ?_, rfl⟩
  · cases lo with
    | none => simp [sliceBounds, HT.sIx]
    | some i =>
      simp only [sliceBounds, HT.sIx, Option.getD_none, show (1 : Int) > 0 by decide, if_true]
      by_cases h : i < 0
      · simp only [h, if_true] <;> omega
      · simp only [h, if_false] <;> omega
  · cases hi with
    | none => simp [sliceBounds, HT.sIx]
    | some i =>
      simp only [sliceBounds, HT.sIx, Option.getD_none, show (1 : Int) > 0 by decide, if_true]
      by_cases h : i < 0
      · simp only [h, if_true] <;> omega
      · simp only [h, if_false] <;> omega
theorem slicePick_cut (its : List Value) (lo hi : Option Int) : slicePick its.toArray lo hi none = ((its.drop (HT.sIx its.length 0 lo)).take (HT.sIx its.length its.length hi - HT.sIx its.length 0 lo)).toArray := by
  obtain ⟨h1, h2, h3⟩ := slice_bounds lo hi its.toArray.size
  unfold slicePick
  rw [h1, h2, h3]
  simp only [sliceRange_one, pick_run, List.size_toArray] <;> rfl
def rSlL (K : PySem.W.Frag) : V → Option Int → Option Int → Hp → VK → Prop := fun x lo hi H Q => ∃ a xs, x = .ref a ∧ SqL K H a xs ∧ ∀ p, H p = none → Q (.ref p) (upd H p (.lst (cutV xs lo hi)))
theorem sl_list : SlR X (rSlL X.K) := by
  intro pins s σ H x v vl vu lo hi sl Q I rx hs pl pu h
  obtain ⟨a, xs, rfl, hx, q⟩ := h
  cases rx
  obtain ⟨its, r, ht, hz⟩ := I.list hx
  have hlen := r.length
  refine ⟨"list", _, slot_list_getitem.lookup, ht.isList.typeIs, ?_⟩
  refine wpAny_getItem_list_slice ht.isList hs pl pu .none (by simp) ?_ (by rw [List.size_toArray] <;> omega)
  rw [slicePick_cut, ← hlen]
  refine ⟨.ref s.heap.objs.size, _, I.laid (t' := s.toks) (o := .lst (cutV xs lo hi)) (fun b ob q => Heap.get?_push_of_some _ q) (Nat.le_refl _) ?_, rfl, q _ (I.hok.fresh (Nat.le_refl _))⟩
  exact ⟨Nat.le_trans (cutV_length xs lo hi) hz, _, 0, (r.drop (HT.sIx xs.length 0 lo)).take (HT.sIx xs.length xs.length hi - HT.sIx xs.length 0 lo), Heap.get?_push_size _ rfl⟩
def flatV : V → Bool
  | .non => true
  | .bl _ => true
  | .int _ => true
  | .str _ => true
  | _ => false
def eqV : V → V → Bool
  | .non, .non => true
  | .bl a, .bl b => a == b
  | .bl a, .int b => (if a then 1 else 0) == b
  | .int a, .bl b => a == (if b then 1 else 0)
  | .int a, .int b => a == b
  | .str a, .str b => a == b
  | _, _ => false
theorem eqAt_V {A : Around} {s : Shared} {y x : V} {u v : Value} (ry : RelV y u) (rx : RelV x v) (fy : flatV y = true) (fx : flatV x = true) : SeqAt.EqAt A s u v (eqV y x) := by
  cases y with
  | non =>
    cases ry
    cases x with
    | non => cases rx; exact SeqAt.EqAt.same _
    | bl b => cases rx; exact SeqAt.EqAt.none_bool b
    | int b => obtain ⟨t, rfl⟩ := rx; exact SeqAt.EqAt.none_int b t
    | str b => obtain ⟨t, rfl⟩ := rx; exact SeqAt.EqAt.none_str b t
    | _ => exact absurd (show false = true from fx) Bool.false_ne_true
  | bl a =>
    cases ry
    cases x with
    | non => cases rx; exact SeqAt.EqAt.bool_none a
    | bl b => cases rx; exact SeqAt.EqAt.bool_bool a b
    | int b => obtain ⟨t, rfl⟩ := rx; exact SeqAt.EqAt.bool_int a b t
    | str b => obtain ⟨t, rfl⟩ := rx; exact SeqAt.EqAt.bool_str a b t
    | _ => exact absurd (show false = true from fx) Bool.false_ne_true
  | int a =>
    obtain ⟨t', rfl⟩ := ry
    cases x with
    | non => cases rx; exact SeqAt.EqAt.int_none a t'
    | bl b => cases rx; exact SeqAt.EqAt.int_bool a t' b
    | int b => obtain ⟨t, rfl⟩ := rx; exact SeqAt.EqAt.int_int a t' b t
    | str b => obtain ⟨t, rfl⟩ := rx; exact SeqAt.EqAt.int_str a t' b t
    | _ => exact absurd (show false = true from fx) Bool.false_ne_true
  | str a =>
    obtain ⟨t', rfl⟩ := ry
    cases x with
    | non => cases rx; exact SeqAt.EqAt.str_none a t'
    | bl b => cases rx; exact SeqAt.EqAt.str_bool a t' b
    | int b => obtain ⟨t, rfl⟩ := rx; exact SeqAt.EqAt.str_int a t' b t
    | str b => obtain ⟨t, rfl⟩ := rx; exact SeqAt.EqAt.str_str a t' b t
    | _ => exact absurd (show false = true from fx) Bool.false_ne_true
  | _ => exact absurd (show false = true from fy) Bool.false_ne_true
def eqU (x : V) (u : Value) : Bool := match u with
  | .none => eqV .non x
  | .bool b => eqV (.bl b) x
  | .int i _ => eqV (.int i) x
  | .str z _ => eqV (.str z) x
  | _ => false
theorem eqU_of {x y : V} {u : Value} (r : RelV y u) (f : flatV y = true) : eqU x u = eqV y x := by
  cases y with
  | non => cases r; rfl
  | bl b => cases r; rfl
  | int i => obtain ⟨t, rfl⟩ := r; rfl
  | str z => obtain ⟨t, rfl⟩ := r; rfl
  | _ => exact absurd (show false = true from f) Bool.false_ne_true
theorem any_eqU {x : V} : ∀ {xs : List V} {us : List Value}, Vals xs us → xs.all flatV = true → us.any (eqU x) = xs.any fun y => eqV y x
  | _, _, .nil, _ => rfl
  | y :: xs, u :: us, .cons r t, f => by
    rw [List.all_cons, Bool.and_eq_true] at f
    rw [List.any_cons, List.any_cons, eqU_of r f.1, any_eqU t f.2]
theorem mem_eqAt {A : Around} {s : Shared} {x : V} {v : Value} (rx : RelV x v) (fx : flatV x = true) : ∀ {xs : List V} {us : List Value}, Vals xs us → xs.all flatV = true → ∀ u ∈ us, SeqAt.EqAt A s u v (eqU x u)
  | _, _, .nil, _ => fun u hu => by cases hu
  | y :: xs, u :: us, .cons r t, f => fun u' hu => by
    rw [List.all_cons, Bool.and_eq_true] at f
    rcases List.mem_cons.mp hu with rfl | hu
    · rw [eqU_of r f.1]; exact eqAt_V r rx f.1 fx
    · exact mem_eqAt rx fx t f.2 u' hu
def inV (x : V) (xs : List V) : Bool := xs.any fun y => eqV y x
def rIn (K : PySem.W.Frag) (neg : Bool) : R2 := fun x y H Q => ∃ p xs, y = .ref p ∧ (SqL K H p xs ∨ SqT K H p xs) ∧ flatV x = true ∧ xs.all flatV = true ∧ Q (.bl (if neg then !inV x xs else inV x xs)) H
theorem op_in_seq : OpR X (compareOp .In) (rIn X.K false) := by
  intro pins s σ H x y v u Q I rx ry h
  obtain ⟨p, xs, rfl, hq, fx, fs, q⟩ := h
  cases ry
  rcases hq with hq | hq
  · obtain ⟨its, r, pl, hz⟩ := I.list hq
    refine SeqAt.in_listAt (eqU x) pl.isList (fun w hw => mem_eqAt rx fx r fs w (by simpa using hw)) ⟨.bl _, H, I, rfl, ?_⟩
    rw [show its.toArray.any (eqU x) = its.any (eqU x) by simp, any_eqU r fs]
    exact q
  · obtain ⟨its, r, pl, hz⟩ := I.tuple hq
    refine SeqAt.in_tupleAt (eqU x) pl (fun w hw => mem_eqAt rx fx r fs w (by simpa using hw)) ⟨.bl _, H, I, rfl, ?_⟩
    rw [show its.toArray.any (eqU x) = its.any (eqU x) by simp, any_eqU r fs]
    exact q
theorem call_len_seq : CallR X (.builtin "len") (fun xs H Q => ∃ p ys, xs = [.ref p] ∧ (SqL X.K H p ys ∨ SqT X.K H p ys) ∧ Q (.int ys.length) H) := by
  intro pins s σ H xs us Q I r h
  obtain ⟨p, ys, rfl, hq, q⟩ := h
  obtain ⟨u, rfl, rx⟩ := vals1 r
  cases rx
  have hn := line63
  rcases hq with hq | hq
  · obtain ⟨its, r', pl, hz⟩ := I.list hq
    have hlen := r'.length
    exact Calls.call_len_list pl.isList (by simp only [List.size_toArray] <;> omega) ⟨.int ys.length, H, I.tok _, ⟨s.toks + 1, by rw [List.size_toArray, hlen]⟩, q⟩
  · obtain ⟨its, r', pl, hz⟩ := I.tuple hq
    have hlen := r'.length
    exact len_tuple pl (by simp only [List.size_toArray] <;> omega) ⟨.int ys.length, H, I.tok _, ⟨s.toks + 1, by rw [List.size_toArray, hlen]⟩, q⟩
theorem call_len_str : CallR X (.builtin "len") (fun xs H Q => ∃ z, xs = [.str z] ∧ z.length ≤ sizeLine ∧ Q (.int z.length) H) := by
  intro pins s σ H xs us Q I r h
  obtain ⟨z, rfl, hz, q⟩ := h
  obtain ⟨u, rfl, t, rfl⟩ := vals1 r
  have hn := line63
  exact len_str (by omega) ⟨.int z.length, H, I.tok _, ⟨_, rfl⟩, q⟩
theorem CallR.or {f : Value} {r r' : List V → Hp → VK → Prop} (h : CallR X f r) (h' : CallR X f r') : CallR X f (fun xs H Q => r xs H Q ∨ r' xs H Q) := by
  intro pins s σ H xs us Q I rs q
  rcases q with q | q
  · exact h pins s σ H xs us Q I rs q
  · exact h' pins s σ H xs us Q I rs q
theorem call_list_of : CallR X (.type "list") (fun xs H Q => ∃ p ys, xs = [.ref p] ∧ (SqL X.K H p ys ∨ SqT X.K H p ys) ∧ ∀ l, H l = none → Q (.ref l) (upd H l (.lst ys))) := by
  intro pins s σ H xs us Q I r h
  obtain ⟨p, ys, rfl, hq, q⟩ := h
  obtain ⟨u, rfl, rx⟩ := vals1 r
  cases rx
  have fin : ∀ (its : List Value), Vals ys its → ys.length ≤ sizeLine → ∀ (h' : Heap) (c' : Nat), (∀ b o', s.heap.get? b = some o' → h'.get? b = some o') →
      h'.get? s.heap.objs.size = some { cls := .type "list", dict := none, data := .seq its.toArray c', slots := #[] } → EP X pins σ Q (.ref s.heap.objs.size) { s with heap := h' } := fun its r' hz h' c' kp e =>
    ⟨.ref s.heap.objs.size, _, I.laid (t' := s.toks) kp (Nat.le_refl _) (show ObjOk X.prog X.w _ h' _ (.lst ys) from ⟨hz, its, c', r', e⟩), rfl, q _ (I.hok.fresh (Nat.le_refl _))⟩
  rcases hq with hq | hq
  · obtain ⟨its, r', pl, hz⟩ := I.list hq
    have hlen := r'.length
    obtain ⟨o, ho, hc, n, hd⟩ := pl.isList
    exact call_list_seq p (.inl rfl) ho hc hd (fun h' c' kp e => fin its r' hz h' c' kp e) (by simp only [List.size_toArray] <;> omega)
  · obtain ⟨its, r', pl, hz⟩ := I.tuple hq
    have hlen := r'.length
    obtain ⟨o, ho, hc, n, hd⟩ := pl
    exact call_list_seq p (.inr rfl) ho hc hd (fun h' c' kp e => fin its r' hz h' c' kp e) (by simp only [List.size_toArray] <;> omega)
def tyV (K : PySem.W.Frag) (T : String) (x : V) (H : Hp) : Prop := match x with
  | .str _ => T = "str"
  | .int _ => T = "int"
  | .ref p => (T = "list" ∧ ∃ xs, SqL K H p xs) ∨ (T = "tuple" ∧ ∃ o, K.lookup p = some o ∧ o.cls = .type "tuple" ∧ o.dict = none) ∨
      (T = "dict" ∧ ((∃ kvs, H p = some (.dK kvs)) ∨ ∃ kvs, H p = some (.dT kvs))) ∨ (T = "set" ∧ ∃ S n, H p = some (.set S n))
  | _ => False
theorem tyV_is {pins : List (Addr × Obj)} {σ : St} {H : Hp} {s : Shared} {T : String} {x : V} {v : Value} (I : Inv X pins σ H s) (r : RelV x v) (ty : tyV X.K T x H) :
    s.TypeIs v T ∧ ∀ a, v = .ref a → ∃ ob, s.heap.get? a = some ob ∧ ob.dict = none := by
  cases x with
  | str z =>
    obtain ⟨t, rfl⟩ := r
    cases (show T = "str" from ty)
    exact ⟨typeIs_str s z t, fun _ e => nomatch e⟩
  | int i =>
    obtain ⟨t, rfl⟩ := r
    cases (show T = "int" from ty)
    exact ⟨typeIs_int s i t, fun _ e => nomatch e⟩
  | ref p =>
    cases r
    rcases ty with ⟨rfl, xs, hq⟩ | ⟨rfl, o, hk, hc, hd⟩ | ⟨rfl, hk⟩ | ⟨rfl, S, n, hk⟩
    · obtain ⟨its, _, pl, _⟩ := I.list hq
      refine ⟨pl.isList.typeIs, fun a e => ?_⟩
      cases e
      obtain ⟨o, n, e, c, hd, _⟩ := pl
      exact ⟨o, e, hd⟩
    · refine ⟨⟨o, I.kIn p o hk, hc⟩, fun a e => ?_⟩
      cases e
      exact ⟨o, I.kIn _ o hk, hd⟩
    · have z : ∃ o, s.heap.get? p = some o ∧ o.ExactDict := by
        rcases hk with ⟨kvs, hk⟩ | ⟨kvs, hk⟩
        · obtain ⟨_, _, _, _, o, _, _, e, ex, _⟩ := I.hok p _ hk
          exact ⟨o, e, ex⟩
        · obtain ⟨_, _, _, _, o, _, _, e, ex, _⟩ := I.hok p _ hk
          exact ⟨o, e, ex⟩
      obtain ⟨o, e, ex⟩ := z
      refine ⟨⟨o, e, ex.1⟩, fun a e2 => ?_⟩
      cases e2
      exact ⟨o, e, ex.2.1⟩
    · obtain ⟨o, _, _, _, e, ex, _⟩ := I.hok p _ hk
      refine ⟨⟨o, e, ex.1⟩, fun a e2 => ?_⟩
      cases e2
      exact ⟨o, e, ex.2.1⟩
  | _ => exact False.elim ty
def tBM0 (K : PySem.W.Frag) (T : String) (r : V → List V → Hp → VK → Prop) (to : TE) : TE := fun σ H Q => to σ H fun x H1 => tyV K T x H1 ∧ r x [] H1 Q
def tBM (K : PySem.W.Frag) (T : String) (r : V → List V → Hp → VK → Prop) (to : TE) (t : TA) : TE := fun σ H Q => to σ H fun x H1 => tyV K T x H1 ∧ t σ H1 fun xs H2 => r x xs H2 Q
variable {o e : Expr} {es : List Expr} {to : TE} {t : TA} {name : Str} {apos cpos : Pos} {T id : String} {r : V → List V → Hp → VK → Prop}
theorem pe_bm (pa : PlainAttrs T) (slot : Slot T name id) (hty : typeOf (.builtin id) = pure (.type "method_descriptor")) (hm : MtR X id r) (ho : PE X o to) (ha : PA X (e :: es) t)
    (hbase : attributeBase o name X.env (eval o X.env) = eval o X.env := by rfl)
    (hfew : ((backTo cpos (starEach (e :: es) X.env)).all (fun x => !x.1) && (backToKw cpos (keywordEach [] X.env)).all (fun x => x.1.isSome)
      && decide ((e :: es).length + ([] : List Keyword).length + (if ([] : List Keyword).isEmpty then 0 else 1) < 30)) = true := by rfl)
    (hline : (apos.endLine == cpos.line) = true := by rfl) (hs : starEach (e :: es) X.env = (false, eval e X.env) :: starEach es X.env := by rfl) (hplain : (backTo cpos (starEach es X.env)).any (·.1) = false := by rfl) :
    PE X (.Call (.Attribute o name apos) (e :: es) [] cpos) (tBM X.K T r to t) := by
  intro pins s σ H Q I h
  refine wpAny_Call_method_late hbase hfew hline rfl (thn (ho pins s σ H _ I h) fun v s1 ⟨x, H1, I1, r1, ty, q1⟩ => ?_)
  obtain ⟨h1, h2⟩ := tyV_is I1 r1 ty
  refine ⟨T, id, pa, slot, hty, h1, h2, ?_⟩
  have hA := ha cpos pins s1 σ H1 _ I1 q1
  rw [hs] at hA ⊢
  refine Calls.callWith_builtin (by show (false || (backTo cpos (starEach es X.env)).any (·.1)) = false; rw [hplain] <;> rfl) (Calls.evalArgs_plain ?_)
  exact thn hA fun us s2 ⟨vs, H2, I2, r2, q2⟩ => hm pins s2 σ H2 x vs v us Q I2 r1 r2 q2
/- xs.append(e), list.index on a module's tuple .. are MtR facts of 06m -/
end
end L2
namespace L2
open PySem PySem.Spec PyProof.Rows
def MtM (X : Cx) (id : String) (r : V → List V → Hp → VK → Prop) : Prop :=
  ∀ (pins : List (Addr × Obj)) (s : Shared) (σ : St) (H : Hp) (x : V) (xs : List V) (v : Value) (us : List Value) (Q : VK), Inv X pins σ H s → RelV x v → Vals xs us → r x xs H Q →
    wpAny (model X.prog X.w) X.A (call (.builtin id) (v :: us)) (EP X pins σ Q) X.xe s
theorem Vals.one : ∀ {x : V} {us : List Value}, Vals [x] us → ∃ u, us = [u] ∧ RelV x u
  | _, _, .cons r .nil => ⟨_, rfl, r⟩
theorem Vals.two : ∀ {x y : V} {us : List Value}, Vals [x, y] us → ∃ u v, us = [u, v] ∧ RelV x u ∧ RelV y v
  | _, _, _, .cons r (.cons q .nil) => ⟨_, _, rfl, r, q⟩
theorem Vals.zero : ∀ {us : List Value}, Vals [] us → us = []
  | _, .nil => rfl
theorem Vals.dropLast {xs : List V} {us : List Value} (h : Vals xs us) : Vals xs.dropLast us.dropLast := by
  induction h with
  | nil => exact .nil
  | cons r t ih =>
    cases t with
    | nil => exact .nil
    | cons q t' => exact .cons r ih
theorem Vals.eraseIdx : ∀ {xs : List V} {us : List Value} (i : Nat), Vals xs us → Vals (xs.eraseIdx i) (us.eraseIdx i)
  | _, _, _, .nil => .nil
  | _, _, 0, .cons _ t => t
  | _, _, i + 1, .cons r t => .cons r (Vals.eraseIdx i t)
theorem Vals.reverse {xs : List V} {us : List Value} (h : Vals xs us) : Vals xs.reverse us.reverse := by
  induction h with
  | nil => exact .nil
  | cons r t ih => rw [List.reverse_cons, List.reverse_cons]; exact Vals.append ih (.cons r .nil)
section
variable {X : Cx} {pins : List (Addr × Obj)} {σ : St} {H : Hp} {s : Shared} {l b : Addr} {xs ys zs : List V}
theorem Inv.lset {its its' : List Value} {n : Nat} {f : Array Value → Array Value} {t' : Nat} (I : Inv X pins σ H s) (hH : H l = some (.lst xs))
    (e : s.heap.get? l = some { cls := .type "list", data := .seq its.toArray n }) (hf : f its.toArray = its'.toArray) (hv : Vals ys its') (hz : ys.length ≤ sizeLine) :
    Inv X pins σ (upd H l (.lst ys)) { s with heap := s.heap.update l (Obj.mapSeq f), toks := t' } := by
  have q := PySem.IsL.update e f
  rw [hf] at q
  refine I.write (x := l) (e := l) (by rw [hH]; exact trivial) (.inl rfl) (fun b' u hb hu => (Heap.get?_update_other s.heap (Obj.mapSeq f) (Ne.symm hb)).trans hu) ⟨_, q⟩ ?_
  exact ⟨hz, its', _, hv, q⟩
theorem Inv.lnew {its : List Value} {t' : Nat} (I : Inv X pins σ H s) (hv : Vals ys its) (hz : ys.length ≤ sizeLine) :
    Inv X pins σ (upd H s.heap.objs.size (.lst ys)) { s with heap := s.heap.push { cls := .type "list", data := .seq its.toArray }, toks := t' } :=
  I.laid (fun _ _ q => Heap.get?_push_of_some _ q) (Nat.le_refl _) ⟨hz, its, 0, hv, Heap.get?_push_size _ rfl⟩
theorem Inv.fresh (I : Inv X pins σ H s) : H s.heap.objs.size = none := I.hok.fresh (Nat.le_refl _)
theorem Inv.lstM (I : Inv X pins σ H s) (hH : H l = some (.lst xs)) : xs.length ≤ sizeLine ∧ ∃ (its : List Value) (n : Nat), Vals xs its ∧ xs.length = its.length ∧ s.heap.get? l = some { cls := .type "list", data := .seq its.toArray n } := by
  obtain ⟨z, its, n, r, e⟩ := I.hok l _ hH
  exact ⟨z, its, n, r, r.length, e⟩
end
section
variable {X : Cx}
def rAppend : V → List V → Hp → VK → Prop := fun x vs H Q => ∃ l xs y, x = .ref l ∧ vs = [y] ∧ H l = some (.lst xs) ∧ xs.length < sizeLine ∧ Q .non (upd H l (.lst (xs ++ [y])))
theorem mt_append : MtM X "list.append" rAppend := by
  intro pins s σ H x vs v us Q I rx rv h
  obtain ⟨l, xs, y, rfl, rfl, hH, hz, q⟩ := h
  cases rx
  obtain ⟨u, rfl, ru⟩ := rv.one
  obtain ⟨z, its, n, r, hl, e⟩ := I.lstM hH
  refine call_meets F.slot_list_append ⟨_, e, rfl⟩ F.entry_list_append (F.args_list_append_2 _ _) (PySem.list_append l its.toArray n u (by rw [List.size_toArray]; omega)) ⟨e, ?_⟩
  refine ⟨.non, _, I.lset (its' := its ++ [u]) hH e (by simp) (r.append (.cons ru .nil)) ?_, rfl, q⟩
  rw [List.length_append, List.length_singleton]
  omega
def rExtend : V → List V → Hp → VK → Prop := fun x vs H Q => ∃ l b xs zs, x = .ref l ∧ vs = [.ref b] ∧ H l = some (.lst xs) ∧ H b = some (.lst zs) ∧ xs.length + zs.length ≤ sizeLine ∧ Q .non (upd H l (.lst (xs ++ zs)))
def rPop : V → List V → Hp → VK → Prop := fun x vs H Q => ∃ l xs y, x = .ref l ∧ vs = [] ∧ H l = some (.lst xs) ∧ xs[xs.length - 1]? = some y ∧ Q y (upd H l (.lst xs.dropLast))
def rPopAt : V → List V → Hp → VK → Prop := fun x vs H Q => ∃ l xs i k y, x = .ref l ∧ vs = [.int i] ∧ H l = some (.lst xs) ∧ -(2 ^ 63) ≤ i ∧ i < 2 ^ 63 ∧ seqIndex? i xs.length = some k ∧ xs[k]? = some y ∧ Q y (upd H l (.lst (xs.eraseIdx k)))
def rReverse : V → List V → Hp → VK → Prop := fun x vs H Q => ∃ l xs, x = .ref l ∧ vs = [] ∧ H l = some (.lst xs) ∧ Q .non (upd H l (.lst xs.reverse))
def rClear : V → List V → Hp → VK → Prop := fun x vs H Q => ∃ l xs, x = .ref l ∧ vs = [] ∧ H l = some (.lst xs) ∧ Q .non (upd H l (.lst []))
def rCat : R2 := fun x y H Q => ∃ l b xs zs, x = .ref l ∧ y = .ref b ∧ H l = some (.lst xs) ∧ H b = some (.lst zs) ∧ xs.length + zs.length ≤ sizeLine ∧ ∀ p, H p = none → Q (.ref p) (upd H p (.lst (xs ++ zs)))
theorem op_cat : OpR X (binaryOp .Add) rCat := by
  intro pins s σ H x y v u Q I rx ry h
  obtain ⟨l, b, xs, zs, rfl, rfl, hH, hB, hz, q⟩ := h
  cases rx
  cases ry
  obtain ⟨z, its, n, r, hl, e⟩ := I.lstM hH
  obtain ⟨z2, its2, n2, r2, hl2, e2⟩ := I.lstM hB
  refine PySem.P.add_list e e2 ?_ (by rw [List.size_toArray, List.size_toArray]; omega)
  have ea : its.toArray ++ its2.toArray = (its ++ its2).toArray := by simp
  rw [ea]
  exact ⟨.ref _, _, I.lnew (t' := s.toks) (r.append r2) (by rw [List.length_append]; omega), rfl, q _ I.fresh⟩
def rRep : R2 := fun x y H Q => ∃ l k xs, x = .ref l ∧ y = .int k ∧ H l = some (.lst xs) ∧ -(2 ^ 63) ≤ k ∧ k < 2 ^ 63 ∧ xs.length * k.toNat ≤ sizeLine ∧
  ∀ p, H p = none → Q (.ref p) (upd H p (.lst (List.replicate k.toNat xs).flatten))
end
section
variable {prog : Program} {w : World} {A : Around} {E : Value → Shared → Prop} {s : Shared}
end
section
variable {X : Cx}
end
end L2
namespace L2
open PySem PySem.Spec PyProof.Rows
section
variable {κ : Type} [DecidableEq κ]
def valV (kvs : List (κ × V)) (k : κ) : Option V := (kvs.find? fun kv => decide (kv.1 = k)).map (·.2)
def putK (kvs : List (κ × V)) (k : κ) (v : V) : List (κ × V) :=
  if (kvs.any fun kv => decide (kv.1 = k)) = true then kvs.map (fun kv => if kv.1 = k then (kv.1, v) else kv) else kvs ++ [(k, v)]
def dropK (kvs : List (κ × V)) (k : κ) : List (κ × V) := kvs.filter fun kv => decide (kv.1 ≠ k)
theorem valV_pos {p : κ × V} {r : List (κ × V)} {k : κ} (e : p.1 = k) : valV (p :: r) k = some p.2 := by simp [valV, List.find?_cons, e]
theorem valV_neg {p : κ × V} {r : List (κ × V)} {k : κ} (e : ¬ p.1 = k) : valV (p :: r) k = valV r k := by simp [valV, List.find?_cons, e]
theorem valV_any (k : κ) : ∀ kvs : List (κ × V), (kvs.any fun kv => decide (kv.1 = k)) = (valV kvs k).isSome
  | [] => rfl
  | p :: r => by
    rw [List.any_cons]
    by_cases e : p.1 = k
    · simp only [valV_pos e, decide_eq_true e, Bool.true_or, Option.isSome_some]
    · rw [valV_neg e, decide_eq_false e, Bool.false_or]; exact valV_any k r
theorem valV_map (k j : κ) (y : V) : ∀ kvs : List (κ × V), valV (kvs.map fun kv => if kv.1 = k then (kv.1, y) else kv) j = (valV kvs j).map fun x => if j = k then y else x
  | [] => rfl
  | p :: r => by
    have ih := valV_map k j y r
    rw [List.map_cons]
    by_cases h : p.1 = k
    · rw [if_pos h]
      by_cases e : p.1 = j
      · rw [valV_pos (p := (p.1, y)) e, valV_pos e, Option.map_some, if_pos (e.symm.trans h)]
      · rw [valV_neg (p := (p.1, y)) e, valV_neg e, ih]
    · rw [if_neg h]
      by_cases e : p.1 = j
      · rw [valV_pos (p := p) e, valV_pos e, Option.map_some, if_neg (fun z => h (e.trans z))]
      · rw [valV_neg (p := p) e, valV_neg e, ih]
theorem valV_snoc (k j : κ) (y : V) : ∀ kvs : List (κ × V), valV kvs k = none → valV (kvs ++ [(k, y)]) j = if j = k then some y else valV kvs j
  | [], _ => by
    by_cases e : k = j
    · rw [if_pos e.symm]; exact valV_pos (p := (k, y)) e
    · rw [if_neg (fun z => e z.symm)]; exact valV_neg (p := (k, y)) e
  | p :: r, hn => by
    rw [List.cons_append]
    have hk : ¬ p.1 = k := fun z => by rw [valV_pos z] at hn; cases hn
    rw [valV_neg hk] at hn
    have ih := valV_snoc k j y r hn
    by_cases e : p.1 = j
    · rw [valV_pos e, valV_pos e, if_neg (fun z => hk (e.trans z))]
    · rw [valV_neg e, valV_neg e, ih]
theorem valV_put (kvs : List (κ × V)) (k j : κ) (y : V) : valV (putK kvs k y) j = if j = k then some y else valV kvs j := by
  unfold putK
  by_cases a : (kvs.any fun kv => decide (kv.1 = k)) = true
  · rw [if_pos a, valV_map]
    rw [valV_any] at a
    by_cases e : j = k
    · obtain ⟨x, hx⟩ := Option.isSome_iff_exists.mp a
      rw [if_pos e, e, hx, Option.map_some, if_pos rfl]
    · rw [if_neg e]
      cases valV kvs j with
      | none => rfl
      | some x => rw [Option.map_some, if_neg e]
  · rw [if_neg a]
    refine valV_snoc k j y kvs ?_
    rw [valV_any] at a
    cases q : valV kvs k with
    | none => rfl
    | some x => rw [q] at a; exact (a rfl).elim
theorem length_putK (kvs : List (κ × V)) (k : κ) (v : V) : (putK kvs k v).length ≤ kvs.length + 1 := by
  unfold putK
  split
  · rw [List.length_map]; omega
  · rw [List.length_append, List.length_cons, List.length_nil]; omega
theorem putK_new {kvs : List (κ × V)} {k : κ} (v : V) (h : valV kvs k = none) : putK kvs k v = kvs ++ [(k, v)] := by
  unfold putK
  rw [valV_any, h]
  exact if_neg (by decide)
theorem RelO.isSome_eq {o : Option V} {u : Option Value} (r : RelO o u) : o.isSome = u.isSome := by
  cases o with
  | none => cases u with
    | none => rfl
    | some _ => exact (show False from r).elim
  | some _ => cases u with
    | none => exact (show False from r).elim
    | some _ => rfl
theorem RelO.getD {o : Option V} {u : Option Value} {d : V} {d' : Value} (r : RelO o u) (rd : RelV d d') : RelV (o.getD d) (u.getD d') := by
  cases o with
  | none => cases u with
    | none => exact rd
    | some _ => exact (show False from r).elim
  | some _ => cases u with
    | none => exact (show False from r).elim
    | some _ => exact r
theorem KV.val {kvs : List (κ × V)} {vs : List (κ × Value)} (r : KV kvs vs) (k : κ) : RelO (valV kvs k) (valueAt vs k) := by
  unfold KV at r
  induction r with
  | nil => exact True.intro
  | @cons p q ps qs h t ih =>
    obtain ⟨h1, h2⟩ := h
    by_cases e : p.1 = k
    · have e' : q.1 = k := h1.symm.trans e
      have b : valueAt (q :: qs) k = some q.2 := by simp [valueAt, List.find?_cons, e']
      rw [valV_pos e, b]; exact h2
    · have e' : ¬ q.1 = k := fun z => e (h1.trans z)
      have b : valueAt (q :: qs) k = valueAt qs k := by simp [valueAt, List.find?_cons, e']
      rw [valV_neg e, b]; exact ih
theorem KV.any {kvs : List (κ × V)} {vs : List (κ × Value)} (r : KV kvs vs) (k : κ) : (kvs.any fun kv => decide (kv.1 = k)) = vs.any fun kv => decide (kv.1 = k) := by
  unfold KV at r
  induction r with
  | nil => rfl
  | cons h t ih => rw [List.any_cons, List.any_cons, ih, h.1]
theorem KV.repl {kvs : List (κ × V)} {vs : List (κ × Value)} (r : KV kvs vs) (k : κ) {y : V} {u : Value} (ry : RelV y u) :
    KV (kvs.map fun kv => if kv.1 = k then (kv.1, y) else kv) (vs.map fun kv => if kv.1 = k then (kv.1, u) else kv) := by
  unfold KV at r ⊢
  induction r with
  | nil => exact .nil
  | @cons p q ps qs h t ih =>
    rw [List.map_cons, List.map_cons]
    refine .cons ?_ ih
    obtain ⟨h1, h2⟩ := h
    by_cases e : p.1 = k
    · rw [if_pos e, if_pos (h1.symm.trans e)]; exact ⟨h1, ry⟩
    · rw [if_neg e, if_neg (fun z => e (h1.trans z))]; exact ⟨h1, h2⟩
theorem KV.put {kvs : List (κ × V)} {vs : List (κ × Value)} (r : KV kvs vs) (k : κ) {y : V} {u : Value} (ry : RelV y u) : KV (putK kvs k y) (stored vs k u) := by
  unfold putK stored
  rw [r.any k]
  by_cases e : (vs.any fun kv => decide (kv.1 = k)) = true
  · rw [if_pos e, if_pos e]; exact r.repl k ry
  · rw [if_neg e, if_neg e]; exact Paired.snoc r ⟨rfl, ry⟩
theorem KV.drop {kvs : List (κ × V)} {vs : List (κ × Value)} (r : KV kvs vs) (k : κ) : KV (dropK kvs k) (without vs k) := by
  unfold KV at r ⊢
  unfold dropK without
  induction r with
  | nil => exact .nil
  | @cons p q ps qs h t ih =>
    obtain ⟨h1, h2⟩ := h
    rw [List.filter_cons, List.filter_cons]
    by_cases e : p.1 = k
    · have a : ¬ decide (p.1 ≠ k) = true := by simp [e]
      have b : ¬ decide (q.1 ≠ k) = true := by simp [h1.symm.trans e]
      rw [if_neg a, if_neg b]; exact ih
    · have e' : ¬ q.1 = k := fun z => e (h1.trans z)
      have a : decide (p.1 ≠ k) = true := by simp [e]
      have b : decide (q.1 ≠ k) = true := by simp [e']
      rw [if_pos a, if_pos b]; exact .cons ⟨h1, h2⟩ ih
theorem KV.keys {kvs : List (κ × V)} {vs : List (κ × Value)} (r : KV kvs vs) : kvs.map (·.1) = vs.map (·.1) := by
  unfold KV at r
  induction r with
  | nil => rfl
  | cons h t ih => rw [List.map_cons, List.map_cons, ih, h.1]
theorem KV.length {kvs : List (κ × V)} {vs : List (κ × Value)} (r : KV kvs vs) : kvs.length = vs.length := Paired.length r
end
abbrev KT (H : Hp) : List (List Key × V) → List (List Key × Addr × Value) → Prop := Paired fun p q => p.1 = q.1 ∧ H q.2.1 = some (.tup (p.1.map kV)) ∧ RelV p.2 q.2.2
theorem KT.val {H : Hp} {kvs : List (List Key × V)} {xs : List (List Key × Addr × Value)} (r : KT H kvs xs) (k : List Key) : RelO (valV kvs k) ((atKey xs k).map (·.2)) := by
  induction r with
  | nil => exact True.intro
  | @cons p q ps qs h t ih =>
    obtain ⟨h1, _, h2⟩ := h
    by_cases e : p.1 = k
    · have e' : q.1 = k := h1.symm.trans e
      have b : atKey (q :: qs) k = some q.2 := by simp [atKey, List.find?_cons, e']
      rw [valV_pos e, b]; exact h2
    · have e' : ¬ q.1 = k := fun z => e (h1.trans z)
      have b : atKey (q :: qs) k = atKey qs k := by simp [atKey, List.find?_cons, e']
      rw [valV_neg e, b]; exact ih
theorem KT.repl {H : Hp} {kvs : List (List Key × V)} {xs : List (List Key × Addr × Value)} (r : KT H kvs xs) (k : List Key) {y : V} {u : Value} (ry : RelV y u) :
    KT H (kvs.map fun kv => if kv.1 = k then (kv.1, y) else kv) (xs.map (putAt k u)) := by
  induction r with
  | nil => exact .nil
  | @cons p q ps qs h t ih =>
    rw [List.map_cons, List.map_cons]
    refine .cons ?_ ih
    obtain ⟨h1, h2, h3⟩ := h
    unfold putAt
    by_cases e : p.1 = k
    · rw [if_pos e, if_pos (h1.symm.trans e)]; exact ⟨h1, h2, ry⟩
    · rw [if_neg e, if_neg (fun z => e (h1.trans z))]; exact ⟨h1, h2, h3⟩
theorem KT.put {H : Hp} {kvs : List (List Key × V)} {xs : List (List Key × Addr × Value)} (r : KT H kvs xs) (k : List Key) {b : Addr} {y : V} {u : Value} (hb : H b = some (.tup (k.map kV))) (ry : RelV y u) :
    KT H (putK kvs k y) (storedH xs k b u) := by
  have e : (kvs.any fun kv => decide (kv.1 = k)) = (atKey xs k).isSome := by
    rw [valV_any, (r.val k).isSome_eq, Option.isSome_map]
  unfold putK storedH
  rw [e]
  by_cases q : (atKey xs k).isSome = true
  · rw [if_pos q, if_pos q]; exact r.repl k ry
  · rw [if_neg q, if_neg q]; exact Paired.snoc r ⟨rfl, hb, ry⟩
theorem KT.keeps {H H' : Hp} {kvs : List (List Key × V)} {xs : List (List Key × Addr × Value)} (r : KT H kvs xs) (ht : ∀ b ys, H b = some (.tup ys) → H' b = some (.tup ys)) : KT H' kvs xs :=
  Paired.mapP r fun _ _ z => ⟨z.1, ht _ _ z.2.1, z.2.2⟩
section
variable {P : Program} {w : World} {H : Hp} {h : Heap} {a : Addr}
end
def DGet (H : Hp) (a : Addr) (y : V) (r : Option V) : Prop :=
  (∃ kvs k, Rd H a (.dK kvs) ∧ y = kV k ∧ r = valV kvs k) ∨ ∃ kvs k b, Rd H a (.dT kvs) ∧ y = .ref b ∧ H b = some (.tup (k.map kV)) ∧ r = valV kvs k
def DPut (H : Hp) (a : Addr) (y v : V) (H' : Hp) : Prop :=
  (∃ kvs k, H a = some (.dK kvs) ∧ y = kV k ∧ kvs.length < sizeLine ∧ H' = upd H a (.dK (putK kvs k v))) ∨
  ∃ kvs k b, H a = some (.dT kvs) ∧ y = .ref b ∧ H b = some (.tup (k.map kV)) ∧ kvs.length < sizeLine ∧ H' = upd H a (.dT (putK kvs k v))
theorem DGet.k {H : Hp} {a : Addr} {kvs : List (Key × V)} {k : Key} (e : H a = some (.dK kvs)) : DGet H a (kV k) (valV kvs k) := .inl ⟨kvs, k, .inl e, rfl, rfl⟩
theorem DGet.t {H : Hp} {a b : Addr} {kvs : List (List Key × V)} {k : List Key} (e : H a = some (.dT kvs)) (eb : H b = some (.tup (k.map kV))) : DGet H a (.ref b) (valV kvs k) := .inr ⟨kvs, k, b, .inl e, rfl, eb, rfl⟩
theorem DPut.k {H : Hp} {a : Addr} {kvs : List (Key × V)} {k : Key} {v : V} (e : H a = some (.dK kvs)) (hl : kvs.length < sizeLine) : DPut H a (kV k) v (upd H a (.dK (putK kvs k v))) := .inl ⟨kvs, k, e, rfl, hl, rfl⟩
theorem DPut.t {H : Hp} {a b : Addr} {kvs : List (List Key × V)} {k : List Key} {v : V} (e : H a = some (.dT kvs)) (eb : H b = some (.tup (k.map kV))) (hl : kvs.length < sizeLine) :
    DPut H a (.ref b) v (upd H a (.dT (putK kvs k v))) := .inr ⟨kvs, k, b, e, rfl, eb, hl, rfl⟩
section
variable {X : Cx} {pins : List (Addr × Obj)} {σ : St} {H : Hp} {s : Shared} {a : Addr} {y v : V} {u r : Value} {o : Option V} {A : Around} {E : Value → Shared → Prop}
end
section
variable {X : Cx} {pins : List (Addr × Obj)} {σ : St} {H : Hp} {s : Shared} {a : Addr} {kvs : List (Key × V)} {k : Key} {u : Value} {A : Around} {E : Value → Shared → Prop}
end
def NoSl (i : Expr) : Prop := ∀ ov iv, subscripted i false ov iv = operate [ov, iv] (getItem ov iv)
def tDGet (td ty : TE) : TE := fun σ H Q => td σ H fun x H1 => ty σ H1 fun y H2 => ∃ a v, x = .ref a ∧ DGet H2 a y (some v) ∧ Q v H2
def tDIn (ty td : TE) : TE := fun σ H Q => ty σ H fun y H1 => td σ H1 fun x H2 => ∃ a o, x = .ref a ∧ DGet H2 a y o ∧ Q (.bl o.isSome) H2
def tDNotIn (ty td : TE) : TE := fun σ H Q => ty σ H fun y H1 => td σ H1 fun x H2 => ∃ a o, x = .ref a ∧ DGet H2 a y o ∧ Q (.bl (!o.isSome)) H2
def sDPut (td ty tv : TE) : TS := fun D σ H => tv σ H fun v H1 => td σ H1 fun x H2 => ty σ H2 fun y H3 => ∃ a H4, x = .ref a ∧ DPut H3 a y v H4 ∧ D.nx σ H4
def sDAug (td ty tv : TE) (rd : V → V → Hp → VK → Prop) : TS := fun D σ H => td σ H fun x H1 => ty σ H1 fun y H2 => ∃ a v, x = .ref a ∧ DGet H2 a y (some v) ∧
  tv σ H2 fun y2 H3 => rd v y2 H3 fun z H4 => ∃ H5, DPut H4 a y z H5 ∧ D.nx σ H5
def sDDel (td ty : TE) : TS := fun D σ H => td σ H fun x H1 => ty σ H1 fun y H2 => ∃ a kvs k, x = .ref a ∧ H2 a = some (.dK kvs) ∧ y = kV k ∧ (valV kvs k).isSome = true ∧ D.nx σ (upd H2 a (.dK (dropK kvs k)))
section
variable {X : Cx} {o i e value : Expr} {pos pos' tpos : Pos} {td ty tv : TE}
end
def tDNewK : TE := fun _ H Q => ∀ p, H p = none → Q (.ref p) (upd H p (.dK []))
def tDNewT : TE := fun _ H Q => ∀ p, H p = none → Q (.ref p) (upd H p (.dT []))
section
variable {X : Cx} {pos : Pos}
end
def tPairs : List (TE × TE) → St → Hp → (List (V × V) → Hp → Prop) → Prop
  | [], _, H, Q => Q [] H
  | (tk, tv) :: r, σ, H, Q => tk σ H fun x H1 => tv σ H1 fun y H2 => tPairs r σ H2 fun ps H3 => Q ((x, y) :: ps) H3
abbrev VV : List (V × V) → List (Value × Value) → Prop := Paired fun p q => RelV p.1 q.1 ∧ RelV p.2 q.2
def PPs (X : Cx) (pos : Pos) (keys : List (Option Expr)) (values : List Expr) (trs : List (TE × TE)) : Prop :=
  ∀ (pins : List (Addr × Obj)) (s : Shared) (σ : St) (H : Hp) (Q : List (V × V) → Hp → Prop), Inv X pins σ H s → tPairs trs σ H Q →
    wpAny (model X.prog X.w) X.A (evalPairs (pairTrees keys values X.env pos)) (fun vs s' => ∃ ps H', Inv X pins σ H' s' ∧ VV ps vs ∧ Q ps H') X.xe s
def mergeK (kvs more : List (Key × V)) : List (Key × V) := more.foldl (fun acc kv => putK acc kv.1 kv.2) kvs
def tDisp (trs : List (TE × TE)) : TE := fun σ H Q => ∀ p, H p = none → tPairs trs σ (upd H p (.dK [])) fun ps H2 => H2 p = some (.dK []) ∧ ∃ kvs : List (Key × V), ps = kvs.map (fun kv => (kV kv.1, kv.2)) ∧ kvs.length ≤ 15 ∧ Q (.ref p) (upd H2 p (.dK (mergeK [] kvs)))
structure M1 (X : Cx) (o : Expr) (m : Str) (apos : Pos) (e : Expr) (cpos : Pos) : Prop where
  base : attributeBase o m X.env (eval o X.env) = eval o X.env
  few : ((backTo cpos (starEach [e] X.env)).all (fun x => !x.1) && (backToKw cpos (keywordEach [] X.env)).all (fun x => x.1.isSome)
    && decide (([e] : List Expr).length + ([] : List Keyword).length + (if ([] : List Keyword).isEmpty then 0 else 1) < 30)) = true
  line : (apos.endLine == cpos.line) = true
  trees : backTo cpos (starEach [e] X.env) = [(false, eval e X.env)]
structure M2 (X : Cx) (o : Expr) (m : Str) (apos : Pos) (e f : Expr) (cpos : Pos) : Prop where
  base : attributeBase o m X.env (eval o X.env) = eval o X.env
  few : ((backTo cpos (starEach [e, f] X.env)).all (fun x => !x.1) && (backToKw cpos (keywordEach [] X.env)).all (fun x => x.1.isSome)
    && decide (([e, f] : List Expr).length + ([] : List Keyword).length + (if ([] : List Keyword).isEmpty then 0 else 1) < 30)) = true
  line : (apos.endLine == cpos.line) = true
  trees : backTo cpos (starEach [e, f] X.env) = [(false, eval e X.env), (false, eval f X.env)]
def IsD (H : Hp) (a : Addr) : Prop := (∃ kvs, Rd H a (.dK kvs)) ∨ ∃ kvs, Rd H a (.dT kvs)
section
variable {X : Cx} {pins : List (Addr × Obj)} {σ : St} {H : Hp} {s : Shared} {a : Addr} {y d : V} {u r : Value} {o : Option V} {A : Around} {E : Value → Shared → Prop}
end
def tDGet1 (td ty : TE) : TE := fun σ H Q => td σ H fun x H1 => ∃ a, x = .ref a ∧ IsD H1 a ∧ ty σ H1 fun y H2 => ∃ o, DGet H2 a y o ∧ Q (o.getD .non) H2
def tDGet2 (td ty tx : TE) : TE := fun σ H Q => td σ H fun x H1 => ∃ a, x = .ref a ∧ IsD H1 a ∧ ty σ H1 fun y H2 => tx σ H2 fun z H3 => ∃ o, DGet H3 a y o ∧ Q (o.getD z) H3
def tDPop1 (td ty : TE) : TE := fun σ H Q => td σ H fun x H1 => ∃ a, x = .ref a ∧ IsD H1 a ∧ ty σ H1 fun y H2 => ∃ kvs k v, H2 a = some (.dK kvs) ∧ y = kV k ∧ valV kvs k = some v ∧ Q v (upd H2 a (.dK (dropK kvs k)))
def tDPop2 (td ty tx : TE) : TE := fun σ H Q => td σ H fun x H1 => ∃ a, x = .ref a ∧ IsD H1 a ∧ ty σ H1 fun y H2 => tx σ H2 fun z H3 => ∃ kvs k, H3 a = some (.dK kvs) ∧ y = kV k ∧
  (∀ v, valV kvs k = some v → Q v (upd H3 a (.dK (dropK kvs k)))) ∧ (valV kvs k = none → Q z H3)
section
variable {X : Cx} {o e f : Expr} {apos cpos : Pos} {td ty tx : TE}
end
section
variable {X : Cx} {pins : List (Addr × Obj)} {σ : St} {H : Hp} {s : Shared} {a : Addr} {kvs : List (Key × V)} {A : Around} {E : Value → Shared → Prop}
end
section
variable {X : Cx} {pins : List (Addr × Obj)} {σ : St} {H : Hp} {s : Shared} {a : Addr} {y : V} {u : Value} {A : Around} {E : Value → Shared → Prop}
end
end L2
namespace Att
open PySem PySem.W PySem.Calls PyProof.Rows
theorem ints_of_wellAll {P : Params} {h : Heap} : ∀ (ns : List Int) (vs : List Value), WellAll P h vs (ns.map WData.int) → IntsAre vs ns := by
  intro ns
  induction ns with
  | nil =>
    intro vs w
    rw [List.map_nil] at w
    cases w
    exact .nil
  | cons n ns ih =>
    intro vs w
    rw [List.map_cons] at w
    cases w with
    | cons a b =>
      cases a
      exact .cons _ _ (ih _ b)
theorem script_of {l : OpenLaw} {n : Nat} (hn : l.most = some n) {P : Params} {h : Heap} {args : List WData} {vals : List Value}
    (hpre : l.row.toRowW.claim.pre args = true) (hwl : WellAll P h vals args) :
    ∃ a vs ns, vals = [Value.ref a] ∧ args = [WData.list (ns.map WData.int)] ∧ h.get? a = some { cls := .type "list", data := .seq vs.toArray } ∧ IntsAre vs ns ∧ ns.length ≤ n := by
  have hsh : WShape.hasAll [] args [.list .int] = true := (pre_splitW hpre).1
  have hc : l.pre.holds [] { args := args } = true := (pre_splitW hpre).2
  obtain ⟨d, r, rfl, h1, h2⟩ := hasAllW_cons hsh
  obtain rfl := hasAllW_nil h2
  obtain ⟨xs, rfl, h3⟩ := hasW_list h1
  obtain ⟨ns, rfl⟩ := items_int h3
  have hlen : ns.length ≤ n := by
    unfold OpenLaw.pre at hc
    have h4 : (WTm.not (.lt (.lit (.int (n : Int))) (.len (.arg 0)))).holds [] { args := [.list (ns.map .int)] } = true := by
      have h4 := (holds_andW hc).1
      rw [hn] at h4
      exact h4
    have h5 := condW_of h4 (w_not (w_lt w_lit (w_len_list (w_arg rfl))))
    rw [List.length_map] at h5
    refine Nat.le_of_not_lt fun q => ?_
    have q' : (n : Int) < ((ns.length : Nat) : Int) := by omega
    first
      | (rw [decide_eq_true q'] at h5; exact absurd h5 (by decide))
      | (simp at h5; omega)
  cases hwl with
  | cons w1 w2 =>
    cases w2
    cases w1 with
    | list ho hall => exact ⟨_, _, ns, rfl, rfl, ho, ints_of_wellAll ns _ hall, hlen⟩
theorem post_true (l : OpenLaw) (args : List WData) : l.row.toRowW.claim.post args (.bool true) args = true :=
  postW_of (r := l.row.toRowW) (X := (true == true))
    (show WShape.has [] (.bool true) .bool = true by first | rfl | decide | simp [WShape.has, WShape.arms, WShape.armsAll])
    (show (WTm.eq .res (.lit (.bool true))).value [] { args := args, res := some (.bool true), after := args } = some (.bool (true == true)) from w_eq_bool (w_res rfl) w_lit) rfl
theorem attach_call {l : OpenLaw} {n : Nat} {q : Program} {loose : List Str} {XP : (Str → Option Value) → Heap → Prop} {YP : World → Heap → Prop} {d : DefRec}
    (hn : l.most = some n) (hdf : d.params.defaults = [])
    (call : ∀ (w : World) (s₀ s₁ : Shared) (mg mb : Str → Option Value) (fa : Addr) (o : Obj) (pm cd doc : Value) (a : Addr) (vs : List Value) (ns : List Int),
      Ground q loose [] XP w s₀ mg mb s₁.heap → YP w s₁.heap →
      s₁.heap.get? fa = some o → o.data = .func (docDef d.name d.params d.body d.scope pm cd doc) → s₁.heap.CodeRec cd d.name → mg d.name = some (.ref fa) →
      s₁.heap.get? a = some { cls := .type "list", data := .seq vs.toArray } → IntsAre vs ns → ns.length ≤ n → s₁.gens = #[] →
      codeAny (model l.prog w) callerA (.call (.ref fa) ⟨[.ref a], []⟩) (fun r s' => r = .ok (.ret (.bool true)) ∧ OldK s₁.heap s'.heap ∧ s'.os = s₁.os ∧ AllBare s'.gens) s₁) :
    WalkO q loose XP YP l.row.toRowW d [] (fun f vs => PySem.call f vs) := by
  intro w s₀ s₁ mg mb G Y fa o pm cd doc dV kV ho hd hcd hD hmg hg args vals as hpre hlay hrd hwl hlo
  obtain rfl : dV = .none := Dflts.none hD hdf
  obtain rfl : kV = .none := Dflts.noKw hD
  obtain ⟨a, vs, ns, rfl, rfl, hobj, hints, hlen⟩ := script_of hn hpre hwl
  refine enter_call (codeAny_mono (call w s₀ s₁ mg mb fa o pm cd doc a vs ns G Y ho (fd_plain hd) hcd hmg hobj hints hlen hg) fun r s' hq => ?_)
  obtain ⟨rfl, h2, h3, h4⟩ := hq
  exact ⟨.inl ⟨.bool true, .bool true, [], rfl, fun _ => rfl, .bool true, post_true l _, fun _ => ⟨List.Pairwise.nil, fun _ hm => (nomatch hm)⟩⟩, h2, h3, h4⟩
section
variable {prog : Program} {w : World} {A : Around} {E : Value → Shared → Prop} {s : Shared} {K : Frag}
def noObjs (h : Heap) : Heap := { h with objs := #[] }
def ledger (h : Heap) (L d : Addr) : List (Addr × Obj) := (List.range h.objs.size).filterMap fun a => if a = L ∨ a = d then none else (h.get? a).map fun o => (a, o)
end
end Att
namespace L2
open PySem PySem.Spec PyProof.Rows
theorem vals_ints : ∀ {vs : List Value} {ns : List Int}, IntsAre vs ns → Vals (ns.map V.int) vs
  | _, _, .nil => .nil
  | _, _, .cons n t h => .cons ⟨t, rfl⟩ (vals_ints h)
def Only (H : Hp) : Prop := ∀ b, H b = none ∨ ∃ o xs, H b = some (.frz o (.lst xs))
theorem law_call {P : Program} {w : World} {K : PySem.W.Frag} {mg mb : Str → Option Value} {CX : CXT} {k : Nat} {fa a : Addr} {fd : FuncData} {x : Str} {sp : Sp} {s₁ : Shared} {vs : List Value} {ns : List Int}
    (KX : K.In s₁.heap) (hns : s₁.heap.Ns mainGlobals mg) (hb : s₁.heap.Ns builtinsNs mb) (hbb : ∀ x : Str, x ≠ "__name__" → mb x = bootBuiltins x) (hlim : s₁.heap.NoLimit) (hg : s₁.gens = #[])
    (ha : s₁.heap.get? a = some { cls := .type "list", data := .seq vs.toArray }) (hi : IntsAre vs ns) (hl : ns.length ≤ sizeLine) (hr : Room k callerA)
    (F : ∀ base : Heap, K.In base → base.Ns mainGlobals mg → FnOk P w K mg base CX k fa fd [x] sp) (hbind : ∀ (s : Shared) (u : Value), BindsTo s fd ⟨[u], []⟩ [(x, u)])
    (hsp : ∀ H : Hp, Only H → SqL K H a (ns.map V.int) → sp [.ref a] H (fun v _ => v = .bl true) fun _ _ _ => False)
    (hCX : ∀ H e s', CX [] H s₁ (fun _ _ _ => False) e s' → False) :
    codeAny (model P w) callerA (.call (.ref fa) ⟨[.ref a], []⟩) (fun r s' => r = .ok (.ret (.bool true)) ∧ OldK s₁.heap s'.heap ∧ s'.os = s₁.os ∧ AllBare s'.gens) s₁ := by
  have rv := vals_ints hi
  have lenV := hi.length
  have core : ∀ H : Hp, Only H → SqL K H a (ns.map V.int) → HOk P w H s₁.heap → (∀ b, H b ≠ none → b = a) → (H a ≠ none → K.lookup a = none) →
      codeAny (model P w) callerA (.call (.ref fa) ⟨[.ref a], []⟩) (fun r s' => r = .ok (.ret (.bool true)) ∧ OldK s₁.heap s'.heap ∧ s'.os = s₁.os ∧ AllBare s'.gens) s₁ := by
    intro H hO hS hok hA hK
    have base_of : ∀ {b : Addr} {o : Obj}, s₁.heap.get? b = some o → H b = none → (hidT s₁.heap H).get? b = some o := fun e n => hidT_get e n
    have noA : ∀ {b : Addr} {o : Obj} {es : Array DictEntry} {ep : Nat}, s₁.heap.get? b = some o → o.data = .dict es ep → H b = none := fun {b o es ep} e d => by
      cases q : H b with
      | none => rfl
      | some u =>
        have e' : b = a := hA b (by rw [q]; simp)
        subst e'
        rw [ha] at e; cases e
        have d' : Data.seq vs.toArray _ = Data.dict es ep := d
        cases d'
    have nsK : ∀ {b : Addr} {m : Str → Option Value}, s₁.heap.Ns b m → (hidT s₁.heap H).Ns b m := fun {b m} ⟨o, es, ep, e, d, r⟩ => ⟨o, es, ep, base_of e (noA e d), d, r⟩
    have hKb : K.In (hidT s₁.heap H) := fun b o e => base_of (KX b o e) (by
      cases q : H b with
      | none => rfl
      | some u =>
        have e' : b = a := hA b (by rw [q]; simp)
        subst e'
        rw [hK (by rw [q]; simp)] at e; cases e)
    have hM : Mod K mg (hidT s₁.heap H) := ⟨hKb, nsK hns, ⟨mb, nsK hb, hbb⟩, let ⟨mc, h1, h2⟩ := hlim; ⟨mc, nsK h1, h2⟩⟩
    have e0 : Env0 P w K mg (hidT s₁.heap H) callerA [] s₁ H := ⟨rfl, hM, fun b o e => of_hidT e, Nat.le_of_eq (hidT_size _ _), trivial, fun b hb => absurd (show b ∈ ([] : List Addr) from hb) (by simp), hok, .of_eq hg⟩
    refine codeAny_mono ((F _ hKb (nsK hns)).run callerA [] s₁ H ⟨[.ref a], []⟩ [.ref a] [.ref a] _ _ hr e0 (hbind s₁ (.ref a)) (.cons rfl .nil) (hsp H hO hS)) fun r s' h => ?_
    cases r with
    | error e => exact (hCX H e s' h).elim
    | ok fl =>
      cases fl with
      | next => exact False.elim h
      | brk => exact False.elim h
      | cont => exact False.elim h
      | ret u =>
        obtain ⟨v, H', os, bare, un, hok', r', q⟩ := h
        have q' : v = .bl true := q
        subst q'
        obtain rfl : u = Value.bool true := r'
        refine ⟨rfl, OldK.of_keep fun b o e => ?_, os, bare⟩
        cases q : H b with
        | none => exact un.keep b o e q (by intro z; exact absurd (show b ∈ ([] : List Addr) from z) (by simp)) (by simp)
        | some u =>
          rcases hO b with z | ⟨ob, xs, z⟩
          · rw [q] at z; cases z
          · have z2 := un.frzs b ob _ z
            obtain ⟨e1, _⟩ := hok b _ z
            obtain ⟨e2, _⟩ := hok' b _ z2
            rw [e] at e1; cases e1
            exact e2
  cases hk : K.lookup a with
  | some o =>
    have e := KX a o hk
    rw [ha] at e
    cases e
    refine core (fun _ => none) (fun _ => .inl rfl) (.inr ⟨_, vs.toArray, _, hk, rfl, rfl, rfl, by rw [List.size_toArray, lenV]; exact hl, by simpa using rv⟩) (fun b u z => by have z' : (none : Option HO) = some u := z; cases z') (fun b z => absurd rfl z) fun z => absurd rfl z
  | none =>
    refine core (fun b => if b = a then some (.frz { cls := .type "list", data := .seq vs.toArray } (.lst (ns.map V.int))) else none) (fun b => ?_) (.inl (.inr ⟨{ cls := .type "list", data := .seq vs.toArray }, if_pos rfl⟩)) (fun b u z => ?_) (fun b z => ?_) fun _ => hk
    · by_cases hb : b = a
      · exact .inr ⟨_, _, if_pos hb⟩
      · exact .inl (if_neg hb)
    · by_cases hb : b = a
      · have z' := (if_pos hb).symm.trans z
        cases z'
        subst hb
        exact ⟨ha, by rw [List.length_map]; exact hl, vs, _, rv, ha⟩
      · have z' := (if_neg hb).symm.trans z
        cases z'
    · by_cases hb : b = a
      · exact hb
      · exact absurd (if_neg hb) z
end L2
namespace L2
open PySem PySem.Spec PyProof.Rows
abbrev KOf {K : PySem.W.Frag} {h : Heap} (_ : K.In h) : PySem.W.Frag := K
theorem walk_of {l : PySem.W.OpenLaw} {n k : Nat} {q : Program} {loose : List Str} {XP : (Str → Option Value) → Heap → Prop} {YP : World → Heap → Prop} {d : DefRec} {K : Params → PySem.W.Frag} {CX : World → CXT} {sp : World → Sp} {x : Str}
    (hn : l.most = some n) (hn2 : n ≤ sizeLine) (hdf : d.params.defaults = []) (hr : Room k callerA)
    (hY : ∀ (w : World) (h : Heap), YP w h → (K w.params).In h)
    (F : ∀ (w : World) (mg : Str → Option Value) (fa : Addr) (h : Heap), (K w.params).In h → h.Ns mainGlobals mg → mg d.name = some (.ref fa) →
      ∃ fd : FuncData, (∀ (s : Shared) (u : Value), BindsTo s fd ⟨[u], []⟩ [(x, u)]) ∧
        ∀ base : Heap, (K w.params).In base → base.Ns mainGlobals mg → FnOk l.prog w (K w.params) mg base (CX w) k fa fd [x] (sp w))
    (hsp : ∀ (w : World) (H : Hp) (a : Addr) (ns : List Int), ns.length ≤ n → Only H → SqL (K w.params) H a (ns.map V.int) → sp w [.ref a] H (fun v _ => v = .bl true) fun _ _ _ => False)
    (hCX : ∀ (w : World) (H : Hp) (s : Shared) (e : Value) (s' : Shared), CX w [] H s (fun _ _ _ => False) e s' → False) :
    PySem.W.WalkO q loose XP YP l.row.toRowW d [] (fun f vs => PySem.call f vs) := by
  refine Att.attach_call hn hdf fun w s₀ s₁ mg mb fa o pm cd doc a vs ns G Y ho hd hcd hmg hobj hints hlen hg => ?_
  have KX := hY w _ Y
  obtain ⟨fd, hb, hF⟩ := F w mg fa _ KX G.T.g hmg
  exact law_call KX G.T.g G.T.b G.T.builtins G.T.nolimit hg hobj hints (Nat.le_trans hlen hn2) hr hF hb (fun H hO hS => hsp w H a ns hlen hO hS) fun H e s' => hCX w H s₁ e s'
theorem walk_ofK {l : PySem.W.OpenLaw} {n k : Nat} {q : Program} {loose : List Str} {XP : (Str → Option Value) → Heap → Prop} {YP : World → Heap → Prop} {d : DefRec} {K : Params → PySem.W.Frag} {CX : CXT} {sp : PySem.W.Frag → Sp} {x : Str}
    (hn : l.most = some n) (hn2 : n ≤ sizeLine) (hdf : d.params.defaults = []) (hr : Room k callerA)
    (hY : ∀ (w : World) (h : Heap), YP w h → (K w.params).In h)
    (F : ∀ (w : World) (mg : Str → Option Value) (fa : Addr) (h : Heap), (K w.params).In h → h.Ns mainGlobals mg → mg d.name = some (.ref fa) →
      ∃ fd : FuncData, (∀ (s : Shared) (u : Value), BindsTo s fd ⟨[u], []⟩ [(x, u)]) ∧
        ∀ base : Heap, (K w.params).In base → base.Ns mainGlobals mg → FnOk l.prog w (K w.params) mg base CX k fa fd [x] (sp (K w.params)))
    (hsp : ∀ (K : PySem.W.Frag) (H : Hp) (a : Addr) (ns : List Int), ns.length ≤ n → Only H → SqL K H a (ns.map V.int) → sp K [.ref a] H (fun v _ => v = .bl true) fun _ _ _ => False)
    (hCX : ∀ (H : Hp) (s : Shared) (e : Value) (s' : Shared), CX [] H s (fun _ _ _ => False) e s' → False) :
    PySem.W.WalkO q loose XP YP l.row.toRowW d [] (fun f vs => PySem.call f vs) :=
  walk_of (K := K) (CX := fun _ => CX) (sp := fun w => sp (K w.params)) hn hn2 hdf hr hY F (fun w H a ns h1 h2 h3 => hsp (K w.params) H a ns h1 h2 h3) fun _ H s e s' => hCX H s e s'
end L2
/- THE LAST THEOREM (shape; LID, My.* are yours):
   My.Adr: a structure of the addresses that your layer names (classes, functions); My.Txt K t: a structure (Prop) of the equations over K;
   My.txt_mk : {K} {implicit addresses ..} (e1 : nsIn K mainGlobals "law" = some (some (.ref f))) (e2 : K.lookup f = some ⟨oc, od, .func (fnOf "law" "law" params body scope dV kV doc pm an cdv ct), sl⟩) (e3 : codeIn K cdv "law" = true) .. : ∃ t, My.Txt K t
set_option maxRecDepth 100000 in
set_option maxHeartbeats 0 in
theorem PySem.Challenge.cw_LID_holds : PySem.Challenge.rw_LID.Holds := by
  w_on; o_law; k_head; (case hw => w_witness2)
  k_fill
  refine L2.walk_of (l := PySem.Challenge.rw_LID) (n := 63) (k := 40) (x := "script") (CX := fun w => ..) (sp := fun _ => My.sp_law) rfl (by decide) rfl ⟨rfl, by decide, by decide⟩ (fun w h Y => PySem.W.kIn_of Y) ?F ?S ?C
  case F =>
    intro w mg fa h KX G hmg
    have T : ∃ t, My.Txt (L2.KOf KX) t := by
      dsimp only [L2.KOf]                          -- K must stand as «<heap const> w.params» for k_is
      refine' My.txt_mk ?e1 ?e2 ?e3 ..
      (case e1 => PySem.W.k_is)                    -- in the order: a name -> its address -> its object -> its parts
      (case e2 => PySem.W.k_is)
      ..
    obtain ⟨t, T⟩ := T
    have e0 := hmg.symm.trans (PySem.W.mg_of KX G T.law)
    cases e0                                       -- fa is the law's own address
    exact ⟨_, fun s u => .of_eq rfl, fun base kb nb => My.law_fn T kb nb⟩     -- if «.of_eq rfl» comes too early: refine' ⟨_, ?b, fun base kb nb => My.law_fn T kb nb⟩; exact fun s u => .of_eq rfl
  case S => exact fun w H a ns hl hO hS => ..
  case C => exact ..
(the tactic k_is has no namespace: write k_is) -/
namespace L2
open PySem PySem.Spec PyProof.Rows
def inClass (s : Stmt) (j : Nat) : Stmt := match s with
  | .ClassDef _ _ _ body _ _ _ _ _ _ _ => body.getD j (.Pass ⟨0, 0, 0, 0⟩)
  | _ => .Pass ⟨0, 0, 0, 0⟩
def defArgs (s : Stmt) : Arguments := match s with
  | .FunctionDef _ a _ _ _ _ _ _ _ _ => a
  | _ => { posonlyargs := [], args := [], vararg := none, kwonlyargs := [], kw_defaults := [], kwarg := none, defaults := [] }
def defBody (s : Stmt) : List Stmt := match s with
  | .FunctionDef _ _ b _ _ _ _ _ _ _ => b
  | _ => []
def defScope (s : Stmt) : Scope := match s with
  | .FunctionDef _ _ _ _ _ _ sc _ _ _ => sc
  | _ => { kind := .function, names := [], isGenerator := false, isCoroutine := false }
abbrev CX0 : CXT := fun _ _ _ _ _ _ => False
abbrev E0 : XK := fun _ _ _ => False
theorem pass0 {X : Cx} : Passes CX0 X E0 := fun _ _ _ _ _ _ _ h => h.elim
structure Fun (K : PySem.W.Frag) (x qual : Str) (st : Stmt) (f : Addr) (fd : FuncData) : Prop where
  ex : ∃ (oc : Value) (od : Option Addr) (kV doc pm : Value) (an : Option Addr) (cdv ct : Value) (osl : Array (Option Value)),
    fd = PySem.W.fnOf x qual (defArgs st) (defBody st) (defScope st) .none kV doc pm an cdv ct ∧ K.lookup f = some ⟨oc, od, .func fd, osl⟩ ∧ PySem.W.codeIn K cdv qual = true
  kp : PySem.W.keepIn K (.ref f) = true
section
variable {P : Program} {w : World} {K : PySem.W.Frag} {mg : Str → Option Value} {base : Heap}
theorem Fun.ok {x qual : Str} {st : Stmt} {f : Addr} {fd : FuncData} {N ps : List Str} {k : Nat} {sp : Sp} (F : Fun K x qual st f fd) (S : FnScope N ps (defScope st)) (len : ∀ vs H Q E, sp vs H Q E → vs.length = ps.length)
    (hbody : ∀ (cdv : Value) (A : Around) (outer : List Env) (s : Shared) (H : Hp) (vs : List V) (Q : VK) (E : XK), Room k (A.deeper (envOfC qual (defScope st) s.heap.objs.size f cdv)) → sp vs H Q E →
      ∃ t, PSs (cxOf CX0 P w K mg base N qual (defScope st) f cdv A outer s H E).nox (defBody st) t ∧ t { nx := fun _ H' => Q .non H', rt := Q } (start N vs) H) : FnOk P w K mg base CX0 (k + 1) f fd ps sp := by
  obtain ⟨oc, od, kV, doc, pm, an, cdv, ct, osl, rfl, lk, hcd⟩ := F.ex
  refine fn_of lk hcd S len fun A outer s H vs Q E hr hsp => ?_
  obtain ⟨t, h, q⟩ := hbody cdv A outer s H vs Q E hr hsp
  exact ⟨t, h.nox, q⟩
theorem Fun.binds {x qual : Str} {st : Stmt} {f : Addr} {fd : FuncData} {ps : List Str} (F : Fun K x qual st f fd)
    (h : ∀ (kV doc pm : Value) (an : Option Addr) (cdv ct : Value) (us : List Value), us.length = ps.length → bindArgs (PySem.W.fnOf x qual (defArgs st) (defBody st) (defScope st) .none kV doc pm an cdv ct) ⟨us, []⟩ = pure (ps.zip us)) : Binds K fd ps [] := by
  obtain ⟨oc, od, kV, doc, pm, an, cdv, ct, osl, rfl, lk, hcd⟩ := F.ex
  exact .all (h kV doc pm an cdv ct)
theorem fun_mk {x qual : Str} {st : Stmt} {f : Addr} {oc : Value} {od an : Option Addr} {osl : Array (Option Value)} {kV doc pm cdv ct : Value} (l : K.lookup f = some ⟨oc, od, .func (PySem.W.fnOf x qual (defArgs st) (defBody st) (defScope st) .none kV doc pm an cdv ct), osl⟩)
    (c : PySem.W.codeIn K cdv qual = true) (k : PySem.W.keepIn K (.ref f) = true) : Fun K x qual st f (PySem.W.fnOf x qual (defArgs st) (defBody st) (defScope st) .none kV doc pm an cdv ct) := ⟨⟨oc, od, kV, doc, pm, an, cdv, ct, osl, rfl, l, c⟩, k⟩
end
theorem small1000 {n : Nat} (h : n ≤ 1000) : n < sizeLine := Nat.lt_of_le_of_lt h (by decide)
section
variable {X : Cx}
theorem pv (i : Nat) {x : Str} {pos : Pos} (hN : X.N[i]? = some x := by rfl) (hv : Vis X.env.scope x := by first | exact Or.inl rfl | exact Or.inr (Or.inl rfl) | exact Or.inr (Or.inr rfl)) (hd : (x == ("__debug__" : Str)) = false := by decide)
    (hcd : (x == ("__classdict__" : Str)) = false := by decide) : PE X (.Name x pos) (tVar i) := pe_var hN hv hd hcd
end
theorem ite2 {c A B : Prop} [Decidable c] (h1 : c → A) (h2 : ¬ c → B) : if c then A else B := by
  by_cases h : c
  · rw [if_pos h]
    exact h1 h
  · rw [if_neg h]
    exact h2 h
def Same (H H' : Hp) : Prop := ∀ b o, H b = some o → H' b = some o
theorem Same.refl (H : Hp) : Same H H := fun _ _ h => h
theorem Same.trans {H H1 H2 : Hp} (a : Same H H1) (b : Same H1 H2) : Same H H2 := fun c o h => b c o (a c o h)
theorem Same.free {H H' : Hp} (e : Same H H') {l : Addr} (h : H' l = Option.none) : H l = Option.none := by
  cases q : H l with
  | none => rfl
  | some o =>
    rw [e l o q] at h
    cases h
theorem Same.seq {K : PySem.W.Frag} {H H' : Hp} {a : Addr} {xs : List V} (e : Same H H') (h : SqL K H a xs) : SqL K H' a xs := by
  rcases h with (h | ⟨o, h⟩) | h
  · exact .inl (.inl (e _ _ h))
  · exact .inl (.inr ⟨o, e _ _ h⟩)
  · exact .inr h
end L2
namespace L2
open PySem PySem.Spec PyProof.Rows
section
variable {X : Cx}
end
section
variable {κ : Type} [DecidableEq κ]
theorem valV_not {kvs : List (κ × V)} {k : κ} (h : valV kvs k = none) : ¬ k ∈ kvs.map (·.1) := by
  intro m
  obtain ⟨p, hp, e⟩ := List.mem_map.mp m
  have q : (kvs.any fun kv => decide (kv.1 = k)) = true := List.any_eq_true.mpr ⟨p, hp, decide_eq_true e⟩
  rw [valV_any, h] at q
  exact absurd q (by simp)
end
end L2
set_option Elab.async false
set_option linter.all false
set_option maxRecDepth 100000
set_option maxHeartbeats 4000000
namespace L2
open PySem PySem.Spec PyProof.Rows
def clGo (cells : List (Str × Addr)) : List (Str × NameKind) → List (Str × Addr) → List (Str × Addr)
  | [], acc => acc
  | (n, k) :: r, acc => clGo cells r (if k == .free then (n, (cells.lookup n).getD 0) :: acc else acc)
theorem clGo_sound {cells : List (Str × Addr)} : ∀ {names : List (Str × NameKind)} {acc : List (Str × Addr)}, (∀ y ∈ names, y.2 = .free → ∃ c, cells.lookup y.1 = some c) → (∀ y c, acc.lookup y = some c → cells.lookup y = some c) →
    ∀ y c, (clGo cells names acc).lookup y = some c → cells.lookup y = some c
  | [], acc, _, h, y, c, e => h y c e
  | (n, k) :: r, acc, hf, h, y, c, e => by
    refine clGo_sound (names := r) (fun z hz => hf z (List.mem_cons_of_mem _ hz)) ?_ y c e
    intro z d q
    by_cases hk : (k == NameKind.free) = true
    · rw [if_pos hk, List.lookup_cons] at q
      obtain ⟨c', hc'⟩ := hf (n, k) List.mem_cons_self (by simpa using hk)
      cases hz : z == n with
      | true =>
        rw [hz] at q
        have hc' : cells.lookup n = some c' := hc'
        have q : some ((cells.lookup n).getD 0) = some d := q
        have : z = n := by simpa using hz
        rw [this, hc']
        rw [hc'] at q
        exact q
      | false =>
        rw [hz] at q
        exact h z d q
    · rw [if_neg hk] at q
      exact h z d q
theorem clGo_has {cells : List (Str × Addr)} : ∀ {names : List (Str × NameKind)} {acc : List (Str × Addr)} {y : Str}, ((y, NameKind.free) ∈ names ∨ ∃ c, acc.lookup y = some c) → ∃ c, (clGo cells names acc).lookup y = some c
  | [], acc, y, h => by
    rcases h with h | h
    · exact absurd h (by simp)
    · exact h
  | (n, k) :: r, acc, y, h => by
    refine clGo_has (names := r) ?_
    rcases h with h | ⟨c, h⟩
    · rcases List.mem_cons.mp h with e | h
      · right
        cases e
        refine ⟨(cells.lookup n).getD 0, ?_⟩
        rw [if_pos (by rfl), List.lookup_cons]
        simp
      · exact .inl h
    · right
      by_cases hk : (k == NameKind.free) = true
      · rw [if_pos hk, List.lookup_cons]
        cases y == n with
        | true => exact ⟨_, rfl⟩
        | false => exact ⟨c, h⟩
      · rw [if_neg hk]
        exact ⟨c, h⟩
theorem closureFor_is {scope : Scope} {env : Env} (h : ∀ y ∈ scope.names, y.2 = .free → ∃ c, env.cells.lookup y.1 = some c) : closureFor scope env = pure (clGo env.cells scope.names []) := by
  have go : ∀ (names : List (Str × NameKind)) (acc : List (Str × Addr)), (∀ y ∈ names, y.2 = .free → ∃ c, env.cells.lookup y.1 = some c) →
      (forIn names acc fun (x : Str × NameKind) r => (if (x.2 == NameKind.free) = true then cellOf env x.1 >>= fun c => pure (ForInStep.yield ((x.1, c) :: r)) else pure (ForInStep.yield r) : Sem (ForInStep (List (Str × Addr))))) = pure (clGo env.cells names acc) := by
    intro names
    induction names with
    | nil => intro acc _; rfl
    | cons x r ih =>
      intro acc hf
      obtain ⟨n, k⟩ := x
      rw [List.forIn_cons]
      dsimp only
      by_cases hk : (k == NameKind.free) = true
      · obtain ⟨c, hc⟩ := hf (n, k) List.mem_cons_self (by simpa using hk)
        have hc : env.cells.lookup n = some c := hc
        have ec : cellOf env n = pure c := by unfold cellOf; rw [hc]
        rw [if_pos hk, ec]
        have := ih ((n, c) :: acc) fun y hy => hf y (List.mem_cons_of_mem _ hy)
        unfold clGo
        rw [if_pos hk, hc]
        exact this
      · rw [if_neg hk]
        have := ih acc fun y hy => hf y (List.mem_cons_of_mem _ hy)
        unfold clGo
        rw [if_neg hk]
        exact this
  have := go scope.names [] h
  unfold closureFor
  first
    | exact this
    | (rw [← this]; rfl)
    | (simp only [bind_pure]; exact this)
def blockCx (X : Cx) (scope : Scope) (Nc : List Str) (C : Addr) (s₀ : Shared) (H₀ : Hp) (fp : List Addr) : Cx :=
  { X with N := Nc, s₀ := s₀, H₀ := H₀, env := compEnvC scope (clGo X.env.cells scope.names []) C X.env, outer := X.stack, ex := fp, fn := fun _ => false, pn := [], xe := fun _ _ => False }
structure Block (sc out : Scope) (N : List Str) (x : Str) (frees : List Str) (ix : List Nat) : Prop where
  kind : sc.kind = .function
  outk : out.kind = .function
  len : frees.length = ix.length
  at' : ∀ (j : Nat) (y : Str), frees[j]? = some y → ∃ i : Nat, ix[j]? = some i ∧ N[i]? = some y ∧ out.names.lookup y = some .cell ∧ sc.names.lookup y = some .free
  loc : sc.names.lookup x = some .local
  nocell : ∀ y ∈ sc.names, y.2 ≠ .cell
  locals : ∀ y ∈ sc.names, y.2 = .local → sc.names.lookup y.1 = some .local
  free : ∀ y ∈ sc.names, y.2 = .free → out.names.lookup y.1 = some .cell
  nd : (x :: frees).Nodup
def slots (σ : St) (ix : List Nat) : St := ix.map fun i => (σ[i]?).join
def tAll : List TT → TT
  | [] => fun _ H Q => Q true H
  | t :: r => fun σ H Q => t σ H fun b H1 => if b = true then tAll r σ H1 Q else Q false H1
def tComp (wi : TI) (ix : List Nat) (tc : TT) (te : TE) : TE := fun σ H Q => wi σ H fun J H1 => ∀ acc, H1 acc = none → ∃ W : Nat → Nat → Hp → Prop, (∃ m, W 0 m (upd H1 acc (.lst []))) ∧ ∀ i m H2, W i m H2 →
  (J.stop i H2 ∧ Q (.ref acc) H2) ∨ (J.go i H2 ∧ ∀ x H3, J.yld i H2 x H3 → tc (some x :: slots σ ix) H3 fun b H4 => if b = true then te (some x :: slots σ ix) H4 fun y H5 => ∃ ys, H5 acc = some (.lst ys) ∧ ys.length < sizeLine ∧
    ∃ m', m' < m ∧ W (i + 1) m' (upd H5 acc (.lst (ys ++ [y]))) else ∃ m', m' < m ∧ W (i + 1) m' H4)
theorem lookup_relabel_free {env : Env} (hk : env.scope.kind = .function) : ∀ {names : List (Str × NameKind)} {y : Str}, names.lookup y = some .free → env.kindOf y = some .cell →
    (names.map fun (n, k) => if (k == NameKind.free && env.scope.kind == .function && env.kindOf n == some .cell) then (n, NameKind.cell) else (n, k)).lookup y = some .cell
  | [], _, h, _ => by simp at h
  | (n, k) :: r, y, h, hc => by
    show List.lookup y ((if (k == NameKind.free && env.scope.kind == .function && env.kindOf n == some .cell) = true then (n, NameKind.cell) else (n, k)) :: _) = _
    cases hy : y == n with
    | true =>
      simp only [List.lookup_cons, hy] at h
      have hk' : k = .free := Option.some.inj h
      have : y = n := by simpa using hy
      subst this
      rw [if_pos (by rw [hk', hk, hc]; rfl)]
      simp [List.lookup_cons]
    | false =>
      simp only [List.lookup_cons, hy] at h
      have ih := lookup_relabel_free hk h hc
      split
      · simp only [List.lookup_cons, hy]; exact ih
      · simp only [List.lookup_cons, hy]; exact ih
theorem compLoop_any {prog : Program} {w : World} {A : Around} {R : Result → Shared → Prop} {s : Shared} {elt target iter : Expr} {ifs : List Expr} {scope : Scope} {pos : Pos} {it acc : Value} {env : Env} (I : Nat → Shared → Prop)
    (turn : ∀ n s, I n s → wpAny (model prog w) A (pyNext it) (fun r s₁ => match r with
      | none => R (.ok .next) s₁
      | some v => wpAny (model prog w) A (letOwnedTupleGo target it v) (fun _ s₁ => wpAny (model prog w) A (assign target env v) (fun _ s₂ =>
          wpAny (model prog w) A (forIn ifs true fun c r => if r = true then do let ok ← isTrue c env (eval c env); pure (ForInStep.yield ok) else pure (ForInStep.yield r)) (fun ok s₃ =>
            if ok = true then wpAny (model prog w) A (eval elt env) (fun x s₄ =>
              wpAny (model prog w) A (call (.builtin "list.append") [acc, x]) (fun _ s₅ => ∃ m, m < n ∧ I m s₅) (notedBy (model prog w) A env fun e s' => R (.error e) s') s₄) (notedBy (model prog w) A env fun e s' => R (.error e) s') s₃
            else ∃ m, m < n ∧ I m s₃) (notedBy (model prog w) A env fun e s' => R (.error e) s') s₂) (notedBy (model prog w) A env fun e s' => R (.error e) s') s₁) (notedBy (model prog w) A env fun e s' => R (.error e) s') s₁) (notedBy (model prog w) A env fun e s' => R (.error e) s') s)
    (n : Nat) (h : I n s) : codeAny (model prog w) A (.compLoop (.ListComp elt [⟨target, iter, ifs, 0⟩] scope pos) 0 it acc env) R s := by
  refine codeAny_loop rfl I (fun n s hI => ?_) n h
  show wpAny _ A ((compTurn (.ListComp elt [⟨target, iter, ifs, 0⟩] scope pos) 0 it acc env).onRaise (fun x => do noteFrame x env; theTreesLotGoes x)) _ _ s
  refine wpAny_noted ?_
  rw [compTurn_list]
  refine wpAny_bind (wpAny_standAt (wpAny_bind (wpAny_mono (turn n s hI) (fun r s₁ h₁ => ?_) fun _ _ h' => h')))
  cases r with
  | none => exact wpAny_pure h₁
  | some v =>
    refine wpAny_bind (wpAny_mono h₁ (fun _ s₁' h₁' => ?_) fun _ _ h' => h')
    refine wpAny_bind (wpAny_mono h₁' (fun _ s₂ h₂ => wpAny_bind (wpAny_mono h₂ (fun ok s₃ h₃ => ?_) fun _ _ h' => h')) fun _ _ h' => h')
    cases ok with
    | false => exact wpAny_pure ⟨rfl, h₃⟩
    | true =>
      exact wpAny_bind (wpAny_bind (wpAny_mono h₃ (fun x s₄ h₄ => wpAny_bind (wpAny_mono h₄ (fun _ s₅ h₅ => wpAny_pure (wpAny_pure ⟨rfl, h₅⟩)) fun _ _ h' => h')) fun _ _ h' => h'))
section
variable {X : Cx} {x : Str} {px pos : Pos} {elt iter : Expr} {ifs : List Expr} {scope : Scope} {frees : List Str} {ix : List Nat} {wi : TI} {tc : TT} {te : TE}
def PTs (X : Cx) (ifs : List Expr) (t : TT) : Prop :=
  ∀ (pins : List (Addr × Obj)) (s : Shared) (σ : St) (H : Hp) (Q : Bool → Hp → Prop), Inv X pins σ H s → t σ H Q →
    wpAny (model X.prog X.w) X.A (forIn ifs true fun c r => if r = true then do let ok ← isTrue c X.env (eval c X.env); pure (ForInStep.yield ok) else pure (ForInStep.yield r)) (TP X pins σ Q) X.xe s
def tYes : TT := fun _ H Q => Q true H
theorem pts_nil : PTs X [] tYes := fun pins s σ H Q I h => wpAny_pure ⟨H, I, h⟩
structure Apart (X : Cx) (pins : List (Addr × Obj)) (H : Hp) (C : Addr) : Prop where
  none : H C = none
  loc : C ≠ X.env.locals
  new : X.s₀.heap.objs.size ≤ C
  cell : ∀ x c, X.env.cells.lookup x = some c → c ≠ C
  pin : ∀ p ∈ X.pn ++ pins, p.1 ≠ C
theorem Inv.apart {pins : List (Addr × Obj)} {σ : St} {H H' : Hp} {s : Shared} {C : Addr} (I : Inv X pins σ H s) (h : s.heap.objs.size ≤ C) (n : H' C = none) : Apart X pins H' C := by
  have f := I.fpOk h n
  exact ⟨f.1, f.2.1, Nat.le_trans I.sz h, f.2.2.2.2.1, f.2.2.2.2.2⟩
theorem comp_run {pins : List (Addr × Obj)} {s₂ : Shared} {σ : St} {H₁ : Hp} {it : Addr} {fp : List Addr} {tn : Nat → Heap → Prop} {J : It} {RR : Value → Addr → Result → Shared → Prop} {E : Value → Shared → Prop} {KK : Addr → Hp → Prop}
    (B : Block scope X.env.scope X.N x frees ix) (hc : X.calm = true) (ht : ∀ C s₀ H₀ fp, PTs (blockCx X scope (x :: frees) C s₀ H₀ fp) ifs tc) (he : ∀ C s₀ H₀ fp, PE (blockCx X scope (x :: frees) C s₀ H₀ fp) elt te)
    (I₂ : Inv X pins σ H₁ s₂) (T : Turn X.prog X.w X.K (.Name x px) J fp it tn) (st₂ : tn 0 s₂.heap) (f₂ : ∀ b ∈ fp, FpOk X pins H₁ b)
    (q : ∀ acc, H₁ acc = none → ∃ W : Nat → Nat → Hp → Prop, (∃ m, W 0 m (upd H₁ acc (.lst []))) ∧ ∀ i m H2, W i m H2 →
      (J.stop i H2 ∧ KK acc H2) ∨ (J.go i H2 ∧ ∀ y H3, J.yld i H2 y H3 → tc (some y :: slots σ ix) H3 fun b H4 => if b = true then te (some y :: slots σ ix) H4 fun z H5 => ∃ ys, H5 acc = some (.lst ys) ∧ ys.length < sizeLine ∧
        ∃ m', m' < m ∧ W (i + 1) m' (upd H5 acc (.lst (ys ++ [z]))) else ∃ m', m' < m ∧ W (i + 1) m' H4))
    (hRR : ∀ acc C s' H', Inv X pins σ H' s' → KK acc H' → (∃ m, s'.heap.Ns C m) → Apart X pins H' C → RR (.ref acc) C (.ok .next) s') :
    wpAny (model X.prog X.w) X.A (newList []) (fun acc s₃ => wpAny (model X.prog X.w) X.A (newFunctionEnv scope X.env.globals (clGo X.env.cells scope.names []) [] X.env.qual none .none (some X.env)) (fun cenv s₄ =>
      codeAny (model X.prog X.w) X.A (.compStart (.ListComp elt [⟨.Name x px, iter, ifs, 0⟩] scope pos) 0 (.ref it) acc { cenv with scope := relabel scope X.env }) (RR acc cenv.locals) s₄) E s₃) E s₂ := by
  have frs_ok : ∀ y ∈ scope.names, y.2 = .free → ∃ c, X.env.cells.lookup y.1 = some c := fun y hy hk => I₂.ok.has y.1 (.inl (B.free y hy hk))
  have sound : ∀ y c, (clGo X.env.cells scope.names []).lookup y = some c → X.env.cells.lookup y = some c := clGo_sound frs_ok fun y c h => by simp at h
  refine wpAny_newObj_type ?_
  have hacc : H₁ s₂.heap.objs.size = none := I₂.hok.fresh (Nat.le_refl _)
  obtain ⟨W, ⟨m0, w0⟩, turn⟩ := q _ hacc
  have I₃ : Inv X pins σ (upd H₁ s₂.heap.objs.size (.lst [])) { s₂ with heap := s₂.heap.push { cls := .type "list", data := .seq ([] : List Value).toArray } } :=
    I₂.laid (t' := s₂.toks) (fun b u e => Heap.get?_push_of_some _ e) (Nat.le_refl _) ⟨Nat.zero_le _, [], 0, .nil, Heap.get?_push_size _ rfl⟩
  have f₃ : ∀ b ∈ fp, FpOk X pins (upd H₁ s₂.heap.objs.size (.lst [])) b := fun b hb => by
    obtain ⟨o, ho, _⟩ := T.obj 0 _ st₂ b hb
    have := f₂ b hb
    exact ⟨by rw [upd_ne (Nat.ne_of_lt (Heap.lt_size ho))]; exact this.1, this.2⟩
  have st₃ : tn 0 (s₂.heap.push { cls := .type "list", data := .seq ([] : List Value).toArray }) := T.keep 0 _ _ st₂ fun b hb o e => Heap.get?_push_of_some _ e
  generalize hs3 : ({ s₂ with heap := s₂.heap.push { cls := .type "list", data := .seq ([] : List Value).toArray } } : Shared) = s₃ at I₃
  have st₃ : tn 0 s₃.heap := by rw [← hs3]; exact st₃
  generalize s₂.heap.objs.size = acc at *
  show wpAny _ _ _ _ _ s₃
  generalize upd H₁ acc (.lst []) = H₃ at *
  refine wpAny_newFunctionEnv B.nocell (by intro y hy; simp at hy) (fun h₄ ns₄ sb₄ => ?_) B.kind
  try dsimp only at ns₄ sb₄ ⊢
  have keep₄ : ∀ b o, s₃.heap.get? b = some o → h₄.get? b = some o := fun b o e => (sb₄.2 b (Nat.ne_of_lt (Heap.lt_size e))).trans (Heap.get?_push_of_some _ e)
  have st₄ : tn 0 h₄ := T.keep 0 _ _ st₃ fun b hb o e => keep₄ b o e
  have freshC : H₃ s₃.heap.objs.size = none := I₃.hok.fresh (Nat.le_refl _)
  have objs : ∀ b ∈ fp, b < s₃.heap.objs.size := fun b hb => by
    obtain ⟨o, ho, _⟩ := T.obj 0 _ st₃ b hb
    exact Heap.lt_size ho
  have stk : ∀ b ∈ fp, b ∉ frs X.stack := fun b hb z => by
    have f := f₃ b hb
    rcases List.mem_cons.mp (I₃.stkSub b z) with e | e
    · exact f.2.1 e
    · exact f.2.2.1 e
  have Ok : (blockCx X scope (x :: frees) s₃.heap.objs.size s₃ H₃ fp).Ok := by
    refine ⟨I₃.ok.mod, B.kind, I₃.ok.glob, I₃.ok.blt, Nat.le_refl _, fun y z c h1 h2 => I₃.ok.inj y z c (sound y c h1) (sound z c h2), fun y hy => ?_, fun y c h => (nomatch h), I₃.ok.hd, I₃.ok.frames, .inl rfl,
      fun b hb => ⟨Nat.ne_of_lt (objs b hb), fun y c h => (f₃ b hb).2.2.2.2.1 y c (sound y c h)⟩, I₃.bs, Nat.le_trans I₃.ok.bsz I₃.sz, fun b o e hb => ?_, stk, I₃.stack, I₃.stkFree⟩
    · have hy : (relabel scope X.env).names.lookup y = some .cell ∨ (relabel scope X.env).names.lookup y = some .free := hy
      refine clGo_has (.inl ?_)
      have mem : ∃ k, (k = .cell ∨ k = .free) ∧ (y, k) ∈ (relabel scope X.env).names := by
        rcases hy with q | q
        · exact ⟨_, .inl rfl, PySem.mem_of_lookup q⟩
        · exact ⟨_, .inr rfl, PySem.mem_of_lookup q⟩
      obtain ⟨k, hk, hm⟩ := mem
      obtain ⟨⟨n, k0⟩, h0, e⟩ := List.mem_map.mp hm
      have nc := B.nocell (n, k0) h0
      dsimp only at e
      split at e
      · rename_i hh
        cases e
        have : (k0 == NameKind.free) = true := by
          cases hq : (k0 == NameKind.free) with
          | true => rfl
          | false => rw [hq] at hh; simp at hh
        have : k0 = .free := by simpa using this
        rw [this] at h0
        exact h0
      · cases e
        rcases hk with hk | hk
        · exact absurd hk nc
        · rw [hk] at h0; exact h0
    · rcases (f₃ b hb).2.2.2.1 with z | z
      · exact I₃.ok.noex b o e z
      · exact absurd (Nat.lt_of_lt_of_le (Heap.lt_size e) (Nat.le_trans I₃.ok.bsz z)) (Nat.lt_irrefl _)
  have Ic : Inv (blockCx X scope (x :: frees) s₃.heap.objs.size s₃ H₃ fp) [] (none :: slots σ ix) H₃ { s₃ with heap := h₄, toks := s₃.toks + ([] : List (Str × Value)).length } := by
    refine ⟨Ok, rfl, I₃.bare, Un.kept keep₄, ⟨_, ns₄, fun i y v e1 e2 e3 => ?_⟩, fun y c h => ?_, freshC, fun y c h => I₃.freeC y c (sound y c h), fun p hp => absurd (show p ∈ ([] : List (Addr × Obj)) from hp) (by simp), I₃.hok.kept keep₄, ?_⟩
    · cases i with
      | zero => cases e2
      | succ j =>
        have e1 : frees[j]? = some y := e1
        have e2 : (slots σ ix)[j]? = some (some v) := e2
        obtain ⟨i, hi, hN, hk, hf⟩ := B.at' j y e1
        have hv : σ[i]? = some (some v) := by
          unfold slots at e2
          rw [List.getElem?_map, hi] at e2
          have e2 : some ((σ[i]?).join) = some (some v) := e2
          have e2 := Option.some.inj e2
          cases q : σ[i]? with
          | none => rw [q] at e2; cases e2
          | some o => rw [q] at e2; exact congrArg some e2
        obtain ⟨m, hn, hl⟩ := I₃.loc
        obtain ⟨u, ru, lu⟩ := hl i y v hN hv (.inr (.inl hk))
        refine ⟨u, ru, .inr ⟨.inl ?_, ?_⟩⟩
        · exact lookup_relabel_free B.outk hf hk
        · rcases lu with ⟨k, _⟩ | ⟨_, c, hc', z⟩
          · exact absurd (show some NameKind.cell = some NameKind.local from hk.symm.trans k) (by decide)
          · obtain ⟨c', hc''⟩ := clGo_has (cells := X.env.cells) (acc := []) (.inl (PySem.mem_of_lookup hf))
            have q := sound y c' hc''
            rw [hc'] at q
            cases q
            obtain ⟨o, ho, hd⟩ := z
            exact ⟨c, hc'', o, keep₄ c o ho, hd⟩
    · obtain ⟨v, o, ho, hd⟩ := I₃.cell y c (sound y c h)
      exact ⟨v, o, keep₄ c o ho, hd⟩
    · show (none :: slots σ ix).length = (x :: frees).length
      rw [List.length_cons, List.length_cons, slots, List.length_map, B.len]
  have fpc : ∀ {H' : Hp} {pl : List (Addr × Obj)}, (∀ p ∈ pl, p.1 ∉ fp) → (∀ b ∈ fp, H' b = none) → ∀ b ∈ fp, FpOk (blockCx X scope (x :: frees) s₃.heap.objs.size s₃ H₃ fp) pl H' b := fun hp hn b hb =>
    ⟨hn b hb, Nat.ne_of_lt (objs b hb), stk b hb, .inl hb, fun y c h => (f₃ b hb).2.2.2.2.1 y c (sound y c h), fun p hpl z => hp p hpl (z ▸ hb)⟩
  have hxl : Loc (blockCx X scope (x :: frees) s₃.heap.objs.size s₃ H₃ fp).env.scope x := .inl (lookup_relabel_local B.loc)
  have loop : codeAny (model X.prog X.w) X.A (.compLoop (.ListComp elt [⟨.Name x px, iter, ifs, 0⟩] scope pos) 0 (.ref it) (.ref acc) (blockCx X scope (x :: frees) s₃.heap.objs.size s₃ H₃ fp).env) (RR (.ref acc) s₃.heap.objs.size)
      { s₃ with heap := h₄, toks := s₃.toks + ([] : List (Str × Value)).length } := by
    refine compLoop_any (fun n s' => ∃ i H', Inv (blockCx X scope (x :: frees) s₃.heap.objs.size s₃ H₃ fp) [] (none :: slots σ ix) H' s' ∧ tn i s'.heap ∧ (∀ b ∈ fp, H' b = none) ∧ W i n H') ?_ m0 ⟨0, H₃, Ic, st₄, fun b hb => (f₃ b hb).1, w0⟩
    rintro n s' ⟨i, H', I', st', fr', w'⟩
    rcases turn i n H' w' with ⟨stop, kk⟩ | ⟨go, step⟩
    · refine thn (T.done (blockCx X scope (x :: frees) s₃.heap.objs.size s₃ H₃ fp) rfl rfl rfl hc i [] s' _ H' _ I' (fpc (by simp) fr') st' stop) fun r s1 ⟨hr, I1⟩ => ?_
      subst hr
      obtain ⟨m, hn, _⟩ := I1.loc
      exact hRR acc _ s1 H' (I₃.call' (ch := fp) I1.os I1.base I1.hok I1.bare fun b hb => ⟨(f₃ b hb).2.2.2.1, (f₃ b hb).2.1, (f₃ b hb).2.2.2.2.1, (f₃ b hb).2.2.2.2.2⟩) kk ⟨m, hn⟩ (I₃.apart (Nat.le_refl _) I1.free)
    · refine thn (T.item (blockCx X scope (x :: frees) s₃.heap.objs.size s₃ H₃ fp) rfl rfl rfl hc i [] s' _ H' _ I' (fpc (by simp) fr') st' go) fun r s1 ⟨u, hr, h1⟩ => ?_
      subst hr
      refine thn h1 fun _ s2 ⟨v, H2, I2, rv, yv, st2, fr2⟩ => ?_
      have I2' := I2.pinned (fpc (by simp) fr2) (T.obj _ _ st2)
      have nofail : ∀ {α : Type} {t : Sem α} {Q : α → Shared → Prop} {E' : Value → Shared → Prop} {s : Shared}, wpAny (model X.prog X.w) X.A t Q (fun _ _ => False) s → wpAny (model X.prog X.w) X.A t Q E' s := fun h => wpAny_mono h (fun _ _ x => x) fun _ _ f => f.elim
      refine wpAny_assign_Name (store_ok (X := blockCx X scope (x :: frees) s₃.heap.objs.size s₃ H₃ fp) (i := 0) I2' B.nd rfl hxl rv (fun s3 I3 => ?_) (.inr (lookup_relabel_local B.loc)))
      refine nofail (thn (ht s₃.heap.objs.size s₃ H₃ fp _ s3 (some v :: slots σ ix) H2 _ I3 (step v H2 yv)) fun b s4 ⟨H4, I4, q4⟩ => ?_)
      have again : ∀ {σ7 : St} {H7 : Hp} {s7 : Shared} {k : Nat}, Inv (blockCx X scope (x :: frees) s₃.heap.objs.size s₃ H₃ fp) ([] ++ pinsAt fp s2.heap) (some v :: slots σ ix) H7 s7 → k < n → W (i + 1) k H7 →
          ∃ m, m < n ∧ ∃ i H', Inv (blockCx X scope (x :: frees) s₃.heap.objs.size s₃ H₃ fp) [] (none :: slots σ ix) H' s7 ∧ tn i s7.heap ∧ (∀ b ∈ fp, H' b = none) ∧ W i m H' := fun {σ7 H7 s7 k} I7 hk w7 => by
        refine ⟨k, hk, i + 1, H7, I7.unpinned.weak rfl (fun j z e => ?_), T.keep _ _ _ st2 fun b hb o e => (I7.pin (b, o) (List.mem_append_right _ (List.mem_append_right _ (mem_pinsAt hb e)))).1, fun b hb => ?_, w7⟩
        · cases j with
          | zero => cases e
          | succ j => exact e
        · obtain ⟨o, e, d⟩ := T.obj _ _ st2 b hb
          exact (I7.pin (b, o) (List.mem_append_right _ (List.mem_append_right _ (mem_pinsAt hb e)))).2.1
      cases b with
      | false =>
        rw [if_neg Bool.false_ne_true] at q4 ⊢
        obtain ⟨m', hm, w4⟩ := q4
        exact again (σ7 := []) I4 hm w4
      | true =>
        rw [if_pos rfl] at q4 ⊢
        refine nofail (thn (he s₃.heap.objs.size s₃ H₃ fp _ s4 (some v :: slots σ ix) H4 _ I4 q4) fun ue s5 ⟨z, H5, I5, r5, ys, hys, hlt, m', hm, w5⟩ => ?_)
        refine nofail (thn (mt_append (X := blockCx X scope (x :: frees) s₃.heap.objs.size s₃ H₃ fp) _ s5 _ H5 (.ref acc) [z] (.ref acc) [ue] (fun _ H6 => H6 = upd H5 acc (.lst (ys ++ [z]))) I5 rfl (.cons r5 .nil) ⟨acc, ys, z, rfl, rfl, hys, hlt, rfl⟩) fun _ s6 ⟨_, H6, I6, _, e6⟩ => ?_)
        subst e6
        exact again (σ7 := []) I6 hm w5
  exact codeAny_compStart_list loop (T.self X.A 0 _ _ _ st₄ loop)
def EnvOk (X : Cx) (scope : Scope) (x : Str) (frees : List Str) (ix : List Nat) : Prop := Block scope X.env.scope X.N x frees ix
theorem pe_comp (B : Block scope X.env.scope X.N x frees ix) (hc : X.calm = true) (hi : PI X (.Name x px) iter wi) (ht : ∀ C s₀ H₀ fp, PTs (blockCx X scope (x :: frees) C s₀ H₀ fp) ifs tc) (he : ∀ C s₀ H₀ fp, PE (blockCx X scope (x :: frees) C s₀ H₀ fp) elt te)
    (hs : ∀ y, foldedSetIterable iter X.env y = pure y := by intro _; rfl) : PE X (.ListComp elt [⟨.Name x px, iter, ifs, 0⟩] scope pos) (tComp wi ix tc te) := by
  intro pins s σ H Q I h
  rw [eval_ListComp]
  refine wpAny_comprehension_free (use := none) rfl hs (closureFor_is fun y hy hk => I.ok.has y.1 (.inl (B.free y hy hk))) B.kind B.locals (thn (hi pins s σ H _ I h) fun v s1 h1 => thn h1 fun itv s2 h2 => ?_)
  obtain ⟨it, fp, tn, J, H2, e, I2, T, st2, f2, q⟩ := h2
  subst e
  refine comp_run (KK := fun acc H' => Q (.ref acc) H') B hc ht he I2 T st2 f2 q fun acc C s' H' I' k hn ap => ?_
  obtain ⟨m, hn⟩ := hn
  exact ⟨m, hn, fun h' sb => ⟨.ref acc, H', I'.turned (it := C) (t' := s'.toks) (fun b o hb e => (sb.2 b hb).trans e) ap.none ap.loc (.inr ap.new) ap.cell ap.pin, rfl, k⟩⟩
end
end L2
set_option Elab.async false
set_option linter.all false
set_option maxRecDepth 100000
set_option maxHeartbeats 4000000
namespace L2
open PySem PySem.Spec PyProof.Rows
structure Callee (P : Program) (w : World) (K : PySem.W.Frag) (mg : Str → Option Value) (base : Heap) (x : Str) (k : Nat) (ps : List Str) (sp : Sp) : Prop where
  ex : ∃ f fd, mg x = some (.ref f) ∧ PySem.W.keepIn K (.ref f) = true ∧ Binds K fd ps [] ∧ FnOk P w K mg base CX0 k f fd ps sp
theorem pe_callC {X : Cx} {x : Str} {k n : Nat} {ps : List Str} {sp : Sp} {e : Expr} {es : List Expr} {t : TA} {p pos : Pos} (C : Callee X.prog X.w X.K X.mg X.base x k ps sp) (hr : Room n X.A) (hk : k ≤ n) (hg : Gl X x) (ha : PA X (e :: es) t)
    (hdb : (x == ("__debug__" : Str)) = false := by decide) (he : starEach (e :: es) X.env = (false, eval e X.env) :: starEach es X.env := by rfl) (hpl : (backTo pos (starEach es X.env)).any (·.1) = false := by rfl) :
    PE X (.Call (.Name x p) (e :: es) [] pos) (tCall sp [] E0 t) := by
  obtain ⟨f, fd, hm, hkp, hb, F⟩ := C.ex
  exact pe_call (F.mono hk) hr hg hm hkp hb .nil pass0 ha hdb he hpl
structure HasDef (K : PySem.W.Frag) (mg : Str → Option Value) (x : Str) (st : Stmt) : Prop where
  ex : ∃ f fd, Fun K x x st f fd ∧ mg x = some (.ref f)
theorem hasDef {K : PySem.W.Frag} {h : Heap} {mg : Str → Option Value} {x : Str} {st : Stmt} {f : Addr} {oc : Value} {od an : Option Addr} {osl : Array (Option Value)} {kV doc pm cdv ct : Value} (X : K.In h) (G : h.Ns mainGlobals mg)
    (a : PySem.W.nsIn K mainGlobals x = some (some (.ref f))) (l : K.lookup f = some ⟨oc, od, .func (PySem.W.fnOf x x (defArgs st) (defBody st) (defScope st) .none kV doc pm an cdv ct), osl⟩)
    (c : PySem.W.codeIn K cdv x = true) (k : PySem.W.keepIn K (.ref f) = true) : HasDef K mg x st := ⟨f, _, fun_mk l c k, PySem.W.mg_of X G a⟩
theorem HasDef.ok {P : Program} {w : World} {K : PySem.W.Frag} {mg : Str → Option Value} {base : Heap} {x : Str} {st : Stmt} {N ps : List Str} {n : Nat} {sp : Sp} (D : HasDef K mg x st) (S : FnScope N ps (defScope st))
    (hb : ∀ (kV doc pm : Value) (an : Option Addr) (cdv ct : Value) (us : List Value), us.length = ps.length → bindArgs (PySem.W.fnOf x x (defArgs st) (defBody st) (defScope st) .none kV doc pm an cdv ct) ⟨us, []⟩ = pure (ps.zip us))
    (len : ∀ vs H Q E, sp vs H Q E → vs.length = ps.length)
    (hbody : ∀ (f : Addr) (cdv : Value) (A : Around) (outer : List Env) (s : Shared) (H : Hp) (vs : List V) (Q : VK) (E : XK), Room n (A.deeper (envOfC x (defScope st) s.heap.objs.size f cdv)) → sp vs H Q E →
      ∃ t, PSs (cxOf CX0 P w K mg base N x (defScope st) f cdv A outer s H E).nox (defBody st) t ∧ t { nx := fun _ H' => Q .non H', rt := Q } (start N vs) H) : Callee P w K mg base x (n + 1) ps sp := by
  obtain ⟨f, fd, F, hm⟩ := D.ex
  exact ⟨f, fd, hm, F.kp, F.binds hb, F.ok S len fun cdv A outer s H vs Q E hr h => hbody f cdv A outer s H vs Q E hr h⟩
theorem Callee.imp {P : Program} {w : World} {K : PySem.W.Frag} {mg : Str → Option Value} {base : Heap} {x : Str} {k : Nat} {ps : List Str} {sp sp' : Sp} (C : Callee P w K mg base x k ps sp) (h : ∀ vs H Q E, sp' vs H Q E → sp vs H Q E) : Callee P w K mg base x k ps sp' := by
  obtain ⟨f, fd, hm, hkp, hb, F⟩ := C.ex
  exact ⟨f, fd, hm, hkp, hb, F.imp h⟩
theorem call_isi {X : Cx} : CallR X (.builtin "isinstance") (fun xs H Q => ∃ x T t b, xs = [x, .ty T] ∧ TyOf X.K H x t ∧ PySem.W.kitOne X.K t (.type T) = some b ∧ Q (.bl b) H) := by
  intro pins s σ H xs us Q I r h
  obtain ⟨x, T, t, b, rfl, ty, e, q⟩ := h
  obtain ⟨u, v, rfl, ru, rv⟩ := vals2 r
  cases rv
  exact isinst_ok I ru ty e fun tk => ⟨.bl b, H, I.tok tk, rfl, q⟩
def GInt (mg : Str → Option Value) (x : Str) (n : Int) : Prop := ∃ t, mg x = some (.int n t)
def GTup (K : PySem.W.Frag) (mg : Str → Option Value) (x : Str) (xs : List V) : Prop := ∃ a, mg x = some (.ref a) ∧ ∀ H : Hp, SqT K H a xs
theorem pe_globI {X : Cx} {x : Str} {n : Int} {pos : Pos} (h : GInt X.mg x n) (hg : Gl X x := by rfl) (hd : (x == ("__debug__" : Str)) = false := by decide) : PE X (.Name x pos) (tC (.int n)) := by
  obtain ⟨t, hm⟩ := h
  exact pe_glob hg hm ⟨t, rfl⟩ hd
def tGT (K : PySem.W.Frag) (xs : List V) : TE := fun _ H Q => ∀ a, (∀ H, SqT K H a xs) → Q (.ref a) H
theorem glob_int {K : PySem.W.Frag} {h : Heap} {mg : Str → Option Value} {x : Str} {n : Int} {t : Tok} (X : K.In h) (G : h.Ns mainGlobals mg) (a : PySem.W.nsIn K mainGlobals x = some (some (.int n t))) : GInt mg x n := ⟨t, PySem.W.mg_of X G a⟩
def spLaw (K : PySem.W.Frag) : Sp := fun vs H Q _ => ∃ (a : Addr) (ns : List Int), vs = [.ref a] ∧ SqL K H a (ns.map V.int) ∧ ns.length ≤ 63 ∧ ∀ H', Q (.bl true) H'
def cell (ns : List Int) (k : Nat) : Int := ns.getD k 0
def spCell (K : PySem.W.Frag) : Sp := fun vs H Q _ => ∃ (a : Addr) (ns : List Int) (k : Nat), vs = [.ref a, .int k] ∧ SqL K H a (ns.map V.int) ∧ Q (.int (cell ns k)) H
theorem law_walk {l : PySem.W.OpenLaw} {q : Program} {loose : List Str} {XP : (Str → Option Value) → Heap → Prop} {YP : World → Heap → Prop} {d : DefRec} {K : Params → PySem.W.Frag} {k : Nat} {st : Stmt} (hr : Room k callerA) (hn : l.most = some 63) (hdf : d.params.defaults = []) (hdn : d.name = "law")
    (hb : ∀ (kV doc pm : Value) (an : Option Addr) (cdv ct : Value) (u : Value), bindArgs (PySem.W.fnOf "law" "law" (defArgs st) (defBody st) (defScope st) .none kV doc pm an cdv ct) ⟨[u], []⟩ = pure [(("script" : Str), u)])
    (hY : ∀ (w : World) (h : Heap), YP w h → (K w.params).In h)
    (F : ∀ (w : World) (mg : Str → Option Value) (h : Heap), (K w.params).In h → h.Ns mainGlobals mg → HasDef (K w.params) mg "law" st ∧
      ∀ (base : Heap) (f : Addr) (fd : FuncData), Fun (K w.params) "law" "law" st f fd → FnOk l.prog w (K w.params) mg base CX0 k f fd ["script"] (spLaw (K w.params))) :
    PySem.W.WalkO q loose XP YP l.row.toRowW d [] (fun f vs => PySem.call f vs) := by
  refine walk_ofK (n := 63) (k := k) (x := "script") (CX := CX0) (sp := spLaw) hn (by decide) hdf hr hY (fun w mg fa h KX G hmg => ?_) (fun K H a ns hl _ hS => ⟨a, ns, rfl, hS, hl, fun _ => rfl⟩) (fun _ _ _ _ z => z)
  obtain ⟨D, ok⟩ := F w mg h KX G
  obtain ⟨f, fd, Fn, hm⟩ := D.ex
  rw [hdn, hm] at hmg
  cases hmg
  refine ⟨fd, fun s u => ?_, fun base _ _ => ok base _ fd Fn⟩
  obtain ⟨oc, od, kV, doc, pm, an, cdv, ct, osl, rfl, lk, hcd⟩ := Fn.ex
  exact .of_eq (hb kV doc pm an cdv ct u)
theorem bt_int : bootBuiltins "int" = some (.type "int") := by decide +kernel
theorem bt_bool : bootBuiltins "bool" = some (.type "bool") := by decide +kernel
theorem bt_str : bootBuiltins "str" = some (.type "str") := by decide +kernel
theorem bt_list : bootBuiltins "list" = some (.type "list") := by decide +kernel
theorem bt_len : bootBuiltins "len" = some (.builtin "len") := by decide +kernel
theorem bt_isinstance : bootBuiltins "isinstance" = some (.builtin "isinstance") := by decide +kernel
section
variable {CX : CXT} {P : Program} {w : World} {K : PySem.W.Frag} {mg : Str → Option Value} {base : Heap} {N : List Str} {qual : Str} {scope : Scope} {f : Addr} {cd : Value} {A : Around} {outer : List Env} {s : Shared} {H : Hp} {E : XK}
theorem cxK : (cxOf CX P w K mg base N qual scope f cd A outer s H E).K = K := rfl
theorem bkK {X : Cx} {Nc : List Str} {C : Addr} {s₀ : Shared} {H₀ : Hp} {fp : List Addr} : (blockCx X scope Nc C s₀ H₀ fp).K = X.K := rfl
theorem noxK {X : Cx} : X.nox.K = X.K := rfl
end
theorem pe_ty {X : Cx} {x : Str} {T : String} {pos : Pos} (hm : X.mg x = none) (hv : bootBuiltins x = some (.type T)) (hg : Gl X x := by rfl) (hn : x ≠ "__name__" := by decide) (hd : (x == ("__debug__" : Str)) = false := by decide) : PE X (.Name x pos) (tC (.ty T)) :=
  pe_bltn (v := .ty T) hg hm hv rfl hn hd
theorem same_new {H : Hp} {p : Addr} (h : H p = none) (o : HO) : Same H (upd H p o) := fun b u q => by rw [upd_ne (ne_of_none q h)]; exact q
end L2
set_option Elab.async false
set_option linter.all false
set_option maxRecDepth 100000
set_option maxHeartbeats 4000000
namespace L2
open PySem PySem.Spec PyProof.Rows
def blockB (sc out : Scope) (N : List Str) (x : Str) (frees : List Str) (ix : List Nat) : Bool :=
  decide (sc.kind = .function) && decide (out.kind = .function) && decide (frees.length = ix.length) &&
  ((List.range frees.length).all fun j => match frees[j]?, ix[j]? with
    | some y, some i => decide (N[i]? = some y) && decide (out.names.lookup y = some .cell) && decide (sc.names.lookup y = some .free)
    | _, _ => false) &&
  decide (sc.names.lookup x = some .local) &&
  (sc.names.all fun y => decide (y.2 ≠ .cell) && (decide (y.2 ≠ .local) || decide (sc.names.lookup y.1 = some .local)) && (decide (y.2 ≠ .free) || decide (out.names.lookup y.1 = some .cell))) &&
  decide (x :: frees).Nodup
theorem Block.of {sc out : Scope} {N : List Str} {x : Str} {frees : List Str} {ix : List Nat} (h : blockB sc out N x frees ix = true) : Block sc out N x frees ix := by
  unfold blockB at h
  simp only [Bool.and_eq_true, decide_eq_true_eq, List.all_eq_true] at h
  obtain ⟨⟨⟨⟨⟨⟨h1, h2⟩, h3⟩, h4⟩, h5⟩, h6⟩, h7⟩ := h
  refine ⟨h1, h2, h3, fun j y hy => ?_, h5, fun y hy => (h6 y hy).1.1, fun y hy hl => ?_, fun y hy hl => ?_, h7⟩
  · have hj : j < frees.length := (List.getElem?_eq_some_iff.mp hy).1
    have q := h4 j (List.mem_range.mpr hj)
    rw [hy] at q
    cases e : ix[j]? with
    | none => rw [e] at q; cases q
    | some i =>
      rw [e] at q
      simp only [Bool.and_eq_true, decide_eq_true_eq] at q
      exact ⟨i, rfl, q.1.1, q.1.2, q.2⟩
  · have q := (h6 y hy).1.2
    rw [Bool.or_eq_true] at q
    rcases q with q | q
    · exact absurd hl (of_decide_eq_true q)
    · exact of_decide_eq_true q
  · have q := (h6 y hy).2
    rw [Bool.or_eq_true] at q
    rcases q with q | q
    · exact absurd hl (of_decide_eq_true q)
    · exact of_decide_eq_true q
theorem comp_range {wi : TI} {ix : List Nat} {te : TE} {σ : St} {H H1 : Hp} {Q : VK} {lo : Int} {n : Nat} (f : Nat → V) (hw : ∀ R : It → Hp → Prop, R (Itr lo n) H1 → wi σ H R) (hn : n < sizeLine)
    (he : ∀ (i : Nat) (H' : Hp) (R : VK), i < n → Same H1 H' → R (f i) H' → te (some (.int (lo + i)) :: slots σ ix) H' R) (q : ∀ acc, H1 acc = none → Q (.ref acc) (upd H1 acc (.lst ((List.range n).map f)))) :
    tComp wi ix tYes te σ H Q := by
  refine hw _ fun acc hacc => ⟨fun i m H2 => i ≤ n ∧ m = n - i ∧ H2 = upd H1 acc (.lst ((List.range i).map f)), ⟨n, Nat.zero_le _, by simp, by simp⟩, ?_⟩
  rintro i m H2 ⟨hi, rfl, rfl⟩
  by_cases hlt : i < n
  · refine .inr ⟨hlt, ?_⟩
    rintro x H3 ⟨rfl, rfl⟩
    unfold tYes
    dsimp only
    rw [if_pos rfl]
    refine he i _ _ hlt (same_new hacc _) ⟨_, upd_same, ?_, n - (i + 1), by omega, hlt, rfl, ?_⟩
    · rw [List.length_map, List.length_range]; omega
    · rw [upd_upd, List.range_succ, List.map_append]
      rfl
  · have e : i = n := by omega
    subst e
    exact .inl ⟨Nat.le_refl _, q acc hacc⟩
end L2
set_option Elab.async false
set_option linter.all false
set_option maxRecDepth 100000
set_option maxHeartbeats 4000000
namespace L2
open PySem
def excRec (cls a0 x1 : Value) : Obj := { cls := cls, data := .fields #[a0, x1, .none, .none, .bool false, .none] }
structure Exc (B : Heap) (l : List Env) (e : Addr) (cls fl : Value) (h : Heap) : Prop where
  stays : B.StaysIn h
  new : B.get? e = none
  frames : h.FunFrames B l
  rcd : ∃ (a0 : Value) (T : Addr) (oT : Obj) (ts : Array Value), h.get? e = some (excRec cls a0 (.ref T)) ∧ B.get? T = none ∧ T ≠ e ∧ h.get? T = some oT ∧ oT.data = .fields ts ∧ ts[3]? = some fl
section
variable {M : Model} {A : Around} {E : Value → Shared → Prop} {s : Shared} {B : Heap} {env : Env} {outer : List Env} {L e : Addr} {cls a0 x1 head fl : Value} {hadNext : Bool} {Q : Unit → Shared → Prop}
theorem mapped (a0 x1 y : Value) (cls : Value) : Obj.mapFields (·.setIfInBounds 1 y) (excRec cls a0 x1) = excRec cls a0 y := rfl
theorem exc_entry (hfr : A.frames = some (env :: outer)) (hf : env.frame = some L) (st : B.StaysIn s.heap) (new : B.get? e = none) (fr : s.heap.FunFrames B (env :: outer)) (he : s.heap.get? e = some (excRec cls a0 x1))
    (h : ∀ h', Exc B (env :: outer) e cls (rawInt L) h' → s.heap.UpToSlots h' → Q () { s with heap := h' }) :
    wpAny M A (do setField (.ref e) 1 (← EntryCells.newEntry head (← frameOf env) .none (rawInt L) .none (← entryPlaceOf L hadNext))) Q E s := by
  have enf : e ∉ (env :: outer).filterMap (·.frame) := fun hm => by
    obtain ⟨_, o, ho, nf⟩ := fr.mem hm
    rw [he] at ho
    cases ho
    exact nf _ rfl
  refine wpAny_bind (wpAny_frameOf_fun hfr fr hf fun h1 so => ?_)
  refine wpAny_bind (wpAny_entryPlaceOf fun pl hpl => ?_)
  have he1 : h1.get? e = some (excRec cls a0 x1) := (so.2.1 e enf).trans he
  have st1 : B.StaysIn h1 := fun b o q => (so.2.1 b fun hm => by
    have := (fr.mem hm).1
    rw [q] at this
    cases this).trans (st b o q)
  unfold EntryCells.newEntry newFields
  refine wpAny_bind (wpAny_newObj_type ?_ (hpl.sizeOk5 _ _ _ _ _))
  generalize hN : ({ cls := .type "traceback", dict := none, data := .fields ([head, Value.ref L, .none, rawInt L, .none] ++ (if pl.isEmpty then List.replicate 6 Value.none else pl)).toArray } : Obj) = N
  have hNd : ∃ ts : Array Value, N.data = .fields ts ∧ ts[3]? = some (rawInt L) := ⟨_, by rw [← hN], by simp⟩
  have hNf : N.isFreed = false := by rw [← hN]; rfl
  have he2 : (h1.push N).get? e = some (excRec cls a0 x1) := Heap.get?_push_of_some _ he1
  refine wpAny_setField he2 rfl (show 1 < 6 by decide) ?_
  have he3 := Heap.get?_update_self (Obj.mapFields (·.setIfInBounds 1 (Value.ref h1.objs.size))) he2 rfl
  rw [mapped] at he3
  have hTe : h1.objs.size ≠ e := Nat.ne_of_gt (Heap.lt_size he1)
  have keep : ∀ b o, b ≠ e → h1.get? b = some o → ((h1.push N).update e (Obj.mapFields (·.setIfInBounds 1 (Value.ref h1.objs.size)))).get? b = some o := fun b o nb q => by
    rw [Heap.get?_update_other _ _ (Ne.symm nb)]
    exact Heap.get?_push_of_some _ q
  have noe : ∀ b o, s.heap.get? b = some o → (∀ vs, o.data ≠ .fields vs) → b ≠ e := fun b o q nf z => by
    rw [z, he] at q
    cases q
    exact nf _ rfl
  refine h _ ⟨fun b o q => keep b o (fun z => by rw [z, new] at q; cases q) (st1 b o q), new, fr.of_keeps fun b o q nf => ?_, ?_⟩ fun b o q nf => ?_
  · obtain ⟨sl, q1⟩ := so.2.2 b o q
    exact ⟨_, keep b _ (noe b o q nf) q1, rfl⟩
  · obtain ⟨ts, d1, d2⟩ := hNd
    refine ⟨a0, h1.objs.size, N, ts, he3, st1.fresh, hTe, ?_, d1, d2⟩
    rw [Heap.get?_update_other _ _ (Ne.symm hTe)]
    exact Heap.get?_push_size _ hNf
  · obtain ⟨sl, q1⟩ := so.2.2 b o q
    exact ⟨sl, keep b _ (noe b o q nf) q1⟩
theorem note_made (hfr : A.frames = some (env :: outer)) (hf : env.frame = some L) (st : B.StaysIn s.heap) (new : B.get? e = none) (fr : s.heap.FunFrames B (env :: outer)) (he : s.heap.get? e = some (excRec cls a0 .none))
    (h : ∀ h', Exc B (env :: outer) e cls (rawInt L) h' → s.heap.UpToSlots h' → Q () { s with heap := h' }) : wpAny M A (noteFrame (.ref e) env) Q E s := by
  unfold noteFrame
  simp only [hf]
  refine wpAny_bind (wpAny_field (i := 1) (x := .none) he rfl rfl ?_)
  rw [if_neg (by decide)]
  exact exc_entry hfr hf st new fr he h
theorem note_come (hfr : A.frames = some (env :: outer)) (hf : env.frame = some L) (X : Exc B (env :: outer) e cls .none s.heap)
    (h : ∀ h', Exc B (env :: outer) e cls (rawInt L) h' → s.heap.UpToSlots h' → Q () { s with heap := h' }) : wpAny M A (noteFrame (.ref e) env) Q E s := by
  obtain ⟨st, new, fr, b0, T, oT, ts, he, nT, Te, hT, dT, h3⟩ := X
  unfold noteFrame
  simp only [hf]
  refine wpAny_bind (wpAny_field (i := 1) (x := .ref T) he rfl rfl ?_)
  rw [if_pos (show (Value.ref T != Value.none) = true from by simp)]
  refine wpAny_bind (wpAny_field hT dT h3 ?_)
  rw [if_neg (show ¬ ((Value.none == rawInt L) = true) from by simp [rawInt])]
  refine wpAny_bind (wpAny_setField hT dT (Array.getElem?_eq_some_iff.mp h3).1 ?_)
  have oth : ∀ b, b ≠ T → (s.heap.update T (Obj.mapFields (·.setIfInBounds 3 Value.none))).get? b = s.heap.get? b := fun b nb => Heap.get?_update_other _ _ (Ne.symm nb)
  have noT : ∀ b o, s.heap.get? b = some o → (∀ vs, o.data ≠ .fields vs) → b ≠ T := fun b o q nf z => by
    rw [z, hT] at q
    cases q
    exact nf ts dT
  refine exc_entry (s := { s with heap := s.heap.update T (Obj.mapFields (·.setIfInBounds 3 Value.none)) }) hfr hf (fun b o q => (oth b fun z => by rw [z, nT] at q; cases q).trans (st b o q)) new
    (fr.of_keeps fun b o q nf => ⟨o, (oth b (noT b o q nf)).trans q, rfl⟩) ((oth e (Ne.symm Te)).trans he) fun h' X' U => h h' X' fun b o q nf => U b o ((oth b (noT b o q nf)).trans q) nf
theorem flight_none (X : Exc B outer e cls fl s.heap) (h : ∀ h', Exc B outer e cls .none h' → s.heap.UpToSlots h' → Q () { s with heap := h' }) : wpAny M A (setFlight (.ref e) none) Q E s := by
  obtain ⟨st, new, fr, b0, T, oT, ts, he, nT, Te, hT, dT, h3⟩ := X
  have h3s : 3 < ts.size := (Array.getElem?_eq_some_iff.mp h3).1
  unfold setFlight
  refine wpAny_bind (wpAny_field (i := 1) (x := .ref T) he rfl rfl ?_)
  rw [if_pos (show (Value.ref T != Value.none) = true from by simp)]
  refine wpAny_setField hT dT h3s ?_
  have oth : ∀ b, b ≠ T → (s.heap.update T (Obj.mapFields (·.setIfInBounds 3 ((none : Option Addr).elim Value.none fun f => rawInt f)))).get? b = s.heap.get? b := fun b nb => Heap.get?_update_other _ _ (Ne.symm nb)
  have noT : ∀ b o, s.heap.get? b = some o → (∀ vs, o.data ≠ .fields vs) → b ≠ T := fun b o q nf z => by
    rw [z, hT] at q
    cases q
    exact nf ts dT
  refine h _ ⟨fun b o q => (oth b fun z => by rw [z, nT] at q; cases q).trans (st b o q), new, fr.of_keeps fun b o q nf => ⟨o, (oth b (noT b o q nf)).trans q, rfl⟩, b0, T, _, _, (oth e (Ne.symm Te)).trans he, nT, Te,
    Heap.get?_update_self _ hT (Obj.isFreed_of_fields (Obj.data_mapFields dT _)), Obj.data_mapFields dT _, by simp [h3s]⟩ fun b o q nf => ⟨o.slots, (oth b (noT b o q nf)).trans q⟩
theorem Exc.cut (X : Exc B (env :: outer) e cls fl s.heap) : Exc B outer e cls fl s.heap := ⟨X.stays, X.new, X.frames.2.2, X.rcd⟩
theorem leave_made (hfr : A.frames = some (env :: outer)) (hf : env.frame = some L) (st : B.StaysIn s.heap) (new : B.get? e = none) (fr : s.heap.FunFrames B (env :: outer)) (he : s.heap.get? e = some (excRec cls a0 .none))
    (h : ∀ h', Exc B outer e cls .none h' → s.heap.UpToSlots h' → Q () { s with heap := h' }) : wpAny M A (leaving env (.ref e)) Q E s := by
  unfold leaving
  refine wpAny_bind (note_made hfr hf st new fr he fun h1 X1 U1 => ?_)
  exact flight_none (s := { s with heap := h1 }) X1 fun h2 X2 U2 => h h2 (Exc.cut (s := { s with heap := h2 }) X2) (U1.trans U2)
theorem leave_come (hfr : A.frames = some (env :: outer)) (hf : env.frame = some L) (X : Exc B (env :: outer) e cls .none s.heap)
    (h : ∀ h', Exc B outer e cls .none h' → s.heap.UpToSlots h' → Q () { s with heap := h' }) : wpAny M A (leaving env (.ref e)) Q E s := by
  unfold leaving
  refine wpAny_bind (note_come hfr hf X fun h1 X1 U1 => ?_)
  exact flight_none (s := { s with heap := h1 }) X1 fun h2 X2 U2 => h h2 (Exc.cut (s := { s with heap := h2 }) X2) (U1.trans U2)
end
end L2
set_option Elab.async false
set_option linter.all false
set_option maxRecDepth 100000
set_option maxHeartbeats 4000000
namespace L2
open PySem
section
variable {prog : Program} {w : World} {A : Around} {E : Value → Shared → Prop} {s₁ : Shared}
end
end L2
set_option Elab.async false
set_option linter.all false
set_option maxRecDepth 100000
set_option maxHeartbeats 4000000
namespace L2
open PySem PySem.Spec PyProof.Rows
theorem ObjOk.is {P : Program} {w : World} {H : Hp} {h : Heap} {a : Addr} {o : HO} (x : ObjOk P w H h a o) : ∃ ob, h.get? a = some ob := by
  cases o with
  | lst xs => obtain ⟨_, _, _, _, e⟩ := x; exact ⟨_, e⟩
  | tup xs => obtain ⟨_, _, _, _, e, _⟩ := x; exact ⟨_, e⟩
  | dK kvs => obtain ⟨_, _, _, _, _, _, _, e, _⟩ := x; exact ⟨_, e⟩
  | dT kvs => obtain ⟨_, _, _, _, _, _, _, e, _⟩ := x; exact ⟨_, e⟩
  | set S n => obtain ⟨_, _, _, _, e, _⟩ := x; exact ⟨_, e⟩
  | ins C dx fs => obtain ⟨_, _, _, e, _⟩ := x; exact ⟨_, e⟩
  | own y => exact x
  | xd fs => obtain ⟨_, ⟨_, _, _, e, _⟩, _⟩ := x; exact ⟨_, e⟩
  | rng lo hi => obtain ⟨_, _, _, e⟩ := x; exact ⟨_, e⟩
  | frz ob u => exact ⟨_, x.1⟩
  | tbl ps => exact ⟨_, x⟩
  | met f y => exact ⟨_, x⟩
  | ext φ => exact x.2.1
structure Flew (P : Program) (w : World) (outer : List Env) (H : Hp) (s : Shared) (a C : Addr) (B : Heap) (H' : Hp) (s' : Shared) : Prop where
  os : s'.os = s.os
  bare : AllBare s'.gens
  un : Un (frs outer) [] H H' s.heap s'.heap
  hok : HOk P w H' B
  inB : ∀ b o, s.heap.get? b = some o → H b = none → b ∉ frs outer → B.get? b = some o
  thB : ∀ b o, s.heap.get? b = some o → b ∉ frs outer → ∃ o', B.get? b = some o'
  exc : Exc B outer a (.ref C) .none s'.heap
def CX1 (P : Program) (w : World) : CXT := fun outer H s E e s' => ∃ (a C : Addr) (B : Heap) (H' : Hp), e = .ref a ∧ Flew P w outer H s a C B H' s' ∧ E (.ref C) none H'
theorem Flew.free {P : Program} {w : World} {outer : List Env} {H H' : Hp} {s s' : Shared} {a C : Addr} {B : Heap} (F : Flew P w outer H s a C B H' s') : H' a = none := by
  cases q : H' a with
  | none => rfl
  | some o =>
    obtain ⟨ob, e⟩ := (F.hok a o q).is
    rw [F.exc.new] at e
    cases e
theorem un_on {l : List Env} {H H' : Hp} {h h1 h2 B : Heap} (un : Un (frs l) [] H H' h h1) (inB : ∀ b o, h.get? b = some o → H b = none → b ∉ frs l → B.get? b = some o) (thB : ∀ b o, h.get? b = some o → b ∉ frs l → ∃ o', B.get? b = some o')
    (fr : h1.FunFrames B l) (st : B.StaysIn h2) (up : h1.UpToSlots h2) : Un (frs l) [] H H' h h2 where
  keep := fun b o e n nf _ => st b o (inB b o e n nf)
  slot := fun b o e n hf hx => by
    obtain ⟨sl, q⟩ := un.slot b o e n hf hx
    obtain ⟨_, o', ho', nf⟩ := fr.mem hf
    rw [q] at ho'
    cases ho'
    obtain ⟨sl', q'⟩ := up b _ q nf
    exact ⟨sl', q'⟩
  free := un.free
  there := fun b o e hx => by
    by_cases hf : b ∈ frs l
    · obtain ⟨_, o', ho', nf⟩ := fr.mem hf
      obtain ⟨sl, q⟩ := up b o' ho' nf
      exact ⟨_, q⟩
    · obtain ⟨o', q⟩ := thB b o e hf
      exact ⟨o', st b o' q⟩
  tups := un.tups
  frzs := un.frzs
  tbls := un.tbls
section
variable {X : Cx} {pins : List (Addr × Obj)} {σ : St} {H H' : Hp} {s s' : Shared} {a C : Addr} {B : Heap}
theorem Inv.noframe (I : Inv X pins σ H s) {b : Addr} {o : Obj} (e : X.s₀.heap.get? b = some o) (nf : b ∉ X.fs) : b ∉ frs X.stack := fun z => by
  rcases List.mem_cons.mp (I.stkSub b z) with q | q
  · exact absurd (Nat.lt_of_lt_of_le (Heap.lt_size e) I.ok.above) (by rw [q]; exact Nat.lt_irrefl _)
  · exact nf q
theorem flew_out (I : Inv X pins σ H s) (hex : X.ex = []) (un : Un (frs X.stack) [] H H' s.heap s'.heap) (os : s'.os = s.os) (bare : AllBare s'.gens) (hok : HOk X.prog X.w H' B)
    (inB : ∀ b o, s.heap.get? b = some o → H b = none → b ∉ frs X.stack → B.get? b = some o) (thB : ∀ b o, s.heap.get? b = some o → b ∉ frs X.stack → ∃ o', B.get? b = some o') (x : Exc B X.outer a (.ref C) .none s'.heap) :
    Flew X.prog X.w X.outer X.H₀ X.s₀ a C B H' s' := by
  have J : Inv X pins σ H' s' := I.call' os un (hok.kept x.stays) bare (fun _ z => nomatch z)
  have nx : ∀ b, b ∉ X.ex := fun b z => by rw [hex] at z; exact nomatch z
  refine ⟨J.os, J.bare, by have := J.base; rw [hex] at this; exact this, hok, fun b o e n nf => ?_, fun b o e nf => ?_, x⟩
  · exact inB b o (I.base.keep b o e n nf (nx b)) (I.base.free b o e n (nx b)) (I.noframe e nf)
  · obtain ⟨o', e'⟩ := I.base.there b o e (nx b)
    exact thB b o' e' (I.noframe e nf)
end
section
variable {P : Program} {w : World} {K : PySem.W.Frag} {mg : Str → Option Value} {base : Heap} {N : List Str} {qual : Str} {scope : Scope} {f : Addr} {cd : Value} {A : Around} {outer : List Env} {s₀ : Shared} {H₀ : Hp} {E : XK}
theorem pass1 : Passes (CX1 P w) (cxOf (CX1 P w) P w K mg base N qual scope f cd A outer s₀ H₀ E) E := by
  rintro pins σ H s e s' I ⟨a, C, B, H', rfl, F, q⟩
  refine leave_come (s := s') (env := (cxOf (CX1 P w) P w K mg base N qual scope f cd A outer s₀ H₀ E).env) (outer := outer) I.ok.frames rfl F.exc fun h' x u => ?_
  exact ⟨a, C, B, H', rfl, flew_out (s' := { s' with heap := h' }) I rfl (un_on F.un F.inB F.thB F.exc.frames x.stays u) F.os F.bare F.hok F.inB F.thB x, q⟩
def Raises (X : Cx) (E : XK) : Prop := ∀ (pins : List (Addr × Obj)) (σ : St) (H : Hp) (s : Shared) (h' : Heap) (a C : Addr) (vs : List Value), Inv X pins σ H s → Heap.MadeExcOf s.heap h' a (.ref C) vs → E (.ref C) none H → X.xe (.ref a) { s with heap := h' }
theorem raise1 : Raises (cxOf (CX1 P w) P w K mg base N qual scope f cd A outer s₀ H₀ E) E := by
  intro pins σ H s h' a C vs I mk q
  obtain ⟨t, he, _, _⟩ := mk.there
  have st : (PySem.W.hideAll s.heap (frs (envOfC qual scope s₀.heap.objs.size f cd :: outer))).StaysIn h' := fun b o e => mk.keeps b o (PySem.W.of_hideAll _ e)
  have new : (PySem.W.hideAll s.heap (frs (envOfC qual scope s₀.heap.objs.size f cd :: outer))).get? a = none := by
    cases e : (PySem.W.hideAll s.heap (frs (envOfC qual scope s₀.heap.objs.size f cd :: outer))).get? a with
    | none => rfl
    | some o =>
      have := PySem.W.of_hideAll _ e
      rw [mk.new] at this
      cases this
  have fr0 : s.heap.FunFrames (PySem.W.hideAll s.heap (frs (envOfC qual scope s₀.heap.objs.size f cd :: outer))) (envOfC qual scope s₀.heap.objs.size f cd :: outer) :=
    PySem.W.funFrames_hide I.stack fun env he b hb => List.mem_filterMap.mpr ⟨env, he, hb⟩
  have fr : h'.FunFrames (PySem.W.hideAll s.heap (frs (envOfC qual scope s₀.heap.objs.size f cd :: outer))) (envOfC qual scope s₀.heap.objs.size f cd :: outer) := fr0.of_keeps fun b o e _ => ⟨o, mk.keeps b o e, rfl⟩
  refine leave_made (s := { s with heap := h' }) (env := envOfC qual scope s₀.heap.objs.size f cd) (outer := outer) I.ok.frames rfl st new fr he fun h'' x u => ?_
  have inB : ∀ b o, s.heap.get? b = some o → b ∉ frs (envOfC qual scope s₀.heap.objs.size f cd :: outer) → (PySem.W.hideAll s.heap (frs (envOfC qual scope s₀.heap.objs.size f cd :: outer))).get? b = some o := fun b o e nf => PySem.W.hideAll_get _ e nf
  refine ⟨a, C, _, H, rfl, flew_out (s' := { s with heap := h'' }) I rfl (un_on (Un.kept mk.keeps) (fun b o e _ nf => inB b o e nf) (fun b o e nf => ⟨o, inB b o e nf⟩) fr x.stays u) rfl I.bare (fun b o e => ?_) (fun b o e _ nf => inB b o e nf) (fun b o e nf => ⟨o, inB b o e nf⟩) x, q⟩
  refine (I.hok b o e).stay (fun c v hc r => inB c v r fun z => ?_) (fun _ r => r) fun _ _ r => r
  have nc := I.stkFree c z
  rcases hc with rfl | hc
  · rw [e] at nc; cases nc
  · rw [hc] at nc; cases nc
end
def VEB : List Value := [.type "ValueError", .type "Exception", .type "BaseException", .type "object"]
structure ErrC (K : PySem.W.Frag) (mg : Str → Option Value) (x : Str) (C : Addr) : Prop where
  at' : mg x = some (.ref C)
  ok : PySem.W.excIn K C VEB "ValueError.__new__" = true
theorem errObj {K : PySem.W.Frag} {h : Heap} {C : Addr} {bmB : List Value} {newId : String} (X : K.In h) (q : PySem.W.excIn K C bmB newId = true) :
    ∃ bm N nm qn bs hd sn sub ab col dd k0 k1 k2 k3 k5 mN, h.get? C = some (excClassObj nm qn C N bs bm hd sn sub ab col dd k0 k1 k2 k3 k5 newId) ∧ h.Ns N mN ∧ mN "__init__" = none ∧ OwnTail h bmB bm := by
  unfold PySem.W.excIn at q
  split at q
  · rename_i dd cl sl look
    split at q
    · rename_i C1 bm k0 k1 k2 k3 n k5 hmro hsl
      simp only [Bool.and_eq_true, beq_iff_eq, Bool.not_eq_true'] at q
      obtain ⟨⟨⟨⟨⟨rfl, rfl⟩, nodel⟩, tl⟩, nsok⟩, noinit⟩ := q
      obtain ⟨c1, c2, c3, c4, c5, c6, c7, c8, c9, c10, c11⟩ := cl
      dsimp only at hmro nodel nsok noinit
      subst hmro nodel
      have e : sl = #[k0, k1, k2, k3, some (.builtin n), k5] := by
        obtain ⟨l⟩ := sl
        simp only at hsl
        rw [hsl]
      subst e
      exact ⟨bm, _, _, _, _, _, _, _, _, _, dd, k0, k1, k2, k3, k5, _, X _ _ look, .of_isNs (PySem.W.isNs_of_in X nsok), PySem.W.nsMap_none_of_in X nsok noinit, PySem.W.tail_of_in X tl⟩
    · cases q
  · cases q
section
variable {X : Cx} {E : XK} {x : Str} {C : Addr} {e : Expr} {es : List Expr} {ta : TA} {np cpos pos : Pos}
def tRaise (E : XK) (C : Addr) (ta : TA) : TS := fun _ σ H => ta σ H fun vs H1 => vs.length ≤ sizeLine ∧ E (.ref C) none H1
theorem ps_raise (hE : Raises X E) (hc : X.calm = true) (R : ErrC X.K X.mg x C) (hg : Gl X x) (ha : PA X (e :: es) ta)
    (hd : (x == ("__debug__" : Str)) = false := by decide) (he : starEach (e :: es) X.env = (false, eval e X.env) :: starEach es X.env := by rfl) (hpl : (backTo cpos (starEach es X.env)).any (·.1) = false := by rfl) :
    PS X (.Raise (some (.Call (.Name x np) (e :: es) [] cpos)) none pos) (tRaise E C ta) := by
  intro pins s σ H D I h
  obtain ⟨bm, N, nm, qn, bs, hd', sn, sub, ab, col, dd, k0, k1, k2, k3, k5, mN, hC, hN, hni, T⟩ := errObj I.mod.kin R.ok
  refine wpAny_Raise_call_subT (C := C) (nm := nm) (q := qn) (N := N) (bs := bs) (bm := bm) (hdct := hd') (sn := sn) (sub := sub) (ab := ab) (col := col) (dd := dd) (k0 := k0) (k1 := k1) (k2 := k2) (k3 := k3) (k5 := k5) PySem.F.excBase_ValueError (mN := mN)
    (T.hasType PySem.F.excBase_ValueError.hasBase) (I.ok.hd hc) (by rw [he]; exact (show (false || (backTo cpos (starEach es X.env)).any (·.1)) = false from by rw [hpl]; rfl)) hni (ld_glob I hg R.at' ⟨rfl, ?_⟩ hd)
  have h1 := ha cpos pins s σ H _ I h
  rw [he] at h1 ⊢
  refine Calls.evalArgs_plain (wpAny_mono h1 (fun vs s2 q2 => ?_) fun _ _ y => y)
  obtain ⟨xs, H2, I2, r2, len, q⟩ := q2
  exact ⟨rfl, by rw [← r2.length]; exact len, I2.bk _ _ hC, hN.keeps I2.bk, T.keeps I2.bk, fun h' z mk => hE pins σ H2 s2 h' z C _ I2 mk q⟩
end
structure CalleeX (P : Program) (w : World) (K : PySem.W.Frag) (mg : Str → Option Value) (base : Heap) (x : Str) (k : Nat) (ps : List Str) (sp : Sp) : Prop where
  ex : ∃ f fd, mg x = some (.ref f) ∧ PySem.W.keepIn K (.ref f) = true ∧ Binds K fd ps [] ∧ FnOk P w K mg base (CX1 P w) k f fd ps sp
theorem pe_callX {X : Cx} {E : XK} {x : Str} {k n : Nat} {ps : List Str} {sp : Sp} {e : Expr} {es : List Expr} {t : TA} {p pos : Pos} (C : CalleeX X.prog X.w X.K X.mg X.base x k ps sp) (hp : Passes (CX1 X.prog X.w) X E) (hr : Room n X.A) (hk : k ≤ n) (hg : Gl X x) (ha : PA X (e :: es) t)
    (hdb : (x == ("__debug__" : Str)) = false := by decide) (he : starEach (e :: es) X.env = (false, eval e X.env) :: starEach es X.env := by rfl) (hpl : (backTo pos (starEach es X.env)).any (·.1) = false := by rfl) :
    PE X (.Call (.Name x p) (e :: es) [] pos) (tCall sp [] E t) := by
  obtain ⟨f, fd, hm, hkp, hb, F⟩ := C.ex
  exact pe_call (F.mono hk) hr hg hm hkp hb .nil hp ha hdb he hpl
theorem HasDef.okX {P : Program} {w : World} {K : PySem.W.Frag} {mg : Str → Option Value} {base : Heap} {x : Str} {st : Stmt} {N ps : List Str} {n : Nat} {sp : Sp} (D : HasDef K mg x st) (S : FnScope N ps (defScope st))
    (hb : ∀ (kV doc pm : Value) (an : Option Addr) (cdv ct : Value) (us : List Value), us.length = ps.length → bindArgs (PySem.W.fnOf x x (defArgs st) (defBody st) (defScope st) .none kV doc pm an cdv ct) ⟨us, []⟩ = pure (ps.zip us))
    (len : ∀ vs H Q E, sp vs H Q E → vs.length = ps.length)
    (hbody : ∀ (f : Addr) (cdv : Value) (A : Around) (outer : List Env) (s : Shared) (H : Hp) (vs : List V) (Q : VK) (E : XK), Room n (A.deeper (envOfC x (defScope st) s.heap.objs.size f cdv)) → sp vs H Q E →
      ∃ t, PSs (cxOf (CX1 P w) P w K mg base N x (defScope st) f cdv A outer s H E) (defBody st) t ∧ t { nx := fun _ H' => Q .non H', rt := Q } (start N vs) H) : CalleeX P w K mg base x (n + 1) ps sp := by
  obtain ⟨f, fd, F, hm⟩ := D.ex
  refine ⟨f, fd, hm, F.kp, F.binds hb, ?_⟩
  obtain ⟨oc, od, kV, doc, pm, an, cdv, ct, osl, rfl, lk, hcd⟩ := F.ex
  exact fn_of lk hcd S len fun A outer s H vs Q E hr h => hbody f cdv A outer s H vs Q E hr h
theorem CalleeX.calm {P : Program} {w : World} {K : PySem.W.Frag} {mg : Str → Option Value} {base : Heap} {x : Str} {k : Nat} {ps : List Str} {sp : Sp} (C : CalleeX P w K mg base x k ps sp) : Callee P w K mg base x k ps (fun vs H Q _ => sp vs H Q E0) := by
  obtain ⟨f, fd, hm, hkp, hb, F⟩ := C.ex
  refine ⟨f, fd, hm, hkp, hb, fun vs H Q E h => F.len vs H Q E0 h, fun A outer s H args us vs Q E hr e0 bt r h => codeAny_mono (F.run A outer s H args us vs Q E0 hr e0 bt r h) fun res s' q => ?_⟩
  cases res with
  | ok fl => cases fl <;> exact q
  | error e =>
    obtain ⟨_, _, _, _, _, _, z⟩ := q
    exact z.elim
theorem CalleeX.imp {P : Program} {w : World} {K : PySem.W.Frag} {mg : Str → Option Value} {base : Heap} {x : Str} {k : Nat} {ps : List Str} {sp sp' : Sp} (C : CalleeX P w K mg base x k ps sp) (h : ∀ vs H Q E, sp' vs H Q E → sp vs H Q E) : CalleeX P w K mg base x k ps sp' := by
  obtain ⟨f, fd, hm, hkp, hb, F⟩ := C.ex
  exact ⟨f, fd, hm, hkp, hb, F.imp h⟩
theorem Callee.x {P : Program} {w : World} {K : PySem.W.Frag} {mg : Str → Option Value} {base : Heap} {x : Str} {k : Nat} {ps : List Str} {sp : Sp} (C : Callee P w K mg base x k ps sp) : CalleeX P w K mg base x k ps sp := by
  obtain ⟨f, fd, hm, hkp, hb, F⟩ := C.ex
  refine ⟨f, fd, hm, hkp, hb, F.len, fun A outer s H args us vs Q E hr e0 bt r h => codeAny_mono (F.run A outer s H args us vs Q E hr e0 bt r h) fun res s' q => ?_⟩
  cases res with
  | ok fl => cases fl <;> exact q
  | error e => exact False.elim q
end L2
set_option Elab.async false
set_option linter.all false
set_option maxRecDepth 100000
set_option maxHeartbeats 4000000
namespace L2
open PySem PySem.Spec PyProof.Rows
def excO (a C : Addr) (a0 x1 : Value) : HO := .frz (excRec (.ref C) a0 x1) (.ext fun h => ∃ a0 x1, h.get? a = some (excRec (.ref C) a0 x1))
abbrev bCx (X : Cx) (pins : List (Addr × Obj)) (xe : Value → Shared → Prop) : Cx := { X with pn := X.pn ++ pins, xe := xe }
abbrev hCx (X : Cx) (a : Addr) : Cx := { X with A := X.A.mark (some (.ref a)), calm := false, xe := fun _ _ => False }
section
variable {X : Cx} {pins pl : List (Addr × Obj)} {σ : St} {H H' : Hp} {s s' : Shared} {a C : Addr} {B : Heap} {xe : Value → Shared → Prop}
theorem Inv.toB (I : Inv X pins σ H s) : Inv (bCx X pins xe) [] σ H s :=
  ⟨⟨I.ok.mod, I.ok.kind, I.ok.glob, I.ok.blt, I.ok.above, I.ok.inj, I.ok.has, I.ok.cab, I.ok.hd, I.ok.frames, I.ok.stk, I.ok.exf, I.ok.bs, I.ok.bsz, I.ok.noex, I.ok.exfs, I.ok.funs, I.ok.frf⟩, I.os, I.bare, I.base, I.loc, I.cell, I.free, I.freeC,
    fun p hp => I.pin p (by simpa using hp), I.hok, I.len⟩
theorem Inv.ofB (I : Inv (bCx X pins xe) pl σ H s) : Inv X pins σ H s :=
  ⟨⟨I.ok.mod, I.ok.kind, I.ok.glob, I.ok.blt, I.ok.above, I.ok.inj, I.ok.has, I.ok.cab, I.ok.hd, I.ok.frames, I.ok.stk, I.ok.exf, I.ok.bs, I.ok.bsz, I.ok.noex, I.ok.exfs, I.ok.funs, I.ok.frf⟩, I.os, I.bare, I.base, I.loc, I.cell, I.free, I.freeC,
    fun p hp => I.pin p (List.mem_append_left _ hp), I.hok, I.len⟩
theorem Inv.wishB {xe' : Value → Shared → Prop} (I : Inv (bCx X pins xe) pl σ H s) : Inv (bCx X pins xe') pl σ H s :=
  ⟨⟨I.ok.mod, I.ok.kind, I.ok.glob, I.ok.blt, I.ok.above, I.ok.inj, I.ok.has, I.ok.cab, I.ok.hd, I.ok.frames, I.ok.stk, I.ok.exf, I.ok.bs, I.ok.bsz, I.ok.noex, I.ok.exfs, I.ok.funs, I.ok.frf⟩, I.os, I.bare, I.base, I.loc, I.cell, I.free, I.freeC,
    I.pin, I.hok, I.len⟩
theorem Inv.toH (I : Inv X pins σ H s) (a : Addr) : Inv (hCx X a) pins σ H s :=
  ⟨⟨I.ok.mod, I.ok.kind, I.ok.glob, I.ok.blt, I.ok.above, I.ok.inj, I.ok.has, I.ok.cab, (fun z => nomatch z), I.ok.frames, I.ok.stk, I.ok.exf, I.ok.bs, I.ok.bsz, I.ok.noex, I.ok.exfs, I.ok.funs, I.ok.frf⟩, I.os, I.bare, I.base, I.loc, I.cell, I.free, I.freeC,
    I.pin, I.hok, I.len⟩
theorem Inv.ofH (hd : X.calm = true → X.A.handled = none) (I : Inv (hCx X a) pins σ H s) : Inv X pins σ H s :=
  ⟨⟨I.ok.mod, I.ok.kind, I.ok.glob, I.ok.blt, I.ok.above, I.ok.inj, I.ok.has, I.ok.cab, hd, I.ok.frames, I.ok.stk, I.ok.exf, I.ok.bs, I.ok.bsz, I.ok.noex, I.ok.exfs, I.ok.funs, I.ok.frf⟩, I.os, I.bare, I.base, I.loc, I.cell, I.free, I.freeC,
    I.pin, I.hok, I.len⟩
theorem SP.ofB {D : Ends} {f : Flow} (h : SP (bCx X pins xe) [] D f s') : SP X pins D f s' := by
  cases f with
  | next => obtain ⟨σ', H', I, q⟩ := h; exact ⟨σ', H', I.ofB, q⟩
  | brk => obtain ⟨σ', H', I, q⟩ := h; exact ⟨σ', H', I.ofB, q⟩
  | cont => obtain ⟨σ', H', I, q⟩ := h; exact ⟨σ', H', I.ofB, q⟩
  | ret u => obtain ⟨v, σ', H', I, r, q⟩ := h; exact ⟨v, σ', H', I.ofB, r, q⟩
theorem Flew.inv {h5 : Heap} (I : Inv X pins σ H s) (F : Flew X.prog X.w X.stack H s a C B H' s') (x : Exc B X.stack a (.ref C) .none h5) (up : s'.heap.UpToSlots h5) :
    ∃ a0 x1, Inv X pins σ (upd H' a (excO a C a0 x1)) { s' with heap := h5 } := by
  obtain ⟨a0, T, oT, ts, he, _, _, _, _, _⟩ := x.rcd
  refine ⟨a0, .ref T, ?_⟩
  have fr := F.free
  have un := un_on F.un F.inB F.thB F.exc.frames x.stays up
  have new : ∀ o, s.heap.get? a ≠ some o := fun o e => by
    by_cases hf : a ∈ frs X.stack
    · obtain ⟨_, o', ho', nf⟩ := x.frames.mem hf
      rw [he] at ho'
      cases ho'
      exact nf _ rfl
    · obtain ⟨o', q⟩ := F.thB a o e hf
      rw [x.new] at q
      cases q
  have ne : ∀ b u, H' b = some u → b ≠ a := fun b u e z => by rw [z, fr] at e; cases e
  refine I.call' (ch := []) (s' := { s' with heap := h5 }) F.os ⟨un.keep, un.slot, fun b o e n hx => ?_, un.there, fun b xs e => ?_, fun b o u e => ?_, fun b ps e => ?_⟩ (fun b u e => ?_) F.bare (fun _ z => nomatch z)
  · have : b ≠ a := fun z => new o (z ▸ e)
    rw [upd_ne this]
    exact un.free b o e n hx
  · have q := un.tups b xs e
    rw [upd_ne (ne b _ q)]
    exact q
  · have q := un.frzs b o u e
    rw [upd_ne (ne b _ q)]
    exact q
  · obtain ⟨more, q⟩ := un.tbls b ps e
    exact ⟨more, by rw [upd_ne (ne b _ q)]; exact q⟩
  · by_cases hb : b = a
    · subst hb
      rw [upd_same] at e
      cases e
      exact ⟨he, ⟨_, _, he⟩, ⟨_, he⟩, fun h1 h2 ⟨y0, y1, q⟩ k => ⟨y0, y1, k _ q⟩⟩
    · rw [upd_ne hb] at e
      refine (F.hok b u e).stay (fun c v _ q => x.stays c v q) (fun c q => ?_) fun c xs q => ?_
      · rw [upd_ne (ne c _ q)]; exact q
      · rw [upd_ne (ne c _ q)]; exact q
theorem name_goes {M : Model} {A : Around} {E : Value → Shared → Prop} {i : Nat} {n : Str} {pos : Pos} {Q : Unit → Shared → Prop} (I : Inv X pins σ H s) (hN : X.N.Nodup) (hi : X.N[i]? = some n) (hl : X.env.scope.names.lookup n = some .local)
    (k : ∀ s', Inv X pins (σ.set i none) H s' → Q () s') : wpAny M A (do bindName X.env n .none; unbindBehindTheSuite X.env n pos) Q E s := by
  obtain ⟨m, hn, hm⟩ := id I.loc
  have hcls : (X.env.scope.kind == .class || (X.env.scope.kind == .module && X.env.locals != X.env.globals)) = false := by rw [I.ok.kind]; rfl
  refine wpAny_nameGoes_keeps hl hn hcls fun h' v hn' hs => k _ ?_
  obtain ⟨oL, _, _, hoL, _⟩ := id hn
  have low : ∀ b o, X.s₀.heap.get? b = some o → b ≠ X.env.locals := fun b o e => Nat.ne_of_lt (Nat.lt_of_lt_of_le (Heap.lt_size e) I.ok.above)
  refine ⟨I.ok, I.os, I.bare, ⟨fun b o e n hb hx => ?_, fun b o e n hb hx => ?_, I.base.free, fun b o e hx => ?_, I.base.tups, I.base.frzs, I.base.tbls⟩, ⟨_, hn', fun j y v' e1 e2 e3 => ?_⟩, fun y c e => ?_, I.free, I.freeC, fun p hp => ?_, fun b ob e => ?_, by simpa using I.len⟩
  · exact (hs.2 b (low b o e)).trans (I.base.keep b o e n hb hx)
  · obtain ⟨sl, e1⟩ := I.base.slot b o e n hb hx
    exact ⟨sl, (hs.2 b (low b o e)).trans e1⟩
  · obtain ⟨o', e1⟩ := I.base.there b o e hx
    exact ⟨o', (hs.2 b (low b o e)).trans e1⟩
  · by_cases hj : j = i
    · subst hj
      have : j < σ.length := by
        rcases Nat.lt_or_ge j σ.length with z | z
        · exact z
        · rw [List.getElem?_eq_none (by simpa using z)] at e2; cases e2
      rw [List.getElem?_set_self this] at e2
      cases e2
    · rw [List.getElem?_set_ne (Ne.symm hj)] at e2
      obtain ⟨u, r, q⟩ := hm j y v' e1 e2 e3
      refine ⟨u, r, ?_⟩
      rcases q with ⟨q, e⟩ | ⟨q, c, e, z⟩
      · have : y ≠ n := fun z => hj (nodup_ix hN e1 (z ▸ hi))
        exact .inl ⟨q, by simp [this, e]⟩
      · exact .inr ⟨q, c, e, z.sameBut hs (I.cne y c e)⟩
  · obtain ⟨w', z⟩ := I.cell y c e
    exact ⟨w', z.sameBut hs (I.cne y c e)⟩
  · obtain ⟨e, n, nl, nf, d⟩ := I.pin p hp
    exact ⟨(hs.2 p.1 nl).trans e, n, nl, nf, d⟩
  · refine (I.hok b ob e).stay (fun c w' hc q => (hs.2 c ?_).trans q) (fun _ q => q) fun _ _ q => q
    intro z
    have f := I.free
    rw [← z] at f
    rcases hc with rfl | hc
    · rw [f] at e; cases e
    · rw [f] at hc; cases hc
end
def endsH (D : Ends) (i : Nat) : Ends := { nx := fun σ' H' => D.nx (σ'.set i none) H', rt := D.rt, bk := fun σ' H' => D.bk (σ'.set i none) H', ct := fun σ' H' => D.ct (σ'.set i none) H' }
def xTry (K : PySem.W.Frag) (C0 : Addr) (n i : Nat) (ts : Addr → TS) (D : Ends) : XK := fun cls _ H' => ∃ C, cls = .ref C ∧ PySem.W.exmOne K (.ref C) (.ref C0) = some true ∧
  ∀ a a0 x1, H' a = none → ts a (endsH D i) ((List.replicate n none).set i (some (.ref a))) (upd H' a (excO a C a0 x1))
def tTry (K : PySem.W.Frag) (C0 : Addr) (n i : Nat) (tb : XK → TS) (ts : Addr → TS) : TS := fun D σ H => tb (xTry K C0 n i ts D) D σ H
theorem ps_try {X : Cx} {x n : Str} {C0 : Addr} {i : Nat} {body suite : List Stmt} {b0 : Stmt} {np hpos pos : Pos} {tb : XK → TS} {ts : Addr → TS} (hst : X.stack = X.env :: X.outer) (hfr : X.env.frame = some X.env.locals) (hN : X.N.Nodup) (hi : X.N[i]? = some n)
    (hl : X.env.scope.names.lookup n = some .local) (hx : X.mg x = some (.ref C0)) (hg : Gl X x) (hb : ∀ (pn : List (Addr × Obj)) (xe : Value → Shared → Prop) (E : XK), Passes (CX1 X.prog X.w) { X with pn := pn, xe := xe } E → PSs { X with pn := pn, xe := xe } body (tb E))
    (hs : ∀ a, PSs (hCx X a) (b0 :: suite) (ts a)) (hd : (x == ("__debug__" : Str)) = false := by decide) :
    PS X (.Try body [.ExceptHandler (some (.Name x np)) (some n) (b0 :: suite) hpos] [] [] pos) (tTry X.K C0 X.N.length i tb ts) := by
  intro pins s σ H D I h
  refine wpAny_Try_except ?_
  refine wpAny_mono (hb (X.pn ++ pins) (fun e s' => ∃ pl σ1 H1 s1, Inv (bCx X pins fun _ _ => False) pl σ1 H1 s1 ∧ CX1 X.prog X.w X.stack H1 s1 (xTry X.K C0 X.N.length i ts D) e s') _ (fun pl σ1 H1 s1 e s' I1 q => ⟨pl, σ1, H1, s1, I1.wishB, q⟩) [] s σ H D I.toB h) (fun f s1 q => ?_) fun e s1 q => ?_
  · have q := SP.ofB q
    cases f with
    | next => exact wpAny_execs_nil q
    | brk => exact q
    | cont => exact q
    | ret u => exact q
  · obtain ⟨pl, σ1, H1, s0, I0, a, C, B, H', rfl, F, C', hC, hm, q⟩ := q
    cases hC
    have J0 : Inv X pins σ1 H1 s0 := I0.ofB
    have fx := F.exc
    rw [hst] at fx
    refine note_come (s := s1) (by rw [J0.ok.frames, hst]) hfr fx fun h4 x4 u4 => ?_
    refine flight_none (s := { s1 with heap := h4 }) x4 fun h5 x5 u5 => ?_
    obtain ⟨_, _, J5⟩ := F.inv (h5 := h5) J0 (by rw [hst]; exact x5) (u4.trans u5)
    have k5 := J5.kIn
    have LT : PySem.W.Looks (model X.prog X.w) h5 (typeOf (.ref a)) (.ref C) := by
      obtain ⟨a0, T, _, _, he, _⟩ := x5.rcd
      have : PySem.W.InstAt h5 a (excRec (.ref C) a0 (.ref T)) C none := ⟨he, rfl, rfl, trivial⟩
      exact this.type
    refine wpAny_handleBy_cons (codeAny_handlers_test (ld_glob (J5.toH a) hg hx ?_ hd)) (by intro z; cases z)
    refine PySem.W.exm_one k5 LT hm _ _ _ _ (fun _ _ z => z) ?_
    refine codeAny_handlers_suite_as ?_
    refine flight_none (s := { s1 with heap := h5 }) x5 fun h6 x6 u6 => ?_
    obtain ⟨z0, z1, J6⟩ := F.inv (h5 := h6) J0 (by rw [hst]; exact x6) ((u4.trans u5).trans u6)
    have J6 := J6.weak (σ' := List.replicate X.N.length none) (by rw [List.length_replicate]; exact J6.len.symm) (fun j v z => by
      rw [List.getElem?_replicate] at z
      split at z <;> cases z)
    refine store_ok (X := hCx X a) (i := i) (J6.toH a) hN hi (.inl hl) (v := .ref a) rfl (fun s7 J7 => ?_) (.inr hl)
    refine wpAny_mono (hs a pins s7 _ _ (endsH D i) J7 (q a z0 z1 F.free)) (fun f s8 q8 => ?_) fun _ _ z => z.elim
    have back : ∀ {σ8 : St} {H8 : Hp}, Inv (hCx X a) pins σ8 H8 s8 → Inv X pins σ8 H8 s8 := fun J => J.ofH J0.ok.hd
    cases f with
    | next =>
      obtain ⟨σ8, H8, J8, z⟩ := q8
      exact name_goes (back J8) hN hi hl fun s9 J9 => ⟨_, _, J9, z⟩
    | brk =>
      obtain ⟨σ8, H8, J8, z⟩ := q8
      exact name_goes (back J8) hN hi hl fun s9 J9 => ⟨_, _, J9, z⟩
    | cont =>
      obtain ⟨σ8, H8, J8, z⟩ := q8
      exact name_goes (back J8) hN hi hl fun s9 J9 => ⟨_, _, J9, z⟩
    | ret u =>
      obtain ⟨v, σ8, H8, J8, r, z⟩ := q8
      exact name_goes (back J8) hN hi hl fun s9 J9 => ⟨v, _, _, J9, r, z⟩
structure ExcCls (K : PySem.W.Frag) (C : Addr) : Prop where
  ga : PySem.W.findIn K (.ref C) "__getattribute__" = some (some (.builtin "BaseException.__getattribute__"))
  gh : PySem.W.findIn K (.ref C) "__getattr__" = some none
  cls : PySem.W.hasDictIn K C = true
  ha : PySem.W.findIn K (.ref C) "__class__" = some (some (.builtin "object.__class__"))
  hn : PySem.W.specialIn K (.builtin "object.__class__") "__get__" = some (some (.builtin "getset_descriptor.__get__"))
  htk : PySem.W.takesIn K (.builtin "object.__class__") = some true
  hm : PySem.W.mroIn K C (.type "object") = some true
  hb : PySem.W.mroIn K C (.type "BaseException") = some true
section
variable {K : PySem.W.Frag} {prog : Program} {w : World} {A : Around} {E : Value → Shared → Prop} {s : Shared} {x C : Addr} {ox : Obj}
theorem exc_entry_class {tk : Tok} {Q : Fin → Shared → Prop} (Z : ExcCls K C) (X : K.In s.heap) (I : PySem.W.InstAt s.heap x ox C none) (k : Q (.done (.ret (.ref C))) s) :
    wpAny (model prog w) A (Builtin.«object.__getattribute__» ⟨[.ref x, .str "__class__" tk], []⟩) Q E s := by
  obtain ⟨h, g, d, t, os⟩ := s
  have hf : PySem.W.findObj K C none "__class__" = some (.bind (.builtin "getset_descriptor.__get__") (.builtin "object.__class__")) := by
    obtain ⟨cd, hc, _⟩ := PySem.W.any_some Z.cls
    unfold PySem.W.findObj
    rw [hc, Option.bind_some, Z.ha, Option.bind_some]
    simp [Z.hn, Z.htk]
  have L0 := I.type (M := model prog w)
  have L1 := PySem.W.looks_find (M := model prog w) X I hf
  refine wpAny_bind (wpAny_pure (wpAny_bind (wpAny_pure (wpAny_bind (L0.at (wpAny_bind (L1.at ?_)))))))
  refine wpAny_bind (wpAny_call (PySem.W.class_get (ox := ox) (od := none) X I Z.hm ?_))
  exact wpAny_pure k
theorem exc_ga {nameV : Value} {Q : Unit → Shared → Prop} {M : Model} (Z : ExcCls K C) (X : K.In s.heap) (I : PySem.W.InstAt s.heap x ox C none) (k : Q () s) : wpAny M A (checkBuiltinCall "BaseException.__getattribute__" ⟨[.ref x, nameV], []⟩) Q E s := by
  obtain ⟨h, g, d, t, os⟩ := s
  have L0 := I.type (M := M)
  have L1 := PySem.W.looks_mroIn (M := M) X Z.hb
  have LI : PySem.W.Looks M h (isInstance (.ref x) (.type "BaseException")) true := L0.andThen L1
  have k1 : builtinKind "BaseException.__getattribute__" = some .slot := by decide +kernel
  have k2 : splitId "BaseException.__getattribute__" = some ("BaseException", "__getattribute__") := by decide +kernel
  have k3 := F.args_bexc_ga (.ref x) nameV
  simp only [checkBuiltinCall, k1, k2]
  refine wpAny_bind (wpAny_bind (L0.at (L1.at ?_)))
  rw [if_neg (by decide)]
  exact wpAny_of_eq (a := ()) k3 k
theorem exc_class {Q : Option Value → Shared → Prop} (Z : ExcCls K C) (X : K.In s.heap) (I : PySem.W.InstAt s.heap x ox C none) (k : Q (some (.ref C)) { s with toks := s.toks + 1 }) : wpAny (model prog w) A (getAttr? (.ref x) "__class__") Q E s := by
  obtain ⟨h, g, d, t, os⟩ := s
  have L0 := I.type (M := model prog w)
  have L1 := PySem.W.looks_findIn (M := model prog w) X Z.ga
  have L2 := PySem.W.looks_findIn (M := model prog w) X Z.gh
  unfold getAttr? getAttrBy? getAttrBy
  refine wpAny_bind (wpAny_mkText (wpAny_bind (wpAny_attempt (wpAny_holding (wpAny_bind (L0.at (wpAny_bind (L1.at ?_))))))))
  dsimp only
  have no : (onTheHeap (Value.ref C) && Value.builtin "BaseException.__getattribute__" == Value.builtin "object.__getattribute__") = false := by
    have : (Value.builtin "BaseException.__getattribute__" == Value.builtin "object.__getattribute__") = false := by decide +kernel
    rw [this, Bool.and_false]
  rw [no, if_neg Bool.false_ne_true]
  unfold getAttrByItsOwn hookBefore
  refine wpAny_bind ?_
  rw [if_pos (show onTheHeap (Value.ref C) = true from rfl)]
  refine L2.at ?_
  refine wpAny_bind (wpAny_attempt (wpAny_holding ?_))
  unfold callGetattribute
  rw [if_neg (by simp)]
  unfold boundAndCalled
  refine wpAny_bind (wpAny_of_eq (F.attr_ValueError.ga.bind (.ref x)) ?_)
  refine wpAny_call (codeAny_call_builtin F.attr_ValueError.ga.plain F.entry_bexc_ga (exc_ga (s := ⟨h, g, d, t + 1, os⟩) Z X I (exc_entry_class (s := ⟨h, g, d, t + 1, os⟩) Z X I ?_)))
  exact PySem.W.handed_on rfl (wpAny_pure k)
end
theorem kitx_exc {K : PySem.W.Frag} {x C : Addr} (Z : ExcCls K C) : PySem.W.KitX K (.ref x) (.ref C) (fun h => ∃ a0 x1, h.get? x = some (excRec (.ref C) a0 x1)) where
  ty := fun _ h _ ⟨a0, x1, e⟩ => (show PySem.W.InstAt h x (excRec (.ref C) a0 x1) C none from ⟨e, rfl, rfl, trivial⟩).type
  it := fun _ _ X _ => by
    obtain ⟨cd, hc, _⟩ := PySem.W.any_some Z.cls
    unfold PySem.W.clsIn at hc
    split at hc
    · rename_i look
      intro A' Q' E' s' k q
      unfold isType loadHead
      exact wpAny_bind (wpAny_loadPart (k _ _ (X _ _ look)) (wpAny_pure q))
    · cases hc
  ne := fun h tp dd its n sl X htp => by
    obtain ⟨cd, hc, _⟩ := PySem.W.any_some Z.cls
    refine Bool.eq_false_iff.mpr fun q => ?_
    have e : C = tp := Value.ref.inj (beq_iff_eq.mp q)
    subst e
    unfold PySem.W.clsIn at hc
    split at hc
    · rename_i look
      have z := (X _ _ look).symm.trans htp
      cases z
    · cases hc
  ca := fun {prog w A E Q s} X p k => by
    obtain ⟨a0, x1, e⟩ := p
    exact exc_class Z X (show PySem.W.InstAt s.heap x (excRec (.ref C) a0 x1) C none from ⟨e, rfl, rfl, trivial⟩) k
def asked : V → Option Value
  | .ref D => some (.ref D)
  | .ty T => some (.type T)
  | _ => none
def rIsx (K : PySem.W.Frag) : List V → Hp → VK → Prop := fun xs H Q => ∃ a C a0 x1 c u b, xs = [.ref a, c] ∧ H a = some (excO a C a0 x1) ∧ ExcCls K C ∧ asked c = some u ∧ PySem.W.kitOne K (.ref C) u = some b ∧ Q (.bl b) H
theorem call_isx {X : Cx} : CallR X (.builtin "isinstance") (rIsx X.K) := by
  intro pins s σ H xs us Q I r h
  obtain ⟨a, C, y0, y1, c, u, b, rfl, ha, Z, hc, hb, q⟩ := h
  obtain ⟨u1, v1, rfl, ru, rv⟩ := vals2 r
  cases ru
  have e : v1 = u := by
    cases c with
    | ref D => cases hc; exact rv
    | ty T => cases hc; exact rv
    | _ => cases hc
  subst e
  have ok : ∃ a0 x1, s.heap.get? a = some (excRec (.ref C) a0 x1) := (I.hok a _ ha).2.1
  exact PySem.W.kia_one (kitx_exc Z) I.kIn ok hb (fun z => nomatch z) fun tk => ⟨.bl b, H, I.tok tk, rfl, q⟩
def GRef (mg : Str → Option Value) (x : Str) (a : Addr) : Prop := mg x = some (.ref a)
theorem pe_globR {X : Cx} {x : Str} {a : Addr} {pos : Pos} (h : GRef X.mg x a) (hg : Gl X x := by rfl) (hd : (x == ("__debug__" : Str)) = false := by decide) : PE X (.Name x pos) (tC (.ref a)) := pe_glob hg h rfl hd
end L2
set_option Elab.async false
set_option linter.all false
set_option maxRecDepth 100000
set_option maxHeartbeats 4000000
namespace L2
open PySem PySem.Spec PyProof.Rows
structure RoomX (k : Nat) (A : Around) : Prop where
  dp : A.depth + 3 * k + 5 < recursionLimit
  un : A.units + 16 * k + 200 < cLine
theorem RoomX.deeper {k : Nat} {A : Around} (r : RoomX (k + 1) A) (env : Env) : RoomX k (A.deeper env) := ⟨by have := r.dp; show A.depth + 1 + 3 * k + 5 < _; omega, by have := r.un; show A.units + 3 + 16 * k + 200 < _; omega⟩
theorem RoomX.depth {k : Nat} {A : Around} (r : RoomX k A) : A.depth < recursionLimit := by have := r.dp; omega
theorem RoomX.mono {j k : Nat} {A : Around} (r : RoomX k A) (h : j ≤ k) : RoomX j A := ⟨by have := r.dp; omega, by have := r.un; omega⟩
theorem Room.x {k : Nat} {A : Around} (r : Room k A) (h : Option Value) : RoomX k (A.mark h) := ⟨r.dp, r.un⟩
def QuietAt (A : Around) (H : Hp) : Prop := ∃ e cls a0 x1 u, A.handled = some (.ref e) ∧ H e = some (.frz (excRec cls a0 x1) u)
abbrev Quiet (X : Cx) : Prop := QuietAt X.A X.H₀
abbrev cxOfH (CX : CXT) (P : Program) (w : World) (K : PySem.W.Frag) (mg : Str → Option Value) (base : Heap) (N : List Str) (qual : Str) (scope : Scope) (f : Addr) (cd : Value) (A : Around) (outer : List Env) (s : Shared) (H : Hp) (E : XK) : Cx :=
  { cxOf CX P w K mg base N qual scope f cd A outer s H E with calm := false }
structure FnOkH (P : Program) (w : World) (K : PySem.W.Frag) (mg : Str → Option Value) (base : Heap) (CX : CXT) (k : Nat) (f : Addr) (fd : FuncData) (ps : List Str) (sp : Sp) : Prop where
  len : ∀ vs H Q E, sp vs H Q E → vs.length = ps.length
  run : ∀ (A : Around) (outer : List Env) (s : Shared) (H : Hp) (args : Args) (us : List Value) (vs : List V) (Q : VK) (E : XK), RoomX k A → QuietAt A H → Env0 P w K mg base A outer s H → BindsTo s fd args (ps.zip us) → Vals vs us → sp vs H Q E →
    codeAny (model P w) A (.call (.ref f) args) (CR CX outer P w H s Q E) s
structure TurnQ (P : Program) (w : World) (K : PySem.W.Frag) (tg : Expr) (J : It) (fp : List Addr) (it : Addr) (tn : Nat → Heap → Prop) : Prop where
  mem : it ∈ fp
  obj : ∀ i h, tn i h → ∀ b ∈ fp, ∃ o, h.get? b = some o ∧ ∀ v, o.data ≠ .cell v
  keep : ∀ i h h', tn i h → (∀ b ∈ fp, ∀ o, h.get? b = some o → h'.get? b = some o) → tn i h'
  item : ∀ (X : Cx), X.prog = P → X.w = w → X.K = K → Quiet X → ∀ (i : Nat) (pins : List (Addr × Obj)) (s : Shared) (σ : St) (H : Hp) (E : Value → Shared → Prop), Inv X pins σ H s → (∀ b ∈ fp, FpOk X pins H b) → tn i s.heap → J.go i H →
    wpAny (model P w) X.A (pyNext (.ref it)) (fun r s1 => ∃ u, r = some u ∧
      wpAny (model P w) X.A (letOwnedTupleGo tg (.ref it) u) (fun _ s2 => ∃ x H', Inv X pins σ H' s2 ∧ RelV x u ∧ J.yld i H x H' ∧ tn (i + 1) s2.heap ∧ ∀ b ∈ fp, H' b = none) E s1) E s
  done : ∀ (X : Cx), X.prog = P → X.w = w → X.K = K → Quiet X → ∀ (i : Nat) (pins : List (Addr × Obj)) (s : Shared) (σ : St) (H : Hp) (E : Value → Shared → Prop), Inv X pins σ H s → (∀ b ∈ fp, FpOk X pins H b) → tn i s.heap → J.stop i H →
    wpAny (model P w) X.A (pyNext (.ref it)) (fun r s1 => r = none ∧ Inv X pins σ H s1) E s
  self : ∀ (A : Around) (i : Nat) (s : Shared) (Q : Value → Shared → Prop) (E : Value → Shared → Prop), tn i s.heap → Q (.ref it) s → wpAny (model P w) A (pyIter (.ref it)) Q E s
def PIQE (X : Cx) (pins : List (Addr × Obj)) (σ : St) (tg : Expr) (R : It → Hp → Prop) (itv : Value) (s2 : Shared) : Prop :=
  ∃ (it : Addr) (fp : List Addr) (tn : Nat → Heap → Prop) (J : It) (H' : Hp), itv = .ref it ∧ Inv X pins σ H' s2 ∧ TurnQ X.prog X.w X.K tg J fp it tn ∧ tn 0 s2.heap ∧ (∀ b ∈ fp, FpOk X pins H' b) ∧ R J H'
def PIQ (X : Cx) (tg iter : Expr) (wi : TI) : Prop :=
  ∀ (pins : List (Addr × Obj)) (s : Shared) (σ : St) (H : Hp) (R : It → Hp → Prop), Inv X pins σ H s → wi σ H R →
    wpAny (model X.prog X.w) X.A (eval iter X.env) (fun v s1 => wpAny (model X.prog X.w) X.A (pyIter v) (PIQE X pins σ tg R) X.xe s1) X.xe s
section
variable {X : Cx} {tg : Expr}
end
section
variable {P : Program} {w : World} {K : PySem.W.Frag} {mg : Str → Option Value} {base : Heap}
structure CalleeH (P : Program) (w : World) (K : PySem.W.Frag) (mg : Str → Option Value) (base : Heap) (x : Str) (k : Nat) (ps : List Str) (sp : Sp) : Prop where
  ex : ∃ f fd, mg x = some (.ref f) ∧ PySem.W.keepIn K (.ref f) = true ∧ Binds K fd ps [] ∧ FnOkH P w K mg base CX0 k f fd ps sp
end
def tCallH (A : Around) (sp : Sp) (t : TA) : TE := fun σ H Q => t σ H fun vs H1 => QuietAt A H1 ∧ sp (vs ++ []) H1 Q E0
end L2
set_option maxHeartbeats 4000000
namespace Nim
def N (d : Nat) : Nat := 2 ^ (2 ^ d)
theorem N_pos (d : Nat) : 0 < N d := Nat.two_pow_pos _
theorem N_succ (d : Nat) : N (d + 1) = N d * N d := by
  unfold N; rw [← Nat.pow_add, Nat.pow_succ]; congr 1; omega
theorem two_le_N (d : Nat) : 2 ≤ N d := by
  unfold N
  calc 2 = 2 ^ 1 := rfl
    _ ≤ 2 ^ (2 ^ d) := Nat.pow_le_pow_right (by decide) (Nat.one_le_two_pow)
theorem xor_lt {d a b : Nat} (ha : a < N d) (hb : b < N d) : a ^^^ b < N d := Nat.xor_lt_two_pow ha hb
theorem xor_div (a b d : Nat) : (a ^^^ b) / N d = a / N d ^^^ b / N d := Nat.xor_div_two_pow
theorem xor_mod (a b d : Nat) : (a ^^^ b) % N d = a % N d ^^^ b % N d := Nat.xor_mod_two_pow
theorem xor_mul (a b d : Nat) : (a ^^^ b) * N d = a * N d ^^^ b * N d := by
  unfold N; rw [← Nat.shiftLeft_eq, ← Nat.shiftLeft_eq, ← Nat.shiftLeft_eq, Nat.shiftLeft_xor_distrib]
theorem pack_div {d x y : Nat} (hy : y < N d) : (x * N d ^^^ y) / N d = x := by
  rw [xor_div, Nat.mul_div_cancel _ (N_pos d), Nat.div_eq_of_lt hy, Nat.xor_zero]
theorem pack_mod {d x y : Nat} (hy : y < N d) : (x * N d ^^^ y) % N d = y := by
  rw [xor_mod, Nat.mul_mod_left, Nat.mod_eq_of_lt hy, Nat.zero_xor]
theorem pack_eq {d x y : Nat} (hy : y < N d) : x * N d ^^^ y = x * N d + y := by
  have h1 := pack_div (x := x) hy
  have h2 := pack_mod (x := x) hy
  have h3 := Nat.div_add_mod (x * N d ^^^ y) (N d)
  rw [h1, h2, Nat.mul_comm] at h3
  exact h3.symm
theorem pack_lt {d x y : Nat} (hx : x < N d) (hy : y < N d) : x * N d ^^^ y < N (d + 1) := by
  rw [pack_eq hy, N_succ]
  have h : (x + 1) * N d ≤ N d * N d := Nat.mul_le_mul_right _ hx
  rw [Nat.add_mul, Nat.one_mul] at h
  omega
theorem unpack {d a : Nat} : (a / N d) * N d ^^^ a % N d = a := by
  rw [pack_eq (Nat.mod_lt _ (N_pos d)), Nat.mul_comm]; exact Nat.div_add_mod a (N d)
theorem div_lt {d a : Nat} (h : a < N (d + 1)) : a / N d < N d := by
  rw [N_succ] at h; exact Nat.div_lt_of_lt_mul h
theorem mod_lt {d a : Nat} : a % N d < N d := Nat.mod_lt _ (N_pos d)
theorem half_lt (d : Nat) : N d / 2 < N d := Nat.div_lt_self (N_pos d) (by decide)
def nim : Nat → Nat → Nat → Nat
  | 0, a, b => a * b
  | d + 1, a, b =>
    (nim d (a / N d ^^^ a % N d) (b / N d ^^^ b % N d) ^^^ nim d (a % N d) (b % N d)) * N d
      ^^^ nim d (nim d (a / N d) (b / N d)) (N d / 2) ^^^ nim d (a % N d) (b % N d)
structure Fld (n : Nat) (m : Nat → Nat → Nat) : Prop where
  lt : ∀ {a b}, a < n → b < n → m a b < n
  comm : ∀ {a b}, a < n → b < n → m a b = m b a
  add : ∀ {a b c}, a < n → b < n → c < n → m a (b ^^^ c) = m a b ^^^ m a c
  assoc : ∀ {a b c}, a < n → b < n → c < n → m (m a b) c = m a (m b c)
  one : ∀ {a}, a < n → m 1 a = a
theorem Fld.zero {n m a} (h : Fld n m) (ha : a < n) (hn : 0 < n) : m a 0 = 0 := by
  have e := h.add ha hn hn
  rw [Nat.xor_self, Nat.xor_self] at e
  exact e
theorem xor_cancel (x y : Nat) : (x ^^^ y) ^^^ y = x := by rw [Nat.xor_assoc, Nat.xor_self, Nat.xor_zero]
theorem fld0 : Fld (N 0) (nim 0) := by
  have e : N 0 = 2 := rfl
  have two : ∀ {a : Nat}, a < N 0 → a = 0 ∨ a = 1 := by intro a h; rw [e] at h; omega
  refine ⟨?_, ?_, ?_, ?_, ?_⟩
  · intro a b ha hb; rcases two ha with rfl | rfl <;> rcases two hb with rfl | rfl <;> decide
  · intro a b ha hb; exact Nat.mul_comm a b
  · intro a b c ha hb hc; rcases two ha with rfl | rfl <;> rcases two hb with rfl | rfl <;> rcases two hc with rfl | rfl <;> decide
  · intro a b c ha hb hc; exact Nat.mul_assoc a b c
  · intro a ha; exact Nat.one_mul a
theorem nim_succ {d : Nat} (F : Fld (N d) (nim d)) {a b : Nat} (ha : a < N (d + 1)) (hb : b < N (d + 1)) :
    nim (d + 1) a b = (nim d (a / N d) (b / N d) ^^^ nim d (a / N d) (b % N d) ^^^ nim d (a % N d) (b / N d)) * N d
      ^^^ (nim d (nim d (a / N d) (b / N d)) (N d / 2) ^^^ nim d (a % N d) (b % N d)) := by
  have a1 := div_lt ha
  have a0 : a % N d < N d := mod_lt
  have b1 := div_lt hb
  have b0 : b % N d < N d := mod_lt
  show (nim d (a / N d ^^^ a % N d) (b / N d ^^^ b % N d) ^^^ nim d (a % N d) (b % N d)) * N d
      ^^^ nim d (nim d (a / N d) (b / N d)) (N d / 2) ^^^ nim d (a % N d) (b % N d) = _
  rw [Nat.xor_assoc (_ * N d)]
  congr 2
  rw [F.add (xor_lt a1 a0) b1 b0, F.comm (xor_lt a1 a0) b1, F.comm (xor_lt a1 a0) b0, F.add b1 a1 a0, F.add b0 a1 a0,
    F.comm b1 a1, F.comm b1 a0, F.comm b0 a1, F.comm b0 a0]
  generalize nim d (a / N d) (b / N d) = p
  generalize nim d (a / N d) (b % N d) = q
  generalize nim d (a % N d) (b / N d) = r
  generalize nim d (a % N d) (b % N d) = t
  rw [← Nat.xor_assoc, xor_cancel, Nat.xor_assoc, Nat.xor_assoc, Nat.xor_comm r q]
theorem fldS {d : Nat} (F : Fld (N d) (nim d)) : Fld (N (d + 1)) (nim (d + 1)) := by
  have Hlt : ∀ {a b}, a < N (d + 1) → b < N (d + 1) → nim (d + 1) a b < N (d + 1) := by
    intro a b ha hb
    have a1 := div_lt ha
    have a0 : a % N d < N d := mod_lt
    have b1 := div_lt hb
    have b0 : b % N d < N d := mod_lt
    rw [nim_succ F ha hb]
    exact pack_lt (xor_lt (xor_lt (F.lt a1 b1) (F.lt a1 b0)) (F.lt a0 b1)) (xor_lt (F.lt (F.lt a1 b1) (half_lt d)) (F.lt a0 b0))
  refine ⟨Hlt, ?_, ?_, ?_, ?_⟩
  · intro a b ha hb
    have a1 := div_lt ha
    have a0 : a % N d < N d := mod_lt
    have b1 := div_lt hb
    have b0 : b % N d < N d := mod_lt
    rw [nim_succ F ha hb, nim_succ F hb ha, F.comm a1 b1, F.comm a1 b0, F.comm a0 b1, F.comm a0 b0]
    congr 2
    rw [Nat.xor_assoc, Nat.xor_assoc, Nat.xor_comm (nim d (b % N d) _)]
  · intro a b c ha hb hc
    have a1 := div_lt ha
    have a0 : a % N d < N d := mod_lt
    have b1 := div_lt hb
    have b0 : b % N d < N d := mod_lt
    have c1 := div_lt hc
    have c0 : c % N d < N d := mod_lt
    have k := half_lt d
    rw [nim_succ F ha (xor_lt hb hc), nim_succ F ha hb, nim_succ F ha hc, xor_div, xor_mod,
      F.add a1 b1 c1, F.add a1 b0 c0, F.add a0 b1 c1, F.add a0 b0 c0,
      F.comm (xor_lt (F.lt a1 b1) (F.lt a1 c1)) k, F.add k (F.lt a1 b1) (F.lt a1 c1), F.comm k (F.lt a1 b1), F.comm k (F.lt a1 c1)]
    simp only [xor_mul]
    ac_rfl
  · intro a b c ha hb hc
    have a1 := div_lt ha
    have a0 : a % N d < N d := mod_lt
    have b1 := div_lt hb
    have b0 : b % N d < N d := mod_lt
    have c1 := div_lt hc
    have c0 : c % N d < N d := mod_lt
    have k := half_lt d
    have lab := xor_lt (F.lt (F.lt a1 b1) k) (F.lt a0 b0)
    have lbc := xor_lt (F.lt (F.lt b1 c1) k) (F.lt b0 c0)
    rw [nim_succ F (Hlt ha hb) hc, nim_succ F ha (Hlt hb hc), nim_succ F ha hb, nim_succ F hb hc]
    rw [pack_div lab, pack_mod lab, pack_div lbc, pack_mod lbc]
    generalize a / N d = x1 at *
    generalize a % N d = x0 at *
    generalize b / N d = y1 at *
    generalize b % N d = y0 at *
    generalize c / N d = z1 at *
    generalize c % N d = z0 at *
    generalize N d / 2 = e at *
    have add3 : ∀ {u v w t : Nat}, u < N d → v < N d → w < N d → t < N d → nim d (u ^^^ v ^^^ w) t = nim d u t ^^^ nim d v t ^^^ nim d w t := by
      intro u v w t hu hv hw ht
      rw [F.comm (xor_lt (xor_lt hu hv) hw) ht, F.add ht (xor_lt hu hv) hw, F.add ht hu hv, F.comm hu ht, F.comm hv ht, F.comm hw ht]
    have add3' : ∀ {u v w t : Nat}, u < N d → v < N d → w < N d → t < N d → nim d t (u ^^^ v ^^^ w) = nim d t u ^^^ nim d t v ^^^ nim d t w := by
      intro u v w t hu hv hw ht
      rw [F.add ht (xor_lt hu hv) hw, F.add ht hu hv]
    have add2 : ∀ {u v t : Nat}, u < N d → v < N d → t < N d → nim d (u ^^^ v) t = nim d u t ^^^ nim d v t := by
      intro u v t hu hv ht
      rw [F.comm (xor_lt hu hv) ht, F.add ht hu hv, F.comm hu ht, F.comm hv ht]
    have sw : ∀ {u v : Nat}, u < N d → v < N d → nim d (nim d u e) v = nim d (nim d u v) e := by
      intro u v hu hv
      rw [F.assoc hu k hv, F.comm k hv, ← F.assoc hu hv k]
    have p11 := F.lt a1 b1
    have p10 := F.lt a1 b0
    have p01 := F.lt a0 b1
    have p00 := F.lt a0 b0
    have q11 := F.lt b1 c1
    have q10 := F.lt b1 c0
    have q01 := F.lt b0 c1
    have q00 := F.lt b0 c0
    rw [add3 p11 p10 p01 c1, add3 p11 p10 p01 c0, add2 (F.lt p11 k) p00 c1, add2 (F.lt p11 k) p00 c0,
      add3' q11 q10 q01 a1, add3' q11 q10 q01 a0, F.add a1 (F.lt q11 k) q00, F.add a0 (F.lt q11 k) q00]
    rw [sw p11 c1, sw p11 c0, ← F.assoc a1 q11 k, ← F.assoc a0 q11 k]
    rw [F.assoc a1 b1 c1, F.assoc a1 b0 c1, F.assoc a0 b1 c1, F.assoc a1 b1 c0, F.assoc a1 b0 c0, F.assoc a0 b1 c0, F.assoc a0 b0 c1, F.assoc a0 b0 c0]
    rw [add3 (F.lt a1 q11) (F.lt a1 q01) (F.lt a0 q11) k, add3 (F.lt a1 q11) (F.lt a1 q10) (F.lt a1 q01) k]
    simp only [xor_mul]
    ac_rfl
  · intro a ha
    have a1 := div_lt ha
    have a0 : a % N d < N d := mod_lt
    have one_lt : 1 < N d := by have := two_le_N d; omega
    have o1 : (1 : Nat) < N (d + 1) := by have := two_le_N (d + 1); omega
    rw [nim_succ F o1 ha, Nat.div_eq_of_lt one_lt, Nat.mod_eq_of_lt one_lt]
    have z := N_pos d
    rw [F.comm z a1, F.zero a1 z, F.comm z a0, F.zero a0 z, F.one a1, F.one a0, F.comm z (half_lt d), F.zero (half_lt d) z]
    rw [Nat.xor_zero, Nat.zero_xor, Nat.zero_xor]
    exact unpack
theorem fld : ∀ d, Fld (N d) (nim d)
  | 0 => fld0
  | d + 1 => fldS (fld d)
def xI (x y : Int) : Int := ((x.toNat ^^^ y.toNat : Nat) : Int)
theorem N4 : N 4 = 65536 := by decide
theorem N3 : N 3 = 256 := by decide
theorem N2 : N 2 = 16 := by decide
theorem N1 : N 1 = 4 := by decide
theorem N0 : N 0 = 2 := by decide
def pI (a b d : Int) : Int := ((nim (d.toNat % 5) (a.toNat % N (d.toNat % 5)) (b.toNat % N (d.toNat % 5)) : Nat) : Int)
theorem pI_nat {a b d : Nat} (hd : d < 5) (ha : a < N d) (hb : b < N d) : pI (a : Int) (b : Int) (d : Int) = ((nim d a b : Nat) : Int) := by
  unfold pI
  rw [Int.toNat_natCast, Int.toNat_natCast, Int.toNat_natCast, Nat.mod_eq_of_lt hd, Nat.mod_eq_of_lt ha, Nat.mod_eq_of_lt hb]
theorem small {d a b : Nat} (ha : a < N d) (hb : b < N d) (h : a < 2 ∨ b < 2) : nim d a b = a * b := by
  have F := fld d
  have z := N_pos d
  rcases h with h | h
  · rcases (show a = 0 ∨ a = 1 by omega) with rfl | rfl
    · rw [F.comm z hb, F.zero hb z, Nat.zero_mul]
    · rw [F.one hb, Nat.one_mul]
  · rcases (show b = 0 ∨ b = 1 by omega) with rfl | rfl
    · rw [F.zero ha z, Nat.mul_zero]
    · rw [F.comm ha (by have := two_le_N d; omega), F.one ha, Nat.mul_one]
theorem pI_small {a b d : Int} (a0 : 0 ≤ a) (b0 : 0 ≤ b) (d0 : 0 ≤ d) (hd : d < 5) (ha : a.toNat < N d.toNat) (hb : b.toNat < N d.toNat) (h : a < 2 ∨ b < 2) :
    a * b = pI a b d := by
  obtain ⟨a, rfl⟩ := Int.eq_ofNat_of_zero_le a0
  obtain ⟨b, rfl⟩ := Int.eq_ofNat_of_zero_le b0
  obtain ⟨d, rfl⟩ := Int.eq_ofNat_of_zero_le d0
  simp only [Int.toNat_natCast] at ha hb
  rw [pI_nat (by omega) ha hb, small ha hb (by omega)]
  exact (Int.natCast_mul a b).symm
def tI (a b : Int) : Int := pI a b 4
end Nim
set_option maxHeartbeats 4000000
namespace Row
def xs {α : Type} (f : α → Nat) : List α → Nat
  | [] => 0
  | a :: r => f a ^^^ xs f r
def mexGo (S : List Nat) : Nat → Nat → Nat
  | 0, n => n
  | k + 1, n => if n ∈ S then mexGo S k (n + 1) else n
def mex (S : List Nat) : Nat := mexGo S S.length 0
abbrev Rule := Nat × Nat
def shapes (r : Rule) (last : Nat) : List (List Nat) :=
  (List.range' 1 r.2).flatMap fun many =>
    if r.1 = 2 then (if many ≤ last + 1 then [(List.range many).map fun k => last + 1 - many + k] else [])
    else if r.1 = 0 ∨ many = r.2 then
      (if many = 1 then [[last]] else []) ++ (if many = 2 then (List.range last).map fun one => [one, last] else []) ++
      (if many = 3 then (List.range last).flatMap fun one => (List.range' (one + 1) (last - (one + 1))).map fun two => [one, two, last] else [])
    else []
def IsShape (last : Nat) (s : List Nat) : Prop := ∃ a : List Nat, s = a ++ [last] ∧ (∀ p ∈ a, p < last) ∧ a.Pairwise (· < ·)
def at0 (told : List Nat) (p : Nat) : Nat := told.getD p 0
def reach (r : Rule) (told : List Nat) (last : Nat) : List Nat := (shapes r last).map fun s => xs (at0 told) s.dropLast
def nums (r : Rule) : Nat → List Nat
  | 0 => []
  | n + 1 => nums r n ++ [mex (reach r (nums r n) n)]
def num (r : Rule) (p : Nat) : Nat := mex (reach r (nums r p) p)
end Row
set_option maxHeartbeats 4000000
namespace Nim
def NoZero (n : Nat) (m : Nat → Nat → Nat) : Prop := ∀ a b, a < n → b < n → m a b = 0 → a = 0 ∨ b = 0
def NoRoot (d : Nat) : Prop := ∀ t, t < N d → nim d t t ^^^ t ≠ N d / 2
def noRootB (d n : Nat) : Bool := (List.range n).all fun t => nim d t t ^^^ t != N d / 2
def tab : List (List Nat) := [[0, 0, 0, 0, 0, 0, 0, 0, 0, 0, 0, 0, 0, 0, 0, 0, 0],
  [0, 1, 2, 3, 4, 5, 6, 7, 8, 9, 10, 11, 12, 13, 14, 15, 16],
  [0, 2, 3, 1, 8, 10, 11, 9, 12, 14, 15, 13, 4, 6, 7, 5, 32],
  [0, 3, 1, 2, 12, 15, 13, 14, 4, 7, 5, 6, 8, 11, 9, 10, 48],
  [0, 4, 8, 12, 6, 2, 14, 10, 11, 15, 3, 7, 13, 9, 5, 1, 64],
  [0, 5, 10, 15, 2, 7, 8, 13, 3, 6, 9, 12, 1, 4, 11, 14, 80],
  [0, 6, 11, 13, 14, 8, 5, 3, 7, 1, 12, 10, 9, 15, 2, 4, 96],
  [0, 7, 9, 14, 10, 13, 3, 4, 15, 8, 6, 1, 5, 2, 12, 11, 112],
  [0, 8, 12, 4, 11, 3, 7, 15, 13, 5, 1, 9, 6, 14, 10, 2, 128],
  [0, 9, 14, 7, 15, 6, 1, 8, 5, 12, 11, 2, 10, 3, 4, 13, 144],
  [0, 10, 15, 5, 3, 9, 12, 6, 1, 11, 14, 4, 2, 8, 13, 7, 160],
  [0, 11, 13, 6, 7, 12, 10, 1, 9, 2, 4, 15, 14, 5, 3, 8, 176],
  [0, 12, 4, 8, 13, 1, 9, 5, 6, 10, 2, 14, 11, 7, 15, 3, 192],
  [0, 13, 6, 11, 9, 4, 15, 2, 14, 3, 8, 5, 7, 10, 1, 12, 208],
  [0, 14, 7, 9, 5, 11, 2, 12, 10, 4, 13, 3, 15, 1, 8, 6, 224],
  [0, 15, 5, 10, 1, 14, 4, 11, 2, 13, 7, 8, 3, 12, 6, 9, 240],
  [0, 16, 32, 48, 64, 80, 96, 112, 128, 144, 160, 176, 192, 208, 224, 240, 24]]
def tb (a b : Nat) : Nat := (tab.getD a []).getD b 0
def maskD (a b c : Nat) : Nat → Nat
  | 0 => 0
  | d + 1 => maskD a b c d ||| 1 <<< (tb c b ^^^ tb a d ^^^ tb c d)
def maskC (a b : Nat) : Nat → Nat
  | 0 => 0
  | c + 1 => maskC a b c ||| maskD a b c b
end Nim
namespace Row
open Nim
def cross (as bs : List Nat) : List (Nat × Nat) := as.flatMap fun x => bs.map fun y => (x, y)
def num2 (rx ry : Rule) (p : Nat × Nat) : Nat := nim 4 (num rx p.1) (num ry p.2)
end Row
set_option maxHeartbeats 4000000
namespace Row
def Sorted (l : List Nat) : Prop := l.Pairwise (· < ·)
theorem sorted_ext : ∀ {l r : List Nat}, Sorted l → Sorted r → (∀ a, a ∈ l ↔ a ∈ r) → l = r
  | [], [], _, _, _ => rfl
  | [], b :: r, _, _, h => absurd ((h b).mpr List.mem_cons_self) (by simp)
  | a :: l, [], _, _, h => absurd ((h a).mp List.mem_cons_self) (by simp)
  | a :: l, b :: r, hl, hr, h => by
    obtain ⟨hl1, hl2⟩ := List.pairwise_cons.mp hl
    obtain ⟨hr1, hr2⟩ := List.pairwise_cons.mp hr
    have e : a = b := by
      rcases List.mem_cons.mp ((h a).mp List.mem_cons_self) with q | q
      · exact q
      · rcases List.mem_cons.mp ((h b).mpr List.mem_cons_self) with z | z
        · exact z.symm
        · have := hr1 a q
          have := hl1 b z
          omega
    subst e
    rw [sorted_ext hl2 hr2 fun c => ?_]
    constructor
    · intro hc
      rcases List.mem_cons.mp ((h c).mp (List.mem_cons_of_mem _ hc)) with q | q
      · have := hl1 c hc; omega
      · exact q
    · intro hc
      rcases List.mem_cons.mp ((h c).mpr (List.mem_cons_of_mem _ hc)) with q | q
      · have := hr1 c hc; omega
      · exact q
theorem sorted_filter (n : Nat) (p : Nat → Bool) : Sorted ((List.range n).filter p) := List.Pairwise.filter _ List.pairwise_lt_range
theorem filter_self {l : List Nat} {n : Nat} (h : Sorted l) (hn : ∀ a ∈ l, a < n) : (List.range n).filter (fun a => decide (a ∈ l)) = l := by
  refine sorted_ext (sorted_filter n _) h fun a => ?_
  rw [List.mem_filter, List.mem_range, decide_eq_true_iff]
  exact ⟨fun q => q.2, fun q => ⟨hn a q, q⟩⟩
def behind (n : Nat) (heads s : List Nat) : List Nat := (List.range n).filter fun a => decide (a ∈ heads) != decide (a ∈ s)
def weight (l : List Nat) : Nat := xs (fun p => 2 ^ p) l
def Good (r : Rule) : Prop := ((r.1 = 0 ∨ r.1 = 1) ∧ 1 ≤ r.2 ∧ r.2 ≤ 3) ∨ (r.1 = 2 ∧ 1 ≤ r.2 ∧ r.2 ≤ 40)
end Row
set_option Elab.async false
set_option linter.all false
set_option maxRecDepth 100000
set_option maxHeartbeats 4000000
namespace K4
open Nim
theorem small {a b d : Int} (a0 : 0 ≤ a) (b0 : 0 ≤ b) (P : (d = 0 ∧ a < 2 ∧ b < 2) ∨ (d = 1 ∧ a < 4 ∧ b < 4) ∨ (d = 2 ∧ a < 16 ∧ b < 16) ∨ (d = 3 ∧ a < 256 ∧ b < 256) ∨ (d = 4 ∧ a < 65536 ∧ b < 65536)) (h : a < 2 ∨ b < 2) : a * b = pI a b d := by
  rcases P with ⟨rfl, h1, h2⟩ | ⟨rfl, h1, h2⟩ | ⟨rfl, h1, h2⟩ | ⟨rfl, h1, h2⟩ | ⟨rfl, h1, h2⟩
  · exact pI_small a0 b0 (by decide) (by decide) (by show a.toNat < N 0; rw [N0]; omega) (by show b.toNat < N 0; rw [N0]; omega) h
  · exact pI_small a0 b0 (by decide) (by decide) (by show a.toNat < N 1; rw [N1]; omega) (by show b.toNat < N 1; rw [N1]; omega) h
  · exact pI_small a0 b0 (by decide) (by decide) (by show a.toNat < N 2; rw [N2]; omega) (by show b.toNat < N 2; rw [N2]; omega) h
  · exact pI_small a0 b0 (by decide) (by decide) (by show a.toNat < N 3; rw [N3]; omega) (by show b.toNat < N 3; rw [N3]; omega) h
  · exact pI_small a0 b0 (by decide) (by decide) (by show a.toNat < N 4; rw [N4]; omega) (by show b.toNat < N 4; rw [N4]; omega) h
end K4
namespace K1
open Nim
structure Part (one two bit total : Int) : Prop where
  ex : ∃ k : Nat, k ≤ 16 ∧ bit = ((2 ^ k : Nat) : Int) ∧ total = ((one.toNat % 2 ^ k ^^^ two.toNat % 2 ^ k : Nat) : Int)
theorem start (one two : Int) : (1 : Int) ≤ 1 ∧ (1 : Int) ≤ 65536 ∧ (0 : Int) ≤ 0 ∧ Part one two 1 0 :=
  ⟨by decide, by decide, by decide, ⟨0, by decide, by decide, by simp [Nat.mod_one]⟩⟩
theorem fd {x : Int} {k : Nat} (h : 0 ≤ x) : Int.fdiv x ((2 ^ k : Nat) : Int) % 2 = ((x.toNat / 2 ^ k % 2 : Nat) : Int) := by
  obtain ⟨n, rfl⟩ := Int.eq_ofNat_of_zero_le h
  rw [Int.fdiv_eq_ediv_of_nonneg _ (Int.natCast_nonneg _), Int.toNat_natCast]
  rfl
theorem out {one two bit total : Int} (h : Part one two bit total) (hb : ¬ bit < 65536) (l1 : one < 65536) (l2 : two < 65536) : total = xI one two := by
  obtain ⟨k, hk, eb, et⟩ := h
  have k16 : k = 16 := by
    rcases Nat.lt_or_ge k 16 with h | h
    · have := Nat.pow_lt_pow_right (a := 2) (by decide) h
      have e : (2 : Nat) ^ 16 = 65536 := by decide
      omega
    · omega
  subst k16
  have e : (2 : Nat) ^ 16 = 65536 := by decide
  rw [e] at et
  rw [et, Nat.mod_eq_of_lt (by omega), Nat.mod_eq_of_lt (by omega)]
  rfl
end K1
set_option Elab.async false
set_option linter.all false
set_option maxRecDepth 100000
set_option maxHeartbeats 4000000
namespace L2
open PySem PySem.Spec PyProof.Rows PySem.SeqAt
inductive Dt where
  | int (i : Int) | str (x : Str) | seq (t : Bool) (xs : List Dt)
def Dat (K : PySem.W.Frag) (H : Hp) : Nat → Dt → V → Prop
  | 0, d, v => match d with
    | .int i => v = .int i
    | .str x => v = .str x
    | .seq _ _ => False
  | n + 1, d, v => match d with
    | .int i => v = .int i
    | .str x => v = .str x
    | .seq t xs => ∃ p vs, v = .ref p ∧ (if t = true then SqT K H p vs else SqL K H p vs) ∧ Paired (Dat K H n) xs vs
theorem Dat.int {K : PySem.W.Frag} {H : Hp} {n : Nat} {i : Int} {v : V} : Dat K H n (.int i) v ↔ v = .int i := by cases n <;> exact Iff.rfl
theorem Dat.str {K : PySem.W.Frag} {H : Hp} {n : Nat} {x : Str} {v : V} : Dat K H n (.str x) v ↔ v = .str x := by cases n <;> exact Iff.rfl
theorem paired_get {α β : Type} {F : α → β → Prop} : ∀ {l : List α} {r : List β} {i : Nat} {b : β}, Paired F l r → r[i]? = some b → ∃ a, l[i]? = some a ∧ F a b
  | _, _, i, b, .nil, h => by simp at h
  | _, _, 0, b, .cons f _, h => by simp at h; subst h; exact ⟨_, rfl, f⟩
  | _, _, i + 1, b, .cons _ t, h => by
    obtain ⟨a, h1, h2⟩ := paired_get (i := i) (b := b) t (by simpa using h)
    exact ⟨a, by simpa using h1, h2⟩
section
variable {X : Cx} {pins : List (Addr × Obj)} {σ : St} {H : Hp} {s : Shared}
theorem not_both (I : Inv X pins σ H s) {p : Addr} {vs ws : List V} (h1 : SqT X.K H p vs) (h2 : SqL X.K H p ws) : False := by
  obtain ⟨_, _, ⟨o, e, c, _⟩, _⟩ := I.tuple h1
  obtain ⟨_, _, ⟨o', n', e', c', _⟩, _⟩ := I.list h2
  rw [e] at e'
  cases e'
  rw [c] at c'
  exact absurd c' (by decide)
theorem paired_inj {α β : Type} {F G : α → β → Prop} (h : ∀ a a' b, F a b → G a' b → a = a') : ∀ {xs ys : List α} {vs : List β}, Paired F xs vs → Paired G ys vs → xs = ys
  | _, _, _, .nil, .nil => rfl
  | _, _, _, .cons r t, .cons r' t' => by rw [h _ _ _ r r', paired_inj h t t']
theorem dat_inj (I : Inv X pins σ H s) : ∀ (n : Nat) {d d' : Dt} {v : V}, Dat X.K H n d v → Dat X.K H n d' v → d = d'
  | 0, d, d', v, h, h' => by
    cases d <;> cases d' <;> first
      | exact (h : False).elim
      | exact (h' : False).elim
      | (have e := h.symm.trans h'; cases e <;> rfl)
  | n + 1, d, d', v, h, h' => by
    cases d with
    | int i =>
      cases d' with
      | int j => have e := h.symm.trans h'; cases e; rfl
      | str y => have e := h.symm.trans h'; cases e
      | seq t ys => obtain ⟨p, vs, e, _⟩ := h'; have e := h.symm.trans e; cases e
    | str x =>
      cases d' with
      | int j => have e := h.symm.trans h'; cases e
      | str y => have e := h.symm.trans h'; cases e; rfl
      | seq t ys => obtain ⟨p, vs, e, _⟩ := h'; have e := h.symm.trans e; cases e
    | seq t xs =>
      obtain ⟨p, vs, e, hs, r⟩ := h
      cases d' with
      | int j => have e := e.symm.trans h'; cases e
      | str y => have e := e.symm.trans h'; cases e
      | seq t' ys =>
        obtain ⟨q, ws, e', hs', r'⟩ := h'
        have e := e.symm.trans e'
        cases e
        cases t with
        | true =>
          rw [if_pos rfl] at hs
          cases t' with
          | true =>
            rw [if_pos rfl] at hs'
            have := I.tuple_inj hs hs'
            subst this
            rw [paired_inj (F := Dat X.K H n) (G := Dat X.K H n) (fun _ _ _ h h' => dat_inj I n h h') r r']
          | false =>
            rw [if_neg Bool.false_ne_true] at hs'
            exact (not_both I hs hs').elim
        | false =>
          rw [if_neg Bool.false_ne_true] at hs
          cases t' with
          | true =>
            rw [if_pos rfl] at hs'
            exact (not_both I hs' hs).elim
          | false =>
            rw [if_neg Bool.false_ne_true] at hs'
            have := I.list_inj hs hs'
            subst this
            rw [paired_inj (F := Dat X.K H n) (G := Dat X.K H n) (fun _ _ _ h h' => dat_inj I n h h') r r']
theorem all_range {e : Nat → Bool} {n : Nat} : (List.range n).all e = true ↔ ∀ j, j < n → e j = true := by simp
theorem items_eq {A : Around} {xs ys : List Dt} {vs ws : List V} {us us' : List Value} {n : Nat} (r : Vals vs us) (r' : Vals ws us') (h : Paired (Dat X.K H n) xs vs) (h' : Paired (Dat X.K H n) ys ws)
    (ih : ∀ (dx dy : Dt) (x y : V) (u v : Value), RelV x u → RelV y v → Dat X.K H n dx x → Dat X.K H n dy y → ∃ b, EqAt A s u v b ∧ (b = true ↔ dx = dy)) :
    ∃ e : Nat → Bool, ∀ j, (∀ (h1 : j < us.toArray.size) (h2 : j < us'.toArray.size), EqAt A s us.toArray[j] us'.toArray[j] (e j)) ∧ (j < us.length → j < us'.length → (e j = true ↔ xs[j]? = ys[j]?)) := by
  have key : ∀ j : Nat, ∃ b : Bool, (∀ (h1 : j < us.toArray.size) (h2 : j < us'.toArray.size), EqAt A s us.toArray[j] us'.toArray[j] b) ∧ (j < us.length → j < us'.length → (b = true ↔ xs[j]? = ys[j]?)) := ?_
  · exact ⟨fun j => Classical.choose (key j), fun j => Classical.choose_spec (key j)⟩
  intro j
  by_cases c : j < us.length ∧ j < us'.length
  · have l1 : j < vs.length := by rw [r.length]; exact c.1
    have l2 : j < ws.length := by rw [r'.length]; exact c.2
    obtain ⟨u, hu, ru⟩ := r.get (List.getElem?_eq_getElem l1)
    obtain ⟨u', hu', ru'⟩ := r'.get (List.getElem?_eq_getElem l2)
    obtain ⟨dx, hx, ix⟩ := paired_get h (List.getElem?_eq_getElem l1)
    obtain ⟨dy, hy, iy⟩ := paired_get h' (List.getElem?_eq_getElem l2)
    obtain ⟨b, hb, hiff⟩ := ih dx dy _ _ u u' ru ru' ix iy
    refine ⟨b, fun h1 h2 => ?_, fun _ _ => ?_⟩
    · have e1 : us.toArray[j] = u := by
        have : us[j]? = some us[j] := List.getElem?_eq_getElem c.1
        rw [hu] at this
        simpa using (Option.some.inj this).symm
      have e2 : us'.toArray[j] = u' := by
        have : us'[j]? = some us'[j] := List.getElem?_eq_getElem c.2
        rw [hu'] at this
        simpa using (Option.some.inj this).symm
      rw [e1, e2]
      exact hb
    · rw [hx, hy, hiff]
      exact ⟨fun z => by rw [z], fun z => Option.some.inj z⟩
  · refine ⟨true, fun h1 h2 => absurd ⟨by simpa using h1, by simpa using h2⟩ c, fun h1 h2 => absurd ⟨h1, h2⟩ c⟩
theorem ext_items {xs ys : List Dt} {e : Nat → Bool} {n : Nat} (h1 : xs.length = n) (h2 : ys.length = n) (he : ∀ j, j < n → (e j = true ↔ xs[j]? = ys[j]?)) : (List.range n).all e = true ↔ xs = ys := by
  rw [all_range]
  constructor
  · intro h
    refine List.ext_getElem? fun j => ?_
    rcases Nat.lt_or_ge j n with l | l
    · exact (he j l).mp (h j l)
    · rw [List.getElem?_eq_none (by omega), List.getElem?_eq_none (by omega)]
  · rintro rfl j l
    exact (he j l).mpr rfl
theorem eqD (I : Inv X pins σ H s) : ∀ (n : Nat) (A : Around) (dx dy : Dt) (x y : V) (u v : Value), A.units + n < cLine → RelV x u → RelV y v → Dat X.K H n dx x → Dat X.K H n dy y → ∃ b, EqAt A s u v b ∧ (b = true ↔ dx = dy)
  | n, A, dx, dy, x, y, u, v, hu, rx, ry, hx, hy => by
    have hu0 : A.units < cLine := by omega
    have seqs : ∀ {t : Bool} {zs : List Dt} {z : V} {w' : Value}, RelV z w' → Dat X.K H n (.seq t zs) z → ∃ m p vs us, z = .ref p ∧ n = m + 1 ∧ w' = .ref p ∧ Vals vs us ∧ Paired (Dat X.K H m) zs vs ∧ (t = true → s.heap.IsTuple p us.toArray ∧ SqT X.K H p vs) ∧ (t = false → s.heap.IsList p us.toArray ∧ SqL X.K H p vs) := by
      intro t zs z w' rz hz
      cases n with
      | zero => exact (hz : False).elim
      | succ m =>
        obtain ⟨p, vs, rfl, hs, r⟩ := hz
        cases rz
        cases t with
        | true =>
          rw [if_pos rfl] at hs
          obtain ⟨us, rv, pl, _⟩ := I.tuple hs
          exact ⟨m, p, vs, us, rfl, rfl, rfl, rv, r, fun _ => ⟨pl, hs⟩, (fun z => nomatch z)⟩
        | false =>
          rw [if_neg Bool.false_ne_true] at hs
          obtain ⟨us, rv, pl, _⟩ := I.list hs
          exact ⟨m, p, vs, us, rfl, rfl, rfl, rv, r, (fun z => nomatch z), fun _ => ⟨pl.isList, hs⟩⟩
    cases dx with
    | int i =>
      cases Dat.int.mp hx
      obtain ⟨t, rfl⟩ := rx
      cases dy with
      | int j =>
        cases Dat.int.mp hy
        obtain ⟨t', rfl⟩ := ry
        exact ⟨_, EqAt.int_int i t j t', by simp⟩
      | str z =>
        cases Dat.str.mp hy
        obtain ⟨t', rfl⟩ := ry
        exact ⟨_, EqAt.int_str i t z t', by simp⟩
      | seq b ys =>
        obtain ⟨m, p, vs, us, _, _, rfl, _, _, h1, h2⟩ := seqs ry hy
        cases b with
        | true => exact ⟨_, EqAt.int_tuple i t (h1 rfl).1 hu0, by simp⟩
        | false => exact ⟨_, EqAt.int_list i t (h2 rfl).1 hu0, by simp⟩
    | str z =>
      cases Dat.str.mp hx
      obtain ⟨t, rfl⟩ := rx
      cases dy with
      | int j =>
        cases Dat.int.mp hy
        obtain ⟨t', rfl⟩ := ry
        exact ⟨_, EqAt.str_int z t j t', by simp⟩
      | str z' =>
        cases Dat.str.mp hy
        obtain ⟨t', rfl⟩ := ry
        exact ⟨_, EqAt.str_str z t z' t', by simp⟩
      | seq b ys =>
        obtain ⟨m, p, vs, us, _, _, rfl, _, _, h1, h2⟩ := seqs ry hy
        cases b with
        | true => exact ⟨_, EqAt.str_tuple z t (h1 rfl).1 hu0, by simp⟩
        | false => exact ⟨_, EqAt.str_list z t (h2 rfl).1 hu0, by simp⟩
    | seq a xs =>
      obtain ⟨m, p, vs, us, ex, hm, rfl, rv, hp, h1, h2⟩ := seqs rx hx
      cases dy with
      | int j =>
        cases Dat.int.mp hy
        obtain ⟨t', rfl⟩ := ry
        cases a with
        | true => exact ⟨_, EqAt.tuple_int j t' (h1 rfl).1 hu0, by simp⟩
        | false => exact ⟨_, EqAt.list_int j t' (h2 rfl).1 hu0, by simp⟩
      | str z =>
        cases Dat.str.mp hy
        obtain ⟨t', rfl⟩ := ry
        cases a with
        | true => exact ⟨_, EqAt.tuple_str z t' (h1 rfl).1 hu0, by simp⟩
        | false => exact ⟨_, EqAt.list_str z t' (h2 rfl).1 hu0, by simp⟩
      | seq b ys =>
        obtain ⟨m', p', vs', us', ey, hm', rfl, rv', hp', h1', h2'⟩ := seqs ry hy
        have : m' = m := by omega
        subst this
        by_cases same : p = p'
        · subst same
          have e : x = y := by rw [ex, ey]
          subst e
          exact ⟨true, EqAt.same _, by simp [dat_inj I n hx hy]⟩
        have l1 : xs.length = us.length := by rw [← rv.length]; exact Paired.length hp
        have l2 : ys.length = us'.length := by rw [← rv'.length]; exact Paired.length hp'
        obtain ⟨e, he⟩ := items_eq (A := A.in1) rv rv' hp hp' (fun dx dy x y u v r1 r2 i1 i2 => eqD I m' A.in1 dx dy x y u v (by show A.units + 1 + m' < _; omega) r1 r2 i1 i2)
        cases a with
        | true =>
          cases b with
          | true =>
            refine ⟨_, EqAt.of_refs same (RcAt.tuples (h1 rfl).1 (h1' rfl).1 hu0 fun j a1 a2 => (he j).1 a1 a2), ?_⟩
            rw [Bool.and_eq_true]
            simp only [List.size_toArray, beq_iff_eq]
            constructor
            · rintro ⟨z1, z2⟩
              rw [z2, Nat.min_self] at z1
              rw [(ext_items (by omega) (by omega) fun j l => (he j).2 (by omega) l).mp z1]
            · intro z
              cases z
              have z2 : us.length = us'.length := by omega
              refine ⟨?_, z2⟩
              rw [z2, Nat.min_self]
              exact (ext_items (by omega) (by omega) fun j l => (he j).2 (by omega) l).mpr rfl
          | false => exact ⟨_, EqAt.tuple_list (h1 rfl).1 (h2' rfl).1 hu0, by simp⟩
        | false =>
          cases b with
          | true => exact ⟨_, EqAt.list_tuple (h2 rfl).1 (h1' rfl).1 hu0, by simp⟩
          | false =>
            by_cases hs : us.length = us'.length
            · refine ⟨_, EqAt.of_refs same (RcAt.lists (h2 rfl).1 (h2' rfl).1 (by simpa using hs) hu0 fun j a1 a2 => (he j).1 a1 a2), ?_⟩
              simp only [List.size_toArray]
              rw [ext_items (xs := xs) (ys := ys) (by omega) (by omega) fun j l => (he j).2 l (by omega)]
              simp
            · refine ⟨_, EqAt.of_refs same (RcAt.lists_lengths (h2 rfl).1 (h2' rfl).1 (by simpa using hs) hu0), ?_⟩
              simp
              intro z
              subst z
              exact hs (by omega)
termination_by n => n
decreasing_by all_goals omega
theorem rcD (I : Inv X pins σ H s) {n : Nat} {A : Around} {t : Bool} {xs ys : List Dt} {x y : V} {u v : Value} (hu : A.units + (n + 1) < cLine) (rx : RelV x u) (ry : RelV y v) (hx : Dat X.K H (n + 1) (.seq t xs) x) (hy : Dat X.K H (n + 1) (.seq t ys) y) :
    ∃ b, RcAt A s u v b ∧ RcNeAt A s u v (!b) ∧ (b = true ↔ xs = ys) := by
  obtain ⟨p, vs, rfl, hs, r⟩ := hx
  obtain ⟨p', vs', rfl, hs', r'⟩ := hy
  cases rx
  cases ry
  have hu0 : A.units < cLine := by omega
  have items : ∀ {us us' : List Value}, Vals vs us → Vals vs' us' → ∃ e : Nat → Bool, ∀ j, (∀ (h1 : j < us.toArray.size) (h2 : j < us'.toArray.size), EqAt A.in1 s us.toArray[j] us'.toArray[j] (e j)) ∧ (j < us.length → j < us'.length → (e j = true ↔ xs[j]? = ys[j]?)) :=
    fun rv rv' => items_eq (A := A.in1) rv rv' r r' (fun dx dy x y u v r1 r2 i1 i2 => eqD I n A.in1 dx dy x y u v (by show A.units + 1 + n < _; omega) r1 r2 i1 i2)
  cases t with
  | true =>
    rw [if_pos rfl] at hs hs'
    obtain ⟨us, rv, pl, _⟩ := I.tuple hs
    obtain ⟨us', rv', pl', _⟩ := I.tuple hs'
    obtain ⟨e, he⟩ := items rv rv'
    have l1 : xs.length = us.length := by rw [← rv.length]; exact Paired.length r
    have l2 : ys.length = us'.length := by rw [← rv'.length]; exact Paired.length r'
    refine ⟨_, RcAt.tuples pl pl' hu0 (fun j a1 a2 => (he j).1 a1 a2), RcNeAt.tuples pl pl' hu0 (fun j a1 a2 => (he j).1 a1 a2), ?_⟩
    rw [Bool.and_eq_true]
    simp only [List.size_toArray, beq_iff_eq]
    constructor
    · rintro ⟨z1, z2⟩
      rw [z2, Nat.min_self] at z1
      exact (ext_items (by omega) (by omega) fun j l => (he j).2 (by omega) l).mp z1
    · intro z
      have z2 : us.length = us'.length := by rw [← l1, ← l2, z]
      refine ⟨?_, z2⟩
      rw [z2, Nat.min_self]
      exact (ext_items (by omega) (by omega) fun j l => (he j).2 (by omega) l).mpr z
  | false =>
    rw [if_neg Bool.false_ne_true] at hs hs'
    obtain ⟨us, rv, pl, _⟩ := I.list hs
    obtain ⟨us', rv', pl', _⟩ := I.list hs'
    obtain ⟨e, he⟩ := items rv rv'
    have l1 : xs.length = us.length := by rw [← rv.length]; exact Paired.length r
    have l2 : ys.length = us'.length := by rw [← rv'.length]; exact Paired.length r'
    by_cases hz : us.length = us'.length
    · refine ⟨_, RcAt.lists pl.isList pl'.isList (by simpa using hz) hu0 (fun j a1 a2 => (he j).1 a1 a2), RcNeAt.lists pl.isList pl'.isList (by simpa using hz) hu0 (fun j a1 a2 => (he j).1 a1 a2), ?_⟩
      simp only [List.size_toArray]
      exact ext_items (xs := xs) (ys := ys) (by omega) (by omega) fun j l => (he j).2 l (by omega)
    · refine ⟨false, RcAt.lists_lengths pl.isList pl'.isList (by simpa using hz) hu0, RcNeAt.lists_lengths pl.isList pl'.isList (by simpa using hz) hu0, ?_⟩
      simp
      intro z
      exact hz (by rw [← l1, ← l2, z])
def rEqD (K : PySem.W.Frag) (n : Nat) : R2 := fun x y H Q => ∃ t xs ys, Dat K H (n + 1) (.seq t xs) x ∧ Dat K H (n + 1) (.seq t ys) y ∧ ∀ b, (b = true ↔ xs = ys) → Q (.bl b) H
def rNeD (K : PySem.W.Frag) (n : Nat) : R2 := fun x y H Q => ∃ t xs ys, Dat K H (n + 1) (.seq t xs) x ∧ Dat K H (n + 1) (.seq t ys) y ∧ ∀ b, (b = true ↔ ¬ xs = ys) → Q (.bl b) H
theorem op_neD {n k : Nat} (hr : Room k X.A) (hn : n < 60) : OpR X (compareOp .NotEq) (rNeD X.K n) := by
  intro pins s σ H x y u v Q I rx ry h
  obtain ⟨t, xs, ys, hx, hy, q⟩ := h
  obtain ⟨b, _, h1, hb⟩ := rcD I (A := X.A) (by have := hr.units; omega) rx ry hx hy
  refine h1 _ _ _ _ ⟨.bl (!b), H, I, rfl, q _ ?_⟩
  cases b with
  | true => simp [hb.mp rfl]
  | false => simp; exact fun z => absurd (hb.mpr z) Bool.false_ne_true
def rInD (K : PySem.W.Frag) (n : Nat) (neg : Bool) : R2 := fun x y H Q => ∃ dx t ds, Dat K H n dx x ∧ Dat K H (n + 1) (.seq t ds) y ∧ ∀ b, (b = true ↔ dx ∈ ds) → Q (.bl (if neg then !b else b)) H
end
end L2
set_option Elab.async false
set_option linter.all false
set_option maxRecDepth 100000
set_option maxHeartbeats 4000000
namespace L2
open PySem PySem.Spec PyProof.Rows
def nl (xs : List Nat) : List V := xs.map fun (n : Nat) => V.int (n : Int)
theorem nl_length (xs : List Nat) : (nl xs).length = xs.length := List.length_map _
theorem nl_append (xs ys : List Nat) : nl (xs ++ ys) = nl xs ++ nl ys := List.map_append
theorem Same.upd {H0 H : Hp} {l : Addr} {o : HO} (h : Same H0 H) (n : H0 l = none) : Same H0 (upd H l o) := fun b u e => by
  rw [upd_ne (ne_of_none e n)]
  exact h b u e
theorem Same.new {H0 H : Hp} {p : Addr} {o : HO} (h : Same H0 H) (n : H p = none) : Same H0 (L2.upd H p o) := h.upd (h.free n)
def RL (H0 H : Hp) (xss : List (List Nat)) (rs : List Addr) : Prop := Paired (fun xs r => H r = some (.lst (nl xs)) ∧ H0 r = none) xss rs
theorem RL.length {H0 H : Hp} {xss : List (List Nat)} {rs : List Addr} (h : RL H0 H xss rs) : xss.length = rs.length := Paired.length h
theorem RL.same {H0 H H' : Hp} {xss : List (List Nat)} {rs : List Addr} (h : RL H0 H xss rs) (e : Same H H') : RL H0 H' xss rs := Paired.mapP h fun _ _ q => ⟨e _ _ q.1, q.2⟩
theorem RL.base {H0 H1 H : Hp} {xss : List (List Nat)} {rs : List Addr} (h : RL H1 H xss rs) (e : Same H0 H1) : RL H0 H xss rs := Paired.mapP h fun _ _ q => ⟨q.1, e.free q.2⟩
theorem paired_mem {α β : Type} {F : α → β → Prop} : ∀ {xs : List α} {rs : List β} {r : β}, Paired F xs rs → r ∈ rs → ∃ x ∈ xs, F x r
  | _, _, _, .nil, h => by cases h
  | _, _, _, .cons f t, h => by
    rcases List.mem_cons.mp h with rfl | h
    · exact ⟨_, List.mem_cons_self, f⟩
    · obtain ⟨x, hx, q⟩ := paired_mem t h
      exact ⟨x, List.mem_cons_of_mem _ hx, q⟩
theorem RL.apart {H0 H : Hp} {xss : List (List Nat)} {rs : List Addr} {l : Addr} (h : RL H0 H xss rs) (e : H l = some (.lst (rs.map V.ref))) : l ∉ rs := fun hm => by
  obtain ⟨xs, _, q, _⟩ := paired_mem h hm
  rw [e] at q
  have q : rs.map V.ref = nl xs := by injection q with q; injection q
  cases rs with
  | nil => cases hm
  | cons r rs => cases xs with
    | nil => cases q
    | cons x xs => injection q with q _; cases q
theorem RL.set {H0 H : Hp} {xss : List (List Nat)} {rs : List Addr} {l : Addr} {o : HO} (h : RL H0 H xss rs) (n : l ∉ rs) : RL H0 (upd H l o) xss rs := by
  induction h with
  | nil => exact .nil
  | @cons x r xs rs f t ih =>
    refine .cons ⟨?_, f.2⟩ (ih fun z => n (List.mem_cons_of_mem _ z))
    rw [upd_ne (fun z => n (by rw [← z]; exact List.mem_cons_self))]
    exact f.1
def word : Nat → Str
  | 0 => "most"
  | 1 => "just"
  | _ => "run"
def ruleV (r : Row.Rule) : List V := [V.str (word r.1), V.int (r.2 : Int)]
def ruleOf (c : Int) (most run : Nat) : Row.Rule := if c % 3 = 2 then (2, 1 + (c / 3 % run).toNat) else ((c % 3).toNat, 1 + (c / 3 % most).toNat)
def spRule (most run : Nat) : Sp := fun vs H Q _ => ∃ c : Int, vs = [.int c] ∧ ∀ H' p, Same H H' → H' p = some (.tup (ruleV (ruleOf c most run))) → H p = none → Q (.ref p) H'
def headsOf (c : Int) (first many : Nat) : List Nat := ((List.range many).filter fun k => decide (c / 2 ^ k % 2 = 1)).map (first + ·)
theorem headsOf_succ (c : Int) (first k : Nat) : headsOf c first (k + 1) = headsOf c first k ++ (if c / 2 ^ k % 2 = 1 then [first + k] else []) := by
  unfold headsOf
  rw [List.range_succ, List.filter_append, List.map_append]
  congr 1
  by_cases h : c / 2 ^ k % 2 = 1 <;> simp [h]
theorem headsOf_len (c : Int) (first many : Nat) : (headsOf c first many).length ≤ many := by
  unfold headsOf
  rw [List.length_map]
  exact Nat.le_trans (List.length_filter_le _ _) (by simp)
theorem headsOf_lt {c : Int} {first many : Nat} : ∀ a ∈ headsOf c first many, first ≤ a ∧ a < first + many := fun a h => by
  obtain ⟨k, hk, rfl⟩ := List.mem_map.mp h
  have := List.mem_range.mp (List.mem_filter.mp hk).1
  omega
theorem headsOf_sorted (c : Int) (first many : Nat) : Row.Sorted (headsOf c first many) := by
  unfold headsOf Row.Sorted
  rw [List.pairwise_map]
  exact List.Pairwise.imp (fun h => by omega) (List.Pairwise.filter _ List.pairwise_lt_range)
theorem half (c : Int) (k : Nat) : c / 2 ^ k / 2 = c / 2 ^ (k + 1) := by
  rw [Int.pow_succ, Int.ediv_ediv_of_nonneg (by exact Int.pow_nonneg (by decide))]
def spHeads : Sp := fun vs H Q _ => ∃ (c : Int) (m : Nat), vs = [.int c, .int (m : Int)] ∧ m ≤ 1000 ∧ ∀ H' p, Same H H' → H' p = some (.lst (nl (headsOf c 0 m))) → H p = none → Q (.ref p) H'
def spHeads3 : Sp := fun vs H Q _ => ∃ (c : Int) (f m : Nat), vs = [.int c, .int (f : Int), .int (m : Int)] ∧ m ≤ 1000 ∧ ∀ H' p, Same H H' → H' p = some (.lst (nl (headsOf c f m))) → H p = none → Q (.ref p) H'
def spShapes (K : PySem.W.Frag) : Sp := fun vs H Q _ => ∃ (pr : Addr) (r : Row.Rule) (last : Nat), vs = [.ref pr, .int (last : Int)] ∧ SqT K H pr (ruleV r) ∧ Row.Good r ∧ last < 40 ∧
  ∀ H' p rs, Same H H' → H p = none → H' p = some (.lst (rs.map V.ref)) → RL H H' (Row.shapes r last) rs → Q (.ref p) H'
theorem Same.tup {K : PySem.W.Frag} {H H' : Hp} {a : Addr} {xs : List V} (e : Same H H') (h : SqT K H a xs) : SqT K H' a xs := by
  rcases h with (h | ⟨o, h⟩) | h
  · exact .inl (.inl (e _ _ h))
  · exact .inl (.inr ⟨o, e _ _ h⟩)
  · exact .inr h
end L2
namespace Row
def part (r : Rule) (last many : Nat) : List (List Nat) :=
  if r.1 = 2 then (if many ≤ last + 1 then [(List.range many).map fun k => last + 1 - many + k] else [])
  else if r.1 = 0 ∨ many = r.2 then
    (if many = 1 then [[last]] else []) ++ (if many = 2 then (List.range last).map fun one => [one, last] else []) ++
    (if many = 3 then (List.range last).flatMap fun one => (List.range' (one + 1) (last - (one + 1))).map fun two => [one, two, last] else [])
  else []
def upTo (r : Rule) (last n : Nat) : List (List Nat) := (List.range' 1 n).flatMap (part r last)
def threes (last n : Nat) : List (List Nat) := (List.range n).flatMap fun one => (List.range' (one + 1) (last - (one + 1))).map fun two => [one, two, last]
end Row
set_option Elab.async false
set_option linter.all false
set_option maxRecDepth 100000
set_option maxHeartbeats 4000000
namespace L2
open PySem PySem.Spec PyProof.Rows
def EvE (t : TE) (σ : St) (H : Hp) (v : V) : Prop := ∀ Q : VK, Q v H → t σ H Q
def EvT (t : TT) (σ : St) (H : Hp) (b : Bool) : Prop := ∀ Q : Bool → Hp → Prop, Q b H → t σ H Q
def EvA (t : TA) (σ : St) (H : Hp) (vs : List V) : Prop := ∀ Q : List V → Hp → Prop, Q vs H → t σ H Q
section
variable {K : PySem.W.Frag} {σ : St} {H : Hp} {ta tb t : TE} {x y v : V} {i j : Int} {c d : TT} {a b : Bool} {D : Ends} {s u : TS} {ts : TA}
theorem ev_var {n : Nat} (h : σ[n]? = some (some v)) : EvE (tVar n) σ H v := fun Q q => ⟨v, h, q⟩
theorem ev_c : EvE (tC v) σ H v := fun Q q => q
theorem ev_i0 {g : Int → Int → V} (ha : EvE ta σ H (.int i)) (hb : EvE tb σ H (.int j)) : EvE (tOp (rI0 g) ta tb) σ H (g i j) := fun Q q => ha _ (hb _ ⟨i, j, rfl, rfl, q⟩)
theorem ev_i {C : Int → Int → Prop} {g : Int → Int → V} (ha : EvE ta σ H (.int i)) (hb : EvE tb σ H (.int j)) (hc : C i j) : EvE (tOp (rI C g) ta tb) σ H (g i j) := fun Q q => ha _ (hb _ ⟨i, j, rfl, rfl, hc, q⟩)
theorem ev_u {g : Int → V} (ha : EvE ta σ H (.int i)) : EvE (tUn (rU g) ta) σ H (g i) := fun Q q => ha _ ⟨i, rfl, q⟩
theorem ev_ixT {p : Addr} {xs : List V} (ha : EvE ta σ H (.ref p)) (hb : EvE tb σ H (.int i)) (h : SqT K H p xs) (e : atI xs i = some v) : EvE (tOp (rIxT K) ta tb) σ H v := fun Q q => ha _ (hb _ ⟨p, xs, i, v, rfl, rfl, h, e, q⟩)
theorem ev_ixL {p : Addr} {xs : List V} (ha : EvE ta σ H (.ref p)) (hb : EvE tb σ H (.int i)) (h : SqL K H p xs) (e : atI xs i = some v) : EvE (tOp (rIxL K) ta tb) σ H v := fun Q q => ha _ (hb _ ⟨p, xs, i, v, rfl, rfl, h, e, q⟩)
theorem ev_eq (ha : EvE ta σ H x) (hb : EvE tb σ H y) (hs : scal x y = true) : EvE (tOp rEq ta tb) σ H (.bl (decide (x = y))) := fun Q q => ha _ (hb _ ⟨hs, q⟩)
theorem ev_ne (ha : EvE ta σ H x) (hb : EvE tb σ H y) (hs : scal x y = true) : EvE (tOp rNe ta tb) σ H (.bl (!decide (x = y))) := fun Q q => ha _ (hb _ ⟨hs, q⟩)
theorem ev_eqI (ha : EvE ta σ H (.int i)) (hb : EvE tb σ H (.int j)) : EvE (tOp rEq ta tb) σ H (.bl (decide (i = j))) := fun Q q => ha _ (hb _ ⟨rfl, by
  rw [show decide (V.int i = V.int j) = decide (i = j) by rw [Bool.eq_iff_iff]; simp]; exact q⟩)
theorem ev_neI (ha : EvE ta σ H (.int i)) (hb : EvE tb σ H (.int j)) : EvE (tOp rNe ta tb) σ H (.bl (!decide (i = j))) := fun Q q => ha _ (hb _ ⟨rfl, by
  rw [show decide (V.int i = V.int j) = decide (i = j) by rw [Bool.eq_iff_iff]; simp]; exact q⟩)
theorem ev_test (h : EvE t σ H (.bl b)) : EvT (tTest t) σ H b := fun Q q => h _ ⟨b, rfl, q⟩
theorem ev_tB (h : EvE t σ H (.bl b)) : EvT (tB t) σ H b := fun Q q => h _ ⟨b, rfl, q⟩
theorem ev_or (h1 : EvT c σ H a) (h2 : a = false → EvT d σ H b) : EvT (tOr c d) σ H (a || b) := fun Q q => h1 _ (by
  cases a with
  | true => exact q
  | false => exact h2 rfl _ q)
theorem ev_and (h1 : EvT c σ H a) (h2 : a = true → EvT d σ H b) : EvT (tAnd c d) σ H (a && b) := fun Q q => h1 _ (by
  cases a with
  | true => exact h2 rfl _ q
  | false => exact q)
theorem ev_not (h : EvT c σ H a) : EvT (tNot c) σ H (!a) := fun Q q => h _ q
theorem ev_andV (h1 : EvE ta σ H (.bl a)) (h2 : a = true → EvE tb σ H (.bl b)) : EvE (tAndV ta tb) σ H (.bl (a && b)) := fun Q q => h1 _ ⟨a, rfl, by
  cases a with
  | true => exact h2 rfl _ q
  | false => exact q⟩
theorem ev_notV (h : EvE ta σ H (.bl a)) : EvE (tNotV ta) σ H (.bl (!a)) := fun Q q => h _ ⟨a, rfl, q⟩
theorem ev_nil : EvA tNil σ H [] := fun Q q => q
theorem ev_cons {vs : List V} (ha : EvE ta σ H v) (hr : EvA ts σ H vs) : EvA (tCons ta ts) σ H (v :: vs) := fun Q q => ha _ (hr _ q)
theorem ev_call {sp : Sp} {E : XK} {vs : List V} (ha : EvA ts σ H vs) (hr : ∀ Q : VK, Q v H → sp (vs ++ []) H Q E) : EvE (tCall sp [] E ts) σ H v := fun Q q => ha _ (hr _ q)
theorem ifS_of (h : EvT c σ H b) (ht : b = true → s D σ H) (hu : b = false → u D σ H) : tIfS c s u D σ H := h _ (by
  cases b with
  | true => exact ht rfl
  | false => exact hu rfl)
theorem seq_of (h : s { D with nx := u D } σ H) : tSeq s u D σ H := h
theorem next_of (h : D.nx σ H) : tNext D σ H := h
theorem asg_of {n : Nat} (h : EvE t σ H v) (q : D.nx (σ.set n (some v)) H) : tAsg t (gName n) D σ H := h _ q
theorem ret_of (h : EvE t σ H v) (q : D.rt v H) : tRet t D σ H := h _ q
theorem rng1_of {R : It → Hp → Prop} (h : EvA ts σ H [.int j]) (h1 : -(2 ^ 62) ≤ j) (h2 : j < 2 ^ 62) (q : R (Itr 0 j.toNat) H) : iRng1 ts σ H R := h _ ⟨j, rfl, h1, h2, q⟩
end
end L2
set_option Elab.async false
set_option linter.all false
set_option maxRecDepth 100000
set_option maxHeartbeats 4000000
namespace L2
open PySem PySem.Spec PyProof.Rows
structure Seen (kvs : List (Key × V)) (S : List Nat) : Prop where
  len : kvs.length ≤ S.length
  has : ∀ m : Nat, (valV kvs (Sum.inl (m : Int))).isSome = true ↔ m ∈ S
theorem Seen.nil : Seen [] [] := ⟨Nat.le_refl _, fun m => by simp [valV]⟩
theorem Seen.put {kvs : List (Key × V)} {S : List Nat} (h : Seen kvs S) (n : Nat) : Seen (putK kvs (Sum.inl (n : Int) : Key) (V.bl true)) (S ++ [n]) := by
  refine ⟨?_, fun m => ?_⟩
  · have := length_putK kvs (Sum.inl (n : Int) : Key) (V.bl true)
    have := h.len
    rw [List.length_append, List.length_singleton]
    omega
  · rw [valV_put, List.mem_append, List.mem_singleton, ← h.has m]
    by_cases e : m = n
    · rw [if_pos (by rw [e])]
      simp [e]
    · rw [if_neg (by intro z; have z : (m : Int) = n := by injection z
                     omega)]
      simp [e]
def spOver (K : PySem.W.Frag) : Sp := fun vs H Q _ => ∃ (pt pp : Addr) (told places : List Nat), vs = [.ref pt, .ref pp] ∧ SqL K H pt (nl told) ∧ SqL K H pp (nl places) ∧ (∀ a ∈ places, a < told.length) ∧ Q (.int (Row.xs (Row.at0 told) places : Int)) H
def spNumbers (K : PySem.W.Frag) : Sp := fun vs H Q _ => ∃ (pr : Addr) (r : Row.Rule) (m : Nat), vs = [.ref pr, .int (m : Int)] ∧ SqT K H pr (ruleV r) ∧ Row.Good r ∧ m ≤ 40 ∧ ∀ H' p, Same H H' → H p = none → H' p = some (.lst (nl (Row.nums r m))) → Q (.ref p) H'
end L2
set_option Elab.async false
set_option linter.all false
set_option maxRecDepth 100000
set_option maxHeartbeats 4000000
namespace Row
structure IsRow (hs : List Nat) : Prop where
  sorted : Sorted hs
  lt : ∀ a ∈ hs, a < 40
def turnsOf (r : Rule) (hs : List Nat) : List (List Nat) := hs.flatMap (shapes r)
def Lets (r : Rule) (hs : List Nat) (ts : List Int) : Prop := ∃ t : List Nat, ts = t.map (fun (n : Nat) => (n : Int)) ∧ ∃ last ∈ hs, t ∈ shapes r last
def replyOf (r : Rule) (hs : List Nat) : Option (List Nat) := (turnsOf r hs).find? fun t => xs (num r) t == xs (num r) hs
end Row
namespace L2
open PySem PySem.Spec PyProof.Rows
def spTurns (K : PySem.W.Frag) : Sp := fun vs H Q _ => ∃ (pr ph : Addr) (r : Row.Rule) (hs : List Nat), vs = [.ref pr, .ref ph] ∧ SqT K H pr (ruleV r) ∧ Row.Good r ∧ SqL K H ph (nl hs) ∧ Row.IsRow hs ∧
  ∀ H' p rs, Same H H' → H p = none → H' p = some (.lst (rs.map V.ref)) → RL H H' (Row.turnsOf r hs) rs → rs.Nodup → p ∉ rs → Q (.ref p) H'
def spAllows (K : PySem.W.Frag) : Sp := fun vs H Q _ => ∃ (pr ph pt : Addr) (r : Row.Rule) (hs : List Nat) (ts : List Int), vs = [.ref pr, .ref ph, .ref pt] ∧ SqT K H pr (ruleV r) ∧ Row.Good r ∧ SqL K H ph (nl hs) ∧ Row.IsRow hs ∧ SqL K H pt (ts.map V.int) ∧ ts.length ≤ 1000 ∧
  ∀ H' b, Same H H' → (b = true ↔ Row.Lets r hs ts) → Q (.bl b) H'
def spAfter (K : PySem.W.Frag) (cT : Addr) : Sp := fun vs H Q E => ∃ (pr ph pt : Addr) (r : Row.Rule) (hs : List Nat) (ts : List Int), vs = [.ref pr, .ref ph, .ref pt] ∧ SqT K H pr (ruleV r) ∧ Row.Good r ∧ SqL K H ph (nl hs) ∧ Row.IsRow hs ∧ SqL K H pt (ts.map V.int) ∧ ts.length ≤ 1000 ∧
  (∀ t : List Nat, ts = t.map (fun (n : Nat) => (n : Int)) → (∃ last ∈ hs, t ∈ Row.shapes r last) → ∀ H' p, Same H H' → H p = none → H' p = some (.lst (nl (Row.behind 40 hs t))) → Q (.ref p) H') ∧
  (¬ Row.Lets r hs ts → ∀ H', Same H H' → E (.ref cT) none H')
def spNumberOf (K : PySem.W.Frag) : Sp := fun vs H Q _ => ∃ (pr : Addr) (r : Row.Rule) (n : Nat), vs = [.ref pr, .int (n : Int)] ∧ SqT K H pr (ruleV r) ∧ Row.Good r ∧ n < 40 ∧ ∀ H', Same H H' → Q (.int (Row.num r n : Int)) H'
def spValue (K : PySem.W.Frag) : Sp := fun vs H Q _ => ∃ (pr ph : Addr) (r : Row.Rule) (hs : List Nat), vs = [.ref pr, .ref ph] ∧ SqT K H pr (ruleV r) ∧ Row.Good r ∧ SqL K H ph (nl hs) ∧ Row.IsRow hs ∧ ∀ H', Same H H' → Q (.int (Row.xs (Row.num r) hs : Int)) H'
def spReply (K : PySem.W.Frag) : Sp := fun vs H Q _ => ∃ (pr ph : Addr) (r : Row.Rule) (hs : List Nat), vs = [.ref pr, .ref ph] ∧ SqT K H pr (ruleV r) ∧ Row.Good r ∧ SqL K H ph (nl hs) ∧ Row.IsRow hs ∧
  (Row.xs (Row.num r) hs = 0 → ∀ H', Same H H' → Q .non H') ∧
  (Row.xs (Row.num r) hs ≠ 0 → ∀ t, Row.replyOf r hs = some t → ∀ H' p, Same H H' → H p = none → H' p = some (.lst (nl t)) → Q (.ref p) H')
theorem Callee.mono {P : Program} {w : World} {K : PySem.W.Frag} {mg : Str → Option Value} {base : Heap} {x : Str} {j k : Nat} {ps : List Str} {sp : Sp} (C : Callee P w K mg base x j ps sp) (h : j ≤ k) : Callee P w K mg base x k ps sp := by
  obtain ⟨f, fd, hm, hkp, hb, F⟩ := C.ex
  exact ⟨f, fd, hm, hkp, hb, F.mono h⟩
theorem CalleeX.mono {P : Program} {w : World} {K : PySem.W.Frag} {mg : Str → Option Value} {base : Heap} {x : Str} {j k : Nat} {ps : List Str} {sp : Sp} (C : CalleeX P w K mg base x j ps sp) (h : j ≤ k) : CalleeX P w K mg base x k ps sp := by
  obtain ⟨f, fd, hm, hkp, hb, F⟩ := C.ex
  exact ⟨f, fd, hm, hkp, hb, F.mono h⟩
end L2
namespace Row
def others (r : Rule) (last : Nat) : List (List Nat) :=
  (List.range' 1 r.2).flatMap fun many =>
    if r.1 = 2 then (if many ≤ last + 1 then [(List.range (many - 1)).map fun k => last - 1 - k] else [])
    else if r.1 = 0 ∨ many = r.2 then
      (if many = 1 then [[]] else []) ++ (if many = 2 then (List.range last).map fun one => [one] else []) ++
      (if many = 3 then (List.range last).flatMap fun one => (List.range one).map fun two => [one, two] else [])
    else []
def opart (r : Rule) (last many : Nat) : List (List Nat) :=
  if r.1 = 2 then (if many ≤ last + 1 then [(List.range (many - 1)).map fun k => last - 1 - k] else [])
  else if r.1 = 0 ∨ many = r.2 then
    (if many = 1 then [[]] else []) ++ (if many = 2 then (List.range last).map fun one => [one] else []) ++
    (if many = 3 then (List.range last).flatMap fun one => (List.range one).map fun two => [one, two] else [])
  else []
def oUpTo (r : Rule) (last n : Nat) : List (List Nat) := (List.range' 1 n).flatMap (opart r last)
def twos (n : Nat) : List (List Nat) := (List.range n).flatMap fun one => (List.range one).map fun two => [one, two]
end Row
namespace L2
open PySem PySem.Spec PyProof.Rows
def spOthers (K : PySem.W.Frag) : Sp := fun vs H Q _ => ∃ (pr : Addr) (r : Row.Rule) (last : Nat), vs = [.ref pr, .int (last : Int)] ∧ SqT K H pr (ruleV r) ∧ Row.Good r ∧ last < 40 ∧
  ∀ H' p rs, Same H H' → H p = none → H' p = some (.lst (rs.map V.ref)) → RL H H' (Row.others r last) rs → Q (.ref p) H'
end L2
namespace L2
open PySem PySem.Spec PyProof.Rows
theorem ev_cell {K : PySem.W.Frag} {σ : St} {H : Hp} {n : Nat} {a : Addr} {ns : List Int} (k : Nat) (h : σ[n]? = some (some (.ref a))) (hS : SqL K H a (ns.map V.int)) : EvE (tCall (spCell K) [] E0 (tCons (tVar n) (tCons (tC (V.int (k : Int))) tNil))) σ H (.int (cell ns k)) :=
  ev_call (ev_cons (ev_var h) (ev_cons ev_c ev_nil)) fun Q q => ⟨a, ns, k, rfl, hS, q⟩
theorem at_nl {told : List Nat} {a : Nat} (h : a < told.length) : atI (nl told) (a : Int) = some (V.int (Row.at0 told a : Int)) := atI_nat (by
  unfold nl
  rw [List.getElem?_map, List.getElem?_eq_getElem h]
  unfold Row.at0
  rw [List.getD_eq_getElem?_getD, List.getElem?_eq_getElem h]
  rfl)
end L2
namespace L2
open PySem PySem.Spec PyProof.Rows
def nd (xs : List Nat) : List Dt := xs.map fun (n : Nat) => Dt.int (n : Int)
section
variable {K : PySem.W.Frag} {σ : St} {H : Hp} {ta tb : TE}
theorem ev_isList {p : Addr} {xs : List V} {r : TA} (hr : EvA r σ H [.ref p, .ty "list"]) (h : H p = some (.lst xs)) : EvE (tCB (fun xs H Q => ∃ x T t b, xs = [x, .ty T] ∧ TyOf K H x t ∧ PySem.W.kitOne K t (.type T) = some b ∧ Q (.bl b) H) r) σ H (.bl true) :=
  fun Q q => hr _ ⟨_, _, _, true, rfl, .lst h, rfl, q⟩
theorem ev_isInt {i : Int} {r : TA} (hr : EvA r σ H [.int i, .ty "int"]) : EvE (tCB (fun xs H Q => ∃ x T t b, xs = [x, .ty T] ∧ TyOf K H x t ∧ PySem.W.kitOne K t (.type T) = some b ∧ Q (.bl b) H) r) σ H (.bl true) :=
  fun Q q => hr _ ⟨_, _, _, true, rfl, .int i, rfl, q⟩
theorem ev_notBool {i : Int} {r : TA} (hr : EvA r σ H [.int i, .ty "bool"]) : EvE (tCB (fun xs H Q => ∃ x T t b, xs = [x, .ty T] ∧ TyOf K H x t ∧ PySem.W.kitOne K t (.type T) = some b ∧ Q (.bl b) H) r) σ H (.bl false) :=
  fun Q q => hr _ ⟨_, _, _, false, rfl, .int i, by first | rfl | decide +kernel, q⟩
theorem ev_lenL {p : Addr} {xs : List V} {r : TA} (hr : EvA r σ H [.ref p]) (h : SqL K H p xs) : EvE (tCB (fun xs H Q => ∃ p ys, xs = [.ref p] ∧ (SqL K H p ys ∨ SqT K H p ys) ∧ Q (.int ys.length) H) r) σ H (.int xs.length) :=
  fun Q q => hr _ ⟨p, xs, rfl, .inl h, q⟩
end
end L2
namespace Row
theorem sorted_len {hs : List Nat} {n : Nat} (h : Sorted hs) (hl : ∀ a ∈ hs, a < n) : hs.length ≤ n := by
  rw [← filter_self h hl]
  refine Nat.le_trans (List.length_filter_le _ _) ?_
  rw [List.length_range]
  exact Nat.le_refl _
theorem IsRow.len {hs : List Nat} (h : IsRow hs) : hs.length ≤ 40 := sorted_len h.sorted h.lt
theorem IsRow.take {hs : List Nat} (h : IsRow hs) (i : Nat) : IsRow (hs.take i) := ⟨List.Pairwise.sublist (List.take_sublist _ _) h.sorted, fun a ha => h.lt a (List.mem_of_mem_take ha)⟩
end Row
namespace L2
open PySem PySem.Spec PyProof.Rows
theorem cut {s R : TS} {D : Ends} {σ : St} {H : Hp} (Pv : St → Hp → Prop) (h : ∀ X : St → Hp → Prop, (∀ σ' H', Pv σ' H' → X σ' H') → s { D with nx := X } σ H) (hR : ∀ σ' H', Pv σ' H' → R D σ' H') : tSeq s R D σ H := h (R D) hR
theorem headsOf_row {c : Int} {m : Nat} (h : m ≤ 40) : Row.IsRow (headsOf c 0 m) := ⟨headsOf_sorted c 0 m, fun a ha => by have := headsOf_lt a ha; omega⟩
end L2
namespace L2
open PySem PySem.Spec PyProof.Rows
end L2
set_option Elab.async false
set_option linter.all false
set_option maxRecDepth 100000
set_option maxHeartbeats 4000000
namespace L2
open PySem PySem.Spec PyProof.Rows
section
variable {K : PySem.W.Frag} {σ : St} {H : Hp} {ta tb : TE} {i : Int}
theorem inV_int (i : Int) (ys : List Int) : inV (.int i) (ys.map V.int) = decide (i ∈ ys) := by
  unfold inV
  induction ys with
  | nil => rfl
  | cons y ys ih =>
    rw [List.map_cons, List.any_cons, ih]
    by_cases c : y = i
    · subst c
      simp [eqV]
    · have c2 : ¬ i = y := fun z => c z.symm
      simp [eqV, c, c2]
theorem flat_ints (ys : List Int) : (ys.map V.int).all flatV = true := by
  rw [List.all_map, List.all_eq_true]
  intro x _
  rfl
theorem ev_inI {p : Addr} {ys : List Int} (ha : EvE ta σ H (.int i)) (hb : EvE tb σ H (.ref p)) (h : SqL K H p (ys.map V.int)) : EvE (tOp (rIn K false) ta tb) σ H (.bl (decide (i ∈ ys))) :=
  fun Q q => ha _ (hb _ ⟨p, _, rfl, .inl h, rfl, flat_ints ys, by
    rw [inV_int]
    exact q⟩)
def ni (xs : List Nat) : List Int := xs.map fun (n : Nat) => (n : Int)
theorem nl_ni (xs : List Nat) : nl xs = (ni xs).map V.int := by unfold nl ni; rw [List.map_map]; rfl
theorem mem_ni {n : Nat} {xs : List Nat} : (n : Int) ∈ ni xs ↔ n ∈ xs := by
  unfold ni
  rw [List.mem_map]
  exact ⟨fun ⟨a, ha, e⟩ => by have e : a = n := by omega
                              exact e ▸ ha, fun h => ⟨n, h, rfl⟩⟩
theorem ev_inN {p : Addr} {n : Nat} {xs : List Nat} (ha : EvE ta σ H (.int (n : Int))) (hb : EvE tb σ H (.ref p)) (h : SqL K H p (nl xs)) : EvE (tOp (rIn K false) ta tb) σ H (.bl (decide (n ∈ xs))) := by
  rw [nl_ni] at h
  have := ev_inI ha hb h
  rwa [show decide ((n : Int) ∈ ni xs) = decide (n ∈ xs) from by simp only [mem_ni]] at this
end
def spRule3 : Sp := fun vs H Q _ => ∃ (c : Int) (most run : Nat), vs = [.int c, .int (most : Int), .int (run : Int)] ∧ 1 ≤ most ∧ 1 ≤ run ∧ ∀ H' p, Same H H' → H' p = some (.tup (ruleV (ruleOf c most run))) → H p = none → Q (.ref p) H'
def spSome (K : PySem.W.Frag) : Sp := fun vs H Q _ => ∃ (a : Addr) (ns : List Int), vs = [.ref a] ∧ SqL K H a (ns.map V.int) ∧ ∀ H' p hs, Same H H' → H p = none → H' p = some (.lst (nl hs)) → Row.IsRow hs → Q (.ref p) H'
def firstBy (r : Row.Rule) (told hs : List Nat) : Option (List Nat) := (Row.turnsOf r hs).find? fun t => Row.xs (Row.at0 told) t == Row.xs (Row.at0 told) hs
def spFirst (K : PySem.W.Frag) : Sp := fun vs H Q _ => ∃ (pr pt ph : Addr) (r : Row.Rule) (told hs : List Nat), vs = [.ref pr, .ref pt, .ref ph] ∧ SqT K H pr (ruleV r) ∧ Row.Good r ∧ SqL K H pt (nl told) ∧ SqL K H ph (nl hs) ∧ Row.IsRow hs ∧ (∀ a ∈ hs, a < told.length) ∧
  (firstBy r told hs = none → ∀ H', Same H H' → Q .non H') ∧ (∀ t, firstBy r told hs = some t → ∀ H' p, Same H H' → H p = none → H' p = some (.lst (nl t)) → Q (.ref p) H')
end L2
namespace L2
open PySem PySem.Spec PyProof.Rows
end L2
namespace Row
end Row
namespace L2
open PySem PySem.Spec PyProof.Rows
end L2
namespace Row
end Row
namespace L2
open PySem PySem.Spec PyProof.Rows
def spReached (K : PySem.W.Frag) : Sp := fun vs H Q _ => ∃ (pr pt : Addr) (r : Row.Rule) (told : List Nat), vs = [.ref pr, .ref pt] ∧ SqT K H pr (ruleV r) ∧ Row.Good r ∧ SqL K H pt (nl told) ∧ told.length < 40 ∧
  ∀ H' d kvs, Same H H' → H d = none → H' d = some (.dK kvs) → Seen kvs ((Row.others r told.length).map (Row.xs (Row.at0 told))) → Q (.ref d) H'
end L2
namespace L2
open PySem PySem.Spec PyProof.Rows
theorem ev_atN {K : PySem.W.Frag} {σ : St} {H : Hp} {ta tb : TE} {p : Addr} {told : List Nat} {i : Int} (k : Nat) (ha : EvE ta σ H (.ref p)) (hb : EvE tb σ H (.int i)) (h : SqL K H p (nl told)) (hi : i = (k : Int)) (hk : k < told.length) : EvE (tOp (rIxL K) ta tb) σ H (.int ((Row.at0 told k : Nat) : Int)) := by
  subst hi
  exact ev_ixL ha hb h (at_nl hk)
end L2
namespace Row
end Row
namespace L2
open PySem PySem.Spec PyProof.Rows
def spIs : Sp := fun vs H Q _ => ∃ i j : Int, vs = [.int i, .int j] ∧ Q (.bl (decide (i = j))) H
end L2
namespace L2
open PySem PySem.Spec PyProof.Rows
theorem ev_intB {σ : St} {H : Hp} {ts : TA} {b : Bool} (h : EvA ts σ H [.bl b]) : EvE (tCB (fun xs H Q => (∃ i, xs = [V.int i] ∧ Q (V.int i) H) ∨ ∃ k, xs = [V.bl k] ∧ Q (V.int (if k = true then 1 else 0)) H) ts) σ H (.int (if b = true then 1 else 0)) := fun Q q => h _ (.inr ⟨b, rfl, q⟩)
end L2
namespace Row
end Row
namespace L2
open PySem PySem.Spec PyProof.Rows
section
variable {t ta tb : TE} {c d : TT} {ts : TA} {σ : St} {H : Hp} {v : V} {vs : List V} {a b : Bool} {i j : Int} {D : Ends} {s u : TS}
def EvG (t : TE) (σ : St) (H : Hp) (v : V) : Prop := ∀ Q : VK, (∀ H', Same H H' → Q v H') → t σ H Q
def EvGT (c : TT) (σ : St) (H : Hp) (b : Bool) : Prop := ∀ Q : Bool → Hp → Prop, (∀ H', Same H H' → Q b H') → c σ H Q
def EvGA (ts : TA) (σ : St) (H : Hp) (vs : List V) : Prop := ∀ Q : List V → Hp → Prop, (∀ H', Same H H' → Q vs H') → ts σ H Q
theorem evg_t (h : EvT c σ H b) : EvGT c σ H b := fun Q q => h _ (q _ (Same.refl H))
theorem evg_a (h : EvA ts σ H vs) : EvGA ts σ H vs := fun Q q => h _ (q _ (Same.refl H))
theorem evg_call {sp : Sp} {E : XK} (ha : EvGA ts σ H vs) (hr : ∀ H1, Same H H1 → ∀ Q : VK, (∀ H', Same H1 H' → Q v H') → sp (vs ++ []) H1 Q E) : EvG (tCall sp [] E ts) σ H v := fun Q q => ha _ fun H1 s1 => hr H1 s1 _ fun H2 s2 => q _ (s1.trans s2)
theorem evg_tB (h : EvG t σ H (.bl b)) : EvGT (tB t) σ H b := fun Q q => h _ fun H1 s1 => ⟨b, rfl, q _ s1⟩
theorem evg_test (h : EvG t σ H (.bl b)) : EvGT (tTest t) σ H b := fun Q q => h _ fun H1 s1 => ⟨b, rfl, q _ s1⟩
theorem evg_not (h : EvGT c σ H b) : EvGT (tNot c) σ H (!b) := fun Q q => h _ fun H1 s1 => q _ s1
theorem evg_or (h1 : EvGT c σ H a) (h2 : a = false → ∀ H1, Same H H1 → EvGT d σ H1 b) : EvGT (tOr c d) σ H (a || b) := fun Q q => h1 _ fun H1 s1 => by
  cases a with
  | true => rw [if_pos rfl]; exact q _ s1
  | false => rw [if_neg (by decide)]; exact h2 rfl H1 s1 _ fun H2 s2 => q _ (s1.trans s2)
theorem evg_and (h1 : EvGT c σ H a) (h2 : a = true → ∀ H1, Same H H1 → EvGT d σ H1 b) : EvGT (tAnd c d) σ H (a && b) := fun Q q => h1 _ fun H1 s1 => by
  cases a with
  | false => rw [if_neg (by decide)]; exact q _ s1
  | true => rw [if_pos rfl]; exact h2 rfl H1 s1 _ fun H2 s2 => q _ (s1.trans s2)
theorem ifG_of (h : EvGT c σ H b) (ht : b = true → ∀ H1, Same H H1 → s D σ H1) (hu : b = false → ∀ H1, Same H H1 → u D σ H1) : tIfS c s u D σ H := h _ fun H1 s1 => by
  cases b with
  | true => rw [if_pos rfl]; exact ht rfl H1 s1
  | false => rw [if_neg (by decide)]; exact hu rfl H1 s1
end
end L2
set_option Elab.async false
set_option linter.all false
set_option maxRecDepth 100000
set_option maxHeartbeats 4000000
namespace L2
open PySem PySem.Spec PyProof.Rows
def ndd (xss : List (List Nat)) : List Dt := xss.map fun xs => Dt.seq false (nd xs)
def rdN (xs : List V) : List Nat := xs.map fun v => match v with
  | .int i => i.toNat
  | _ => 0
def wtAt (k : Nat) (σ : St) (H : Hp) : Nat := match σ[k]? with
  | some (some (.ref p)) => match H p with
    | some (.lst xs) => Row.weight (rdN xs)
    | _ => 0
  | _ => 0
def spTurnsL (K : PySem.W.Frag) : Sp := fun vs H Q _ => ∃ (pr ph : Addr) (r : Row.Rule) (hs : List Nat), vs = [.ref pr, .ref ph] ∧ SqT K H pr (ruleV r) ∧ Row.Good r ∧ SqL K H ph (nl hs) ∧ Row.IsRow hs ∧
  ∀ H' p rs, Same H H' → H p = none → H' p = some (.lst (rs.map V.ref)) → RL H H' (Row.turnsOf r hs) rs → Q (.ref p) H'
def spBehind (K : PySem.W.Frag) (n : Nat) : Sp := fun vs H Q _ => ∃ (ph pt : Addr) (hs t : List Nat), vs = [.ref ph, .ref pt] ∧ SqL K H ph (nl hs) ∧ SqL K H pt (nl t) ∧ ∀ H' p, Same H H' → H p = none → H' p = some (.lst (nl (Row.behind n hs t))) → Q (.ref p) H'
def spIsTurn : Sp := fun vs H Q _ => ∃ (pt pw : Addr) (t : List Nat) (xss : List (List Nat)) (rs : List Addr), vs = [.ref pt, .ref pw] ∧ H pt = some (.lst (nl t)) ∧ H pw = some (.lst (rs.map V.ref)) ∧ RL (fun _ => none) H xss rs ∧ Q (.bl (decide (t ∈ xss))) H
end L2
namespace Row
theorem xor_zero {a b : Nat} (h : a = b) : a ^^^ b = 0 := by rw [h, Nat.xor_self]
end Row
namespace L2
open PySem PySem.Spec PyProof.Rows
end L2
namespace L2
open PySem PySem.Spec PyProof.Rows
theorem op_in_k {X : Cx} {K : PySem.W.Frag} (h : X.K = K) : OpR X (compareOp .In) (rIn K false) := by subst h; exact op_in_seq
end L2
namespace L2
open PySem PySem.Spec PyProof.Rows
end L2
namespace L2
open PySem PySem.Spec PyProof.Rows
end L2
namespace L2
open PySem PySem.Spec PyProof.Rows
theorem call_listK {X : Cx} {K : PySem.W.Frag} (h : X.K = K) : CallR X (.type "list") (fun xs H Q => ∃ p ys, xs = [.ref p] ∧ (SqL K H p ys ∨ SqT K H p ys) ∧ ∀ l, H l = none → Q (.ref l) (upd H l (.lst ys))) := by subst h; exact call_list_of
end L2
set_option linter.all false
set_option maxRecDepth 100000
set_option maxHeartbeats 4000000
namespace Row
def oddOnesGo : Nat → Nat → Bool
  | 0, _ => false
  | f + 1, n => if n = 0 then false else (n % 2 == 1) != oddOnesGo f (n / 2)
def oddOnes (n : Nat) : Bool := oddOnesGo 64 n
def mostNum (k p : Nat) : Nat := if k = 1 then 1 else if k = 2 then p + 1 else if oddOnes p then 2 * p else 2 * p + 1
def runGo (k p : Nat) : Nat → Nat → Nat
  | 0, w => w
  | f + 1, w => if 2 * w ≤ k ∧ (p + 1) % (2 * w) = 0 then runGo k p f (2 * w) else w
def runNum (k p : Nat) : Nat := runGo k p 64 1
def clNum (r : Rule) (p : Nat) : Nat := if r.1 = 2 then runNum r.2 p else if r.1 = 0 then mostNum r.2 p else if p < r.2 - 1 then 0 else mostNum r.2 (p - (r.2 - 1))
def hits (n : Nat) (S : List Nat) : Bool := (List.range n).all fun m => S.any fun s => Nat.beq s m
def leastB (n : Nat) (S : List Nat) : Bool := S.all (fun s => !Nat.beq s n) && hits n S
def scan : Nat → List Nat → Nat → List Nat
  | _, _, 0 => []
  | a, [], _ + 1 => [a]
  | a, x :: r, n + 1 => a :: scan (a ^^^ x) r n
def pairs : List Nat → List Nat
  | [] => []
  | x :: r => r.map (fun y => x ^^^ y) ++ pairs r
def sums (r : Rule) (rev : List Nat) : List Nat :=
  if r.1 = 2 then scan 0 rev r.2
  else if r.1 = 0 then (if r.2 = 1 then [0] else if r.2 = 2 then 0 :: rev else 0 :: (rev ++ pairs rev))
  else (if r.2 = 1 then [0] else if r.2 = 2 then rev else pairs rev)
def chk (r : Rule) : Nat → Nat → List Nat → Bool
  | 0, _, _ => true
  | n + 1, p, rev => leastB (clNum r p) (sums r rev) && chk r n (p + 1) (clNum r p :: rev)
def revTo (f : Nat → Nat) : Nat → List Nat
  | 0 => []
  | p + 1 => f p :: revTo f p
end Row
set_option Elab.async false
set_option linter.all false
set_option maxRecDepth 100000
set_option maxHeartbeats 1000000
namespace Row
def Steps (r : Rule) (ts : List Int) : Prop := ∀ k, 1 ≤ k → k < ts.length → ts.getD (k - 1) 0 < ts.getD k 0 ∧ (r.1 = 2 → ts.getD k 0 = ts.getD (k - 1) 0 + 1)
end Row
set_option Elab.async false
set_option linter.all false
set_option maxRecDepth 100000
set_option maxHeartbeats 4000000
namespace L2
open PySem PySem.Spec PyProof.Rows
def spLets (K : PySem.W.Frag) : Sp := fun vs H Q _ => ∃ (pr ph pt : Addr) (r : Row.Rule) (hs : List Nat) (ts : List Int), vs = [.ref pr, .ref ph, .ref pt] ∧ SqT K H pr (ruleV r) ∧ Row.Good r ∧ SqL K H ph (nl hs) ∧ SqL K H pt (ts.map V.int) ∧ ts.length ≤ 1000 ∧ ∀ b, (b = true ↔ Row.Lets r hs ts) → Q (.bl b) H
def spIsRow : Sp := fun vs H Q _ => ∃ (pf pd : Addr) (xs ys : List Nat), vs = [.ref pf, .ref pd] ∧ H pf = some (.lst (nl xs)) ∧ H pd = some (.lst (nl ys)) ∧ ys.length ≤ 1000 ∧ Q (.bl (decide (xs = ys))) H
def spPlaces (K : PySem.W.Frag) : Sp := fun vs H Q _ => ∃ (a : Addr) (ns : List Int) (first wide : Nat), vs = [.ref a, .int (first : Int), .int (wide : Int)] ∧ SqL K H a (ns.map V.int) ∧ (wide = 9 ∨ wide = 40) ∧ ∀ H' p ts, Same H H' → H p = none → H' p = some (.lst (nl ts)) → ts ≠ [] → ts.length ≤ 40 → Q (.ref p) H'
def spSpoilt (K : PySem.W.Frag) : Sp := fun vs H Q _ => ∃ (pt : Addr) (ts : List Int) (way : Int), vs = [.ref pt, .int way] ∧ H pt = some (.lst (ts.map V.int)) ∧ ts ≠ [] ∧ ts.length ≤ 500 ∧ ∀ H' p (us : List Int), Same H H' → H' p = some (.lst (us.map V.int)) → us.length ≤ 1000 → Q (.ref p) H'
end L2
namespace L2
open PySem PySem.Spec PyProof.Rows
theorem lst_of {ts : TA} {σ : St} {H : Hp} {vs : List V} {Q : VK} (ha : EvA ts σ H vs) (hl : vs.length ≤ sizeLine) (q : ∀ p, H p = none → Q (.ref p) (upd H p (.lst vs))) : tLst ts σ H Q := ha _ ⟨hl, q⟩
theorem op_of {r : R2} {ta tb : TE} {σ : St} {H : Hp} {x : V} {Q : VK} (ha : EvE ta σ H x) (hb : tb σ H fun y H2 => r x y H2 Q) : tOp r ta tb σ H Q := ha _ hb
theorem retO_of {t : TE} {D : Ends} {σ : St} {H : Hp} (h : t σ H D.rt) : tRet t D σ H := h
end L2
namespace L2
open PySem PySem.Spec PyProof.Rows
def spAfterC (K : PySem.W.Frag) : Sp := fun vs H Q _ => ∃ (pr ph pt : Addr) (r : Row.Rule) (hs t : List Nat), vs = [.ref pr, .ref ph, .ref pt] ∧ SqT K H pr (ruleV r) ∧ Row.Good r ∧ SqL K H ph (nl hs) ∧ Row.IsRow hs ∧ SqL K H pt (nl t) ∧ t.length ≤ 1000 ∧ (∃ last ∈ hs, t ∈ Row.shapes r last) ∧
  ∀ H' p, Same H H' → H p = none → H' p = some (.lst (nl (Row.behind 40 hs t))) → Q (.ref p) H'
end L2
namespace L2
open PySem PySem.Spec PyProof.Rows
def zd (xs : List Int) : List Dt := xs.map Dt.int
theorem zd_inj {xs ys : List Int} (h : zd xs = zd ys) : xs = ys := by
  induction xs generalizing ys with
  | nil => cases ys with
    | nil => rfl
    | cons y ys => cases h
  | cons x xs ih => cases ys with
    | nil => cases h
    | cons y ys =>
      unfold zd at h ih
      rw [List.map_cons, List.map_cons] at h
      injection h with h1 h2
      injection h1 with h1
      rw [h1, ih h2]
theorem zd_paired {K : PySem.W.Frag} {H : Hp} {n : Nat} : ∀ xs : List Int, Paired (Dat K H n) (zd xs) (xs.map V.int)
  | [] => .nil
  | x :: xs => .cons (Dat.int.mpr rfl) (zd_paired xs)
theorem dat_ints {K : PySem.W.Frag} {H : Hp} {n : Nat} {p : Addr} {xs : List Int} (h : SqL K H p (xs.map V.int)) : Dat K H (n + 1) (.seq false (zd xs)) (.ref p) := ⟨p, _, rfl, by rw [if_neg Bool.false_ne_true]; exact h, zd_paired xs⟩
section
variable {K : PySem.W.Frag} {σ : St} {H : Hp} {ta tb : TE}
theorem ev_neZ {p p' : Addr} {xs ys : List Int} (ha : EvE ta σ H (.ref p)) (hb : EvE tb σ H (.ref p')) (h : SqL K H p (xs.map V.int)) (h' : SqL K H p' (ys.map V.int)) : EvE (tOp (rNeD K 0) ta tb) σ H (.bl (!decide (xs = ys))) := fun Q q => ha _ (hb _ ⟨false, zd xs, zd ys, dat_ints h, dat_ints h', fun b hb => by
  have : b = !decide (xs = ys) := by
    rw [Bool.eq_iff_iff, hb]
    simp
    exact ⟨fun z e => z (by rw [e]), fun z e => z (zd_inj e)⟩
  rw [this]
  exact q⟩)
end
end L2
set_option Elab.async false
set_option linter.all false
set_option maxRecDepth 100000
set_option maxHeartbeats 4000000
namespace Row
open Nim
def bess (as bs : List Nat) (lx ly : Nat) : List (Nat × Nat) := (cross as bs).filter fun p => p.1 != lx || p.2 != ly
def besides (rx ry : Rule) (lx ly : Nat) : List Nat := (shapes rx lx).flatMap fun as => (shapes ry ly).map fun bs => xs (num2 rx ry) (bess as bs lx ly)
end Row
namespace L2
open PySem PySem.Spec PyProof.Rows
def tv (tt : List (List Nat)) (p : Nat × Nat) : Nat := Row.at0 (tt.getD p.1 []) p.2
def spBesides (K : PySem.W.Frag) : Sp := fun vs H Q _ => ∃ (pt px py : Addr) (rs : List Addr) (tt : List (List Nat)) (a0 b0 : List Nat) (lx ly : Nat), vs = [.ref pt, .ref px, .ref py] ∧ H pt = some (.lst (rs.map V.ref)) ∧ RL (fun _ => none) H tt rs ∧ SqL K H px (nl (a0 ++ [lx])) ∧ SqL K H py (nl (b0 ++ [ly])) ∧
  (∀ a ∈ a0 ++ [lx], a < tt.length) ∧ (∀ row ∈ tt, ∀ b ∈ b0 ++ [ly], b < row.length) ∧ Q (.int ((Row.xs (tv tt) (Row.bess (a0 ++ [lx]) (b0 ++ [ly]) lx ly) : Nat) : Int)) H
def spBoardNumber (K : PySem.W.Frag) : Sp := fun vs H Q _ => ∃ (px py : Addr) (rx ry : Row.Rule) (x y : Nat), vs = [.ref px, .ref py, .int (x : Int), .int (y : Int)] ∧ SqT K H px (ruleV rx) ∧ SqT K H py (ruleV ry) ∧ Row.Good rx ∧ Row.Good ry ∧ x < 16 ∧ y < 16 ∧ ∀ H', Same H H' → Q (.int ((Row.num2 rx ry (x, y) : Nat) : Int)) H'
end L2
namespace L2
open PySem PySem.Spec PyProof.Rows
def Kp (d : Addr) (G H : Hp) : Prop := ∀ b o, b ≠ d → G b = some o → H b = some o
theorem Kp.refl {d : Addr} {G : Hp} : Kp d G G := fun _ _ _ h => h
theorem Kp.same {d : Addr} {G H H' : Hp} (h : Kp d G H) (s : Same H H') : Kp d G H' := fun b o n e => s _ _ (h b o n e)
theorem Kp.of {d : Addr} {G H : Hp} (s : Same G H) : Kp d G H := fun b o _ e => s _ _ e
theorem Kp.trans {d : Addr} {G H H' : Hp} (h : Kp d G H) (h' : Kp d H H') : Kp d G H' := fun b o n e => h' b o n (h b o n e)
theorem Kp.put {d : Addr} {G H : Hp} {o : HO} (h : Kp d G H) : Kp d G (upd H d o) := fun b u n e => by rw [upd_ne n]; exact h b u n e
theorem Kp.lst {d : Addr} {G H : Hp} {kvs : List (Key × V)} {p : Addr} {xs : List V} (h : Kp d G H) (hd : G d = some (.dK kvs)) (e : G p = some (.lst xs)) : H p = some (.lst xs) := h _ _ (fun z => by rw [z, hd] at e; cases e) e
theorem Kp.tup {K : PySem.W.Frag} {d : Addr} {G H : Hp} {kvs : List (Key × V)} {p : Addr} {xs : List V} (h : Kp d G H) (hd : G d = some (.dK kvs)) (e : SqT K G p xs) : SqT K H p xs := by
  rcases e with (e | ⟨o, e⟩) | e
  · exact .inl (.inl (h _ _ (fun z => by rw [z, hd] at e; cases e) e))
  · exact .inl (.inr ⟨o, h _ _ (fun z => by rw [z, hd] at e; cases e) e⟩)
  · exact .inr e
end L2
namespace L2
end L2
namespace L2
end L2
namespace Row
open Nim
end Row
set_option linter.all false
set_option maxRecDepth 100000
set_option maxHeartbeats 4000000
namespace Row
def chs (e : Nat) : Nat → Nat → List (List Nat)
  | 0, _ => [[]]
  | c + 1, s => (List.range' s (e - s)).flatMap fun f => (chs e c (f + 1)).map fun rest => f :: rest
def endFew (lo k p : Nat) : List (List Nat) := (List.range' lo (k + 1 - lo)).flatMap fun len => (chs p (len - 1) 0).map fun l => l ++ [p]
def endRun (k p : Nat) : List (List Nat) := (List.range (min k (p + 1))).map fun more => List.range' (p - more) (more + 1)
def prt (r : Rule) (last many : Nat) : List (List Nat) :=
  if r.1 = 2 then (if many ≤ last + 1 then [(List.range many).map fun k => last + 1 - many + k] else [])
    else if r.1 = 0 ∨ many = r.2 then
      (if many = 1 then [[last]] else []) ++ (if many = 2 then (List.range last).map fun one => [one, last] else []) ++
      (if many = 3 then (List.range last).flatMap fun one => (List.range' (one + 1) (last - (one + 1))).map fun two => [one, two, last] else [])
    else []
def endsAt (r : Rule) (p : Nat) : List (List Nat) := if r.1 = 2 then endRun r.2 p else endFew (if r.1 = 1 then r.2 else 1) r.2 p
end Row
set_option Elab.async false
set_option linter.all false
set_option maxRecDepth 100000
set_option maxHeartbeats 4000000
namespace L2
open PySem PySem.Spec PyProof.Rows
def atS (kvs : List (Str × V)) (y : Str) : Option V := (kvs.find? fun kv => decide (kv.1 = y)).map (·.2)
def GDic (K : PySem.W.Frag) (Pm : Params) (mg : Str → Option Value) (x : Str) (kvs : List (Str × V)) : Prop :=
  ∃ a es n, mg x = some (.ref a) ∧ K.lookup a = some ⟨.type "dict", none, .dict es n, #[]⟩ ∧ PySem.W.KeysLit Pm es.toList ∧ (a == sysModules) = false ∧
    Paired (fun (kv : Str × V) (e : DictEntry) => (∃ t, e.key = .str kv.1 t) ∧ RelV kv.2 e.val) kvs es.toList
def tKGet (kvs : List (Str × V)) (te : TE) : TE := fun σ H Q => te σ H fun y H1 => ∃ x v, y = .str x ∧ atS kvs x = some v ∧ Q v H1
def tKIn (neg : Bool) (kvs : List (Str × V)) (te : TE) : TE := fun σ H Q => te σ H fun y H1 => ∃ x, y = .str x ∧ Q (.bl ((atS kvs x).isSome != neg)) H1
section
variable {X : Cx} {x : Str} {kvs : List (Str × V)} {i : Expr} {ty : TE} {pos pos' : Pos}
end
section
variable {σ : St} {H : Hp} {t : TE} {kvs : List (Str × V)} {x : Str} {v : V}
section
variable {K : PySem.W.Frag} {sp : Sp} {E : XK} {ts : TA} {t : TE} {σ : St} {H : Hp} {vs : List V} {Q : VK} {r : List V → Hp → VK → Prop} {R : It → Hp → Prop}
theorem call_of (ha : EvA ts σ H vs) (h : sp (vs ++ []) H Q E) : tCall sp [] E ts σ H Q := ha _ h
theorem cb_of (ha : EvA ts σ H vs) (h : r vs H Q) : tCB r ts σ H Q := ha _ h
theorem argO_of {Q : List V → Hp → Prop} (h : t σ H fun v H1 => ts σ H1 fun vs H2 => Q (v :: vs) H2) : tCons t ts σ H Q := h
theorem callO_of (h : ts σ H fun vs H1 => sp (vs ++ []) H1 Q E) : tCall sp [] E ts σ H Q := h
theorem arg1_of {Q : List V → Hp → Prop} (h : t σ H fun v H1 => Q [v] H1) : tCons t tNil σ H Q := h
theorem tup_of (ha : EvA ts σ H vs) (hl : vs.length ≤ sizeLine) (q : ∀ p, H p = none → Q (.ref p) (upd H p (.tup vs))) : tTup ts σ H Q := ha _ ⟨hl, q⟩
theorem forO_of {wi : TI} {g : TG} {tb : TS} {D : Ends} (h : wi σ H fun J H1 => ∃ W : Nat → Nat → St → Hp → Prop, (∃ m, W 0 m σ H1) ∧ ∀ i m σ H, W i m σ H →
  (J.stop i H ∧ D.nx σ H) ∨ (J.go i H ∧ ∃ N : St → Hp → Prop, (∀ σ' H', N σ' H' → ∃ m', m' < m ∧ W (i + 1) m' σ' H') ∧ ∀ x H', J.yld i H x H' → g x σ H' fun σ2 H2 => tb { D with nx := N, ct := N, bk := D.nx } σ2 H2)) : tFor wi g tb D σ H := h
theorem asgO_of {D : Ends} {n : Nat} (h : t σ H fun x H1 => D.nx (σ.set n (some x)) H1) : tAsg t (gName n) D σ H := h
theorem opO_of {r : R2} {tb : TE} (h : t σ H fun x H1 => tb σ H1 fun y H2 => r x y H2 Q) : tOp r t tb σ H Q := h
theorem iList_of (h : t σ H fun v H1 => ∃ a, v = .ref a ∧ (∃ xs, SqL K H1 a xs) ∧ R (Itl K a) H1) : iList K t σ H R := h
end
def intAt (k : Nat) (σ : St) : Nat := match σ[k]? with
  | some (some (V.int n)) => n.toNat
  | _ => 0
end
end L2
namespace Row
end Row
set_option Elab.async false
set_option linter.all false
set_option maxRecDepth 100000
set_option maxHeartbeats 4000000
namespace HT
open PySem PyProof.Rows
def lexLe : List Int → List Int → Bool
  | [], _ => true
  | _ :: _, [] => false
  | x :: xs, y :: ys => if x = y then lexLe xs ys else decide (x ≤ y)
section
open PySem.SeqAt
open PySem.AutoSeq1 (wpAny_loadPart')
open PySem.MeetsSeq PySem.MeetsSeq2 PySem.MeetsSeq3
end
section
variable {prog : Program} {w : World} {A : Around} {E : Value → Shared → Prop} {s : Shared}
end
end HT
namespace L2
open PySem PySem.Spec PyProof.Rows
section
variable {X : Cx}
def rLeT (K : PySem.W.Frag) : R2 := fun x y H Q => ∃ a b ns ms, x = .ref a ∧ y = .ref b ∧ SqT K H a (ns.map V.int) ∧ SqT K H b (ms.map V.int) ∧ Q (.bl (HT.lexLe ns ms)) H
end
end L2
set_option linter.all false
set_option maxRecDepth 100000
set_option maxHeartbeats 4000000
namespace Row
open Nim
def PLt (a b : Nat × Nat) : Prop := a.1 < b.1 ∨ (a.1 = b.1 ∧ a.2 < b.2)
structure IsBoard (ps : List (Nat × Nat)) : Prop where
  sorted : ps.Pairwise PLt
  lt : ∀ p ∈ ps, p.1 < 16 ∧ p.2 < 16
def turns2 (rx ry : Rule) (ps : List (Nat × Nat)) : List (List Nat × List Nat) := ps.flatMap fun p => (shapes rx p.1).flatMap fun as => (shapes ry p.2).map fun bs => (as, bs)
def tsum (rx ry : Rule) (t : List Nat × List Nat) : Nat := nim 4 (xs (num rx) t.1) (xs (num ry) t.2)
def replyOf2 (rx ry : Rule) (ps : List (Nat × Nat)) : Option (List Nat × List Nat) := (turns2 rx ry ps).find? fun t => tsum rx ry t == xs (num2 rx ry) ps
def grid (n : Nat) : List (Nat × Nat) := (List.range n).flatMap fun x => (List.range n).map fun y => (x, y)
def behind2 (n : Nat) (ps : List (Nat × Nat)) (t : List Nat × List Nat) : List (Nat × Nat) := (grid n).filter fun p => decide (p ∈ ps) != (decide (p.1 ∈ t.1) && decide (p.2 ∈ t.2))
def weight2 (n : Nat) (ps : List (Nat × Nat)) : Nat := xs (fun p => 2 ^ (n * p.1 + p.2)) ps
end Row
set_option Elab.async false
set_option linter.all false
set_option maxRecDepth 100000
set_option maxHeartbeats 4000000
namespace L2
open PySem PySem.Spec PyProof.Rows
def BL (K : PySem.W.Frag) (H : Hp) (ps : List (Nat × Nat)) (rs : List Addr) : Prop := Paired (fun (p : Nat × Nat) r => SqT K H r [.int (p.1 : Int), .int (p.2 : Int)]) ps rs
theorem BL.length {K : PySem.W.Frag} {H : Hp} {ps : List (Nat × Nat)} {rs : List Addr} (h : BL K H ps rs) : ps.length = rs.length := Paired.length h
theorem BL.same {K : PySem.W.Frag} {H H' : Hp} {ps : List (Nat × Nat)} {rs : List Addr} (h : BL K H ps rs) (s : Same H H') : BL K H' ps rs := Paired.mapP h fun _ _ q => s.tup q
def spBoardValue (K : PySem.W.Frag) : Sp := fun vs H Q _ => ∃ (px py ph : Addr) (rx ry : Row.Rule) (ps : List (Nat × Nat)) (rs : List Addr), vs = [.ref px, .ref py, .ref ph] ∧ SqT K H px (ruleV rx) ∧ SqT K H py (ruleV ry) ∧ Row.Good rx ∧ Row.Good ry ∧
  SqL K H ph (rs.map V.ref) ∧ BL K H ps rs ∧ Row.IsBoard ps ∧ ∀ H', Same H H' → Q (.int ((Row.xs (Row.num2 rx ry) ps : Nat) : Int)) H'
def spBoardReply (K : PySem.W.Frag) : Sp := fun vs H Q _ => ∃ (px py ph : Addr) (rx ry : Row.Rule) (ps : List (Nat × Nat)) (rs : List Addr), vs = [.ref px, .ref py, .ref ph] ∧ SqT K H px (ruleV rx) ∧ SqT K H py (ruleV ry) ∧ Row.Good rx ∧ Row.Good ry ∧
  SqL K H ph (rs.map V.ref) ∧ BL K H ps rs ∧ Row.IsBoard ps ∧
  (Row.replyOf2 rx ry ps = none → ∀ H', Same H H' → Q .non H') ∧
  (∀ t, Row.replyOf2 rx ry ps = some t → ∀ H' p a b, Same H H' → H p = none → H' p = some (.tup [.ref a, .ref b]) → H a = none → H b = none → a ≠ b → H' a = some (.lst (nl t.1)) → H' b = some (.lst (nl t.2)) → Q (.ref p) H')
def TLF (Pr : Addr → Prop) (H : Hp) (f : List Nat → Addr → List V) (xss : List (List Nat)) (ts : List Addr) : Prop :=
  ts.length = xss.length ∧ ∀ (j : Nat) t, ts[j]? = some t → ∃ s a, xss[j]? = some s ∧ H t = some (.tup (f s a)) ∧ H a = some (.lst (nl s)) ∧ Pr a
theorem TLF.keep {Pr : Addr → Prop} {H H' : Hp} {f : List Nat → Addr → List V} {xss : List (List Nat)} {ts : List Addr} (h : TLF Pr H f xss ts) (k1 : ∀ a xs, H a = some (.lst xs) → H' a = some (.lst xs)) (k2 : ∀ a xs, H a = some (.tup xs) → H' a = some (.tup xs)) : TLF Pr H' f xss ts :=
  ⟨h.1, fun j t e => by
    obtain ⟨s, a, h1, h2, h3, h4⟩ := h.2 j t e
    exact ⟨s, a, h1, k2 _ _ h2, k1 _ _ h3, h4⟩⟩
theorem TLF.imp {Pr Pr' : Addr → Prop} {H : Hp} {f : List Nat → Addr → List V} {xss : List (List Nat)} {ts : List Addr} (h : TLF Pr H f xss ts) (g : ∀ a s, H a = some (.lst (nl s)) → Pr a → Pr' a) : TLF Pr' H f xss ts :=
  ⟨h.1, fun j t e => by
    obtain ⟨x, a, h1, h2, h3, h4⟩ := h.2 j t e
    exact ⟨x, a, h1, h2, h3, g a x h3 h4⟩⟩
abbrev TL (Pr : Addr → Prop) (H : Hp) (f : List Nat → Nat) (xss : List (List Nat)) (ts : List Addr) : Prop := TLF Pr H (fun s a => [.ref a, .int ((f s : Nat) : Int)]) xss ts
def pk (a b : Nat) : List Key := [Sum.inl (a : Int), Sum.inl (b : Int)]
structure PKs (kvs : List (List Key × V)) : Prop where
  nd : (kvs.map (·.1)).Nodup
  ok : ∀ kv ∈ kvs, ∃ a b : Nat, a < 32 ∧ b < 32 ∧ kv = (pk a b, V.int ((Nim.nim 4 a b : Nat) : Int))
theorem pk_inj {a b c d : Nat} (h : pk a b = pk c d) : a = c ∧ b = d := by
  unfold pk at h
  injection h with h1 h2
  injection h2 with h2 _
  have h1 : (a : Int) = c := Sum.inl.inj h1
  have h2 : (b : Int) = d := Sum.inl.inj h2
  omega
theorem PKs.nil : PKs [] := ⟨by simp, fun kv h => by simp at h⟩
theorem PKs.len {kvs : List (List Key × V)} (h : PKs kvs) : kvs.length ≤ 1024 := by
  have key : ∀ kv ∈ kvs, ∃ n : Nat, n < 1024 ∧ kv.1 = pk (n / 32) (n % 32) := fun kv hk => by
    obtain ⟨a, b, ha, hb, rfl⟩ := h.ok kv hk
    exact ⟨a * 32 + b, by omega, by rw [show (a * 32 + b) / 32 = a by omega, show (a * 32 + b) % 32 = b by omega]⟩
  have sub : ∀ k ∈ kvs.map (·.1), k ∈ (List.range 1024).map fun n => pk (n / 32) (n % 32) := fun k hk => by
    obtain ⟨kv, hkv, rfl⟩ := List.mem_map.mp hk
    obtain ⟨n, hn, e⟩ := key kv hkv
    exact List.mem_map.mpr ⟨n, List.mem_range.mpr hn, e.symm⟩
  have := List.Nodup.length_le_of_subset h.nd sub
  simpa using this
theorem PKs.get {kvs : List (List Key × V)} (h : PKs kvs) {a b : Nat} {v : V} (e : valV kvs (pk a b) = some v) : v = V.int ((Nim.nim 4 a b : Nat) : Int) := by
  unfold valV at e
  obtain ⟨kv, hf, rfl⟩ := Option.map_eq_some_iff.mp e
  obtain ⟨c, d, _, _, rfl⟩ := h.ok kv (List.mem_of_find?_eq_some hf)
  have z := List.find?_some hf
  have z : pk c d = pk a b := by simpa using z
  obtain ⟨rfl, rfl⟩ := pk_inj z
  rfl
theorem PKs.put {kvs : List (List Key × V)} (h : PKs kvs) {a b : Nat} (ha : a < 32) (hb : b < 32) (e : valV kvs (pk a b) = none) : PKs (putK kvs (pk a b) (V.int ((Nim.nim 4 a b : Nat) : Int))) := by
  rw [putK_new _ e]
  refine ⟨?_, fun kv hk => ?_⟩
  · rw [List.map_append, List.nodup_append]
    refine ⟨h.nd, by simp, fun x hx y hy z => ?_⟩
    have : y = pk a b := by simpa using hy
    subst this
    subst z
    exact valV_not e hx
  · rcases List.mem_append.mp hk with q | q
    · exact h.ok kv q
    · exact ⟨a, b, ha, hb, by simpa using q⟩
def spKept : Sp := fun vs H Q _ => ∃ (d : Addr) (a b : Nat) (kvs : List (List Key × V)), vs = [.ref d, .int (a : Int), .int (b : Int)] ∧ a < 32 ∧ b < 32 ∧ H d = some (.dT kvs) ∧ PKs kvs ∧
  ∀ H' kvs', Kp d H H' → H' d = some (.dT kvs') → PKs kvs' → Q (.int ((Nim.nim 4 a b : Nat) : Int)) H'
def spSums (K : PySem.W.Frag) : Sp := fun vs H Q _ => ∃ (pr : Addr) (r : Row.Rule) (n : Nat), vs = [.ref pr, .int (n : Int)] ∧ SqT K H pr (ruleV r) ∧ Row.Good r ∧ n < 40 ∧
  ∀ H' p ts, Same H H' → H p = none → H' p = some (.lst (ts.map V.ref)) → TL (fun a => H a = none) H' (Row.xs (Row.num r)) (Row.shapes r n) ts → Q (.ref p) H'
def pairsOf (xss yss : List (List Nat)) : List (List Nat × List Nat) := xss.flatMap fun s => yss.map fun u => (s, u)
def spFirstAdd : Sp := fun vs H Q _ => ∃ (g : Nat) (px py d : Addr) (PA PB : Addr → Prop) (f f' : List Nat → Nat) (xss yss : List (List Nat)) (ts us : List Addr) (kvs : List (List Key × V)), vs = [.int (g : Int), .ref px, .ref py, .ref d] ∧
  H px = some (.lst (ts.map V.ref)) ∧ H py = some (.lst (us.map V.ref)) ∧ TL PA H f xss ts ∧ TL PB H f' yss us ∧ (∀ s ∈ xss, f s < 32) ∧ (∀ s ∈ yss, f' s < 32) ∧ H d = some (.dT kvs) ∧ PKs kvs ∧
  ((pairsOf xss yss).find? (fun t => Nim.nim 4 (f t.1) (f' t.2) == g) = none → ∀ H' kvs', Kp d H H' → H' d = some (.dT kvs') → PKs kvs' → Q .non H') ∧
  (∀ t, (pairsOf xss yss).find? (fun t => Nim.nim 4 (f t.1) (f' t.2) == g) = some t → ∀ H' kvs' p a b, Kp d H H' → H' d = some (.dT kvs') → PKs kvs' → H p = none → H' p = some (.tup [.ref a, .ref b]) →
    H a = some (.lst (nl t.1)) → PA a → H b = some (.lst (nl t.2)) → PB b → Q (.ref p) H')
section
variable {K : PySem.W.Frag} {d : Addr} {G H : Hp} {kvs : List (List Key × V)} {p : Addr} {xs : List V}
theorem Kp.free {o : HO} (h : Kp d G H) (hd : H d = some o) (e : H p = none) : G p = none := by
  cases c : G p with
  | none => rfl
  | some u =>
    by_cases z : p = d
    · rw [z, hd] at e; cases e
    · rw [h p u z c] at e; cases e
end
end L2
set_option Elab.async false
set_option linter.all false
set_option maxRecDepth 100000
set_option maxHeartbeats 4000000
namespace L2
open PySem PySem.Spec PyProof.Rows
def pd (p : Nat × Nat) : Dt := .seq true [.int (p.1 : Int), .int (p.2 : Int)]
def bd (ps : List (Nat × Nat)) : List Dt := ps.map pd
section
variable {K : PySem.W.Frag} {σ : St} {H : Hp} {ta tb : TE}
end
def PL (H : Hp) (ps : List (Nat × Nat)) (rs : List Addr) : Prop := Paired (fun (p : Nat × Nat) r => H r = some (.tup [.int (p.1 : Int), .int (p.2 : Int)])) ps rs
theorem PL.bl {K : PySem.W.Frag} {H : Hp} {ps : List (Nat × Nat)} {rs : List Addr} (h : PL H ps rs) : BL K H ps rs := Paired.mapP h fun _ _ q => .inl (.inl q)
theorem PL.same {H H' : Hp} {ps : List (Nat × Nat)} {rs : List Addr} (h : PL H ps rs) (s : Same H H') : PL H' ps rs := Paired.mapP h fun _ _ q => s _ _ q
theorem PL.length {H : Hp} {ps : List (Nat × Nat)} {rs : List Addr} (h : PL H ps rs) : ps.length = rs.length := Paired.length h
theorem PL.upd {H : Hp} {ps : List (Nat × Nat)} {rs : List Addr} {l : Addr} {xs : List V} {o : HO} (h : PL H ps rs) (hl : H l = some (.lst xs)) : PL (L2.upd H l o) ps rs :=
  Paired.mapP h fun _ _ q => by rw [upd_ne (ne_of q hl (by intro z; cases z))]; exact q
def bits9 (c : Int) (i : Nat) : List Nat := (List.range i).filter fun k => decide (c / 2 ^ k % 2 = 1)
def pl3 (k : Nat) : Nat × Nat := (k / 3, k % 3)
def board3 (c : Int) : List (Nat × Nat) := (bits9 c 9).map pl3
def spBoard3 : Sp := fun vs H Q _ => ∃ c : Int, vs = [.int c] ∧ ∀ H' p rs, Same H H' → H p = none → H' p = some (.lst (rs.map V.ref)) → PL H' (board3 c) rs → Q (.ref p) H'
def WL (H : Hp) (ts : List (List Nat × List Nat)) (rs : List Addr) : Prop := Paired (fun (t : List Nat × List Nat) r => ∃ a b, H r = some (.tup [.ref a, .ref b]) ∧ H a = some (.lst (nl t.1)) ∧ H b = some (.lst (nl t.2))) ts rs
theorem WL.same {H H' : Hp} {ts : List (List Nat × List Nat)} {rs : List Addr} (h : WL H ts rs) (s : Same H H') : WL H' ts rs := Paired.mapP h fun _ _ ⟨a, b, h1, h2, h3⟩ => ⟨a, b, s _ _ h1, s _ _ h2, s _ _ h3⟩
theorem WL.length {H : Hp} {ts : List (List Nat × List Nat)} {rs : List Addr} (h : WL H ts rs) : ts.length = rs.length := Paired.length h
def spTurns2 (K : PySem.W.Frag) : Sp := fun vs H Q _ => ∃ (pl px py ph : Addr) (rx ry : Row.Rule) (ps : List (Nat × Nat)) (rs : List Addr), vs = [.ref pl, .ref ph] ∧ SqL K H pl [.ref px, .ref py] ∧ SqT K H px (ruleV rx) ∧ SqT K H py (ruleV ry) ∧ Row.Good rx ∧ Row.Good ry ∧
  SqL K H ph (rs.map V.ref) ∧ BL K H ps rs ∧ (∀ p ∈ ps, p.1 < 3 ∧ p.2 < 3) ∧ ps.length ≤ 9 ∧ ∀ H' p ws, Same H H' → H p = none → H' p = some (.lst (ws.map V.ref)) → WL H' (Row.turns2 rx ry ps) ws → Q (.ref p) H'
def spBehind2 (K : PySem.W.Frag) (n : Nat) : Sp := fun vs H Q _ => ∃ (ph pt a b : Addr) (ps : List (Nat × Nat)) (rs : List Addr) (t : List Nat × List Nat), vs = [.ref ph, .ref pt] ∧ SqL K H ph (rs.map V.ref) ∧ BL K H ps rs ∧ SqT K H pt [.ref a, .ref b] ∧ SqL K H a (nl t.1) ∧ SqL K H b (nl t.2) ∧
  ∀ H' p ss, Same H H' → H p = none → H' p = some (.lst (ss.map V.ref)) → PL H' (Row.behind2 n ps t) ss → Q (.ref p) H'
def spIsTurn2 : Sp := fun vs H Q _ => ∃ (pt pw a b : Addr) (t : List Nat × List Nat) (ts : List (List Nat × List Nat)) (ws : List Addr), vs = [.ref pt, .ref pw] ∧ H pt = some (.tup [.ref a, .ref b]) ∧ H a = some (.lst (nl t.1)) ∧ H b = some (.lst (nl t.2)) ∧ H pw = some (.lst (ws.map V.ref)) ∧ WL H ts ws ∧ Q (.bl (decide (t ∈ ts))) H
def td (t : List Nat × List Nat) : Dt := .seq true [.seq false (nd t.1), .seq false (nd t.2)]
def rdP (H : Hp) : V → Nat × Nat
  | .ref a => match H a with
    | some (.tup [.int x, .int y]) => (x.toNat, y.toNat)
    | _ => (0, 0)
  | _ => (0, 0)
def wt2At (n k : Nat) (σ : St) (H : Hp) : Nat := match σ[k]? with
  | some (some (.ref a)) => match H a with
    | some (.lst xs) => Row.weight2 n (xs.map (rdP H))
    | _ => 0
  | _ => 0
end L2
namespace Row
end Row
namespace Row
end Row
namespace Row
end Row
namespace L2
def tabOf (xs ys : List Nat) : List (List Nat) := xs.map fun x => ys.map fun y => Nim.nim 4 x y
end L2
set_option Elab.async false
set_option linter.all false
set_option maxRecDepth 100000
set_option maxHeartbeats 4000000
namespace L2
open PySem PySem.Spec PyProof.Rows PySem.W
def krun (lt : Nat → Nat → Bool) {α : Type} : KasT α → α
  | .ret a => a
  | .ask i j k => krun lt (k (lt i j))
def kok (n : Nat) (lt : Nat → Nat → Bool) {α : Type} : KasT α → Bool
  | .ret _ => true
  | .ask i j k => decide (i < n) && decide (j < n) && kok n lt (k (lt i j))
def lists (m : Nat) : Nat → List (List Nat)
  | 0 => [[]]
  | n + 1 => (lists m n).flatMap fun l => (List.range m).map fun a => a :: l
def nodupB : List Nat → Bool
  | [] => true
  | a :: l => !l.contains a && nodupB l
def rlt (r : List Nat) (i j : Nat) : Bool := decide (r.getD i 0 < r.getD j 0)
def sortOk (n : Nat) (r : List Nat) : Bool :=
  !nodupB r || (kok n (rlt r) (kas_sort n) && ((krun (rlt r) (kas_sort n)).toList.map (fun i => r.getD i 0) == List.range n) && (krun (rlt r) (kas_sort n)).toList.all fun i => decide (i < n))
def rk (ks : List Nat) (k : Nat) : Nat := ks.countP fun x => decide (x < k)
end L2
set_option Elab.async false
set_option linter.all false
set_option maxRecDepth 100000
set_option maxHeartbeats 4000000
namespace L2
open PySem PySem.Spec PyProof.Rows PySem.W
def TupAt (h : Heap) (p : Nat × Nat) (v : Value) : Prop := ∃ r o k tx ty, v = .ref r ∧ h.get? r = some o ∧ o.cls = .type "tuple" ∧ o.data = .seq #[.int (p.1 : Int) tx, .int (p.2 : Int) ty] k
def SortsTo (ps qs : List (Nat × Nat)) : Prop := qs.Pairwise Row.PLt ∧ ∀ p, p ∈ qs ↔ p ∈ ps
def key16 (p : Nat × Nat) : Nat := p.1 * 16 + p.2
section
variable {prog : Program} {w : World} {A : Around} {E : Value → Shared → Prop} {s : Shared}
end
section
variable {X : Cx}
def rSortP (K : PySem.W.Frag) : List V → Hp → VK → Prop := fun xs H Q => ∃ (p : Addr) (ps : List (Nat × Nat)) (rs : List Addr), xs = [.ref p] ∧ SqL K H p (rs.map V.ref) ∧ BL K H ps rs ∧ (∀ p ∈ ps, p.2 < 16) ∧ ps.Nodup ∧ ps.length ≤ 5 ∧
  ∀ (l : Addr) (qs : List (Nat × Nat)) (ss : List Addr), H l = none → SortsTo ps qs → Paired (fun (q : Nat × Nat) r => SqT K H r [.int (q.1 : Int), .int (q.2 : Int)] ∧ r ∈ rs) qs ss → Q (.ref l) (upd H l (.lst (ss.map V.ref)))
end
end L2
set_option Elab.async false
set_option linter.all false
set_option maxRecDepth 100000
set_option maxHeartbeats 4000000
namespace L2
open PySem PySem.Spec PyProof.Rows PySem.W
def EntAt (h : Heap) (d : Addr) (es : Array DictEntry) (ep : Nat) : Prop := ∃ o, h.get? d = some o ∧ o.ExactDict ∧ o.data = .dict es ep
theorem EntAt.at {h h' : Heap} {d : Addr} {es : Array DictEntry} {ep : Nat} (x : EntAt h d es ep) (k : ∀ o, h.get? d = some o → h'.get? d = some o) : EntAt h' d es ep := let ⟨o, g, r⟩ := x; ⟨o, k o g, r⟩
theorem EntAt.typeIs {s : Shared} {d : Addr} {es : Array DictEntry} {ep : Nat} (x : EntAt s.heap d es ep) : s.TypeIs (.ref d) "dict" := let ⟨o, g, c, _⟩ := x; ⟨o, g, c.1⟩
section
variable {prog : Program} {w : World} {A : Around} {E : Value → Shared → Prop} {s : Shared} {it d : Addr} {es : Array DictEntry} {ep i : Nat}
end
section
variable {prog : Program} {w : World} {A : Around} {E : Value → Shared → Prop} {s : Shared}
end
section
variable {X : Cx}
def rSortD : List V → Hp → VK → Prop := fun xs H Q => ∃ (d : Addr) (kvs : List (List Key × V)) (ps : List (Nat × Nat)), xs = [.ref d] ∧ H d = some (.dT kvs) ∧ kvs.map (·.1) = ps.map (fun p => pk p.1 p.2) ∧ (∀ p ∈ ps, p.2 < 16) ∧ ps.Nodup ∧ ps.length ≤ 5 ∧
  ∀ (l : Addr) (qs : List (Nat × Nat)) (ss : List Addr), H l = none → SortsTo ps qs → PL H qs ss → Q (.ref l) (upd H l (.lst (ss.map V.ref)))
end
end L2
set_option Elab.async false
set_option linter.all false
set_option maxRecDepth 100000
set_option maxHeartbeats 4000000
namespace L2
open PySem PySem.Spec PyProof.Rows
structure CalleeD (P : Program) (w : World) (K : PySem.W.Frag) (mg : Str → Option Value) (base : Heap) (x : Str) (st : Stmt) (CX : CXT) (k : Nat) (ps : List Str) (sp : Sp) : Prop where
  ex : ∃ f fd, Fun K x x st f fd ∧ mg x = some (.ref f) ∧ Binds K fd ps [] ∧ FnOk P w K mg base CX k f fd ps sp
section
variable {P : Program} {w : World} {K : PySem.W.Frag} {mg : Str → Option Value} {base : Heap} {x : Str} {st : Stmt} {N ps : List Str} {n k k2 : Nat} {sp sp2 : Sp}
theorem CalleeD.c (C : CalleeD P w K mg base x st CX0 k ps sp) : Callee P w K mg base x k ps sp := by
  obtain ⟨f, fd, F, hm, hb, R⟩ := C.ex
  exact ⟨f, fd, hm, F.kp, hb, R⟩
end
def rEqB (K : PySem.W.Frag) : R2 := fun x y H Q => ∃ (p p' : Addr) (xs ys : List Bool), x = .ref p ∧ y = .ref p' ∧ SqL K H p (xs.map V.bl) ∧ SqL K H p' (ys.map V.bl) ∧ xs.length = ys.length ∧ ∀ b, (b = true ↔ xs = ys) → Q (.bl b) H
end L2
set_option Elab.async false
set_option linter.all false
set_option maxRecDepth 100000
set_option maxHeartbeats 4000000
namespace L2
open PySem PySem.Spec PyProof.Rows
def GStr (mg : Str → Option Value) (x z : Str) : Prop := ∃ t, mg x = some (.str z t)
theorem pe_globS {X : Cx} {x z : Str} {pos : Pos} (h : GStr X.mg x z) (hg : Gl X x := by rfl) (hd : (x == ("__debug__" : Str)) = false := by decide) : PE X (.Name x pos) (tC (.str z)) := by
  obtain ⟨t, hm⟩ := h
  exact pe_glob hg hm ⟨t, rfl⟩ hd
theorem glob_str {K : PySem.W.Frag} {h : Heap} {mg : Str → Option Value} {x z : Str} {t : Tok} (X : K.In h) (G : h.Ns mainGlobals mg) (a : PySem.W.nsIn K mainGlobals x = some (some (.str z t))) : GStr mg x z := ⟨t, PySem.W.mg_of X G a⟩
theorem vals_str : ∀ {ss : List Str} {us : List Value}, Vals (ss.map V.str) us → ∃ l : List (Str × Tok), us = strValues l ∧ l.map (·.1) = ss
  | [], _, h => by cases h; exact ⟨[], rfl, rfl⟩
  | x :: ss, _, h => by
    cases h with
    | cons r t =>
      obtain ⟨k, rfl⟩ := r
      obtain ⟨l, rfl, e⟩ := vals_str t
      exact ⟨(x, k) :: l, rfl, by rw [List.map_cons, e]⟩
def rJoin (K : PySem.W.Frag) : V → List V → Hp → VK → Prop := fun x xs H Q => ∃ (sep : Str) (D : Addr) (ss : List Str), x = .str sep ∧ xs = [.ref D] ∧ SqL K H D (ss.map V.str) ∧ JoinOk sep ss = true ∧ Q (.str (Txt.join sep ss)) H
theorem mt_join {X : Cx} : MtR X "str.join" (rJoin X.K) := by
  intro pins s σ H x xs v us Q I rx rv h
  obtain ⟨sep, D, ss, rfl, rfl, hD, hok, q⟩ := h
  obtain ⟨t, rfl⟩ := rx
  obtain ⟨u, rfl, ru⟩ := rv.one
  cases ru
  obtain ⟨its, r, pl, _⟩ := I.list hD
  obtain ⟨l, rfl, hl⟩ := vals_str r
  exact SC.join pl.isList hl hok fun t' k => ⟨.str _, H, I.tok k, ⟨_, rfl⟩, q⟩
def rSlS : V → Option Int → Option Int → Hp → VK → Prop := fun x lo hi H Q => ∃ z : Str, x = .str z ∧ z.length ≤ sizeLine ∧ Q (.str (Txt.slice z lo hi)) H
theorem sl_str {X : Cx} : SlR X rSlS := by
  intro pins s σ H x v vl vu lo hi sl Q I rx hs pl pu h
  obtain ⟨z, rfl, hz, q⟩ := h
  obtain ⟨t, rfl⟩ := rx
  refine ⟨"str", _, F.slot_str_getitem.lookup, typeIs_str _ _ _, ?_⟩
  cases pl with
  | none =>
    cases pu with
    | none => exact wpAny_getItem_str_slice (l := none) (u := none) (st := none) hs rfl (post_val_or_str ⟨Nat.le_trans (Txt.slice_le z _ _) hz, fun t' k => ⟨.str _, H, I.tok k, ⟨_, rfl⟩, q⟩⟩)
    | int j tj => exact wpAny_getItem_str_slice (l := none) (u := some (j, tj)) (st := none) hs rfl (post_val_or_str ⟨Nat.le_trans (Txt.slice_le z _ _) hz, fun t' k => ⟨.str _, H, I.tok k, ⟨_, rfl⟩, q⟩⟩)
  | int i ti =>
    cases pu with
    | none => exact wpAny_getItem_str_slice (l := some (i, ti)) (u := none) (st := none) hs rfl (post_val_or_str ⟨Nat.le_trans (Txt.slice_le z _ _) hz, fun t' k => ⟨.str _, H, I.tok k, ⟨_, rfl⟩, q⟩⟩)
    | int j tj => exact wpAny_getItem_str_slice (l := some (i, ti)) (u := some (j, tj)) (st := none) hs rfl (post_val_or_str ⟨Nat.le_trans (Txt.slice_le z _ _) hz, fun t' k => ⟨.str _, H, I.tok k, ⟨_, rfl⟩, q⟩⟩)
def sgn (z : Str) (i : Nat) : Str := ⟨#[z.cps.getD i 0]⟩
def Ite (z : Str) : It := ⟨fun i _ => i < z.length, fun i H x H' => ∃ p, H p = none ∧ x = .ref p ∧ H' = upd H p (.tup [.int (i : Int), .str (sgn z i)]), fun i _ => z.length ≤ i⟩
theorem draws_str {prog : Program} {w : World} {A : Around} (hh : A.handled = none) (it : Addr) (x : Str) (t : Tok) :
    Draws prog w A it [it] x.cps.size (fun i v => ∃ c u, x.cps[i]? = some c ∧ v = .str ⟨#[c]⟩ u) (fun i h => h.IsStrIter it (strIterType x) x t i) := by
  unfold strIterType
  split
  · exact Draws.strAscii hh it x t
  · exact Draws.strWide hh it x t
theorem Inv.turnedT {X : Cx} {pins : List (Addr × Obj)} {σ : St} {H : Hp} {s : Shared} {h' : Heap} {t' : Nat} {fp : List Addr} {xs : List V} (I : Inv X pins σ H s) (hf : ∀ b ∈ fp, FpOk X pins H b) (k : ∀ b o, b ∉ fp → s.heap.get? b = some o → h'.get? b = some o)
    (new : ObjOk X.prog X.w (upd H s.heap.objs.size (.tup xs)) h' s.heap.objs.size (.tup xs)) : Inv X pins σ (upd H s.heap.objs.size (.tup xs)) { s with heap := h', toks := t' } := by
  have hn : H s.heap.objs.size = none := I.hok.fresh (Nat.le_refl _)
  have lt : ∀ b o, s.heap.get? b = some o → b ≠ s.heap.objs.size := fun b o e => Nat.ne_of_lt (Heap.lt_size e)
  have nfp : ∀ b u, H b = some u → b ∉ fp := fun b u e z => by rw [(hf b z).1] at e; cases e
  refine I.step (g' := s.gens) (d' := s.drawn) (ch := fp) (fun b hb => ?_) (fun b o _ _ hc e _ => k b o hc e) (fun b o _ _ hc e _ => ⟨o.slots, k b o hc e⟩) (fun b o _ e n => by rw [upd_ne (lt b o e)]; exact n)
    (fun b o hc e => ⟨o, k b o hc e⟩) (fun b xs e => by rw [upd_ne (ne_of_none e hn)]; exact e) (fun b _ _ e => by rw [upd_ne (ne_of_none e hn)]; exact e) (fun b ps e => ⟨#[], by rw [upd_ne (ne_of_none e hn), e]; simp⟩) (fun m hm => ?_) (fun b u e => ?_) I.bare
  · obtain ⟨_, f1, _, f3, f4, f5⟩ := hf b hb
    exact ⟨f3, f1, f4, f5⟩
  · obtain ⟨o, es, ep, ho, r⟩ := hm
    exact ⟨o, es, ep, k _ o (fun z => (hf _ z).2.1 rfl) ho, r⟩
  · by_cases hb : b = s.heap.objs.size
    · subst hb
      rw [upd_same] at e
      cases e
      exact new
    · rw [upd_ne hb] at e
      refine (I.hok b u e).stay (fun c v hc q => k c v ?_ q) (fun c q => by rw [upd_ne (ne_of_none q hn)]; exact q) fun c xs q => by rw [upd_ne (ne_of_none q hn)]; exact q
      rcases hc with z | z
      · rw [z]; exact nfp b u e
      · exact nfp c _ z
theorem Inv.turnedL {X : Cx} {pins : List (Addr × Obj)} {σ : St} {H : Hp} {s : Shared} {h' : Heap} {t' : Nat} {fp : List Addr} (I : Inv X pins σ H s) (hf : ∀ b ∈ fp, FpOk X pins H b) (k : ∀ b o, b ∉ fp → s.heap.get? b = some o → h'.get? b = some o) : Inv X pins σ H { s with heap := h', toks := t' } := by
  have nfp : ∀ b u, H b = some u → b ∉ fp := fun b u e z => by rw [(hf b z).1] at e; cases e
  refine I.step (g' := s.gens) (d' := s.drawn) (ch := fp) (fun b hb => ?_) (fun b o _ _ hc e _ => k b o hc e) (fun b o _ _ hc e _ => ⟨o.slots, k b o hc e⟩) (fun _ _ _ _ n => n)
    (fun b o hc e => ⟨o, k b o hc e⟩) (fun _ _ e => e) (fun _ _ _ e => e) (fun b ps e => ⟨#[], by rw [e]; simp⟩) (fun m hm => ?_) (fun b u e => ?_) I.bare
  · obtain ⟨_, f1, _, f3, f4, f5⟩ := hf b hb
    exact ⟨f3, f1, f4, f5⟩
  · obtain ⟨o, es, ep, ho, r⟩ := hm
    exact ⟨o, es, ep, k _ o (fun z => (hf _ z).2.1 rfl) ho, r⟩
  · refine (I.hok b u e).stay (fun c v hc q => k c v ?_ q) (fun _ q => q) fun _ _ q => q
    rcases hc with z | z
    · rw [z]; exact nfp b u e
    · exact nfp c _ z
theorem turn_enum {P : Program} {w : World} {K : PySem.W.Frag} {elts : List Expr} {x1 : Nat} {p : Pos} (e it : Addr) (hei : e ≠ it) (z : Str) (t : Tok) : Turn P w K (.Tuple elts x1 p) (Ite z) [e, it] e (fun i h => i ≤ z.cps.size ∧ (∃ old, IsEnum h e it (i : Int) old) ∧ h.IsStrIter it (strIterType z) z t i) where
  mem := by simp
  obj := fun i h st b hb => by
    obtain ⟨_, ⟨old, he⟩, o, ho, hc, hd⟩ := st
    rcases List.mem_cons.mp hb with rfl | hb
    · exact ⟨_, he, fun v z => by
        have z' : Data.fields _ = Data.cell v := z
        cases z'⟩
    · have e : b = it := by simpa using hb
      subst e
      exact ⟨o, ho, fun v z => by rw [hd] at z; cases z⟩
  keep := fun i h h' st k => by
    obtain ⟨le, ⟨old, he⟩, o, ho, r⟩ := st
    exact ⟨le, ⟨old, k e (by simp) _ he⟩, o, k it (by simp) o ho, r⟩
  item := by
    intro X hP hw hK hc i pins s σ H E I hf st hg
    subst hP hw hK
    obtain ⟨le, ⟨old, he⟩, hs⟩ := st
    have hlt : i < z.cps.size := hg
    have D := draws_str (prog := X.prog) (w := X.w) (A := X.A.in1) (I.ok.hd hc) it z t
    refine wpAny_pyNext_enum_itemD D he hs hlt hei (by simpa using hei) fun x h1 tk hP ho hs1 hT hsz hk => ⟨_, rfl, ?_⟩
    obtain ⟨c, u, hcx, rfl⟩ := hP
    refine wpAny_letOwnedTupleGo_enum ho fun h2 he2 sb => ?_
    have sb : Heap.SameBut e h1 h2 := sb
    have hel : e < s.heap.objs.size := Heap.lt_size he
    have hT2 : h2.get? s.heap.objs.size = some { cls := .type "tuple", data := .seq #[.int (i : Int) tk, .str ⟨#[c]⟩ u] } := (sb.2 _ (Nat.ne_of_gt hel)).trans hT
    have k2 : ∀ b o, b ∉ [e, it] → s.heap.get? b = some o → h2.get? b = some o := fun b o hb q => by
      have n1 : b ≠ e := fun z => hb (by simp [z])
      have n2 : b ≠ it := fun z => hb (by simp [z])
      exact (sb.2 b n1).trans (hk b o n1 n2 q)
    have ec : sgn z i = ⟨#[c]⟩ := by
      unfold sgn
      rw [Array.getD_eq_getD_getElem?, hcx]
      rfl
    refine ⟨.ref s.heap.objs.size, upd H s.heap.objs.size (.tup [.int (i : Int), .str (sgn z i)]), I.turnedT hf k2 ?_, rfl, ⟨_, I.hok.fresh (Nat.le_refl _), rfl, rfl⟩, ⟨hlt, ⟨_, by simpa using he2⟩, ?_⟩, fun b hb => ?_⟩
    · refine ⟨by show 2 ≤ sizeLine; decide, [.int (i : Int) tk, .str ⟨#[c]⟩ u], ?_, ⟨_, hT2, rfl, _, rfl⟩⟩
      rw [ec]
      exact .cons ⟨_, rfl⟩ (.cons ⟨_, rfl⟩ .nil)
    · obtain ⟨o, ho1, r⟩ := hs1
      exact ⟨o, (sb.2 it (Ne.symm hei)).trans ho1, r⟩
    · have bl : b ≠ s.heap.objs.size := by
        rcases List.mem_cons.mp hb with rfl | hb
        · exact Nat.ne_of_lt hel
        · have q : b = it := by simpa using hb
          subst q
          obtain ⟨o, ho1, _⟩ := hs
          exact Nat.ne_of_lt (Heap.lt_size ho1)
      rw [upd_ne bl]
      exact (hf b hb).1
  done := by
    intro X hP hw hK hc i pins s σ H E I hf st hg
    subst hP hw hK
    obtain ⟨le, ⟨old, he⟩, hs⟩ := st
    have D := draws_str (prog := X.prog) (w := X.w) (A := X.A.in1) (I.ok.hd hc) it z t
    have hi : i = z.cps.size := Nat.le_antisymm le hg
    subst hi
    refine wpAny_pyNext_enum_endD D he hs fun h1 eb => ⟨rfl, I.turnedL (t' := s.toks) hf fun b o hb q => eb b o (fun z => hb (by simp [z])) q⟩
  self := fun A i s Q E st h => by
    obtain ⟨_, ⟨old, he⟩, _⟩ := st
    exact wpAny_pyIter_enum he h
def iEnum (ta : TA) : TI := fun σ H R => ta σ H fun vs H1 => ∃ z, vs = [.str z] ∧ R (Ite z) H1
theorem bt_enumerate : bootBuiltins "enumerate" = some (.type "enumerate") := by decide +kernel
theorem pi_enum {X : Cx} {a : Expr} {ta : TA} {p pos p2 : Pos} {elts : List Expr} {x1 : Nat} (hg : Gl X "enumerate") (hm : X.mg "enumerate" = none) (ha : PA X [a] ta) (hs : starEach [a] X.env = [(false, eval a X.env)] := by rfl) : PI X (.Tuple elts x1 p2) (.Call (.Name "enumerate" p) [a] [] pos) (iEnum ta) := by
  intro pins s σ H R I h
  refine Call_ (ld_blt I hg hm bt_enumerate (PyProof.Rows.callWith_type1 (thn (ha pos pins s σ H _ I h) fun us s1 ⟨vs, H1, I1, r1, q1⟩ => ?_) hs rfl))
  obtain ⟨z, rfl, q⟩ := q1
  cases r1 with
  | cons r rr =>
    cases rr
    obtain ⟨t, rfl⟩ := r
    refine call_enumerate_str fun h' he hit hz hk => wpAny_pyIter_enum he ?_
    have I2 : Inv X pins σ H1 { s1 with heap := h' } := I1.kept (t' := s1.toks) hk
    refine ⟨s1.heap.objs.size + 1, [s1.heap.objs.size + 1, s1.heap.objs.size], _, _, H1, rfl, I2, turn_enum _ _ (Nat.succ_ne_self _) z t, ⟨Nat.zero_le _, ⟨_, he⟩, hit⟩, fun b hb => ?_, q⟩
    have hb : s1.heap.objs.size ≤ b := by
      rcases List.mem_cons.mp hb with e | hb
      · rw [e]
        exact Nat.le_succ _
      · have e : b = s1.heap.objs.size := by simpa using hb
        rw [e]
        exact Nat.le_refl _
    exact I1.fpOk hb (I1.hok.fresh hb)
theorem for_enum {z : Str} {g : TG} {tb : TS} {D : Ends} {σ : St} {H : Hp} (Pv : Nat → St → Hp → Prop) (h0 : Pv 0 σ H)
    (hs : ∀ i σ H p, i < z.length → Pv i σ H → H p = none → g (.ref p) σ (upd H p (.tup [.int (i : Int), .str (sgn z i)])) fun σ2 H2 => tb { D with nx := Pv (i + 1), ct := Pv (i + 1), bk := D.nx } σ2 H2) (hd : ∀ σ H, Pv z.length σ H → D.nx σ H) :
    ∃ W : Nat → Nat → St → Hp → Prop, (∃ m, W 0 m σ H) ∧ ∀ i m σ H, W i m σ H →
      ((Ite z).stop i H ∧ D.nx σ H) ∨ ((Ite z).go i H ∧ ∃ N : St → Hp → Prop, (∀ σ' H', N σ' H' → ∃ m', m' < m ∧ W (i + 1) m' σ' H') ∧ ∀ x H', (Ite z).yld i H x H' → g x σ H' fun σ2 H2 => tb { D with nx := N, ct := N, bk := D.nx } σ2 H2) := by
  refine ⟨fun i m σ H => m = z.length - i ∧ i ≤ z.length ∧ Pv i σ H, ⟨z.length, by simp, Nat.zero_le _, h0⟩, ?_⟩
  rintro i m σ H ⟨rfl, hi, p⟩
  by_cases hlt : i < z.length
  · refine .inr ⟨hlt, Pv (i + 1), fun σ' H' q => ⟨z.length - (i + 1), by omega, rfl, hlt, q⟩, ?_⟩
    rintro x H' ⟨a, ha, rfl, rfl⟩
    exact hs i σ H a hlt p ha
  · have e : i = z.length := by omega
    subst e
    exact .inl ⟨Nat.le_refl _, hd σ H p⟩
theorem CalleeX.c0 {P : Program} {w : World} {K : PySem.W.Frag} {mg : Str → Option Value} {base : Heap} {x : Str} {k : Nat} {ps : List Str} {sp : Sp} (C : CalleeX P w K mg base x k ps sp) : Callee P w K mg base x k ps (fun vs H Q _ => sp vs H Q E0) := by
  obtain ⟨f, fd, hm, hkp, hb, R⟩ := C.ex
  refine ⟨f, fd, hm, hkp, hb, fun vs H Q E h => R.len vs H Q E0 h, fun A outer s H args us vs Q E hr e0 bt r h => ?_⟩
  refine codeAny_mono (R.run A outer s H args us vs Q E0 hr e0 bt r h) fun res s' q => ?_
  cases res with
  | ok fl => cases fl <;> exact q
  | error e =>
    obtain ⟨_, _, _, _, _, _, z⟩ := q
    exact z.elim
end L2
set_option Elab.async false
set_option linter.all false
set_option maxRecDepth 100000
set_option maxHeartbeats 4000000
namespace H
open PySem L2 Nim
def top (i : Nat) : Stmt := PySem.Challenge.pw_coinrows_k16_written_and_read.main.body.getD i (.Pass ⟨0, 0, 0, 0⟩)
abbrev s_law_cell_at : Stmt := top 19
abbrev n_law_cell_at : List Str := ["script", "k"]
abbrev p_law_cell_at : List Str := ["script", "k"]
theorem sc_law_cell_at : FnScope n_law_cell_at p_law_cell_at (defScope s_law_cell_at) := ⟨rfl, rfl, rfl, by decide +kernel, rfl, by decide +kernel, by decide +kernel⟩
structure LenOnly (mg : Str → Option Value) : Prop where
  n_len : mg "len" = none
section
variable {P : Program} {w : World} {K : PySem.W.Frag} {mg : Str → Option Value} {base : Heap}
theorem ok_cell (D : HasDef K mg "_law_cell_at" s_law_cell_at) (n_len : mg "len" = none) : Callee P w K mg base "_law_cell_at" 1 p_law_cell_at (spCell K) := by
  refine D.ok sc_law_cell_at (fun _ _ _ _ _ _ us hl => match us, hl with | [_, _], _ => rfl) (fun vs H Q E h => ?_) (fun f cdv A outer s H vs Q E hr h => ?_)
  · obtain ⟨a, ns, k, rfl, _⟩ := h
    rfl
  obtain ⟨a, ns, k, rfl, hS, q⟩ := h
  have T : LenOnly mg := ⟨n_len⟩
  refine ⟨_, (pss_cons (ps_if (pt_cmpR op_lt (pv 1) (pe_callB call_len_seq rfl T.n_len bt_len (pa_cons (pv 0) pa_nil)) (nomark _)) (pss_one (ps_ret (pe_ix ix_list (pv 0) (pv 1) (fun _ _ => rfl)))) pss_nil)
    (pss_one (ps_ret pe_int))), ?_⟩
  rw [show start n_law_cell_at [V.ref a, V.int k] = [some (V.ref a), some (V.int k)] from rfl]
  simp only [tSeq, tIfS, tRet, tRetN, tNext, tOr, tAnd, tNot, tTest, tB, tOp, tUn, tVar, tC, tCall, tCons, tNil, rI0, rI, rU, tGT, tAsg, gName, tDrop, tCB, tAndV, tOrV, tNotV, tIf, tChain, tTup, tLst, tNever, cxK, bkK, noxK, tRaise, tTry, xTry, endsH, tCallH]
  simp
  refine ⟨_, .inl hS, ?_⟩
  rw [List.length_map]
  refine ite2 (fun c => ?_) (fun c => ?_)
  · refine ⟨a, _, _, .int (cell ns k), rfl, rfl, hS, atI_nat ?_, q⟩
    rw [List.getElem?_map, List.getElem?_eq_getElem (by omega)]
    show some (V.int ns[k]) = _
    rw [cell, List.getD_eq_getElem?_getD, List.getElem?_eq_getElem (by omega)]
    rfl
  · have e : cell ns k = 0 := by
      rw [cell, List.getD_eq_getElem?_getD, List.getElem?_eq_none (by omega)]
      rfl
    rw [e] at q
    exact q
end
abbrev s_rises : Stmt := top 11
abbrev n_rises : List Str := ["places", "greatest", "ahead", "place"]
abbrev p_rises : List Str := ["places", "greatest"]
theorem sc_rises : FnScope n_rises p_rises (defScope s_rises) := ⟨rfl, rfl, rfl, by decide +kernel, rfl, by decide +kernel, by decide +kernel⟩
abbrev s_check_row : Stmt := top 10
abbrev n_check_row : List Str := ["heads"]
abbrev p_check_row : List Str := ["heads"]
theorem sc_check_row : FnScope n_check_row p_check_row (defScope s_check_row) := ⟨rfl, rfl, rfl, by decide +kernel, rfl, by decide +kernel, by decide +kernel⟩
def Rises (g : Int) (ahead : Int) : List Int → Bool
  | [] => true
  | p :: r => if p ≤ ahead ∨ p > g then false else Rises g p r
theorem rises_take {g ahead : Int} : ∀ {ps : List Int} {i : Nat} {x : Int}, ps[i]? = some x → (∀ k y, k < i → ps[k]? = some y → ¬ (y ≤ (if k = 0 then ahead else ps.getD (k - 1) 0) ∨ y > g)) → (x ≤ (if i = 0 then ahead else ps.getD (i - 1) 0) ∨ x > g) → Rises g ahead ps = false
  | [], i, x, h, _, _ => by simp at h
  | p :: r, 0, x, h, _, c => by
    simp at h
    subst h
    rw [Rises, if_pos (by simpa using c)]
  | p :: r, i + 1, x, h, hk, c => by
    have h0 := hk 0 p (by omega) rfl
    rw [Rises, if_neg (by simpa using h0)]
    refine rises_take (i := i) (x := x) (by simpa using h) (fun k y hk' hy => ?_) ?_
    · have := hk (k + 1) y (by omega) (by simpa using hy)
      cases k with
      | zero => simpa using this
      | succ k => simpa using this
    · cases i with
      | zero => simpa using c
      | succ i => simpa using c
theorem rises_all {g ahead : Int} : ∀ {ps : List Int}, (∀ k y, ps[k]? = some y → ¬ (y ≤ (if k = 0 then ahead else ps.getD (k - 1) 0) ∨ y > g)) → Rises g ahead ps = true
  | [], _ => rfl
  | p :: r, hk => by
    have h0 := hk 0 p rfl
    rw [Rises, if_neg (by simpa using h0)]
    refine rises_all fun k y hy => ?_
    have := hk (k + 1) y (by simpa using hy)
    cases k with
    | zero => simpa using this
    | succ k => simpa using this
theorem rises_row : ∀ {hs : List Nat} {a : Int}, Row.Sorted hs → (∀ p ∈ hs, a < (p : Int) ∧ p < 40) → Rises 39 a (ni hs) = true
  | [], _, _, _ => rfl
  | p :: r, a, h, hl => by
    have hp := hl p List.mem_cons_self
    show Rises 39 a ((p : Int) :: ni r) = true
    rw [Rises, if_neg (by omega)]
    unfold Row.Sorted at h
    rw [List.pairwise_cons] at h
    exact rises_row h.2 fun b hb => ⟨by have := h.1 b hb; omega, (hl b (List.mem_cons_of_mem _ hb)).2⟩
def spRises (K : PySem.W.Frag) : Sp := fun vs H Q _ => ∃ (pp : Addr) (ps : List Int) (g : Int), vs = [.ref pp, .int g] ∧ SqL K H pp (ps.map V.int) ∧ Q (.bl (Rises g (-1) ps)) H
def spCheckRow (K : PySem.W.Frag) : Sp := fun vs H Q _ => ∃ (ph : Addr) (hs : List Nat), vs = [.ref ph] ∧ SqL K H ph (nl hs) ∧ Row.IsRow hs ∧ Q .non H
section
variable {P : Program} {w : World} {K : PySem.W.Frag} {mg : Str → Option Value} {base : Heap}
theorem ok_rises (D : HasDef K mg "rises" s_rises) : Callee P w K mg base "rises" 1 p_rises (spRises K) := by
  refine D.ok sc_rises (fun _ _ _ _ _ _ us hl => match us, hl with | [_, _], _ => rfl) (fun vs H Q E h => ?_) (fun f cdv A outer s H vs Q E hr h => ?_)
  · obtain ⟨pp, ps, g, rfl, _⟩ := h
    rfl
  obtain ⟨pp, ps, g, rfl, hp, q⟩ := h
  refine ⟨_, (pss_cons (ps_set (i := 2) sc_rises.nd rfl (Or.inl rfl) (pe_un un_neg pe_int))
    (pss_cons (ps_for PassesOwn.never rfl (pi_list (pv 0)) (pg_name (i := 3) sc_rises.nd rfl (Or.inl rfl)) (pss_cons (ps_if (PW.pt (pw_or (pt_cmpR op_le (pv 3) (pv 2) (nomark _)) (pw_or1 (pt_cmpR op_gt (pv 3) (pv 1) (nomark _))))) (pss_one (ps_ret pe_bl)) pss_nil)
    (pss_one (ps_set (i := 2) sc_rises.nd rfl (Or.inl rfl) (pv 3)))))
    (pss_one (ps_ret pe_bl)))), ?_⟩
  rw [show start n_rises [V.ref pp, V.int g] = [some (V.ref pp), some (V.int g), none, none] from rfl]
  refine seq_of (asg_of (ev_u ev_c) ?_)
  dsimp only
  refine seq_of ⟨_, rfl, pp, rfl, ⟨_, hp⟩, ?_⟩
  refine for_list (xs := ps.map V.int) (fun i σ H' => H' = H ∧ (∀ k y, k < i → ps[k]? = some y → ¬ (y ≤ (if k = 0 then -1 else ps.getD (k - 1) 0) ∨ y > g)) ∧ ∃ u, σ = [some (V.ref pp), some (V.int g), some (V.int (if i = 0 then -1 else ps.getD (i - 1) 0)), u]) ⟨rfl, fun k y hk => by omega, none, rfl⟩ ?_ ?_ ?_
  · rintro i σ H' _ ⟨rfl, _⟩
    exact hp
  · rintro i x σ H' hx ⟨rfl, hk, u, rfl⟩
    rw [List.getElem?_map] at hx
    cases e : ps[i]? with
    | none => rw [e] at hx; cases hx
    | some y =>
      rw [e] at hx
      cases hx
      dsimp only [gName]
      refine seq_of (ifS_of (ev_or (ev_test (ev_i0 (ev_var rfl) (ev_var rfl))) (fun _ => ev_test (ev_i0 (ev_var rfl) (ev_var rfl)))) (fun c => ?_) (fun c => next_of ?_))
      · have c : y ≤ (if i = 0 then -1 else ps.getD (i - 1) 0) ∨ y > g := (Bool.or_eq_true_iff.mp c).imp of_decide_eq_true of_decide_eq_true
        refine ret_of ev_c ?_
        rw [rises_take e hk c] at q
        exact q
      · have c' : ¬ (y ≤ (if i = 0 then -1 else ps.getD (i - 1) 0) ∨ y > g) := by
          rw [Bool.or_eq_false_iff] at c
          exact fun z => z.elim (of_decide_eq_false c.1) (of_decide_eq_false c.2)
        refine asg_of (ev_var rfl) ⟨rfl, fun k z hki hz => ?_, some (V.int y), ?_⟩
        · by_cases ck : k = i
          · subst ck
            rw [e] at hz
            cases hz
            exact c'
          · exact hk k z (by omega) hz
        · have e3 : (if i + 1 = 0 then (-1 : Int) else ps.getD (i + 1 - 1) 0) = y := by
            rw [if_neg (Nat.succ_ne_zero i), Nat.add_sub_cancel, List.getD_eq_getElem?_getD, e]
            rfl
          rw [e3]
          rfl
  · rintro σ H' ⟨rfl, hk, u, rfl⟩
    dsimp only
    refine ret_of ev_c ?_
    rw [rises_all fun k y hy => hk k y (by rw [List.length_map]; exact (List.getElem?_eq_some_iff.mp hy).1) hy] at q
    exact q
structure CnRi (P : Program) (w : World) (K : PySem.W.Frag) (mg : Str → Option Value) (base : Heap) : Prop where
  rises : Callee P w K mg base "rises" 1 p_rises (spRises K)
structure TxPlr (mg : Str → Option Value) : Prop where
  GREATEST_PLACE : GInt mg "GREATEST_PLACE" 39
end
structure TxN (K : PySem.W.Frag) (mg : Str → Option Value) (cR cO : Addr) : Prop where
  GREATEST_PLACE : GInt mg "GREATEST_PLACE" 39
  MOST_SIGNS : GInt mg "MOST_SIGNS" 40
  HEAD : GStr mg "HEAD" "o"
  TAIL : GStr mg "TAIL" "."
  r_NoRow : ErrC K mg "NoRow" cR
  r_NoNote : ErrC K mg "NoNote" cO
  n_len : mg "len" = none
  n_range : mg "range" = none
  n_enumerate : mg "enumerate" = none
def spCheckRowX (K : PySem.W.Frag) (cR : Addr) : Sp := fun vs H Q E => ∃ (ph : Addr) (xs : List Int), vs = [.ref ph] ∧ SqL K H ph (xs.map V.int) ∧ (Rises 39 (-1) xs = true → Q .non H) ∧ (Rises 39 (-1) xs = false → E (.ref cR) none H)
section
variable {P : Program} {w : World} {K : PySem.W.Frag} {mg : Str → Option Value} {base : Heap} {cR cO : Addr}
structure CnRx (P : Program) (w : World) (K : PySem.W.Frag) (mg : Str → Option Value) (base : Heap) : Prop where
  rises : Callee P w K mg base "rises" 1 p_rises (spRises K)
theorem ok_checkRowX (D : HasDef K mg "check_row" s_check_row) (T : TxN K mg cR cO) (C : CnRx P w K mg base) : CalleeX P w K mg base "check_row" 2 p_check_row (spCheckRowX K cR) := by
  refine D.okX sc_check_row (fun _ _ _ _ _ _ us hl => match us, hl with | [_], _ => rfl) (fun vs H Q E h => ?_) (fun f cdv A outer s H vs Q E hr h => ?_)
  · obtain ⟨ph, xs, rfl, _⟩ := h
    rfl
  obtain ⟨ph, xs, rfl, hH, q1, q2⟩ := h
  refine ⟨_, (pss_one (ps_if (pt_not (pt_val (pe_callC C.rises hr (by omega) rfl (pa_cons (pv 0) (pa_cons (pe_globI T.GREATEST_PLACE) pa_nil))))) (pss_one (ps_raise raise1 rfl T.r_NoRow rfl (pa_cons pe_str pa_nil))) pss_nil)), ?_⟩
  rw [show start n_check_row [V.ref ph] = [some (V.ref ph)] from rfl]
  refine ifS_of (ev_not (ev_tB (ev_call (v := .bl (Rises 39 (-1) xs)) (ev_cons (ev_var rfl) (ev_cons ev_c ev_nil)) (fun Q q => ⟨ph, xs, 39, rfl, hH, q⟩)))) (fun c => ⟨by decide, q2 ?_⟩) (fun c => q1 ?_)
  · simpa using c
  · simpa using c
end
def txt (f : Nat → Bool) (n : Nat) : Str := ⟨((List.range n).map fun k => if f k = true then 111 else 46).toArray⟩
def sg (b : Bool) : Str := if b = true then "o" else "."
theorem sg_cps (b : Bool) : (sg b).cps.toList = [if b = true then 111 else 46] := by cases b <;> decide
theorem txt_len (f : Nat → Bool) (n : Nat) : (txt f n).length = n := by
  show ((List.range n).map fun k => if f k = true then 111 else 46).toArray.size = n
  simp
theorem txt_sgn {f : Nat → Bool} {n i : Nat} (h : i < n) : sgn (txt f n) i = sg (f i) := by
  have e : (txt f n).cps.getD i 0 = if f i = true then 111 else 46 := by
    show ((List.range n).map fun k => if f k = true then 111 else 46).toArray.getD i 0 = _
    rw [Array.getD_eq_getD_getElem?, List.getElem?_toArray, List.getElem?_map, List.getElem?_range h]
    rfl
  have l : (sgn (txt f n) i).cps.toList = (sg (f i)).cps.toList := by
    rw [sg_cps]
    show [(txt f n).cps.getD i 0] = _
    rw [e]
  have := Array.toList_inj.mp l
  cases hs : sgn (txt f n) i
  cases ht : sg (f i)
  rw [hs, ht] at this
  exact congrArg Str.mk this
theorem str_ext {a b : Str} (h : a.cps.toList = b.cps.toList) : a = b := by
  have := Array.toList_inj.mp h
  cases a
  cases b
  exact congrArg Str.mk this
theorem glue_go : ∀ (rest : List Str) (a : Array Nat), (rest.foldl (fun acc p => acc ++ (Str.ofString "").cps ++ p.cps) a).toList = a.toList ++ rest.flatMap (·.cps.toList)
  | [], a => by simp
  | p :: r, a => by
    rw [List.foldl_cons, glue_go r, List.flatMap_cons]
    have : (Str.ofString "").cps.toList = [] := by decide
    simp [this]
theorem join_empty (ss : List Str) : (Txt.join "" ss).cps.toList = ss.flatMap (·.cps.toList) := by
  cases ss with
  | nil => decide
  | cons x r =>
    rw [List.flatMap_cons]
    exact glue_go r x.cps
theorem join_txt (f : Nat → Bool) (n : Nat) : Txt.join "" ((List.range n).map fun k => sg (f k)) = txt f n := by
  refine str_ext ?_
  rw [join_empty]
  show _ = ((List.range n).map fun k => if f k = true then 111 else 46)
  generalize List.range n = l
  induction l with
  | nil => rfl
  | cons k l ih => rw [List.map_cons, List.map_cons, List.flatMap_cons, ih, sg_cps]; rfl
theorem join_ok (f : Nat → Bool) {n : Nat} (h : n ≤ 40) : JoinOk "" ((List.range n).map fun k => sg (f k)) = true := by
  unfold JoinOk
  rw [StrLaws.joinFits (B := 1) (fun y hy => ?_) ?_]
  · rfl
  · rw [List.length_map, List.length_range]
    have : (Str.ofString "").length = 0 := by decide
    rw [this]
    omega
  · obtain ⟨k, _, rfl⟩ := List.mem_map.mp hy
    have := sg_cps (f k)
    have l : (sg (f k)).length = (sg (f k)).cps.toList.length := rfl
    rw [l, this]
    exact Nat.le_refl _
theorem evg_neNil {K : PySem.W.Frag} {σ : St} {H : Hp} {t : TE} {p : Addr} {xs : List Int} (ha : EvE t σ H (.ref p)) (h : SqL K H p (xs.map V.int)) : EvG (tOp (rNeD K 0) t (tLst tNil)) σ H (.bl (!decide (xs = []))) := fun Q q =>
  ha _ ⟨by decide, fun r hr => ⟨false, zd xs, zd [], dat_ints ((same_new hr _).seq h), dat_ints (xs := []) (.of upd_same), fun b hb => by
    have e : b = !decide (xs = []) := by
      rw [Bool.eq_iff_iff, hb]
      simp only [Bool.not_eq_true', decide_eq_false_iff_not]
      exact ⟨fun z w => z (by rw [w]), fun z w => z (zd_inj w)⟩
    rw [e]
    exact q _ (same_new hr _)⟩⟩
def okShown (xs : List Int) (n : Int) : Prop := Rises 39 (-1) xs = true ∧ 0 ≤ n ∧ n ≤ 40 ∧ ∀ a, xs.getLast? = some a → a < n
theorem last_at {xs : List Int} {a : Int} (h : xs.getLast? = some a) : atI (xs.map V.int) (-1) = some (.int a) := by
  have hne : xs ≠ [] := fun z => by rw [z] at h; cases h
  rw [List.getLast?_eq_getLast hne] at h
  injection h with h
  rw [← List.dropLast_concat_getLast hne, h, List.map_append]
  exact atI_last _ _
def isO (z : Str) (i : Nat) : Bool := decide (sgn z i = "o")
def isP (z : Str) (i : Nat) : Bool := decide (sgn z i = ".")
def okZ (z : Str) : Prop := z.length ≤ 40 ∧ ∀ i, i < z.length → isO z i = true ∨ isP z i = true
def headsZ (z : Str) (n : Nat) : List Nat := (List.range n).filter (isO z)
theorem headsZ_succ (z : Str) (n : Nat) : headsZ z (n + 1) = headsZ z n ++ (if isO z n = true then [n] else []) := by
  unfold headsZ
  rw [List.range_succ, List.filter_append, List.filter_cons]
  rfl
abbrev s_shown : Stmt := top 16
abbrev n_shown : List Str := ["heads", "size"]
abbrev p_shown : List Str := ["heads", "size"]
theorem sc_shown : FnScope n_shown p_shown (defScope s_shown) := ⟨rfl, rfl, rfl, by decide +kernel, rfl, by decide +kernel, by decide +kernel⟩
abbrev s_read : Stmt := top 17
abbrev n_read : List Str := ["text", "heads", "place", "sign"]
abbrev p_read : List Str := ["text"]
theorem sc_read : FnScope n_read p_read (defScope s_read) := ⟨rfl, rfl, rfl, by decide +kernel, rfl, by decide +kernel, by decide +kernel⟩
section
variable {P : Program} {w : World} {K : PySem.W.Frag} {mg : Str → Option Value} {base : Heap} {cR cO : Addr}
structure CnSh (P : Program) (w : World) (K : PySem.W.Frag) (mg : Str → Option Value) (base : Heap) (cR : Addr) : Prop where
  check_row : CalleeX P w K mg base "check_row" 2 p_check_row (spCheckRowX K cR)
def spShown (K : PySem.W.Frag) (cR : Addr) : Sp := fun vs H Q E => ∃ (ph : Addr) (xs : List Int) (n : Int), vs = [.ref ph, .int n] ∧ SqL K H ph (xs.map V.int) ∧ (okShown xs n → ∀ H', Same H H' → Q (.str (txt (fun k => decide ((k : Int) ∈ xs)) n.toNat)) H') ∧ (¬ okShown xs n → ∀ H', Same H H' → E (.ref cR) none H')
set_option pp.deepTerms true in
theorem ok_shown (D : HasDef K mg "shown" s_shown) (T : TxN K mg cR cO) (C : CnSh P w K mg base cR) : CalleeX P w K mg base "shown" 3 p_shown (spShown K cR) := by
  refine D.okX sc_shown (fun _ _ _ _ _ _ us hl => match us, hl with | [_, _], _ => rfl) (fun vs H Q E h => ?_) (fun f cdv A outer s H vs Q E hr h => ?_)
  · obtain ⟨ph, xs, n, rfl, _⟩ := h
    rfl
  obtain ⟨ph, xs, n, rfl, hH, q, qe⟩ := h
  refine ⟨_, (pss_cons (ps_expr (pe_callX C.check_row pass1 hr (by omega) rfl (pa_cons (pv 0) pa_nil)))
    (pss_cons (ps_if (PW.pt (pw_or (pt_cmpR op_lt (pv 1) pe_int (nomark _)) (pw_or1 (pt_cmpR op_gt (pv 1) (pe_globI T.MOST_SIGNS) (nomark _))))) (pss_one (ps_raise raise1 rfl T.r_NoRow rfl (pa_cons pe_str pa_nil))) pss_nil)
    (pss_cons (ps_if (PW.pt (pw_and (pt_cmpR (op_neD (n := 0) hr (by decide)) (pv 0) (pe_lst pa_nil) (nomark _)) (pw_and1 (pt_cmpR op_ge (pe_ix ix_list (pv 0) (pe_un un_neg pe_int) (fun _ _ => rfl)) (pv 1) (nomark _))))) (pss_one (ps_raise raise1 rfl T.r_NoRow rfl (pa_cons pe_str pa_nil))) pss_nil)
    (pss_one (ps_ret (pe_bm PySem.F.plainAttrs_str PySem.F.slot_str_join PySem.F.type_str_join mt_join pe_str (pa_cons (pe_comp (Block.of (out := defScope s_shown) (N := n_shown) (x := "place") (frees := ["heads"]) (ix := [0]) (by decide +kernel)) rfl (pi_range1 rfl T.n_range (pa_cons (pv 1) pa_nil)) (fun _ _ _ _ => pts_nil) (fun _ _ _ _ => (pe_ifExp (pt_cmpR (op_in_k (K := K) rfl) (pv 0) (pv 1) rfl) (pe_globS T.HEAD) (pe_globS T.TAIL)))) pa_nil))))))), ?_⟩
  rw [show start n_shown [V.ref ph, V.int n] = [some (V.ref ph), some (V.int n)] from rfl]
  have sl : ∀ n : Nat, n ≤ 1000 → n < sizeLine := fun n h => Nat.lt_of_le_of_lt h (by decide)
  refine seq_of (call_of (ev_cons (ev_var rfl) ev_nil) ⟨ph, xs, rfl, hH, fun hr => ?_, fun hr => qe (fun z => by rw [z.1] at hr; cases hr) _ (Same.refl H)⟩)
  dsimp only
  refine seq_of (ifS_of (ev_or (ev_test (ev_i0 (ev_var rfl) ev_c)) fun _ => ev_test (ev_i0 (ev_var rfl) ev_c)) (fun c => ⟨by decide, qe ?_ _ (Same.refl H)⟩) fun c => next_of ?_)
  · rintro ⟨_, h0, h40, _⟩
    simp only [Bool.or_eq_true, decide_eq_true_eq] at c
    omega
  simp only [Bool.or_eq_false_iff, decide_eq_false_iff_not] at c
  dsimp only
  refine cut (fun σ' H' => σ' = [some (V.ref ph), some (V.int n)] ∧ Same H H' ∧ okShown xs n) (fun X hX => ?_) ?_
  · cases hla : xs.getLast? with
    | none =>
      have e : xs = [] := List.getLast?_eq_none_iff.mp hla
      refine ifG_of (evg_and (b := false) (evg_test (evg_neNil (ev_var rfl) hH)) (fun z => by rw [e] at z; cases z)) (fun z => by rw [Bool.and_false] at z; cases z) fun _ H1 s1 => next_of (hX _ _ ⟨rfl, s1, hr, by omega, by omega, fun a h => by rw [hla] at h; cases h⟩)
    | some a =>
      have e : xs ≠ [] := fun z => by rw [z] at hla; cases hla
      refine ifG_of (evg_and (evg_test (evg_neNil (ev_var rfl) hH)) (fun z H1 s1 => evg_t (ev_test (ev_i0 (ev_ixL (ev_var rfl) (ev_u ev_c) (s1.seq hH) (last_at hla)) (ev_var rfl))))) (fun z H1 s1 => ⟨by decide, qe ?_ _ s1⟩) fun z H1 s1 => next_of (hX _ _ ⟨rfl, s1, hr, by omega, by omega, fun b h => ?_⟩)
      · rintro ⟨_, _, _, h⟩
        have := h a hla
        simp only [Bool.and_eq_true, decide_eq_true_eq] at z
        omega
      · rw [hla] at h
        injection h with h
        subst h
        rw [decide_eq_false e] at z
        simp only [Bool.not_false, Bool.true_and, decide_eq_false_iff_not] at z
        omega
  rintro σ' H1 ⟨rfl, s1, ok⟩
  refine retO_of ⟨rfl, arg1_of (comp_range (fun k => V.str (sg (decide ((k : Int) ∈ xs)))) (n := n.toNat) (lo := 0) (fun R hR => rng1_of (ev_cons (ev_var rfl) ev_nil) (by omega) (by omega) hR) (sl _ (by omega)) (fun k H' R hk sm r => ?_) fun acc hacc => ?_)⟩
  · refine (ev_test (ev_inI (ev_var rfl) (ev_var rfl) ((s1.trans sm).seq hH))) _ ?_
    rw [Int.zero_add]
    by_cases h : (k : Int) ∈ xs
    · rw [if_pos (decide_eq_true h)]
      rw [decide_eq_true h] at r
      exact r
    · rw [if_neg (by rw [decide_eq_false h]; decide)]
      rw [decide_eq_false h] at r
      exact r
  · refine ⟨"", acc, (List.range n.toNat).map (fun k : Nat => sg (decide ((k : Int) ∈ xs))), rfl, rfl, .of ?_, join_ok _ (by omega), ?_⟩
    · rw [upd_same, List.map_map]
      rfl
    · rw [join_txt]
      exact q ok _ (s1.trans (same_new hacc _))
def spRead (K : PySem.W.Frag) (cO : Addr) : Sp := fun vs H Q E => ∃ z : Str, vs = [.str z] ∧ z.length ≤ 1000 ∧ (okZ z → ∀ H' p, Same H H' → H p = none → H' p = some (.lst (nl (headsZ z z.length))) → Q (.ref p) H') ∧ (¬ okZ z → ∀ H', Same H H' → E (.ref cO) none H')
set_option pp.deepTerms true in
theorem ok_read (D : HasDef K mg "read" s_read) (T : TxN K mg cR cO) : CalleeX P w K mg base "read" 1 p_read (spRead K cO) := by
  refine D.okX sc_read (fun _ _ _ _ _ _ us hl => match us, hl with | [_], _ => rfl) (fun vs H Q E h => ?_) (fun f cdv A outer s H vs Q E hr h => ?_)
  · obtain ⟨z, rfl, _⟩ := h
    rfl
  obtain ⟨z, rfl, z1, q, qe⟩ := h
  refine ⟨_, (pss_cons (ps_if (pt_cmpR op_gt (pe_callB call_len_str rfl T.n_len bt_len (pa_cons (pv 0) pa_nil)) (pe_globI T.MOST_SIGNS) (nomark _)) (pss_one (ps_raise raise1 rfl T.r_NoNote rfl (pa_cons pe_str pa_nil))) pss_nil)
    (pss_cons (ps_set (i := 1) sc_read.nd rfl (Or.inl rfl) (pe_lst pa_nil))
    (pss_cons (ps_for PassesOwn.leaving rfl (pi_enum rfl T.n_enumerate (pa_cons (pv 0) pa_nil)) (pg_tup rfl (pgs_cons (pg_name (i := 2) sc_read.nd rfl (Or.inl rfl)) (pgs_cons (pg_name (i := 3) sc_read.nd rfl (Or.inl rfl)) pgs_nil))) (pss_cons (ps_if (PW.pt (pw_and (pt_cmpR op_ne (pv 3) (pe_globS T.HEAD) (nomark _)) (pw_and1 (pt_cmpR op_ne (pv 3) (pe_globS T.TAIL) (nomark _))))) (pss_one (ps_raise raise1 rfl T.r_NoNote rfl (pa_cons pe_str pa_nil))) pss_nil)
    (pss_one (ps_if (pt_cmpR op_eq (pv 3) (pe_globS T.HEAD) (nomark _)) (pss_one (ps_expr (pe_bm PySem.F.plainAttrs_list PySem.F.slot_list_append PySem.F.type_list_append mt_append (pv 1) (pa_cons (pv 2) pa_nil)))) pss_nil))))
    (pss_one (ps_ret (pv 1)))))), ?_⟩
  rw [show start n_read [V.str z] = [some (V.str z), none, none, none] from rfl]
  have sl : ∀ n : Nat, n ≤ 1000 → n < sizeLine := fun n h => Nat.lt_of_le_of_lt h (by decide)
  refine seq_of (ifS_of (ev_test (ev_i0 (i := (z.length : Int)) (fun Q q => ⟨_, rfl, z, rfl, Nat.le_of_lt (sl _ z1), q⟩) ev_c)) (fun c => ⟨by decide, qe ?_ _ (Same.refl H)⟩) fun c => next_of ?_)
  · rintro ⟨h, _⟩
    have c : (40 : Int) < (z.length : Int) := of_decide_eq_true c
    omega
  have c : ¬ (40 : Int) < (z.length : Int) := of_decide_eq_false c
  have z40 : z.length ≤ 40 := by omega
  dsimp only
  refine seq_of ⟨by decide, fun p hp => ?_⟩
  dsimp only [gName]
  refine seq_of ⟨_, rfl, z, rfl, ?_⟩
  refine for_enum (fun i σ H' => Same H H' ∧ H' p = some (.lst (nl (headsZ z i))) ∧ (∀ j, j < i → isO z j = true ∨ isP z j = true) ∧ ∃ u v, σ = [some (V.str z), some (V.ref p), u, v]) ⟨same_new hp _, upd_same, fun j h => by omega, none, none, rfl⟩ ?_ ?_
  · rintro i σ H' r hi ⟨sm, hl, good, u, v, rfl⟩ hr'
    have s2 := sm.trans (same_new hr' (.tup [.int (i : Int), .str (sgn z i)]))
    have hl2 : upd H' r (.tup [.int (i : Int), .str (sgn z i)]) p = some (.lst (nl (headsZ z i))) := same_new hr' _ _ _ hl
    refine ⟨r, _, rfl, .of upd_same, rfl, _, _, rfl, _, _, rfl, rfl, ?_⟩
    dsimp only [gName]
    refine seq_of (ifS_of (ev_and (ev_test (ev_ne (ev_var rfl) ev_c rfl)) fun _ => ev_test (ev_ne (ev_var rfl) ev_c rfl)) (fun c => ⟨by decide, qe ?_ _ s2⟩) fun c => next_of ?_)
    · rintro ⟨_, h⟩
      have := h i hi
      simp [isO, isP] at this c
      rcases this with t | t
      · exact c.1 t
      · exact c.2 t
    · dsimp only
      have gi : isO z i = true ∨ isP z i = true := by
        simp [isO, isP] at c ⊢
        by_cases e : sgn z i = "o"
        · exact .inl e
        · exact .inr (c e)
      refine ifS_of (ev_test (ev_eq (ev_var rfl) ev_c rfl)) (fun c => ?_) fun c => next_of ⟨s2, ?_, ?_, _, _, rfl⟩
      · have io : isO z i = true := by
          simp [isO] at c ⊢
          exact c
        refine ⟨_, rfl, .inl ⟨rfl, _, .of hl2⟩, _, rfl, p, _, _, rfl, rfl, hl2, ?_, s2.upd hp, ?_, fun j hj => ?_, _, _, rfl⟩
        · rw [nl_length]
          have : (headsZ z i).length ≤ i := by
            unfold headsZ
            exact Nat.le_trans (List.length_filter_le _ _) (by rw [List.length_range]; exact Nat.le_refl _)
          exact sl _ (by omega)
        · rw [upd_same, headsZ_succ, if_pos io, nl_append]
          rfl
        · rcases Nat.lt_succ_iff_lt_or_eq.mp hj with h | rfl
          · exact good j h
          · exact gi
      · have io : ¬ isO z i = true := by
          simp [isO] at c ⊢
          exact c
        rw [headsZ_succ, if_neg io, List.append_nil]
        exact hl2
      · intro j hj
        rcases Nat.lt_succ_iff_lt_or_eq.mp hj with h | rfl
        · exact good j h
        · exact gi
  · rintro σ H' ⟨sm, hl, good, u, v, rfl⟩
    dsimp only
    exact ret_of (ev_var rfl) (q ⟨z40, good⟩ _ _ sm hp hl)
end
abbrev s_law_heads : Stmt := top 20
abbrev n_law_heads : List Str := ["cell", "many", "heads", "k"]
abbrev p_law_heads : List Str := ["cell", "many"]
theorem sc_law_heads : FnScope n_law_heads p_law_heads (defScope s_law_heads) := ⟨rfl, rfl, rfl, by decide +kernel, rfl, by decide +kernel, by decide +kernel⟩
section
variable {P : Program} {w : World} {K : PySem.W.Frag} {mg : Str → Option Value} {base : Heap}
structure TxRange (mg : Str → Option Value) : Prop where
  n_range : mg "range" = none
theorem ok_heads (D : HasDef K mg "_law_heads" s_law_heads) (T : TxRange mg) : Callee P w K mg base "_law_heads" 1 p_law_heads spHeads := by
  refine D.ok sc_law_heads (fun _ _ _ _ _ _ us hl => match us, hl with | [_, _], _ => rfl) (fun vs H Q E h => ?_) (fun f cdv A outer s H vs Q E hr h => ?_)
  · obtain ⟨c, m, rfl, _⟩ := h
    rfl
  obtain ⟨c, m, rfl, hm, q⟩ := h
  refine ⟨_, (pss_cons (ps_set (i := 2) sc_law_heads.nd rfl (Or.inl rfl) (pe_lst pa_nil))
    (pss_cons (ps_for PassesOwn.never rfl (pi_range1 rfl T.n_range (pa_cons (pv 1) pa_nil)) (pg_name (i := 3) sc_law_heads.nd rfl (Or.inl rfl)) (pss_cons (ps_if (pt_cmpR op_eq (pe_op op_mod (pv 0) pe_int) pe_int (nomark _)) (pss_one (ps_expr (pe_bm PySem.F.plainAttrs_list PySem.F.slot_list_append PySem.F.type_list_append mt_append (pv 2) (pa_cons (pv 3) pa_nil)))) pss_nil)
    (pss_one (ps_set (i := 0) sc_law_heads.nd rfl (Or.inl rfl) (pe_op op_fdiv (pv 0) pe_int)))))
    (pss_one (ps_ret (pv 2))))), ?_⟩
  rw [show start n_law_heads [V.int c, V.int m] = [some (V.int c), some (V.int m), none, none] from rfl]
  simp only [tSeq, tIfS, tRet, tRetN, tNext, tOr, tAnd, tNot, tTest, tB, tOp, tUn, tVar, tC, tCall, tCons, tNil, rI0, rI, rU, tGT, tAsg, gName, tDrop, tCB, tAndV, tOrV, tNotV, tIf, tChain, tTup, tLst, tNever, cxK, bkK, noxK, tRaise, tTry, xTry, endsH, tCallH]
  simp
  intro p hp
  refine ⟨_, rfl, _, rfl, by omega, by omega, ?_⟩
  rw [show ((m : Nat) : Int).toNat = m by omega]
  refine for_range (fun i σ H' => Same H H' ∧ H' p = some (.lst (nl (headsOf c 0 i))) ∧ ∃ k, σ = [some (V.int (c / 2 ^ i)), some (V.int m), some (V.ref p), k]) ⟨same_new hp _, upd_same, none, by simp⟩ ?_ ?_
  · rintro i σ H' hi ⟨sm, hl, k, rfl⟩
    simp only [tSeq, tIfS, tRet, tRetN, tNext, tOr, tAnd, tNot, tTest, tB, tOp, tUn, tVar, tC, tCall, tCons, tNil, rI0, rI, rU, tGT, tAsg, gName, tDrop, tCB, tAndV, tOrV, tNotV, tIf, tChain, tTup, tLst, tNever, cxK, bkK, noxK, tRaise, tTry, xTry, endsH, tCallH]
    simp
    refine ⟨rfl, ?_⟩
    by_cases e : c / 2 ^ i % 2 = 1
    · refine .inr ⟨by rw [decide_eq_true (by rw [e])], _, rfl, .inl ⟨rfl, _, .of hl⟩, _, rfl, p, _, _, rfl, rfl, hl, ?_, ⟨by decide, by decide⟩, sm.upd hp, ?_, half c i⟩
      · rw [nl_length]
        have := headsOf_len c 0 i
        exact small1000 (by omega)
      · rw [upd_same, headsOf_succ, if_pos e, nl_append]
        simp [nl]
    · exact .inl ⟨by rw [decide_eq_false (fun z => e (V.int.inj z))], ⟨by decide, by decide⟩, sm, by rw [headsOf_succ, if_neg e, List.append_nil]; exact hl, half c i⟩
  · rintro σ H' ⟨sm, hl, k, rfl⟩
    simp only [tSeq, tIfS, tRet, tRetN, tNext, tOr, tAnd, tNot, tTest, tB, tOp, tUn, tVar, tC, tCall, tCons, tNil, rI0, rI, rU, tGT, tAsg, gName, tDrop, tCB, tAndV, tOrV, tNotV, tIf, tChain, tTup, tLst, tNever, cxK, bkK, noxK, tRaise, tTry, xTry, endsH, tCallH]
    simp
    exact q _ _ sm hl hp
end
abbrev s_law_is_row : Stmt := top 22
abbrev n_law_is_row : List Str := ["found", "due", "k"]
abbrev p_law_is_row : List Str := ["found", "due"]
theorem sc_law_is_row : FnScope n_law_is_row p_law_is_row (defScope s_law_is_row) := ⟨rfl, rfl, rfl, by decide +kernel, rfl, by decide +kernel, by decide +kernel⟩
section
variable {P : Program} {w : World} {K : PySem.W.Frag} {mg : Str → Option Value} {base : Heap}
structure TxIr (mg : Str → Option Value) : Prop where
  n_isinstance : mg "isinstance" = none
  n_list : mg "list" = none
  n_int : mg "int" = none
  n_bool : mg "bool" = none
  n_len : mg "len" = none
  n_range : mg "range" = none
set_option pp.deepTerms true in
theorem ok_is_row (D : HasDef K mg "_law_is_row" s_law_is_row) (T : TxIr mg) : Callee P w K mg base "_law_is_row" 1 p_law_is_row spIsRow := by
  refine D.ok sc_law_is_row (fun _ _ _ _ _ _ us hl => match us, hl with | [_, _], _ => rfl) (fun vs H Q E h => ?_) (fun f cdv A outer s H vs Q E hr h => ?_)
  · obtain ⟨pf, pd, xs, ys, rfl, _⟩ := h
    rfl
  obtain ⟨pf, pd, xs, ys, rfl, hf, hd, hlen, q⟩ := h
  refine ⟨_, (pss_cons (ps_if (PW.pt (pw_or (pt_not (pt_val (pe_callB call_isi rfl T.n_isinstance bt_isinstance (pa_cons (pv 0) (pa_cons (pe_ty T.n_list bt_list) pa_nil))))) (pw_or1 (pt_cmpR op_ne (pe_callB call_len_seq rfl T.n_len bt_len (pa_cons (pv 0) pa_nil)) (pe_callB call_len_seq rfl T.n_len bt_len (pa_cons (pv 1) pa_nil)) (nomark _))))) (pss_one (ps_ret pe_bl)) pss_nil)
    (pss_cons (ps_for PassesOwn.never rfl (pi_range1 rfl T.n_range (pa_cons (pe_callB call_len_seq rfl T.n_len bt_len (pa_cons (pv 1) pa_nil)) pa_nil)) (pg_name (i := 2) sc_law_is_row.nd rfl (Or.inl rfl)) (pss_one (ps_if (PW.pt (pw_or (pt_not (pt_val (pe_callB call_isi rfl T.n_isinstance bt_isinstance (pa_cons (pe_ix ix_list (pv 0) (pv 2) (fun _ _ => rfl)) (pa_cons (pe_ty T.n_int bt_int) pa_nil))))) (pw_or (pt_val (pe_callB call_isi rfl T.n_isinstance bt_isinstance (pa_cons (pe_ix ix_list (pv 0) (pv 2) (fun _ _ => rfl)) (pa_cons (pe_ty T.n_bool bt_bool) pa_nil)))) (pw_or1 (pt_cmpR op_ne (pe_ix ix_list (pv 0) (pv 2) (fun _ _ => rfl)) (pe_ix ix_list (pv 1) (pv 2) (fun _ _ => rfl)) (nomark _)))))) (pss_one (ps_ret pe_bl)) pss_nil)))
    (pss_one (ps_ret pe_bl)))), ?_⟩
  rw [show start n_law_is_row [V.ref pf, V.ref pd] = [some (V.ref pf), some (V.ref pd), none] from rfl]
  refine seq_of (ifS_of (ev_or (ev_not (ev_tB (ev_isList (ev_cons (ev_var rfl) (ev_cons ev_c ev_nil)) hf))) fun _ => ev_test (ev_neI (ev_lenL (ev_cons (ev_var rfl) ev_nil) (.of hf)) (ev_lenL (ev_cons (ev_var rfl) ev_nil) (.of hd)))) (fun c => ?_) fun c => next_of ?_)
  · refine ret_of ev_c ?_
    rw [nl_length, nl_length] at c
    have c : ¬ (xs.length : Int) = (ys.length : Int) := by simpa using c
    rw [decide_eq_false (fun z => c (by rw [z]))] at q
    exact q
  rw [nl_length, nl_length] at c
  have c : (xs.length : Int) = (ys.length : Int) := by simpa using c
  dsimp only
  refine seq_of (rng1_of (ev_cons (ev_lenL (ev_cons (ev_var rfl) ev_nil) (.of hd)) ev_nil) (by omega) (by rw [nl_length]; omega) ?_)
  rw [nl_length, show ((ys.length : Nat) : Int).toNat = ys.length by omega]
  refine for_range (fun i σ H' => H' = H ∧ (∀ k, k < i → Row.at0 xs k = Row.at0 ys k) ∧ ∃ u, σ = [some (V.ref pf), some (V.ref pd), u]) ⟨rfl, fun k h => by omega, none, rfl⟩ ?_ ?_
  · rintro i σ H' hi ⟨rfl, same, u, rfl⟩
    dsimp only [gName]
    have i0 : EvE (tOp (rIxL K) (tVar 0) (tVar 2)) [some (V.ref pf), some (V.ref pd), some (V.int (0 + (i : Nat)))] H' (.int (Row.at0 xs i : Int)) := ev_atN i (ev_var rfl) (ev_var rfl) (.of hf) (by omega) (by omega)
    have i1 : EvE (tOp (rIxL K) (tVar 1) (tVar 2)) [some (V.ref pf), some (V.ref pd), some (V.int (0 + (i : Nat)))] H' (.int (Row.at0 ys i : Int)) := ev_atN i (ev_var rfl) (ev_var rfl) (.of hd) (by omega) (by omega)
    refine ifS_of (ev_or (ev_not (ev_tB (ev_isInt (ev_cons i0 (ev_cons ev_c ev_nil))))) fun _ => ev_or (ev_tB (ev_notBool (ev_cons i0 (ev_cons ev_c ev_nil)))) fun _ => ev_test (ev_neI i0 i1)) (fun c2 => ?_) fun c2 => next_of ⟨rfl, fun k hk => ?_, _, rfl⟩
    · have c2 : ¬ (Row.at0 xs i : Int) = (Row.at0 ys i : Int) := by simpa using c2
      refine ret_of ev_c ?_
      rw [decide_eq_false (fun z => c2 (by rw [z]))] at q
      exact q
    · have c2 : (Row.at0 xs i : Int) = (Row.at0 ys i : Int) := by simpa using c2
      by_cases e : k = i
      · subst e
        omega
      · exact same k (by omega)
  · rintro σ H' ⟨rfl, same, u, rfl⟩
    dsimp only
    refine ret_of ev_c ?_
    have e : xs = ys := by
      refine List.ext_getElem (by omega) fun i h1 h2 => ?_
      have := same i h2
      unfold Row.at0 at this
      rw [List.getD_eq_getElem?_getD, List.getD_eq_getElem?_getD, List.getElem?_eq_getElem h1, List.getElem?_eq_getElem h2] at this
      exact this
    rw [decide_eq_true e] at q
    exact q
end
abbrev s_law_text : Stmt := top 21
abbrev n_law_text : List Str := ["heads", "size", "text", "k"]
abbrev p_law_text : List Str := ["heads", "size"]
theorem sc_law_text : FnScope n_law_text p_law_text (defScope s_law_text) := ⟨rfl, rfl, rfl, by decide +kernel, rfl, by decide +kernel, by decide +kernel⟩
abbrev s_law_odd_sign : Stmt := top 23
abbrev n_law_odd_sign : List Str := ["cell", "some"]
abbrev p_law_odd_sign : List Str := ["cell"]
theorem sc_law_odd_sign : FnScope n_law_odd_sign p_law_odd_sign (defScope s_law_odd_sign) := ⟨rfl, rfl, rfl, by decide +kernel, rfl, by decide +kernel, by decide +kernel⟩
theorem txt_succ (f : Nat → Bool) (n : Nat) : txt f n ++ sg (f n) = txt f (n + 1) := by
  refine str_ext ?_
  show ((txt f n).cps ++ (sg (f n)).cps).toList = ((List.range (n + 1)).map fun k => if f k = true then 111 else 46)
  rw [Array.toList_append, sg_cps, List.range_succ, List.map_append]
  rfl
theorem sg_at (b : Bool) : ∃ d, atI (".o" : Str).cps.toList (if b = true then 1 else 0) = some d ∧ (⟨#[d]⟩ : Str) = sg b := by
  cases b
  · exact ⟨46, rfl, str_ext rfl⟩
  · exact ⟨111, rfl, str_ext rfl⟩
def spText (K : PySem.W.Frag) : Sp := fun vs H Q _ => ∃ (ph : Addr) (hs : List Nat) (n : Nat), vs = [.ref ph, .int (n : Int)] ∧ SqL K H ph (nl hs) ∧ n ≤ 42 ∧ Q (.str (txt (fun k => decide (k ∈ hs)) n)) H
def oddS : Str := " !\"#$&'()*+,-/0123456789:;<=>?@ABCDEFGHIJKLMNOPQRSTUVWXYZ[\\]^_`" ++ "abcdefghijklmnpqrstuvwxyz{|}~\n"
theorem odd_len : oddS.cps.toList.length = 93 := by decide
theorem odd_all : ∀ d ∈ oddS.cps.toList, d ≠ 111 ∧ d ≠ 46 := by decide
def spOdd : Sp := fun vs H Q _ => ∃ c : Int, vs = [.int c] ∧ ∀ d : Nat, d ≠ 111 → d ≠ 46 → Q (.str ⟨#[d]⟩) H
section
variable {P : Program} {w : World} {K : PySem.W.Frag} {mg : Str → Option Value} {base : Heap}
structure TxL (mg : Str → Option Value) : Prop where
  n_range : mg "range" = none
  n_int : mg "int" = none
  n_len : mg "len" = none
theorem ok_text (D : HasDef K mg "_law_text" s_law_text) (T : TxL mg) : Callee P w K mg base "_law_text" 1 p_law_text (spText K) := by
  refine D.ok sc_law_text (fun _ _ _ _ _ _ us hl => match us, hl with | [_, _], _ => rfl) (fun vs H Q E h => ?_) (fun f cdv A outer s H vs Q E hr h => ?_)
  · obtain ⟨ph, hs, n, rfl, _⟩ := h
    rfl
  obtain ⟨ph, hs, n, rfl, hH, n42, q⟩ := h
  refine ⟨_, (pss_cons (ps_set (i := 2) sc_law_text.nd rfl (Or.inl rfl) pe_str)
    (pss_cons (ps_for PassesOwn.never rfl (pi_range1 rfl T.n_range (pa_cons (pv 1) pa_nil)) (pg_name (i := 3) sc_law_text.nd rfl (Or.inl rfl)) (pss_one (ps_set (i := 2) sc_law_text.nd rfl (Or.inl rfl) (pe_op op_add_str (pv 2) (pe_ix ix_str pe_str (pe_callTy call_int1 rfl T.n_int bt_int (pa_cons (pe_cmpR op_in_seq (pv 3) (pv 0) rfl) pa_nil)) (fun _ _ => rfl))))))
    (pss_one (ps_ret (pv 2))))), ?_⟩
  rw [show start n_law_text [V.ref ph, V.int n] = [some (V.ref ph), some (V.int n), none, none] from rfl]
  have sl : ∀ n : Nat, n ≤ 1000 → n ≤ sizeLine := fun n h => Nat.le_trans h (by decide)
  refine seq_of (asg_of ev_c ?_)
  dsimp only
  refine seq_of (rng1_of (ev_cons (ev_var rfl) ev_nil) (by omega) (by omega) ?_)
  rw [Int.toNat_natCast]
  refine for_range (fun i σ H' => H' = H ∧ ∃ u, σ = [some (V.ref ph), some (V.int (n : Int)), some (V.str (txt (fun k => decide (k ∈ hs)) i)), u]) ⟨rfl, none, rfl⟩ ?_ ?_
  · rintro i σ H' hi ⟨rfl, u, rfl⟩
    dsimp only [gName]
    rw [Int.zero_add]
    obtain ⟨d, hd, ed⟩ := sg_at (decide (i ∈ hs))
    refine asgO_of (op_of (ev_var rfl) (op_of ev_c (ev_intB (ev_cons (ev_inN (n := i) (ev_var rfl) (ev_var rfl) hH) ev_nil) _ ⟨_, _, d, rfl, rfl, sl _ (by decide), hd, ?_⟩)))
    refine ⟨_, _, rfl, rfl, sl _ ?_, rfl, some (V.int (i : Int)), ?_⟩
    · rw [txt_len]
      show i + 1 ≤ 1000
      omega
    · rw [ed, txt_succ (fun k => decide (k ∈ hs)) i]
      rfl
  · rintro σ H' ⟨rfl, u, rfl⟩
    dsimp only
    exact ret_of (ev_var rfl) q
theorem ok_odd (D : HasDef K mg "_law_odd_sign" s_law_odd_sign) (T : TxL mg) : Callee P w K mg base "_law_odd_sign" 1 p_law_odd_sign spOdd := by
  refine D.ok sc_law_odd_sign (fun _ _ _ _ _ _ us hl => match us, hl with | [_], _ => rfl) (fun vs H Q E h => ?_) (fun f cdv A outer s H vs Q E hr h => ?_)
  · obtain ⟨c, rfl, _⟩ := h
    rfl
  obtain ⟨c, rfl, q⟩ := h
  refine ⟨_, (pss_cons (ps_set (i := 1) sc_law_odd_sign.nd rfl (Or.inl rfl) pe_str)
    (pss_cons (ps_set (i := 1) sc_law_odd_sign.nd rfl (Or.inl rfl) (pe_op op_add_str (pv 1) pe_str))
    (pss_one (ps_ret (pe_ix ix_str (pv 1) (pe_op op_mod (pv 0) (pe_callB call_len_str rfl T.n_len bt_len (pa_cons (pv 1) pa_nil))) (fun _ _ => rfl)))))), ?_⟩
  rw [show start n_law_odd_sign [V.int c] = [some (V.int c), none] from rfl]
  have sl : ∀ n : Nat, n ≤ 1000 → n ≤ sizeLine := fun n h => Nat.le_trans h (by decide)
  refine seq_of (asg_of ev_c ?_)
  dsimp only
  refine seq_of (asgO_of (op_of (ev_var rfl) ⟨_, _, rfl, rfl, sl _ (by decide), ?_⟩))
  dsimp only
  change tRet _ _ [some (V.int c), some (V.str oddS)] H
  have l : (oddS.length : Int) = 93 := by
    show ((oddS.cps.toList.length : Nat) : Int) = 93
    rw [odd_len]
    rfl
  obtain ⟨i, hi⟩ : ∃ i : Nat, c % 93 = (i : Int) := ⟨(c % 93).toNat, by omega⟩
  have hlt : i < oddS.cps.toList.length := by rw [odd_len]; omega
  have hm := odd_all _ (List.getElem_mem hlt)
  refine retO_of (op_of (ev_var rfl) (op_of (ev_var rfl) ⟨_, rfl, oddS, rfl, sl _ (by decide), c, 93, rfl, by rw [l], (by show (0 : Int) < 93; decide), _, _, _, rfl, rfl, sl _ (by decide), ?_, q _ hm.1 hm.2⟩))
  rw [hi]
  exact atI_nat (List.getElem?_eq_getElem hlt)
end
abbrev s_law_read : Stmt := top 24
abbrev n_law_read : List Str := ["text", "e", "kinds"]
abbrev p_law_read : List Str := ["text"]
theorem sc_law_read : FnScope n_law_read p_law_read (defScope s_law_read) := ⟨rfl, rfl, rfl, by decide +kernel, rfl, by decide +kernel, by decide +kernel⟩
abbrev s_law_no_size : Stmt := top 25
abbrev n_law_no_size : List Str := ["heads", "size", "e"]
abbrev p_law_no_size : List Str := ["heads", "size"]
theorem sc_law_no_size : FnScope n_law_no_size p_law_no_size (defScope s_law_no_size) := ⟨rfl, rfl, rfl, by decide +kernel, rfl, by decide +kernel, by decide +kernel⟩
structure ErrF (K : PySem.W.Frag) (mg : Str → Option Value) (cC cN cB cO cR cU cT : Addr) : Prop where
  r_NoRow : ErrC K mg "NoRow" cR
  r_NoNote : ErrC K mg "NoNote" cO
  g_CoinError : GRef mg "CoinError" cC
  g_NoNumber : GRef mg "NoNumber" cN
  g_NoBoard : GRef mg "NoBoard" cB
  g_NoNote : GRef mg "NoNote" cO
  g_NoRow : GRef mg "NoRow" cR
  g_NoRule : GRef mg "NoRule" cU
  g_NoTurn : GRef mg "NoTurn" cT
  x_NoRow : ExcCls K cR
  x_NoNote : ExcCls K cO
  m_NoRow : PySem.W.exmOne K (.ref cR) (.ref cC) = some true
  m_NoNote : PySem.W.exmOne K (.ref cO) (.ref cC) = some true
  k_NoRow_NoRule : PySem.W.kitOne K (.ref cR) (.ref cU) = some false
  k_NoRow_NoRow : PySem.W.kitOne K (.ref cR) (.ref cR) = some true
  k_NoRow_NoBoard : PySem.W.kitOne K (.ref cR) (.ref cB) = some false
  k_NoRow_NoTurn : PySem.W.kitOne K (.ref cR) (.ref cT) = some false
  k_NoRow_NoNumber : PySem.W.kitOne K (.ref cR) (.ref cN) = some false
  k_NoRow_NoNote : PySem.W.kitOne K (.ref cR) (.ref cO) = some false
  k_NoRow_ValueError : PySem.W.kitOne K (.ref cR) (.type "ValueError") = some true
  k_NoNote_NoRule : PySem.W.kitOne K (.ref cO) (.ref cU) = some false
  k_NoNote_NoRow : PySem.W.kitOne K (.ref cO) (.ref cR) = some false
  k_NoNote_NoBoard : PySem.W.kitOne K (.ref cO) (.ref cB) = some false
  k_NoNote_NoTurn : PySem.W.kitOne K (.ref cO) (.ref cT) = some false
  k_NoNote_NoNumber : PySem.W.kitOne K (.ref cO) (.ref cN) = some false
  k_NoNote_NoNote : PySem.W.kitOne K (.ref cO) (.ref cO) = some true
  k_NoNote_ValueError : PySem.W.kitOne K (.ref cO) (.type "ValueError") = some true
structure TxE (K : PySem.W.Frag) (mg : Str → Option Value) (cC cN cB cO cR cU cT : Addr) : Prop extends ErrF K mg cC cN cB cO cR cU cT where
  n_isinstance : mg "isinstance" = none
  n_ValueError : mg "ValueError" = none
structure TxE2 (K : PySem.W.Frag) (mg : Str → Option Value) (cC cN cB cO cR cU cT : Addr) : Prop extends TxE K mg cC cN cB cO cR cU cT where
  n_int : mg "int" = none
  n_list : mg "list" = none
theorem bt_ValueError : bootBuiltins "ValueError" = some (.type "ValueError") := by decide +kernel
theorem ev_isx {K : PySem.W.Frag} {σ : St} {H : Hp} {n : Nat} {a C : Addr} {a0 x1 u : Value} {c : V} {b : Bool} (hv : σ[n]? = some (some (.ref a))) (ha : H a = some (excO a C a0 x1)) (Z : ExcCls K C) (hc : asked c = some u) (hb : PySem.W.kitOne K (.ref C) u = some b) : EvE (tCB (rIsx K) (tCons (tVar n) (tCons (tC c) tNil))) σ H (.bl b) := fun Q q =>
  ⟨_, hv, a, C, a0, x1, c, u, b, rfl, ha, Z, hc, hb, q⟩
section
variable {P : Program} {w : World} {K : PySem.W.Frag} {mg : Str → Option Value} {base : Heap} {cC cN cB cO cR cU cT : Addr}
structure CnLr (P : Program) (w : World) (K : PySem.W.Frag) (mg : Str → Option Value) (base : Heap) (cR cO : Addr) : Prop where
  shown : CalleeX P w K mg base "shown" 3 p_shown (spShown K cR)
  read : CalleeX P w K mg base "read" 1 p_read (spRead K cO)
def spLRead : Sp := fun vs H Q _ => ∃ z : Str, vs = [.str z] ∧ z.length ≤ 1000 ∧ (okZ z → ∀ H' p r, Same H H' → H' p = some (.tup [.int 0, .ref r]) → H' r = some (.lst (nl (headsZ z z.length))) → Q (.ref p) H') ∧ (¬ okZ z → ∀ H' p, Same H H' → H' p = some (.tup [.int 1, .non]) → Q (.ref p) H')
set_option pp.deepTerms true in
theorem ok_lread (D : HasDef K mg "_law_read" s_law_read) (T : TxE2 K mg cC cN cB cO cR cU cT) (C : CnLr P w K mg base cR cO) : Callee P w K mg base "_law_read" 4 p_law_read spLRead := by
  refine D.ok sc_law_read (fun _ _ _ _ _ _ us hl => match us, hl with | [_], _ => rfl) (fun vs H Q E h => ?_) (fun f cdv A outer s H vs Q E hr h => ?_)
  · obtain ⟨z, rfl, _⟩ := h
    rfl
  obtain ⟨z, rfl, z1, q, q2⟩ := h
  refine ⟨_, (pss_one (ps_try (i := 1) rfl rfl sc_law_read.nd rfl rfl T.g_CoinError rfl (fun _ _ _ ht => (pss_one (ps_ret (pe_tup (pa_cons pe_int (pa_cons (pe_callX C.read ht hr (by omega) rfl (pa_cons (pv 0) pa_nil)) pa_nil)))))) (fun _ => (pss_cons (ps_set (i := 2) sc_law_read.nd rfl (Or.inl rfl) (pe_lst (pa_cons (pe_callB call_isx rfl T.n_isinstance bt_isinstance (pa_cons (pv 1) (pa_cons (pe_globR T.g_NoNumber) pa_nil))) (pa_cons (pe_callB call_isx rfl T.n_isinstance bt_isinstance (pa_cons (pv 1) (pa_cons (pe_globR T.g_NoRule) pa_nil))) (pa_cons (pe_callB call_isx rfl T.n_isinstance bt_isinstance (pa_cons (pv 1) (pa_cons (pe_globR T.g_NoRow) pa_nil))) (pa_cons (pe_callB call_isx rfl T.n_isinstance bt_isinstance (pa_cons (pv 1) (pa_cons (pe_globR T.g_NoTurn) pa_nil))) pa_nil))))))
    (pss_cons (ps_set (i := 2) sc_law_read.nd rfl (Or.inl rfl) (pe_op op_cat (pv 2) (pe_lst (pa_cons (pe_callB call_isx rfl T.n_isinstance bt_isinstance (pa_cons (pv 1) (pa_cons (pe_globR T.g_NoBoard) pa_nil))) (pa_cons (pe_not (pe_callB call_isx rfl T.n_isinstance bt_isinstance (pa_cons (pv 1) (pa_cons (pe_ty T.n_ValueError bt_ValueError) pa_nil)))) (pa_cons (pe_not (pe_callB call_isx rfl T.n_isinstance bt_isinstance (pa_cons (pv 1) (pa_cons (pe_globR T.g_NoNote) pa_nil)))) pa_nil))))))
    (pss_one (ps_ret (pe_tup (pa_cons (pe_op op_add pe_int (pe_callTy call_int1 rfl T.n_int bt_int (pa_cons (pe_cmpR op_in_seq pe_bl (pv 2) rfl) pa_nil))) (pa_cons pe_non pa_nil)))))))))), ?_⟩
  rw [show start n_law_read [V.str z] = [some (V.str z), none, none] from rfl]
  refine ⟨_, rfl, z, rfl, z1, fun ok H' r s1 _ hr' => ⟨by show 2 ≤ sizeLine; decide, fun p hp => q ok _ p r (s1.trans (same_new hp _)) upd_same ?_⟩, fun nok H' s1 => ⟨cO, rfl, T.m_NoNote, fun a a0 a1 ha => ?_⟩⟩
  · rw [upd_ne (ne_of_none hr' hp)]
    exact hr'
  have e0 : upd H' a (excO a cO a0 a1) a = some (excO a cO a0 a1) := upd_same
  have s2 := s1.trans (same_new ha (excO a cO a0 a1))
  generalize upd H' a (excO a cO a0 a1) = H2 at e0 s2
  dsimp only
  refine seq_of (asgO_of (lst_of (ev_cons (ev_isx rfl e0 T.x_NoNote rfl T.k_NoNote_NoNumber) (ev_cons (ev_isx rfl e0 T.x_NoNote rfl T.k_NoNote_NoRule) (ev_cons (ev_isx rfl e0 T.x_NoNote rfl T.k_NoNote_NoRow) (ev_cons (ev_isx rfl e0 T.x_NoNote rfl T.k_NoNote_NoTurn) ev_nil)))) (by show 4 ≤ sizeLine; decide) fun p1 h1 => ?_))
  dsimp only
  have t1 := same_new h1 (.lst [V.bl false, V.bl false, V.bl false, V.bl false])
  have e1 := t1 _ _ e0
  refine seq_of (asgO_of (op_of (ev_var rfl) (lst_of (ev_cons (ev_isx rfl e1 T.x_NoNote rfl T.k_NoNote_NoBoard) (ev_cons (ev_notV (ev_isx rfl e1 T.x_NoNote rfl T.k_NoNote_ValueError)) (ev_cons (ev_notV (ev_isx rfl e1 T.x_NoNote rfl T.k_NoNote_NoNote)) ev_nil))) (by show 3 ≤ sizeLine; decide) fun p2 h2 => ⟨_, _, _, _, rfl, rfl, same_new h2 _ _ _ upd_same, upd_same, by show 4 + 3 ≤ sizeLine; decide, fun p3 h3 => ?_⟩)))
  dsimp only
  refine retO_of (tup_of (ev_cons (ev_i0 ev_c (ev_intB (b := false) (ev_cons (fun Q q => ⟨_, rfl, p3, _, rfl, .inl (.of upd_same), rfl, rfl, q⟩) ev_nil))) (ev_cons ev_c ev_nil)) (by show 2 ≤ sizeLine; decide) fun p4 h4 => ?_)
  exact q2 nok _ _ ((s2.trans t1).trans (((same_new h2 _).trans (same_new h3 _)).trans (same_new h4 _))) upd_same
def spNoSize (K : PySem.W.Frag) : Sp := fun vs H Q _ => ∃ (ph : Addr) (xs : List Int) (n : Int), vs = [.ref ph, .int n] ∧ SqL K H ph (xs.map V.int) ∧ ¬ okShown xs n ∧ ∀ H', Same H H' → Q (.bl true) H'
set_option pp.deepTerms true in
theorem ok_nosize (D : HasDef K mg "_law_no_size" s_law_no_size) (T : TxE2 K mg cC cN cB cO cR cU cT) (C : CnLr P w K mg base cR cO) : Callee P w K mg base "_law_no_size" 4 p_law_no_size (spNoSize K) := by
  refine D.ok sc_law_no_size (fun _ _ _ _ _ _ us hl => match us, hl with | [_, _], _ => rfl) (fun vs H Q E h => ?_) (fun f cdv A outer s H vs Q E hr h => ?_)
  · obtain ⟨ph, xs, n, rfl, _⟩ := h
    rfl
  obtain ⟨ph, xs, n, rfl, hH, nok, q⟩ := h
  refine ⟨_, (pss_cons (ps_try (i := 2) rfl rfl sc_law_no_size.nd rfl rfl T.g_CoinError rfl (fun _ _ _ ht => (pss_one (ps_expr (pe_callX C.shown ht hr (by omega) rfl (pa_cons (pe_callTy (call_listK (K := K) rfl) rfl T.n_list bt_list (pa_cons (pv 0) pa_nil)) (pa_cons (pv 1) pa_nil)))))) (fun _ => (pss_one (ps_ret (pe_and (pe_callB call_isx rfl T.n_isinstance bt_isinstance (pa_cons (pv 2) (pa_cons (pe_globR T.g_NoRow) pa_nil))) (pe_one (pe_not (pe_callB call_isx rfl T.n_isinstance bt_isinstance (pa_cons (pv 2) (pa_cons (pe_globR T.g_NoNote) pa_nil))))))))))
    (pss_one (ps_ret pe_bl))), ?_⟩
  rw [show start n_law_no_size [V.ref ph, V.int n] = [some (V.ref ph), some (V.int n), none] from rfl]
  refine seq_of ⟨_, rfl, ph, _, rfl, .inl hH, fun l hl => ⟨_, rfl, l, xs, n, rfl, .of upd_same, fun ok => absurd ok nok, fun _ H' s1 => ⟨cR, rfl, T.m_NoRow, fun a a0 a1 ha => ?_⟩⟩⟩
  have e0 : upd H' a (excO a cR a0 a1) a = some (excO a cR a0 a1) := upd_same
  have s2 := ((same_new hl _).trans s1).trans (same_new ha (excO a cR a0 a1))
  generalize upd H' a (excO a cR a0 a1) = H2 at e0 s2
  dsimp only
  exact ret_of (ev_andV (ev_isx rfl e0 T.x_NoRow rfl T.k_NoRow_NoRow) fun _ => ev_notV (ev_isx rfl e0 T.x_NoRow rfl T.k_NoRow_NoNote)) (q _ s2)
end
section
variable {α : Type} {Rep : Hp → α → V → Prop}
theorem Pd.length {β γ : Type} {F : β → γ → Prop} : ∀ {xs : List β} {vs : List γ}, Paired F xs vs → xs.length = vs.length
  | [], _, h => by cases h; rfl
  | x :: xs, _, h => by
    cases h with
    | cons h t => rw [List.length_cons, List.length_cons, Pd.length t]
theorem Pd.append {β γ : Type} {F : β → γ → Prop} : ∀ {xs : List β} {vs : List γ} {ys : List β} {us : List γ}, Paired F xs vs → Paired F ys us → Paired F (xs ++ ys) (vs ++ us)
  | [], _, _, _, h, h2 => by cases h; exact h2
  | x :: xs, _, _, _, h, h2 => by
    cases h with
    | cons h t => exact .cons h (Pd.append t h2)
theorem Pd.take {β γ : Type} {F : β → γ → Prop} : ∀ {xs : List β} {vs : List γ} (n : Nat), Paired F xs vs → Paired F (xs.take n) (vs.take n)
  | [], _, n, h => by cases h; rw [List.take_nil, List.take_nil]; exact .nil
  | x :: xs, _, 0, h => by rw [List.take_zero, List.take_zero]; exact .nil
  | x :: xs, _, n + 1, h => by
    cases h with
    | cons h t => exact .cons h (Pd.take n t)
theorem Pd.drop {β γ : Type} {F : β → γ → Prop} : ∀ {xs : List β} {vs : List γ} (n : Nat), Paired F xs vs → Paired F (xs.drop n) (vs.drop n)
  | [], _, n, h => by cases h; rw [List.drop_nil, List.drop_nil]; exact .nil
  | x :: xs, _, 0, h => by rw [List.drop_zero, List.drop_zero]; exact h
  | x :: xs, _, n + 1, h => by
    cases h with
    | cons h t => exact Pd.drop n t
theorem Pd.get {β γ : Type} {F : β → γ → Prop} : ∀ {xs : List β} {vs : List γ} {n : Nat} {x : β}, Paired F xs vs → xs[n]? = some x → ∃ v, vs[n]? = some v ∧ F x v
  | [], _, n, x, h, e => by cases e
  | x :: xs, _, 0, y, h, e => by
    cases h with
    | cons h t =>
      injection e with e
      subst e
      exact ⟨_, rfl, h⟩
  | x :: xs, _, n + 1, y, h, e => by
    cases h with
    | cons h t => exact Pd.get (n := n) t (by simpa using e)
def Sta (Rep : Hp → α → V → Prop) : Prop := ∀ (H H' : Hp) (a : α) (v : V), Same H H' → Rep H a v → Rep H' a v
def EvS (Rep : Hp → α → V → Prop) (t : TE) (σ : St) (H : Hp) (xs : List α) : Prop := ∀ Q : VK, (∀ p vs H', Same H H' → H' p = some (.lst vs) → Paired (Rep H') xs vs → Q (.ref p) H') → t σ H Q
def EvX (Rep : Hp → α → V → Prop) (t : TE) (σ : St) (H : Hp) (x : α) : Prop := ∀ Q : VK, (∀ v H', Same H H' → Rep H' x v → Q v H') → t σ H Q
structure Ls (Rep : Hp → α → V → Prop) (σ : St) (H : Hp) (i : Nat) (xs : List α) : Prop where
  ex : ∃ a vs, EvE (tVar i) σ H (.ref a) ∧ H a = some (.lst vs) ∧ Paired (Rep H) xs vs
variable {σ : St} {H : Hp} {xs ys : List α} {i j : Nat} {K : PySem.W.Frag}
theorem Ls.same (st : Sta Rep) (h : Ls Rep σ H i xs) {H' : Hp} (s : Same H H') : Ls Rep σ H' i xs := by
  obtain ⟨a, vs, e, l, p⟩ := h.ex
  refine ⟨a, vs, fun Q q => ?_, s _ _ l, Paired.mapP p fun _ _ => st _ _ _ _ s⟩
  have h0 : σ[i]? = some (some (.ref a)) := by
    have := e (fun v H2 => v = .ref a ∧ H2 = H) ⟨rfl, rfl⟩
    obtain ⟨v, hv, rfl, _⟩ := this
    exact hv
  exact ⟨_, h0, q⟩
theorem evs_var (h : Ls Rep σ H i xs) : EvS Rep (tVar i) σ H xs := fun Q q => by
  obtain ⟨a, vs, e, l, p⟩ := h.ex
  exact e _ (q a vs H (Same.refl H) l p)
theorem evs_cat {ta tb : TE} (st : Sta Rep) (ha : EvS Rep ta σ H xs) (hb : ∀ H', Same H H' → EvS Rep tb σ H' ys) (hl : xs.length + ys.length ≤ 1000) : EvS Rep (tOp rCat ta tb) σ H (xs ++ ys) := fun Q q => by
  have hk : 1000 ≤ sizeLine := by decide
  refine ha _ fun a vs H1 s1 e1 p1 => hb H1 s1 _ fun b us H2 s2 e2 p2 => ⟨a, b, vs, us, rfl, rfl, s2 _ _ e1, e2, by rw [← Pd.length p1, ← Pd.length p2]; omega, fun c hc => ?_⟩
  have s3 := same_new hc (.lst (vs ++ us))
  exact q c _ _ ((s1.trans s2).trans s3) upd_same (Pd.append (Paired.mapP p1 fun _ _ => st _ _ _ _ (s2.trans s3)) (Paired.mapP p2 fun _ _ => st _ _ _ _ s3))
theorem evs_one {te : TE} {x : α} (st : Sta Rep) (h : EvX Rep te σ H x) : EvS Rep (tLst (tCons te tNil)) σ H [x] := fun Q q =>
  h _ fun v H1 s1 r1 => ⟨by show 1 ≤ sizeLine; decide, fun p hp => q p [v] _ (s1.trans (same_new hp _)) upd_same (.cons (st _ _ _ _ (same_new hp _) r1) .nil)⟩
end
def RepI : Hp → Int → V → Prop := fun _ a v => v = .int a
theorem RepI.st : Sta RepI := fun _ _ _ _ _ h => h
theorem repI_list {H : Hp} : ∀ {xs : List Int} {vs : List V}, Paired (RepI H) xs vs → vs = xs.map V.int
  | [], _, h => by cases h; rfl
  | x :: xs, _, h => by
    cases h with
    | cons h t => rw [h, repI_list t]; rfl
theorem repI_of {H : Hp} : ∀ (xs : List Int), Paired (RepI H) xs (xs.map V.int)
  | [] => .nil
  | x :: xs => .cons rfl (repI_of xs)
theorem evx_int {t : TE} {σ : St} {H : Hp} {a : Int} (h : EvE t σ H (.int a)) : EvX RepI t σ H a := fun Q q => h _ (q _ H (Same.refl H) rfl)
abbrev s_law : Stmt := top 26
abbrev n_law : List Str := ["script", "size", "heads", "due", "handed", "found", "bad", "text", "good", "at", "told"]
abbrev p_law : List Str := ["script"]
theorem sc_law : FnScope n_law p_law (defScope s_law) := ⟨rfl, rfl, rfl, by decide +kernel, rfl, by decide +kernel, by decide +kernel⟩
structure Facts (K : PySem.W.Frag) (mg : Str → Option Value) : Prop where
  d_check_row : HasDef K mg "check_row" s_check_row
  d_rises : HasDef K mg "rises" s_rises
  d_shown : HasDef K mg "shown" s_shown
  d_read : HasDef K mg "read" s_read
  d_law_cell_at : HasDef K mg "_law_cell_at" s_law_cell_at
  d_law_heads : HasDef K mg "_law_heads" s_law_heads
  d_law_text : HasDef K mg "_law_text" s_law_text
  d_law_is_row : HasDef K mg "_law_is_row" s_law_is_row
  d_law_odd_sign : HasDef K mg "_law_odd_sign" s_law_odd_sign
  d_law_read : HasDef K mg "_law_read" s_law_read
  d_law_no_size : HasDef K mg "_law_no_size" s_law_no_size
  n_range : mg "range" = none
  n_len : mg "len" = none
  n_enumerate : mg "enumerate" = none
  n_int : mg "int" = none
  n_isinstance : mg "isinstance" = none
  n_list : mg "list" = none
  n_bool : mg "bool" = none
  n_str : mg "str" = none
  GREATEST_PLACE : GInt mg "GREATEST_PLACE" 39
  MOST_SIGNS : GInt mg "MOST_SIGNS" 40
  HEAD : GStr mg "HEAD" "o"
  TAIL : GStr mg "TAIL" "."
structure Cl (P : Program) (w : World) (K : PySem.W.Frag) (mg : Str → Option Value) (base : Heap) (cR cO : Addr) : Prop where
  law_cell_at : Callee P w K mg base "_law_cell_at" 1 p_law_cell_at (spCell K)
  law_heads : Callee P w K mg base "_law_heads" 1 p_law_heads spHeads
  law_text : Callee P w K mg base "_law_text" 1 p_law_text (spText K)
  law_is_row : Callee P w K mg base "_law_is_row" 1 p_law_is_row spIsRow
  law_odd_sign : Callee P w K mg base "_law_odd_sign" 1 p_law_odd_sign spOdd
  law_read : Callee P w K mg base "_law_read" 4 p_law_read spLRead
  law_no_size : Callee P w K mg base "_law_no_size" 4 p_law_no_size (spNoSize K)
  shown : Callee P w K mg base "shown" 3 p_shown (fun vs H Q _ => spShown K cR vs H Q E0)
  read : Callee P w K mg base "read" 1 p_read (fun vs H Q _ => spRead K cO vs H Q E0)
theorem lstO_of {ts : TA} {σ : St} {H : Hp} {Q : VK} (h : ts σ H fun xs H1 => xs.length ≤ sizeLine ∧ ∀ p, H1 p = none → Q (.ref p) (upd H1 p (.lst xs))) : tLst ts σ H Q := h
theorem ev_isStr {K : PySem.W.Frag} {σ : St} {H : Hp} {z : Str} {r : TA} (hr : EvA r σ H [.str z, .ty "str"]) : EvE (tCB (fun xs H Q => ∃ x T t b, xs = [x, .ty T] ∧ TyOf K H x t ∧ PySem.W.kitOne K t (.type T) = some b ∧ Q (.bl b) H) r) σ H (.bl true) :=
  fun Q q => hr _ ⟨_, _, _, true, rfl, .str z, rfl, q⟩
theorem rises_end {g b : Int} : ∀ {xs : List Int} {a : Int}, b > g → Rises g a (xs ++ [b]) = false
  | [], a, h => by
    show Rises g a [b] = false
    unfold Rises
    rw [if_pos (.inr h)]
  | x :: xs, a, h => by
    show Rises g a (x :: (xs ++ [b])) = false
    unfold Rises
    split
    · rfl
    · exact rises_end h
theorem rises_twice {g x : Int} : ∀ {xs : List Int} {a : Int}, Rises g a (xs ++ [x] ++ [x]) = false
  | [], a => by
    show Rises g a [x, x] = false
    unfold Rises
    split
    · rfl
    · unfold Rises
      rw [if_pos (.inl (Int.le_refl x))]
  | y :: xs, a => by
    show Rises g a (y :: (xs ++ [x] ++ [x])) = false
    unfold Rises
    split
    · rfl
    · exact rises_twice
theorem rises_39 : ∀ {xs : List Int}, xs ≠ [] → Rises 39 39 xs = false
  | [], h => absurd rfl h
  | x :: xs, _ => by
    unfold Rises
    rw [if_pos (by omega)]
theorem bad1 {xs : List Int} {n : Int} : ¬ okShown ([-1] ++ xs) n := fun h => by
  have := h.1
  have e : Rises 39 (-1) ([-1] ++ xs) = false := by
    show Rises 39 (-1) (-1 :: xs) = false
    unfold Rises
    rw [if_pos (.inl (Int.le_refl _))]
  rw [e] at this
  cases this
theorem bad2 {xs : List Int} {n : Int} : ¬ okShown (xs ++ [40]) n := fun h => by
  have := h.1
  rw [rises_end (by decide)] at this
  cases this
theorem bad3 {xs : List Int} {n : Int} : ¬ okShown ([39] ++ xs ++ [5]) n := fun h => by
  have := h.1
  have e : Rises 39 (-1) ([39] ++ xs ++ [5]) = false := by
    show Rises 39 (-1) (39 :: (xs ++ [5])) = false
    unfold Rises
    rw [if_neg (by omega), rises_39 (by simp)]
  rw [e] at this
  cases this
theorem bad4 {xs : List Int} {a : Int} (h : xs.getLast? = some a) : ¬ okShown xs a := fun z => by
  have := z.2.2.2 a h
  omega
theorem bad5 {xs : List Int} {a n : Int} : ¬ okShown (xs ++ [a] ++ [a]) n := fun h => by
  have := h.1
  rw [rises_twice] at this
  cases this
theorem heads_filter (c : Int) (n : Nat) : headsOf c 0 n = (List.range n).filter fun k => decide (c / 2 ^ k % 2 = 1) := by
  unfold headsOf
  simp
theorem txt_heads {c : Int} {n : Nat} : headsZ (txt (fun k => decide (k ∈ headsOf c 0 n)) n) n = headsOf c 0 n := by
  unfold headsZ
  conv => rhs; rw [heads_filter]
  refine List.filter_congr fun k hk => ?_
  have hk' := List.mem_range.mp hk
  unfold isO
  rw [txt_sgn hk', heads_filter]
  have e : (k ∈ (List.range n).filter fun k => decide (c / 2 ^ k % 2 = 1)) ↔ c / 2 ^ k % 2 = 1 := by
    rw [List.mem_filter]
    simp [hk']
  by_cases h : c / 2 ^ k % 2 = 1
  · rw [decide_eq_true (e.mpr h), decide_eq_true h]
    decide
  · rw [decide_eq_false (fun z => h (e.mp z)), decide_eq_false h]
    decide
theorem txt_ok {f : Nat → Bool} {n : Nat} (h : n ≤ 40) : okZ (txt f n) := by
  refine ⟨by rw [txt_len]; exact h, fun i hi => ?_⟩
  rw [txt_len] at hi
  unfold isO isP
  rw [txt_sgn hi]
  cases f i
  · exact .inr (by decide)
  · exact .inl (by decide)
theorem str_len_app (x y : Str) : (x ++ y).length = x.length + y.length := by
  show (x.cps ++ y.cps).size = x.cps.size + y.cps.size
  simp
theorem odd_not {A B : Str} {d : Nat} (h1 : d ≠ 111) (h2 : d ≠ 46) : ¬ okZ (A ++ ⟨#[d]⟩ ++ B) := fun h => by
  have l : (A ++ ⟨#[d]⟩ ++ B).length = A.length + 1 + B.length := by
    rw [str_len_app, str_len_app]
    rfl
  have e : (A ++ ⟨#[d]⟩ ++ B : Str).cps.getD A.length 0 = d := by
    show (A.cps ++ #[d] ++ B.cps).getD A.cps.size 0 = d
    rw [Array.getD_eq_getD_getElem?, Array.getElem?_append_left (by simp), Array.getElem?_append_right (Nat.le_refl _)]
    simp
  have k : sgn (A ++ ⟨#[d]⟩ ++ B) A.length = ⟨#[d]⟩ := by
    unfold sgn
    rw [e]
  rcases h.2 A.length (by omega) with z | z
  · unfold isO at z
    rw [k] at z
    have z := congrArg (fun x : Str => x.cps.toList) (of_decide_eq_true z)
    exact h1 (by simpa using (show [d] = [111] from z))
  · unfold isP at z
    rw [k] at z
    have z := congrArg (fun x : Str => x.cps.toList) (of_decide_eq_true z)
    exact h2 (by simpa using (show [d] = [46] from z))
theorem cut_back (r : List V) (x : V) : cutV (r ++ [x]) (some (-1)) none = [x] := by
  unfold cutV
  rw [HT.sIx_none]
  have e : HT.sIx (r ++ [x]).length 0 (some (-1)) = r.length := by
    show (if (-1 : Int) < 0 then ((-1 : Int) + ((r ++ [x]).length : Int)).toNat else min (-1 : Int).toNat (r ++ [x]).length) = r.length
    rw [if_pos (by decide), List.length_append]
    show ((-1 : Int) + ((r.length + 1 : Nat) : Int)).toNat = r.length
    omega
  rw [e, List.drop_left, List.length_append]
  show [x].take (r.length + 1 - r.length) = [x]
  rw [Nat.add_sub_cancel_left]
  rfl
theorem ev_gt0 {K : PySem.W.Frag} {σ : St} {H : Hp} {p : Addr} {xs : List V} {n : Nat} (hv : σ[n]? = some (some (.ref p))) (h : SqL K H p xs) : EvT (tTest (tOp (rI0 fun i j => V.bl (decide (j < i))) (tCB (fun xs H Q => ∃ p ys, xs = [V.ref p] ∧ (SqL K H p ys ∨ SqT K H p ys) ∧ Q (V.int ys.length) H) (tCons (tVar n) tNil)) (tC (V.int 0)))) σ H (decide (xs ≠ [])) := by
  have := ev_test (ev_i0 (g := fun i j => V.bl (decide (j < i))) (ev_lenL (ev_cons (ev_var hv) ev_nil) h) (ev_c (v := V.int 0)))
  rwa [show decide ((0 : Int) < (xs.length : Int)) = decide (xs ≠ []) from by
    rw [Bool.eq_iff_iff]
    simp only [decide_eq_true_eq]
    cases xs with
    | nil => simp
    | cons x r => simp] at this
theorem evs_back {K : PySem.W.Frag} {σ : St} {H : Hp} {i : Nat} {tj : TE} {xs : List Int} {x : Int} (h : Ls RepI σ H i (xs ++ [x])) (hj : EvE tj σ H (.int (-1))) : EvS RepI (tSl (rSlL K) (tVar i) (tPart tj) tNoPart) σ H [x] := fun Q q => by
  obtain ⟨a, vs, e, l, p⟩ := h.ex
  have ev := repI_list p
  rw [List.map_append] at ev
  subst ev
  refine e _ (hj _ ⟨_, rfl, a, _, rfl, .of l, fun b hb => ?_⟩)
  rw [show (xs.map V.int ++ [x].map V.int) = xs.map V.int ++ [V.int x] from rfl, cut_back]
  exact q b _ _ (same_new hb _) upd_same (.cons rfl .nil)
theorem evg_nosize {K : PySem.W.Frag} {σ : St} {H : Hp} {ts : TA} {p : Addr} {xs : List Int} {n : Int} {E : XK} (ha : EvA ts σ H [.ref p, .int n]) (h : SqL K H p (xs.map V.int)) (nok : ¬ okShown xs n) : EvG (tCall (spNoSize K) [] E ts) σ H (.bl true) :=
  evg_call (evg_a ha) fun H1 s1 Q q => ⟨p, xs, n, rfl, s1.seq h, nok, q⟩
section
variable {P : Program} {w : World} {K : PySem.W.Frag} {mg : Str → Option Value} {base : Heap} {cR cO : Addr}
set_option pp.deepTerms true in
theorem ok_law {f : Addr} {fd : FuncData} (F : Fun K "law" "law" s_law f fd) (T : Facts K mg) (C : Cl P w K mg base cR cO) : FnOk P w K mg base CX0 22 f fd ["script"] (spLaw K) := by
  refine F.ok sc_law (fun vs H Q E h => ?_) (fun cdv A outer s H vs Q E hr h => ?_)
  · obtain ⟨a, ns, rfl, _⟩ := h
    rfl
  obtain ⟨a, ns, rfl, hS, h63, q⟩ := h
  refine ⟨_, (pss_cons (ps_set (i := 1) sc_law.nd rfl (Or.inl rfl) (pe_op op_mod (pe_callC C.law_cell_at hr (by omega) rfl (pa_cons (pv 0) (pa_cons pe_int pa_nil))) pe_int))
    (pss_cons (ps_set (i := 2) sc_law.nd rfl (Or.inl rfl) (pe_callC C.law_heads hr (by omega) rfl (pa_cons (pe_callC C.law_cell_at hr (by omega) rfl (pa_cons (pv 0) (pa_cons pe_int pa_nil))) (pa_cons (pv 1) pa_nil))))
    (pss_cons (ps_set (i := 3) sc_law.nd rfl (Or.inl rfl) (pe_callC C.law_text hr (by omega) rfl (pa_cons (pv 2) (pa_cons (pv 1) pa_nil))))
    (pss_cons (ps_set (i := 4) sc_law.nd rfl (Or.inl rfl) (pe_callTy call_list_of rfl T.n_list bt_list (pa_cons (pv 2) pa_nil)))
    (pss_cons (ps_set (i := 5) sc_law.nd rfl (Or.inl rfl) (pe_callC C.shown hr (by omega) rfl (pa_cons (pv 4) (pa_cons (pv 1) pa_nil))))
    (pss_cons (ps_if (PW.pt (pw_or (pt_not (pt_val (pe_callB call_isi rfl T.n_isinstance bt_isinstance (pa_cons (pv 5) (pa_cons (pe_ty T.n_str bt_str) pa_nil))))) (pw_or (pt_cmpR op_ne (pv 5) (pv 3) (nomark _)) (pw_or1 (pt_cmpR (op_neD (n := 0) hr (by decide)) (pv 4) (pv 2) (nomark _)))))) (pss_one (ps_ret pe_bl)) pss_nil)
    (pss_cons (ps_if (pt_not (pt_val (pe_callC C.law_is_row hr (by omega) rfl (pa_cons (pe_callC C.read hr (by omega) rfl (pa_cons (pv 3) pa_nil)) (pa_cons (pv 2) pa_nil))))) (pss_one (ps_ret pe_bl)) pss_nil)
    (pss_cons (ps_if (PW.pt (pw_or (pt_not (pt_val (pe_callC C.law_no_size hr (by omega) rfl (pa_cons (pv 2) (pa_cons (pe_un un_neg pe_int) pa_nil))))) (pw_or1 (pt_not (pt_val (pe_callC C.law_no_size hr (by omega) rfl (pa_cons (pv 2) (pa_cons pe_int pa_nil)))))))) (pss_one (ps_ret pe_bl)) pss_nil)
    (pss_cons (ps_for PassesOwn.never rfl (pi_list (pe_lst (pa_cons (pe_op op_cat (pe_lst (pa_cons (pe_un un_neg pe_int) pa_nil)) (pv 2)) (pa_cons (pe_op op_cat (pv 2) (pe_lst (pa_cons pe_int pa_nil))) (pa_cons (pe_op op_cat (pe_op op_cat (pe_lst (pa_cons pe_int pa_nil)) (pv 2)) (pe_lst (pa_cons pe_int pa_nil))) pa_nil))))) (pg_name (i := 6) sc_law.nd rfl (Or.inl rfl)) (pss_one (ps_if (pt_not (pt_val (pe_callC C.law_no_size hr (by omega) rfl (pa_cons (pv 6) (pa_cons pe_int pa_nil))))) (pss_one (ps_ret pe_bl)) pss_nil)))
    (pss_cons (ps_if (PW.pt (pw_and (pt_cmpR op_gt (pe_callB call_len_seq rfl T.n_len bt_len (pa_cons (pv 2) pa_nil)) pe_int (nomark _)) (pw_and1 (pt_not (pt_val (pe_callC C.law_no_size hr (by omega) rfl (pa_cons (pv 2) (pa_cons (pe_ix ix_list (pv 2) (pe_un un_neg pe_int) (fun _ _ => rfl)) pa_nil)))))))) (pss_one (ps_ret pe_bl)) pss_nil)
    (pss_cons (ps_if (PW.pt (pw_and (pt_cmpR op_gt (pe_callB call_len_seq rfl T.n_len bt_len (pa_cons (pv 2) pa_nil)) pe_int (nomark _)) (pw_and1 (pt_not (pt_val (pe_callC C.law_no_size hr (by omega) rfl (pa_cons (pe_op op_cat (pv 2) (pe_slice sl_list (pv 2) (po_some (pe_un un_neg pe_int)) po_none)) (pa_cons pe_int pa_nil)))))))) (pss_one (ps_ret pe_bl)) pss_nil)
    (pss_cons (ps_set (i := 1) sc_law.nd rfl (Or.inl rfl) (pe_op op_mod (pe_callC C.law_cell_at hr (by omega) rfl (pa_cons (pv 0) (pa_cons pe_int pa_nil))) pe_int))
    (pss_cons (ps_set (i := 2) sc_law.nd rfl (Or.inl rfl) (pe_callC C.law_heads hr (by omega) rfl (pa_cons (pe_callC C.law_cell_at hr (by omega) rfl (pa_cons (pv 0) (pa_cons pe_int pa_nil))) (pa_cons (pv 1) pa_nil))))
    (pss_cons (ps_set (i := 7) sc_law.nd rfl (Or.inl rfl) (pe_callC C.law_text hr (by omega) rfl (pa_cons (pv 2) (pa_cons (pv 1) pa_nil))))
    (pss_cons (ps_set (i := 8) sc_law.nd rfl (Or.inl rfl) (pe_cmpR op_le (pv 1) pe_int (nomark _)))
    (pss_cons (ps_if (PW.pt (pw_and (pt_cmpR op_gt (pv 1) pe_int (nomark _)) (pw_and1 (pt_cmpR op_eq (pe_op op_mod (pe_callC C.law_cell_at hr (by omega) rfl (pa_cons (pv 0) (pa_cons pe_int pa_nil))) pe_int) pe_int (nomark _))))) (pss_cons (ps_set (i := 9) sc_law.nd rfl (Or.inl rfl) (pe_op op_mod (pe_callC C.law_cell_at hr (by omega) rfl (pa_cons (pv 0) (pa_cons pe_int pa_nil))) (pv 1)))
    (pss_cons (ps_set (i := 7) sc_law.nd rfl (Or.inl rfl) (pe_op op_add_str (pe_op op_add_str (pe_slice sl_str (pv 7) po_none (po_some (pv 9))) (pe_callC C.law_odd_sign hr (by omega) rfl (pa_cons (pe_callC C.law_cell_at hr (by omega) rfl (pa_cons (pv 0) (pa_cons pe_int pa_nil))) pa_nil))) (pe_slice sl_str (pv 7) (po_some (pe_op op_add (pv 9) pe_int)) po_none)))
    (pss_one (ps_set (i := 8) sc_law.nd rfl (Or.inl rfl) pe_bl)))) pss_nil)
    (pss_cons (ps_set (i := 10) sc_law.nd rfl (Or.inl rfl) (pe_callC C.law_read hr (by omega) rfl (pa_cons (pv 7) pa_nil)))
    (pss_cons (ps_if (pt_val (pv 8)) (pss_one (ps_ret (pe_and (pe_cmpR op_eq (pe_ix ix_tup (pv 10) pe_int (fun _ _ => rfl)) pe_int (nomark _)) (pe_one (pe_callC C.law_is_row hr (by omega) rfl (pa_cons (pe_ix ix_tup (pv 10) pe_int (fun _ _ => rfl)) (pa_cons (pv 2) pa_nil))))))) pss_nil)
    (pss_one (ps_ret (pe_cmpR op_eq (pe_ix ix_tup (pv 10) pe_int (fun _ _ => rfl)) pe_int (nomark _)))))))))))))))))))))), ?_⟩
  rw [show start n_law [V.ref a] = [some (V.ref a), none, none, none, none, none, none, none, none, none, none] from rfl]
  have sl : ∀ n : Nat, n ≤ 1000 → n ≤ sizeLine := fun n h => Nat.le_trans h (by decide)
  have nat_of : ∀ (c : Int) (k : Nat), 0 < k → ∃ i : Nat, i < k ∧ c % (k : Int) = (i : Int) := fun c k hk => ⟨(c % (k : Int)).toNat, by
    have h0 := Int.emod_nonneg c (by omega : (k : Int) ≠ 0)
    have h1 := Int.emod_lt_of_pos c (by omega : (0 : Int) < (k : Int))
    omega, by
    have h0 := Int.emod_nonneg c (by omega : (k : Int) ≠ 0)
    omega⟩
  obtain ⟨n, n41, hn⟩ := nat_of (cell ns 0) 41 (by decide)
  obtain ⟨n2, n43, hn2⟩ := nat_of (cell ns 2) 43 (by decide)
  refine seq_of (asg_of (ev_i (ev_cell 0 rfl hS) ev_c (by decide)) ?_)
  dsimp only
  rw [show cell ns 0 % 41 = (n : Int) from hn]
  refine seq_of (asgO_of (call_of (ev_cons (ev_cell 1 rfl hS) (ev_cons (ev_var rfl) ev_nil)) ⟨cell ns 1, n, rfl, by omega, fun H1 ph s1 hh _ => ?_⟩))
  dsimp only
  have hrow := headsOf_row (c := cell ns 1) (m := n) (by omega)
  have hlt := fun a ha => (headsOf_lt (c := cell ns 1) (first := 0) (many := n) a ha)
  have hlen := headsOf_len (cell ns 1) 0 n
  have hz := txt_heads (c := cell ns 1) (n := n)
  generalize headsOf (cell ns 1) 0 n = hs at hh hrow hlt hlen hz
  have hhi : H1 ph = some (.lst ((ni hs).map V.int)) := by rw [hh, nl_ni]
  refine seq_of (asgO_of (call_of (ev_cons (ev_var rfl) (ev_cons (ev_var rfl) ev_nil)) ⟨ph, hs, n, rfl, .of hh, by omega, ?_⟩))
  dsimp only
  refine seq_of (asgO_of (cb_of (ev_cons (ev_var rfl) ev_nil) ⟨ph, _, rfl, .inl (.of hhi), fun pc hpc => ?_⟩))
  dsimp only
  have t1 := same_new hpc (.lst ((ni hs).map V.int))
  have hc : upd H1 pc (.lst ((ni hs).map V.int)) pc = some (.lst ((ni hs).map V.int)) := upd_same
  have okS : okShown (ni hs) (n : Int) := by
    refine ⟨rises_row hrow.sorted (fun p hp => ?_), by omega, by omega, fun b hb => ?_⟩
    · have := hlt p hp
      omega
    · obtain ⟨k, hk, rfl⟩ := List.mem_map.mp (List.mem_of_getLast? hb)
      have := hlt k hk
      omega
  refine seq_of (asgO_of (call_of (ev_cons (ev_var rfl) (ev_cons (ev_var rfl) ev_nil)) ⟨pc, ni hs, (n : Int), rfl, .of hc, fun _ H2 s2 => ?_, fun no => absurd okS no⟩))
  dsimp only
  have et : txt (fun k => decide ((k : Int) ∈ ni hs)) ((n : Int)).toNat = txt (fun k => decide (k ∈ hs)) n := by
    rw [Int.toNat_natCast]
    congr 1
    funext k
    simp only [mem_ni]
  rw [et]
  have s02 := s1.trans (t1.trans s2)
  have hh2 := s2 _ _ (t1 _ _ hh)
  have hhi2 := s2 _ _ (t1 _ _ hhi)
  have hc2 := s2 _ _ hc
  refine seq_of (ifS_of (ev_or (ev_not (ev_tB (ev_isStr (ev_cons (ev_var rfl) (ev_cons ev_c ev_nil))))) fun _ => ev_or (ev_test (ev_ne (ev_var rfl) (ev_var rfl) rfl)) fun _ => ev_test (ev_neZ (ev_var rfl) (ev_var rfl) (.of hc2) (.of hhi2))) (fun c => absurd c (by simp)) fun _ => next_of ?_)
  dsimp only
  refine seq_of (ifG_of (b := false) (evg_not (b := true) (evg_tB fun Q q => ?_)) (fun c => by cases c) fun _ H3 s3 => next_of ?_)
  · refine callO_of (argO_of (call_of (ev_cons (ev_var rfl) ev_nil) ⟨_, rfl, by rw [txt_len]; omega, fun _ H3 r s3 _ hr' => arg1_of (ev_var rfl _ ⟨r, ph, _, hs, rfl, hr', s3 _ _ hh2, by omega, ?_⟩), fun no => absurd (txt_ok (by omega)) no⟩))
    rw [txt_len, hz, decide_eq_true rfl]
    exact q _ s3
  dsimp only
  have s03 := s02.trans s3
  have hh3 := s3 _ _ hh2
  have hhi3 := s3 _ _ hhi2
  clear hc2 hc hhi2 hh2 s3 s02 s2 t1 hhi hh s1 hpc et
  have g1 : ¬ okShown (ni hs) (-1) := fun z => by have := z.2.1; omega
  have g2 : ¬ okShown (ni hs) 41 := fun z => by have := z.2.2.1; omega
  refine seq_of (ifG_of (b := false) (evg_or (a := false) (b := false) (evg_not (b := true) (evg_tB (evg_nosize (ev_cons (ev_var rfl) (ev_cons (ev_u ev_c) ev_nil)) (.of hhi3) g1))) fun _ H4 s4 => evg_not (b := true) (evg_tB (evg_nosize (ev_cons (ev_var rfl) (ev_cons ev_c ev_nil)) (.of (s4 _ _ hhi3)) g2))) (fun c => by cases c) fun _ H4 s4 => next_of ?_)
  dsimp only
  have s04 := s03.trans s4
  have hhi4 := s4 _ _ hhi3
  have hh4 := s4 _ _ hh3
  have li : (ni hs).length ≤ 40 := by unfold ni; rw [List.length_map]; omega
  have hLs : ∀ H', Same H4 H' → Ls RepI [some (V.ref a), some (V.int (n : Int)), some (V.ref ph), some (V.str (txt (fun k => decide (k ∈ hs)) n)), some (V.ref pc), some (V.str (txt (fun k => decide (k ∈ hs)) n)), none, none, none, none, none] H' 2 (ni hs) := fun H' s => ⟨ph, _, ev_var rfl, s _ _ hhi4, repI_of _⟩
  have one : ∀ k : Int, ([k] : List Int).length + (ni hs).length ≤ 1000 := fun k => by show 1 + _ ≤ 1000; omega
  refine seq_of (forO_of (iList_of (lstO_of (argO_of ?_))))
  refine evs_cat (xs := [-1]) (ys := ni hs) RepI.st (evs_one RepI.st (evx_int (a := -1) (ev_u (g := fun i => V.int (-i)) (i := 1) ev_c))) (fun H' s => evs_var (hLs H' s)) (one (-1)) _ fun p1 v1 K1 c1 h1 r1 => ?_
  refine argO_of ?_
  refine evs_cat (xs := ni hs) (ys := [40]) RepI.st (evs_var (hLs K1 c1)) (fun H' s => evs_one RepI.st (evx_int ev_c)) (by show _ + 1 ≤ 1000; omega) _ fun p2 v2 K2 c2 h2 r2 => ?_
  refine arg1_of ?_
  refine evs_cat (xs := [39] ++ ni hs) (ys := [5]) RepI.st (evs_cat RepI.st (evs_one RepI.st (evx_int ev_c)) (fun H' s => evs_var (hLs H' ((c1.trans c2).trans s))) (one 39)) (fun H' s => evs_one RepI.st (evx_int ev_c)) (by rw [List.length_append]; show 1 + _ + 1 ≤ 1000; omega) _ fun p3 v3 K3 c3 h3 r3 => ?_
  refine ⟨by show 3 ≤ sizeLine; decide, fun p4 hp4 => ⟨p4, rfl, ⟨_, .of upd_same⟩, ?_⟩⟩
  rw [repI_list r1] at h1
  rw [repI_list r2] at h2
  rw [repI_list r3] at h3
  have c4 := same_new hp4 (.lst [V.ref p1, V.ref p2, V.ref p3])
  have hp : upd K3 p4 (.lst [V.ref p1, V.ref p2, V.ref p3]) p4 = some (.lst [V.ref p1, V.ref p2, V.ref p3]) := upd_same
  have bad : ∀ x ∈ [V.ref p1, V.ref p2, V.ref p3], ∃ (p : Addr) (ys : List Int), x = .ref p ∧ upd K3 p4 (.lst [V.ref p1, V.ref p2, V.ref p3]) p = some (.lst (ys.map V.int)) ∧ ¬ okShown ys 40 := fun x hx => by
    rcases List.mem_cons.mp hx with rfl | hx
    · exact ⟨p1, _, rfl, c4 _ _ (c3 _ _ (c2 _ _ h1)), bad1⟩
    rcases List.mem_cons.mp hx with rfl | hx
    · exact ⟨p2, _, rfl, c4 _ _ (c3 _ _ h2), bad2⟩
    rcases List.mem_cons.mp hx with rfl | hx
    · exact ⟨p3, _, rfl, c4 _ _ h3, bad3⟩
    · cases hx
  have s05 := s04.trans (((c1.trans c2).trans c3).trans c4)
  have hh5 := c4 _ _ (c3 _ _ (c2 _ _ (c1 _ _ hh4)))
  generalize upd K3 p4 (.lst [V.ref p1, V.ref p2, V.ref p3]) = H5 at hp bad s05 hh5
  clear c4 h3 r3 c3 h2 r2 c2 h1 r1 c1 hp4
  refine for_list (xs := [V.ref p1, V.ref p2, V.ref p3]) (fun i σ H' => Same H5 H' ∧ ∃ u, σ = [some (V.ref a), some (V.int (n : Int)), some (V.ref ph), some (V.str (txt (fun k => decide (k ∈ hs)) n)), some (V.ref pc), some (V.str (txt (fun k => decide (k ∈ hs)) n)), u, none, none, none, none]) ⟨Same.refl _, none, rfl⟩ ?_ ?_ ?_
  · rintro i σ H' _ ⟨sm, _⟩
    exact .of (sm _ _ hp)
  · rintro i x σ H' hx ⟨sm, u, rfl⟩
    obtain ⟨p, ys, rfl, hy, nok⟩ := bad x (List.mem_of_getElem? hx)
    dsimp only [gName]
    exact ifG_of (b := false) (evg_not (b := true) (evg_tB (evg_nosize (ev_cons (ev_var rfl) (ev_cons ev_c ev_nil)) (.of (sm _ _ hy)) nok))) (fun c => by cases c) fun _ H6 s6 => next_of ⟨sm.trans s6, _, rfl⟩
  rintro σ H6 ⟨sm, u, rfl⟩
  have s06 := s05.trans sm
  have hh6 := sm _ _ hh5
  clear sm bad hp hh5 s05 hLs hh4 hhi4 s04 s4 hhi3 hh3 s03
  have hhi6 : H6 ph = some (.lst ((ni hs).map V.int)) := by rw [hh6, nl_ni]
  dsimp only
  refine cut (fun σ' H' => Same H6 H' ∧ σ' = [some (V.ref a), some (V.int (n : Int)), some (V.ref ph), some (V.str (txt (fun k => decide (k ∈ hs)) n)), some (V.ref pc), some (V.str (txt (fun k => decide (k ∈ hs)) n)), u, none, none, none, none]) (fun X hX => ?_) ?_
  · cases hla : (ni hs).getLast? with
    | none =>
      have e : ni hs = [] := List.getLast?_eq_none_iff.mp hla
      exact ifG_of (evg_and (b := false) (evg_t (ev_gt0 rfl (.of hhi6))) (fun z => absurd (of_decide_eq_true z) (by rw [e]; simp))) (fun c => by rw [Bool.and_false] at c; cases c) fun _ H7 s7 => next_of (hX _ _ ⟨s7, rfl⟩)
    | some b =>
      exact ifG_of (evg_and (b := false) (evg_t (ev_gt0 rfl (.of hhi6))) (fun _ H7 s7 => evg_not (b := true) (evg_tB (evg_nosize (ev_cons (ev_var rfl) (ev_cons (ev_ixL (ev_var rfl) (ev_u ev_c) (.of (s7 _ _ hhi6)) (last_at hla)) ev_nil)) (.of (s7 _ _ hhi6)) (bad4 hla))))) (fun c => by rw [Bool.and_false] at c; cases c) fun _ H7 s7 => next_of (hX _ _ ⟨s7, rfl⟩)
  rintro σ' H7 ⟨s7, rfl⟩
  refine cut (fun σ' H' => Same H6 H' ∧ σ' = [some (V.ref a), some (V.int (n : Int)), some (V.ref ph), some (V.str (txt (fun k => decide (k ∈ hs)) n)), some (V.ref pc), some (V.str (txt (fun k => decide (k ∈ hs)) n)), u, none, none, none, none]) (fun X hX => ?_) ?_
  · have hhi7 := s7 _ _ hhi6
    cases hla : (ni hs).getLast? with
    | none =>
      have e : ni hs = [] := List.getLast?_eq_none_iff.mp hla
      exact ifG_of (evg_and (b := false) (evg_t (ev_gt0 rfl (.of hhi7))) (fun z => absurd (of_decide_eq_true z) (by rw [e]; simp))) (fun c => by rw [Bool.and_false] at c; cases c) fun _ H8 s8 => next_of (hX _ _ ⟨s7.trans s8, rfl⟩)
    | some b =>
      have hne : ni hs ≠ [] := fun z => by rw [z] at hla; cases hla
      obtain ⟨r, er⟩ : ∃ r, ni hs = r ++ [b] := ⟨(ni hs).dropLast, by
        rw [List.getLast?_eq_getLast hne] at hla
        injection hla with hla
        rw [← hla, List.dropLast_concat_getLast]⟩
      rw [er] at hhi7
      have hLs : ∀ H', Same H7 H' → Ls RepI [some (V.ref a), some (V.int (n : Int)), some (V.ref ph), some (V.str (txt (fun k => decide (k ∈ hs)) n)), some (V.ref pc), some (V.str (txt (fun k => decide (k ∈ hs)) n)), u, none, none, none, none] H' 2 (r ++ [b]) := fun H' s => ⟨ph, _, ev_var rfl, s _ _ hhi7, repI_of _⟩
      refine ifG_of (evg_and (b := false) (evg_t (ev_gt0 rfl (.of hhi7))) (fun _ H8 s8 => evg_not (b := true) (evg_tB fun Q q => callO_of (argO_of ?_)))) (fun c => by rw [Bool.and_false] at c; cases c) fun _ H8 s8 => next_of (hX _ _ ⟨s7.trans s8, rfl⟩)
      refine evs_cat (xs := r ++ [b]) (ys := [b]) RepI.st (evs_var (hLs H8 s8)) (fun H' s => evs_back (hLs H' (s8.trans s)) (ev_u (g := fun i => V.int (-i)) (i := 1) ev_c)) (by rw [← er]; show _ + 1 ≤ 1000; omega) _ fun p1 v1 K1 c1 h1 r1 => ?_
      rw [repI_list r1] at h1
      exact arg1_of (ev_c _ ⟨p1, _, 40, rfl, .of h1, bad5, fun H' s' => q _ (c1.trans s')⟩)
  rintro σ' H8 ⟨s8, rfl⟩
  have s08 := s06.trans s8
  clear s7 hhi6 hh6 s06 s8 hz hlen hlt hrow okS g1 g2 li one
  refine seq_of (asg_of (ev_i (ev_cell 2 rfl (s08.seq hS)) ev_c (by decide)) ?_)
  dsimp only
  rw [show cell ns 2 % 43 = (n2 : Int) from hn2]
  refine seq_of (asgO_of (call_of (ev_cons (ev_cell 3 rfl (s08.seq hS)) (ev_cons (ev_var rfl) ev_nil)) ⟨cell ns 3, n2, rfl, by omega, fun H9 ph2 s9 hh9 _ => ?_⟩))
  dsimp only
  have hlen := headsOf_len (cell ns 3) 0 n2
  have hz := txt_heads (c := cell ns 3) (n := n2)
  generalize headsOf (cell ns 3) 0 n2 = hs2 at hh9 hlen hz
  have s09 := s08.trans s9
  refine seq_of (asgO_of (call_of (ev_cons (ev_var rfl) (ev_cons (ev_var rfl) ev_nil)) ⟨ph2, hs2, n2, rfl, .of hh9, by omega, ?_⟩))
  dsimp only
  refine seq_of (asg_of (ev_i0 (ev_var rfl) ev_c) ?_)
  dsimp only
  refine cut (fun σ' H' => H' = H9 ∧ ∃ (z : Str) (g : Bool) (v : Option V), z.length ≤ 1000 ∧ ((g = true ∧ okZ z ∧ headsZ z z.length = hs2) ∨ (g = false ∧ ¬ okZ z)) ∧ σ' = [some (V.ref a), some (V.int (n2 : Int)), some (V.ref ph2), some (V.str (txt (fun k => decide (k ∈ hs)) n)), some (V.ref pc), some (V.str (txt (fun k => decide (k ∈ hs)) n)), u, some (V.str z), some (V.bl g), v, none]) (fun X hX => ?_) ?_
  · refine ifS_of (ev_and (ev_test (ev_i0 (ev_var rfl) ev_c)) fun _ => ev_test (ev_eqI (ev_i (ev_cell 4 rfl (s09.seq hS)) ev_c (by decide)) ev_c)) (fun c => ?_) fun c => next_of (hX _ _ ⟨rfl, _, _, _, ?_, ?_, rfl⟩)
    · have c0 : 0 < n2 := by
        simp only [Bool.and_eq_true, decide_eq_true_eq] at c
        omega
      obtain ⟨at', alt, hat⟩ := nat_of (cell ns 5) n2 c0
      refine seq_of (asg_of (ev_i (ev_cell 5 rfl (s09.seq hS)) (ev_var rfl) (by show (0 : Int) < (n2 : Int); omega)) ?_)
      dsimp only
      have lz := txt_len (fun k => decide (k ∈ hs2)) n2
      have lz1 : (txt (fun k => decide (k ∈ hs2)) n2).length ≤ sizeLine := by rw [lz]; exact sl _ (by omega)
      refine seq_of (asgO_of (opO_of (opO_of (ev_var rfl _ ⟨_, rfl, _, rfl, _, rfl, lz1, call_of (ev_cons (ev_cell 6 rfl (s09.seq hS)) ev_nil) ⟨_, rfl, fun d d1 d2 => ⟨_, _, rfl, rfl, ?_, ?_⟩⟩⟩))))
      · have := Txt.slice_le (txt (fun k => decide (k ∈ hs2)) n2) none (some (cell ns 5 % (n2 : Int)))
        rw [lz] at this
        refine sl _ ?_
        show _ + 1 ≤ 1000
        omega
      · have l1 := Txt.slice_le (txt (fun k => decide (k ∈ hs2)) n2) none (some (cell ns 5 % (n2 : Int)))
        have l2 := Txt.slice_le (txt (fun k => decide (k ∈ hs2)) n2) (some (cell ns 5 % (n2 : Int) + 1)) none
        rw [lz] at l1 l2
        refine ev_var rfl _ (ev_i0 (ev_var rfl) ev_c _ ⟨_, rfl, _, rfl, lz1, _, _, rfl, rfl, sl _ ?_, ?_⟩)
        · rw [str_len_app]
          show _ + 1 + _ ≤ 1000
          omega
        · dsimp only
          refine asg_of ev_c (hX _ _ ⟨rfl, _, _, _, ?_, .inr ⟨rfl, odd_not d1 d2⟩, rfl⟩)
          rw [str_len_app, str_len_app]
          show _ + 1 + _ ≤ 1000
          omega
    · rw [txt_len]
      omega
    · by_cases h : n2 ≤ 40
      · exact .inl ⟨decide_eq_true (by omega), txt_ok h, by rw [txt_len]; exact hz⟩
      · refine .inr ⟨decide_eq_false (by omega), fun z => h ?_⟩
        have := z.1
        rw [txt_len] at this
        exact this
  rintro σ' H' ⟨rfl, z, g, v, lz, hg, rfl⟩
  refine seq_of (asgO_of (call_of (ev_cons (ev_var rfl) ev_nil) ⟨z, rfl, lz, fun ok H10 p r s10 hp hr' => ?_, fun no H10 p s10 hp => ?_⟩))
  · rcases hg with ⟨rfl, _, eh⟩ | ⟨_, no⟩
    · dsimp only
      refine seq_of (ifS_of (ev_tB (ev_var rfl)) (fun _ => ?_) fun c => by cases c)
      refine ret_of (ev_andV (ev_eqI (ev_ixT (ev_var rfl) ev_c (.of hp) rfl) ev_c) fun _ => ev_call (v := .bl true) (ev_cons (ev_ixT (ev_var rfl) ev_c (.of hp) rfl) (ev_cons (ev_var rfl) ev_nil)) fun Q q => ⟨r, ph2, _, hs2, rfl, hr', s10 _ _ hh9, by omega, ?_⟩) ?_
      · rw [eh, decide_eq_true rfl]
        exact q
      · exact q _
    · exact absurd ok no
  · rcases hg with ⟨_, ok, _⟩ | ⟨rfl, _⟩
    · exact absurd ok no
    · dsimp only
      refine seq_of (ifS_of (ev_tB (ev_var rfl)) (fun c => by cases c) fun _ => next_of ?_)
      dsimp only
      exact ret_of (ev_eqI (ev_ixT (ev_var rfl) ev_c (.of hp) rfl) ev_c) (q _)
end
section
variable {P : Program} {w : World} {K : PySem.W.Frag} {mg : Str → Option Value} {base : Heap} {cC cN cB cO cR cU cT : Addr}
theorem all {f : Addr} {fd : FuncData} (D : Facts K mg) (T : TxE K mg cC cN cB cO cR cU cT) (F : Fun K "law" "law" s_law f fd) : FnOk P w K mg base CX0 22 f fd ["script"] (spLaw K) := by
  have N : TxN K mg cR cO := ⟨D.GREATEST_PLACE, D.MOST_SIGNS, D.HEAD, D.TAIL, T.r_NoRow, T.r_NoNote, D.n_len, D.n_range, D.n_enumerate⟩
  have T2 : TxE2 K mg cC cN cB cO cR cU cT := { T with n_int := D.n_int, n_list := D.n_list }
  have sh : CalleeX P w K mg base "shown" 3 p_shown (spShown K cR) := ok_shown D.d_shown N ⟨ok_checkRowX D.d_check_row N ⟨ok_rises D.d_rises⟩⟩
  have re : CalleeX P w K mg base "read" 1 p_read (spRead K cO) := ok_read D.d_read N
  have L : TxL mg := ⟨D.n_range, D.n_int, D.n_len⟩
  exact ok_law F D ⟨ok_cell D.d_law_cell_at D.n_len, ok_heads D.d_law_heads ⟨D.n_range⟩, ok_text D.d_law_text L, ok_is_row D.d_law_is_row ⟨D.n_isinstance, D.n_list, D.n_int, D.n_bool, D.n_len, D.n_range⟩, ok_odd D.d_law_odd_sign L, ok_lread D.d_law_read T2 ⟨sh, re⟩, ok_nosize D.d_law_no_size T2 ⟨sh, re⟩, sh.c0, re.c0⟩
end
end H
open PySem PySem.W PyProof.Rows
set_option maxRecDepth 100000 in
set_option maxHeartbeats 0 in
theorem PySem.Challenge.cw_coinrows_k16_written_and_read_holds : PySem.Challenge.rw_coinrows_k16_written_and_read.Holds := by
  w_on; o_law; k_head; (case hw => w_witness2)
  k_fill
  refine L2.law_walk (l := PySem.Challenge.rw_coinrows_k16_written_and_read) (k := 22) (st := H.s_law) ⟨rfl, by decide, by decide⟩ rfl rfl rfl (fun _ _ _ _ _ _ u => rfl) (fun w h Y => PySem.W.kIn_of Y) ?F
  case F =>
    intro w mg h KX G
    have D : H.Facts (L2.KOf KX) mg := by
      dsimp only [L2.KOf]
      refine' ⟨L2.hasDef KX G ?a1 ?l1 ?c1 ?k1, L2.hasDef KX G ?a2 ?l2 ?c2 ?k2, L2.hasDef KX G ?a3 ?l3 ?c3 ?k3, L2.hasDef KX G ?a4 ?l4 ?c4 ?k4, L2.hasDef KX G ?a5 ?l5 ?c5 ?k5, L2.hasDef KX G ?a6 ?l6 ?c6 ?k6, L2.hasDef KX G ?a7 ?l7 ?c7 ?k7, L2.hasDef KX G ?a8 ?l8 ?c8 ?k8, L2.hasDef KX G ?a9 ?l9 ?c9 ?k9, L2.hasDef KX G ?a10 ?l10 ?c10 ?k10, L2.hasDef KX G ?a11 ?l11 ?c11 ?k11, PySem.W.mg_none_of KX G ?z12, PySem.W.mg_none_of KX G ?z13, PySem.W.mg_none_of KX G ?z14, PySem.W.mg_none_of KX G ?z15, PySem.W.mg_none_of KX G ?z16, PySem.W.mg_none_of KX G ?z17, PySem.W.mg_none_of KX G ?z18, PySem.W.mg_none_of KX G ?z19, L2.glob_int KX G ?z20, L2.glob_int KX G ?z21, L2.glob_str KX G ?z22, L2.glob_str KX G ?z23⟩
      (case a1 => k_is); (case l1 => k_is); (case c1 => k_is); (case k1 => k_is)
      (case a2 => k_is); (case l2 => k_is); (case c2 => k_is); (case k2 => k_is)
      (case a3 => k_is); (case l3 => k_is); (case c3 => k_is); (case k3 => k_is)
      (case a4 => k_is); (case l4 => k_is); (case c4 => k_is); (case k4 => k_is)
      (case a5 => k_is); (case l5 => k_is); (case c5 => k_is); (case k5 => k_is)
      (case a6 => k_is); (case l6 => k_is); (case c6 => k_is); (case k6 => k_is)
      (case a7 => k_is); (case l7 => k_is); (case c7 => k_is); (case k7 => k_is)
      (case a8 => k_is); (case l8 => k_is); (case c8 => k_is); (case k8 => k_is)
      (case a9 => k_is); (case l9 => k_is); (case c9 => k_is); (case k9 => k_is)
      (case a10 => k_is); (case l10 => k_is); (case c10 => k_is); (case k10 => k_is)
      (case a11 => k_is); (case l11 => k_is); (case c11 => k_is); (case k11 => k_is)
      (case z12 => k_is)
      (case z13 => k_is)
      (case z14 => k_is)
      (case z15 => k_is)
      (case z16 => k_is)
      (case z17 => k_is)
      (case z18 => k_is)
      (case z19 => k_is)
      (case z20 => k_is)
      (case z21 => k_is)
      (case z22 => k_is)
      (case z23 => k_is)
    have L : L2.HasDef (L2.KOf KX) mg "law" H.s_law := by
      dsimp only [L2.KOf]
      refine' L2.hasDef KX G ?a1 ?l1 ?c1 ?k1
      (case a1 => k_is); (case l1 => k_is); (case c1 => k_is); (case k1 => k_is)
    have R : ∃ cC cN cB cO cR cU cT, H.ErrF (L2.KOf KX) mg cC cN cB cO cR cU cT := by
      dsimp only [L2.KOf]
      refine' ⟨_, _, _, _, _, _, _, ⟨⟨PySem.W.mg_of KX G ?e1, ?e2⟩, ⟨PySem.W.mg_of KX G ?e3, ?e4⟩, PySem.W.mg_of KX G ?e5, PySem.W.mg_of KX G ?e6, PySem.W.mg_of KX G ?e7, PySem.W.mg_of KX G ?e8, PySem.W.mg_of KX G ?e9, PySem.W.mg_of KX G ?e10, PySem.W.mg_of KX G ?e11, ⟨?e12, ?e13, ?e14, ?e15, ?e16, ?e17, ?e18, ?e19⟩, ⟨?e20, ?e21, ?e22, ?e23, ?e24, ?e25, ?e26, ?e27⟩, ?e28, ?e29, ?e30, ?e31, ?e32, ?e33, ?e34, ?e35, ?e36, ?e37, ?e38, ?e39, ?e40, ?e41, ?e42, ?e43⟩⟩
      (case e1 => k_is)
      (case e2 => k_exc)
      (case e3 => k_is)
      (case e4 => k_exc)
      (case e5 => k_is)
      (case e6 => k_is)
      (case e7 => k_is)
      (case e8 => k_is)
      (case e9 => k_is)
      (case e10 => k_is)
      (case e11 => k_is)
      (case e12 => k_is)
      (case e13 => k_is)
      (case e14 => k_is)
      (case e15 => k_is)
      (case e16 => k_is)
      (case e17 => k_is)
      (case e18 => k_is)
      (case e19 => k_is)
      (case e20 => k_is)
      (case e21 => k_is)
      (case e22 => k_is)
      (case e23 => k_is)
      (case e24 => k_is)
      (case e25 => k_is)
      (case e26 => k_is)
      (case e27 => k_is)
      (case e28 => kts_exm)
      (case e29 => kts_exm)
      (case e30 => kit_is)
      (case e31 => kit_is)
      (case e32 => kit_is)
      (case e33 => kit_is)
      (case e34 => kit_is)
      (case e35 => kit_is)
      (case e36 => kit_is)
      (case e37 => kit_is)
      (case e38 => kit_is)
      (case e39 => kit_is)
      (case e40 => kit_is)
      (case e41 => kit_is)
      (case e42 => kit_is)
      (case e43 => kit_is)
    obtain ⟨cC, cN, cB, cO, cR, cU, cT, R⟩ := R
    have N1 : mg "isinstance" = none := PySem.W.mg_none_of KX G (by k_is)
    have N2 : mg "ValueError" = none := PySem.W.mg_none_of KX G (by k_is)
    exact ⟨L, fun base f fd F => H.all D ⟨R, N1, N2⟩ F⟩
