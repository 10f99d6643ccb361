import PyProof.Rows.All
import Wide.All
import OpenK.AllK
import Wide.FinOn
import Lean
import PyProof.EqAt
import PyProof.EqKinds
import PyProof.TupleCall
import PyProof.Rows.StrWeight2
import PyProof.EnumStmt
import KE.KSortTup
import PyProof.Rows.RuleB_bool
import PyProof.MeetsSeq3
import OpenK.KOwn
import PyProof.ExcBaseAll.ValueError
import KE.KIsAll
import PyProof.ExcArgs
import PySem.Challenge.RW_gatewhole_k13_whole_made
set_option Elab.async false
set_option linter.all false
set_option maxRecDepth 100000
namespace L2
open PySem PySem.Spec PyProof.Rows
noncomputable abbrev Key := Sum Int Str
noncomputable def keyIs : Key → Value → Bool
  | .inl k, v => Value.isInt k v
  | .inr x, v => Value.isStrOf x v
noncomputable def keyH (w : World) : Key → Int
  | .inl k => hashInt k
  | .inr x => hashStr w x
theorem keyIs_shape : ∀ {k : Key} {v : Value}, keyIs k v = true → (∃ i t, k = Sum.inl i ∧ v = Value.int i t) ∨ (∃ x t, k = Sum.inr x ∧ v = Value.str x t)
  | .inl i, v, h => by
    obtain ⟨t, e⟩ := Value.isInt_shape (k := i) (v := v) h
    exact .inl ⟨i, t, rfl, e⟩
  | .inr x, v, h => by
    obtain ⟨t, e⟩ := Value.isStrOf_shape (x := x) (v := v) h
    exact .inr ⟨x, t, rfl, e⟩
theorem keyIs_int (i : Int) (t : Tok) : keyIs (.inl i) (.int i t) = true := by simp [keyIs, Value.isInt]
theorem keyIs_str (x : Str) (t : Tok) : keyIs (.inr x) (.str x t) = true := by simp [keyIs, Value.isStrOf]
theorem key_ll (a b : Int) : decide ((Sum.inl a : Key) = Sum.inl b) = (a == b) := by
  by_cases e : a = b
  · subst e; simp
  · have h : ¬ (Sum.inl a : Key) = Sum.inl b := fun q => e (Sum.inl.inj q)
    rw [decide_eq_false h]
    exact (beq_eq_false_iff_ne.mpr e).symm
theorem key_rr (a b : Str) : decide ((Sum.inr a : Key) = Sum.inr b) = decide (a = b) := by
  by_cases e : a = b
  · subst e; simp
  · have h : ¬ (Sum.inr a : Key) = Sum.inr b := fun q => e (Sum.inr.inj q)
    rw [decide_eq_false h, decide_eq_false e]
theorem key_lr (a : Int) (b : Str) : decide ((Sum.inl a : Key) = Sum.inr b) = false := decide_eq_false (fun q => nomatch q)
theorem key_rl (a : Str) (b : Int) : decide ((Sum.inr a : Key) = Sum.inl b) = false := decide_eq_false (fun q => nomatch q)
noncomputable def mixKind (prog : Program) (w : World) : PySem.KeyKind prog w Key where
  is := keyIs
  hash := keyH w
  inj := fun v a b ha hb => by
    rcases keyIs_shape ha with ⟨i, t, rfl, rfl⟩ | ⟨x, t, rfl, rfl⟩
    · rcases keyIs_shape hb with ⟨j, u, rfl, e⟩ | ⟨y, u, rfl, e⟩
      · injection e with e1 _; rw [e1]
      · exact nomatch e
    · rcases keyIs_shape hb with ⟨j, u, rfl, e⟩ | ⟨y, u, rfl, e⟩
      · exact nomatch e
      · injection e with e1 _; rw [e1]
  byValue := fun k v h => by
    rcases keyIs_shape h with ⟨i, t, rfl, rfl⟩ | ⟨x, t, rfl, rfl⟩ <;> rfl
  pyHash := fun hv h => by
    rcases keyIs_shape hv with ⟨i, t, rfl, rfl⟩ | ⟨x, t, rfl, rfl⟩
    · exact wpAny_pyHash_int h
    · exact wpAny_pyHash_str h
  eqBool := fun hu hv h => by
    rcases keyIs_shape hu with ⟨i, t, rfl, rfl⟩ | ⟨x, t, rfl, rfl⟩
    · rcases keyIs_shape hv with ⟨j, u, rfl, rfl⟩ | ⟨y, u, rfl, rfl⟩
      · rw [key_ll] at h; exact wpAny_eqBool_int h
      · rw [key_lr] at h; exact SeqAt.EqAt.int_str i t y u _ _ _ _ h
    · rcases keyIs_shape hv with ⟨j, u, rfl, rfl⟩ | ⟨y, u, rfl, rfl⟩
      · rw [key_rl] at h; exact SeqAt.EqAt.str_int x t j u _ _ _ _ h
      · rw [key_rr] at h; exact wpAny_eqBool_str h
  «strs» := fun k x t v h => by
    rcases keyIs_shape h with ⟨i, u, rfl, e⟩ | ⟨y, u, rfl, e⟩
    · exact nomatch e
    · injection e with e1 _
      subst e1
      cases v <;> rfl
theorem mixKind_int (prog : Program) (w : World) (i : Int) (t : Tok) : (mixKind prog w).is (.inl i) (.int i t) = true := keyIs_int i t
theorem mixKind_str (prog : Program) (w : World) (x : Str) (t : Tok) : (mixKind prog w).is (.inr x) (.str x t) = true := keyIs_str x t
end L2
namespace L2
open PySem PySem.Spec PyProof.Rows
inductive V where
  | non | bl (b : Bool) | int (i : Int) | str (x : Str) | byt (b : Array UInt8) | flt (b : UInt64) | ref (a : Addr) | ty (n : String)
  deriving DecidableEq
noncomputable def RelV : V → Value → Prop
  | .non, u => u = Value.none
  | .bl b, u => u = Value.bool b
  | .int i, u => ∃ t, u = Value.int i t
  | .str x, u => ∃ t, u = Value.str x t
  | .byt b, u => ∃ t, u = Value.bytes b t
  | .flt b, u => ∃ t, u = Value.float b t
  | .ref a, u => u = Value.ref a
  | .ty n, u => u = Value.type n
noncomputable abbrev Vals : List V → List Value → Prop := Paired RelV
theorem Vals.length {xs : List V} {us : List Value} (r : Vals xs us) : xs.length = us.length := Paired.length r
theorem Vals.get : ∀ {xs : List V} {us : List Value} {i : Nat} {x : V}, Vals xs us → xs[i]? = some x → ∃ u, us[i]? = some u ∧ RelV x u
  | _, _, _, _, .nil, e => by simp at e
  | _, _, 0, _, .cons r _, e => by simp at e; subst e; exact ⟨_, rfl, r⟩
  | _, _, i + 1, x, .cons _ t, e => by
    obtain ⟨u, h1, h2⟩ := Vals.get (i := i) (x := x) t (by simpa using e)
    exact ⟨u, by simpa using h1, h2⟩
theorem Vals.append : ∀ {xs ys : List V} {us ws : List Value}, Vals xs us → Vals ys ws → Vals (xs ++ ys) (us ++ ws)
  | _, _, _, _, .nil, s => s
  | _, _, _, _, .cons r t, s => .cons r (Vals.append t s)
theorem Vals.take : ∀ {xs : List V} {us : List Value} (n : Nat), Vals xs us → Vals (xs.take n) (us.take n)
  | _, _, 0, _ => .nil
  | _, _, _ + 1, .nil => .nil
  | _, _, n + 1, .cons r t => .cons r (Vals.take n t)
theorem Vals.drop : ∀ {xs : List V} {us : List Value} (n : Nat), Vals xs us → Vals (xs.drop n) (us.drop n)
  | _, _, 0, r => r
  | _, _, _ + 1, .nil => .nil
  | _, _, n + 1, .cons _ t => Vals.drop n t
theorem Vals.none_of : ∀ {xs : List V} {us : List Value} {i : Nat}, Vals xs us → xs[i]? = none → us[i]? = none := fun {xs us i} r e => by
  have h1 := r.length
  have h2 : xs.length ≤ i := List.getElem?_eq_none_iff.mp e
  exact List.getElem?_eq_none_iff.mpr (by omega)
noncomputable def RelO : Option V → Option Value → Prop
  | some v, some u => RelV v u
  | none, none => True
  | _, _ => False
noncomputable def KV {κ : Type} : List (κ × V) → List (κ × Value) → Prop := Paired fun (p : κ × V) (q : κ × Value) => p.1 = q.1 ∧ RelV p.2 q.2
noncomputable def kV : Key → V
  | .inl i => .int i
  | .inr x => .str x
inductive HO where
  | lst (xs : List V)
  | tup (xs : List V)
  | dK (kvs : List (Key × V)) | dT (kvs : List (List Key × V))
  | set (S : Int → Bool) (n : Nat)
  | ins (C dx : Addr) (fs : List (Str × V))
  | own (x : Addr)
  | xd (fs : List (Str × V))
  | met (f x : Addr)
  | rng (lo hi : Int)
  | frz (o : Obj) (u : HO)
  | tbl (ps : Array Value)
  | ext (φ : Heap → Prop)
noncomputable abbrev Hp := Addr → Option HO
noncomputable def upd (H : Hp) (a : Addr) (o : HO) : Hp := fun b => if b = a then some o else H b
theorem upd_same {H : Hp} {a : Addr} {o : HO} : upd H a o a = some o := by unfold upd; rw [if_pos rfl]
theorem upd_ne {H : Hp} {a b : Addr} {o : HO} (h : b ≠ a) : upd H a o b = H b := by unfold upd; rw [if_neg h]
theorem upd_upd {H : Hp} {a : Addr} {o u : HO} : upd (upd H a o) a u = upd H a u := by
  funext b; unfold upd; split <;> rfl
theorem ne_of {H : Hp} {a b : Addr} {o u : HO} (h : H a = some o) (h' : H b = some u) (d : o ≠ u) : a ≠ b := by
  intro e; subst e; rw [h] at h'; exact d (Option.some.inj h')
theorem ne_of_none {H : Hp} {a b : Addr} {o : HO} (h : H a = some o) (h' : H b = none) : a ≠ b := by
  intro e; subst e; rw [h] at h'; cases h'
section
variable (P : Program) (w : World)
noncomputable def ObjOk (H : Hp) (h : Heap) (a : Addr) : HO → Prop
  | .lst xs => xs.length ≤ sizeLine ∧ ∃ (its : List Value) (n : Nat), Vals xs its ∧ h.get? a = some { cls := .type "list", data := .seq its.toArray n }
  | .tup xs => xs.length ≤ sizeLine ∧ ∃ its : List Value, Vals xs its ∧ IsTup h a its.toArray
  | .dK kvs => kvs.length ≤ sizeLine ∧ (a == sysModules) = false ∧ ∃ vs, KV kvs vs ∧ h.DictOf (mixKind P w) a vs
  | .dT kvs => kvs.length ≤ sizeLine ∧ (a == sysModules) = false ∧ ∃ xs : List (List Key × Addr × Value),
      Paired (fun (p : List Key × V) (q : List Key × Addr × Value) => p.1 = q.1 ∧ H q.2.1 = some (.tup (p.1.map kV)) ∧ RelV p.2 q.2.2) kvs xs ∧
      ∃ o es ep, h.get? a = some o ∧ o.ExactDict ∧ o.data = .dict es ep ∧ es.toList = xs.map (entryOfKey (tupleKind (mixKind P w))) ∧ (xs.map (·.1)).Nodup
  | .set S n => h.SetOf (intKind P w) a S n
  | .ins C dx fs => H dx = some (.own a) ∧ fs.length ≤ 1000 ∧ dx ≠ a ∧ h.get? a = some (PySem.W.instObj C dx) ∧
      ∃ mA, h.Ns1 dx mA ∧ (∀ f, RelO (fs.lookup f) (mA f)) ∧ PySem.Within mA (fs.map (·.1))
  | .own _ => ∃ o, h.get? a = some o
  | .xd fs => ∃ mA, h.Ns1 a mA ∧ ∀ f, RelO (fs.lookup f) (mA f)
  | .rng lo hi => ∃ t u v, h.get? a = some { cls := .type "range", data := .fields #[.int lo t, .int hi u, .int 1 v] }
  | .frz o u => h.get? a = some o ∧ ObjOk H h a u
  | .tbl ps => h.get? a = some { cls := .none, data := .fields ps }
  | .met f x => h.get? a = some (PySem.W.methodObj (.ref f) (.ref x))
  | .ext φ => φ h ∧ (∃ o, h.get? a = some o) ∧ ∀ h1 h2 : Heap, φ h1 → (∀ o, h1.get? a = some o → h2.get? a = some o) → φ h2
noncomputable def HOk (H : Hp) (h : Heap) : Prop := ∀ a o, H a = some o → ObjOk P w H h a o
end
section
variable {P : Program} {w : World} {H H' : Hp} {h h' : Heap} {a : Addr} {o : HO}
theorem ObjOk.lt (x : ObjOk P w H h a o) : a < h.objs.size := by
  cases o with
  | lst xs => obtain ⟨_, _, _, _, e⟩ := x; exact Heap.lt_size e
  | tup xs => obtain ⟨_, _, _, p⟩ := x; exact p.lt
  | dK kvs => obtain ⟨_, _, _, _, o, _, _, e, _⟩ := x; exact Heap.lt_size e
  | dT kvs => obtain ⟨_, _, _, _, o, _, _, e, _⟩ := x; exact Heap.lt_size e
  | set S n => obtain ⟨o, _, _, _, e, _⟩ := x; exact Heap.lt_size e
  | ins C dx fs => obtain ⟨_, _, _, e, _⟩ := x; exact Heap.lt_size e
  | own y => obtain ⟨_, e⟩ := x; exact Heap.lt_size e
  | xd fs => obtain ⟨_, ⟨_, _, _, e, _⟩, _⟩ := x; exact Heap.lt_size e
  | rng lo hi => obtain ⟨_, _, _, e⟩ := x; exact Heap.lt_size e
  | frz ob u => obtain ⟨e, _⟩ := x; exact Heap.lt_size e
  | tbl ps => exact Heap.lt_size (show h.get? a = some _ from x)
  | met f y => exact Heap.lt_size (show h.get? a = some _ from x)
  | ext φ => obtain ⟨_, ⟨_, e⟩, _⟩ := x; exact Heap.lt_size e
theorem Paired.mapP {α β : Type} {F G : α → β → Prop} : ∀ {l₁ : List α} {l₂ : List β}, Paired F l₁ l₂ → (∀ a b, F a b → G a b) → Paired G l₁ l₂
  | _, _, .nil, _ => .nil
  | _, _, .cons r t, f => .cons (f _ _ r) (Paired.mapP t f)
theorem ObjOk.stay (x : ObjOk P w H h a o) (k : ∀ b u, (b = a ∨ H b = some (.own a)) → h.get? b = some u → h'.get? b = some u)
    (ho : ∀ b, H b = some (.own a) → H' b = some (.own a)) (ht : ∀ b xs, H b = some (.tup xs) → H' b = some (.tup xs)) : ObjOk P w H' h' a o := by
  induction o with
  | lst xs => obtain ⟨z, its, n, r, e⟩ := x; exact ⟨z, its, n, r, k _ _ (.inl rfl) e⟩
  | tup xs => obtain ⟨z, its, r, ob, e, c⟩ := x; exact ⟨z, its, r, ob, k _ _ (.inl rfl) e, c⟩
  | dK kvs => obtain ⟨z, y, vs, r, ob, es, ep, e, c⟩ := x; exact ⟨z, y, vs, r, ob, es, ep, k _ _ (.inl rfl) e, c⟩
  | dT kvs =>
    obtain ⟨z, y, xs, r, ob, es, ep, e, c⟩ := x
    exact ⟨z, y, xs, Paired.mapP r fun p q z => ⟨z.1, ht _ _ z.2.1, z.2.2⟩, ob, es, ep, k _ _ (.inl rfl) e, c⟩
  | set S n => obtain ⟨ob, es, ep, t, e, c⟩ := x; exact ⟨ob, es, ep, t, k _ _ (.inl rfl) e, c⟩
  | ins C dx fs =>
    obtain ⟨d, z, ne, e, mA, ⟨od, es, ep, e2, c⟩, r⟩ := x
    exact ⟨ho _ d, z, ne, k _ _ (.inl rfl) e, mA, ⟨od, es, ep, k _ _ (.inr d) e2, c⟩, r⟩
  | own y => obtain ⟨ob, e⟩ := x; exact ⟨ob, k _ _ (.inl rfl) e⟩
  | xd fs => obtain ⟨mA, ⟨od, es, ep, e, c⟩, r⟩ := x; exact ⟨mA, ⟨od, es, ep, k _ _ (.inl rfl) e, c⟩, r⟩
  | rng lo hi => obtain ⟨t, u, v, e⟩ := x; exact ⟨t, u, v, k _ _ (.inl rfl) e⟩
  | frz ob u ih => obtain ⟨e, q⟩ := x; exact ⟨k _ _ (.inl rfl) e, ih q⟩
  | tbl ps =>
    have e : h.get? a = some { cls := .none, data := .fields ps } := x
    show h'.get? a = some { cls := .none, data := .fields ps }
    exact k a _ (.inl rfl) e
  | met f y =>
    have e : h.get? a = some (PySem.W.methodObj (.ref f) (.ref y)) := x
    show h'.get? a = some (PySem.W.methodObj (.ref f) (.ref y))
    exact k a _ (.inl rfl) e
  | ext φ => obtain ⟨p, ⟨o, e⟩, st⟩ := x; exact ⟨st _ _ p fun o q => k _ _ (.inl rfl) q, ⟨o, k _ _ (.inl rfl) e⟩, st⟩
theorem HOk.lt (x : HOk P w H h) (e : H a = some o) : a < h.objs.size := (x a o e).lt
theorem HOk.fresh (x : HOk P w H h) (e : h.objs.size ≤ a) : H a = none := by
  cases q : H a with
  | none => rfl
  | some u => exact absurd (Nat.lt_of_lt_of_le (x.lt q) e) (Nat.lt_irrefl _)
theorem HOk.kept (x : HOk P w H h) (k : ∀ b u, h.get? b = some u → h'.get? b = some u) : HOk P w H h' := fun a o e =>
  (x a o e).stay (fun b u _ q => k b u q) (fun _ q => q) fun _ _ q => q
theorem HOk.laid (x : HOk P w H h) (k : ∀ b u, h.get? b = some u → h'.get? b = some u) (hp : h.objs.size ≤ a) (new : ObjOk P w (upd H a o) h' a o) : HOk P w (upd H a o) h' := fun b u e => by
  have hn := x.fresh hp
  by_cases hb : b = a
  · subst hb; rw [upd_same] at e; cases e; exact new
  · rw [upd_ne hb] at e
    exact (x b u e).stay (fun c v _ q => k c v q) (fun c q => by rw [upd_ne (ne_of_none q hn)]; exact q) fun c xs q => by rw [upd_ne (ne_of_none q hn)]; exact q
end
noncomputable def Rd (H : Hp) (a : Addr) (u : HO) : Prop := H a = some u ∨ ∃ o, H a = some (.frz o u)
theorem Rd.ok {P : Program} {w : World} {H : Hp} {h : Heap} {a : Addr} {u : HO} (r : Rd H a u) (x : HOk P w H h) : ObjOk P w H h a u := by
  rcases r with r | ⟨o, r⟩
  · exact x a u r
  · obtain ⟨_, q⟩ := x a _ r
    exact q
noncomputable def Mut : Option HO → Prop
  | some (.lst _) => True
  | some (.dK _) => True
  | some (.dT _) => True
  | some (.set _ _) => True
  | some (.ins _ _ _) => True
  | some (.ext _) => True
  | _ => False
section
variable {P : Program} {w : World} {H : Hp} {h h' : Heap} {x e : Addr} {o' : HO}
theorem HOk.write (ok : HOk P w H h) (mu : Mut (H x)) (he : e = x ∨ H e = some (.own x)) (k : ∀ b u, b ≠ e → h.get? b = some u → h'.get? b = some u) (heo : ∃ u, h'.get? e = some u)
    (new : ObjOk P w (upd H x o') h' x o') : HOk P w (upd H x o') h' := fun b u q => by
  have nown : ∀ c y, H c = some (.own y) → c ≠ x := fun c y r z => by subst z; rw [r] at mu; exact mu
  have ntup : ∀ c xs, H c = some (.tup xs) → c ≠ x := fun c xs r z => by subst z; rw [r] at mu; exact mu
  by_cases hb : b = x
  · subst hb; rw [upd_same] at q; cases q; exact new
  · rw [upd_ne hb] at q
    by_cases hbe : b = e
    · have q' : H b = some (.own x) := by
        rcases he with z | z
        · exact absurd (hbe.trans z) hb
        · rw [hbe]; exact z
      rw [q] at q'; cases q'
      obtain ⟨v, hv⟩ := heo
      exact ⟨v, by rw [hbe]; exact hv⟩
    · refine (ok b u q).stay (fun c v hc r => k c v ?_ r) (fun c r => by rw [upd_ne (nown c b r)]; exact r) fun c xs r => by rw [upd_ne (ntup c xs r)]; exact r
      rcases hc with rfl | hc
      · exact hbe
      · rintro rfl
        rcases he with z | z
        · exact nown c b hc z
        · rw [hc] at z; cases z; exact hb rfl
end
structure Un (fs ex : List Addr) (H H' : Hp) (h h' : Heap) : Prop where
  keep : ∀ b o, h.get? b = some o → H b = none → b ∉ fs → b ∉ ex → h'.get? b = some o
  slot : ∀ b o, h.get? b = some o → H b = none → b ∈ fs → b ∉ ex → ∃ sl, h'.get? b = some { o with slots := sl }
  free : ∀ b o, h.get? b = some o → H b = none → b ∉ ex → H' b = none
  there : ∀ b o, h.get? b = some o → b ∉ ex → ∃ o', h'.get? b = some o'
  tups : ∀ b xs, H b = some (.tup xs) → H' b = some (.tup xs)
  frzs : ∀ b o u, H b = some (.frz o u) → H' b = some (.frz o u)
  tbls : ∀ b ps, H b = some (.tbl ps) → ∃ more, H' b = some (.tbl (ps ++ more))
section
variable {fs fs' ex ex' : List Addr} {H H1 H2 : Hp} {h h1 h2 h' : Heap} {a x e : Addr} {o : HO}
theorem Un.any (u : Un fs ex H H1 h h1) {b : Addr} {ob : Obj} (q : h.get? b = some ob) (n : H b = none) (hx : b ∉ ex) : ∃ sl, h1.get? b = some { ob with slots := sl } := by
  by_cases hb : b ∈ fs
  · exact u.slot b ob q n hb hx
  · exact ⟨ob.slots, u.keep b ob q n hb hx⟩
theorem Un.kept (k : ∀ b u, h.get? b = some u → h'.get? b = some u) : Un fs ex H H h h' :=
  ⟨fun b ob q _ _ _ => k b ob q, fun b ob q _ _ _ => ⟨ob.slots, k b ob q⟩, fun _ _ _ n _ => n, fun b ob q _ => ⟨ob, k b ob q⟩, fun _ _ q => q, fun _ _ _ q => q, fun _ ps q => ⟨#[], by rw [q]; simp⟩⟩
theorem Un.refl : Un fs ex H H h h := Un.kept fun _ _ q => q
theorem Un.laid (k : ∀ b u, h.get? b = some u → h'.get? b = some u) (hp : h.objs.size ≤ a) (hn : H a = none) : Un fs ex H (upd H a o) h h' where
  keep := fun b u q _ _ _ => k b u q
  slot := fun b u q _ _ _ => ⟨u.slots, k b u q⟩
  free := fun b u q n _ => by rw [upd_ne (Nat.ne_of_lt (Nat.lt_of_lt_of_le (Heap.lt_size q) hp))]; exact n
  there := fun b u q _ => ⟨u, k b u q⟩
  tups := fun b xs q => by rw [upd_ne (ne_of_none q hn)]; exact q
  frzs := fun b u xs q => by rw [upd_ne (ne_of_none q hn)]; exact q
  tbls := fun b ps q => ⟨#[], by rw [upd_ne (ne_of_none q hn), q]; simp⟩
theorem Un.write (mu : Mut (H x)) (he : e = x ∨ H e = some (.own x)) (k : ∀ b u, b ≠ e → h.get? b = some u → h'.get? b = some u) (heo : ∃ u, h'.get? e = some u) : Un fs ex H (upd H x o) h h' := by
  have hx : ∀ b, H b = none → b ≠ x := fun b n z => by subst z; rw [n] at mu; exact mu
  have hb : ∀ b, H b = none → b ≠ e := fun b n z => by
    subst z
    rcases he with r | r
    · exact hx b n r
    · rw [n] at r; cases r
  have hm : ∀ b u, H b = some u → ¬ Mut (some u) → b ≠ x := fun b u q nm z => by subst z; rw [q] at mu; exact nm mu
  refine ⟨fun b u q n _ _ => k b u (hb b n) q, fun b u q n _ _ => ⟨u.slots, k b u (hb b n) q⟩, fun b u q n _ => by rw [upd_ne (hx b n)]; exact n, fun b u q _ => ?_,
    fun b xs q => by rw [upd_ne (hm b _ q fun z => z)]; exact q, fun b u xs q => by rw [upd_ne (hm b _ q fun z => z)]; exact q, fun b ps q => ⟨#[], by rw [upd_ne (hm b _ q fun z => z), q]; simp⟩⟩
  by_cases hbe : b = e
  · subst hbe; exact heo
  · exact ⟨u, k b u hbe q⟩
end
noncomputable def trk (h : Heap) (H : Hp) : List Addr := (List.range h.objs.size).filter fun a => (H a).isSome
noncomputable def hidT (h : Heap) (H : Hp) : Heap := PySem.W.hideAll h (trk h H)
theorem hidT_size (h : Heap) (H : Hp) : (hidT h H).objs.size = h.objs.size := PySem.W.hideAll_size _ _
theorem hidT_get {h : Heap} {H : Hp} {b : Addr} {o : Obj} (e : h.get? b = some o) (n : H b = none) : (hidT h H).get? b = some o :=
  PySem.W.hideAll_get _ e fun hm => by
    have q : (H b).isSome = true := (List.mem_filter.mp hm).2
    rw [n] at q; simp at q
theorem of_hidT {h : Heap} {H : Hp} {b : Addr} {o : Obj} (e : (hidT h H).get? b = some o) : h.get? b = some o ∧ H b = none := by
  have e' : h.get? b = some o := PySem.W.of_hideAll (trk h H) e
  refine ⟨e', ?_⟩
  cases q : H b with
  | none => rfl
  | some x =>
    have hm : b ∈ trk h H := List.mem_filter.mpr ⟨List.mem_range.mpr (Heap.lt_size e'), by simp [q]⟩
    have z : (hidT h H).get? b = none := PySem.W.hideAll_none (trk h H) hm
    rw [z] at e; cases e
noncomputable def allNews (g h : Heap) (L : Addr) : List (Addr × Obj) := (List.range h.objs.size).filterMap fun a => if a = L ∨ (g.get? a).isSome = true then none else (h.get? a).map fun o => (a, o)
noncomputable def rest (g h : Heap) (L d : Addr) : List (Addr × Obj) := (allNews g h L).filter fun p => decide (p.1 ≠ d)
end L2
namespace L2
open PySem PySem.Spec PyProof.Rows
structure Mod (K : PySem.W.Frag) (mg : Str → Option Value) (base : Heap) : Prop where
  kin : K.In base
  glob : base.Ns mainGlobals mg
  blt : ∃ mb, base.Ns builtinsNs mb ∧ ∀ x : Str, x ≠ "__name__" → mb x = bootBuiltins x
  nolimit : base.NoLimit
structure Cx where
  prog : Program
  w : World
  K : PySem.W.Frag
  mg : Str → Option Value
  base : Heap
  A : Around
  N : List Str
  s₀ : Shared
  H₀ : Hp
  env : Env
  outer : List Env
  stack : List Env
  ex : List Addr
  fn : Str → Bool
  calm : Bool
  pn : List (Addr × Obj)
  xe : Value → Shared → Prop
noncomputable def frs (l : List Env) : List Addr := l.filterMap (·.frame)
noncomputable abbrev Cx.fs (X : Cx) : List Addr := frs X.outer
noncomputable def Vis (sc : Scope) (x : Str) : Prop := sc.names.lookup x = some .local ∨ sc.names.lookup x = some .cell ∨ sc.names.lookup x = some .free
noncomputable def Loc (sc : Scope) (x : Str) : Prop := sc.names.lookup x = some .local ∨ sc.names.lookup x = some .cell
noncomputable def Look (env : Env) (h : Heap) (m : Str → Option Value) (x : Str) (u : Value) : Prop :=
  (env.kindOf x = some .local ∧ m x = some u) ∨ ((env.kindOf x = some .cell ∨ env.kindOf x = some .free) ∧ ∃ c, env.cells.lookup x = some c ∧ h.IsCell c (some u))
structure Cx.Ok (X : Cx) : Prop where
  mod : Mod X.K X.mg X.base
  kind : X.env.scope.kind = .function
  glob : X.env.globals = mainGlobals
  blt : X.env.builtins = builtinsNs
  above : X.s₀.heap.objs.size ≤ X.env.locals
  inj : ∀ x y c, X.env.cells.lookup x = some c → X.env.cells.lookup y = some c → x = y
  has : ∀ x, (X.env.kindOf x = some .cell ∨ X.env.kindOf x = some .free) → ∃ c, X.env.cells.lookup x = some c
  cab : ∀ x c, X.fn x = true → X.env.cells.lookup x = some c → X.s₀.heap.objs.size ≤ c
  hd : X.calm = true → X.A.handled = none
  frames : X.A.frames = some X.stack
  stk : X.stack = X.outer ∨ (X.stack = X.env :: X.outer ∧ X.env.frame = some X.env.locals)
  exf : ∀ b ∈ X.ex, b ≠ X.env.locals ∧ ∀ x c, X.env.cells.lookup x = some c → c ≠ b
  bs : ∀ b o, X.base.get? b = some o → X.s₀.heap.get? b = some o ∧ X.H₀ b = none
  bsz : X.base.objs.size ≤ X.s₀.heap.objs.size
  noex : ∀ b o, X.base.get? b = some o → b ∉ X.ex
  exfs : ∀ b ∈ X.ex, b ∉ X.fs
  funs : X.s₀.heap.FunFrames X.base X.outer
  frf : ∀ b ∈ X.fs, X.H₀ b = none
structure Inv (X : Cx) (pins : List (Addr × Obj)) (σ : List (Option V)) (H : Hp) (s : Shared) : Prop where
  ok : X.Ok
  os : s.os = X.s₀.os
  bare : AllBare s.gens
  base : Un X.fs X.ex X.H₀ H X.s₀.heap s.heap
  loc : ∃ m, s.heap.Ns X.env.locals m ∧ ∀ (i : Nat) (x : Str) (v : V), X.N[i]? = some x → σ[i]? = some (some v) → Vis X.env.scope x → ∃ u, RelV v u ∧ Look X.env s.heap m x u
  cell : ∀ x c, X.env.cells.lookup x = some c → ∃ v, s.heap.IsCell c v
  free : H X.env.locals = none
  freeC : ∀ x c, X.env.cells.lookup x = some c → H c = none
  pin : ∀ p ∈ X.pn ++ pins, s.heap.get? p.1 = some p.2 ∧ H p.1 = none ∧ p.1 ≠ X.env.locals ∧ p.1 ∉ X.fs ∧ ∀ v, p.2.data ≠ .cell v
  hok : HOk X.prog X.w H s.heap
  len : σ.length = X.N.length
section
variable {X : Cx} {pins : List (Addr × Obj)} {σ : List (Option V)} {H H' : Hp} {s : Shared} {h' : Heap}
theorem Cx.Ok.nofr (ok : X.Ok) {b : Addr} {o : Obj} (e : X.base.get? b = some o) : b ∉ X.fs := fun hb => by
  have := (ok.funs.mem hb).1
  rw [e] at this; cases this
theorem Inv.bs (I : Inv X pins σ H s) : ∀ b o, X.base.get? b = some o → s.heap.get? b = some o ∧ H b = none := fun b o e =>
  ⟨I.base.keep b o (I.ok.bs b o e).1 (I.ok.bs b o e).2 (I.ok.nofr e) (I.ok.noex b o e), I.base.free b o (I.ok.bs b o e).1 (I.ok.bs b o e).2 (I.ok.noex b o e)⟩
theorem Inv.bk (I : Inv X pins σ H s) : ∀ b o, X.base.get? b = some o → s.heap.get? b = some o := fun b o e => (I.bs b o e).1
theorem Inv.mod (I : Inv X pins σ H s) : Mod X.K X.mg X.base := I.ok.mod
theorem Inv.kIn (I : Inv X pins σ H s) : X.K.In s.heap := I.ok.mod.kin.keeps I.bk
theorem Inv.lt (I : Inv X pins σ H s) : X.env.locals < s.heap.objs.size := let ⟨_, hn, _⟩ := I.loc; hn.lt
theorem Inv.sz (I : Inv X pins σ H s) : X.s₀.heap.objs.size ≤ s.heap.objs.size := Nat.le_trans I.ok.above (Nat.le_of_lt I.lt)
theorem Inv.nofs (I : Inv X pins σ H s) {a : Addr} (h : s.heap.objs.size ≤ a) : a ∉ X.fs := fun hb => by
  obtain ⟨_, o, ho, _⟩ := I.ok.funs.mem hb
  exact absurd (Nat.lt_of_lt_of_le (Heap.lt_size ho) (Nat.le_trans I.sz h)) (Nat.lt_irrefl _)
theorem Inv.cne (I : Inv X pins σ H s) : ∀ x c, X.env.cells.lookup x = some c → c ≠ X.env.locals := fun x c e z => by
  obtain ⟨v, o, ho, hd⟩ := I.cell x c e
  obtain ⟨m, ⟨o', es, ep, ho', hd', _⟩, _⟩ := I.loc
  rw [z, ho'] at ho; cases ho; rw [hd'] at hd; cases hd
theorem Inv.funs (I : Inv X pins σ H s) : s.heap.FunFrames X.base X.outer := by
  have all : ∀ (l : List Env), (∀ b ∈ frs l, b ∈ X.fs) → X.s₀.heap.FunFrames X.base l → s.heap.FunFrames X.base l := by
    intro l
    induction l with
    | nil => intro _ _; trivial
    | cons env r ih =>
      intro hs hl
      obtain ⟨hk, ⟨L, o, hf, hn, ho, hd⟩, hr⟩ := hl
      have hL : L ∈ X.fs := hs L (by unfold frs; rw [List.filterMap_cons, hf]; exact List.mem_cons_self)
      obtain ⟨sl, e⟩ := I.base.slot L o ho (I.ok.frf L hL) hL fun z => I.ok.exfs L z hL
      exact ⟨hk, ⟨L, _, hf, hn, e, hd⟩, ih (fun b hb => hs b (by unfold frs; rw [List.filterMap_cons, hf]; exact List.mem_cons_of_mem _ hb)) hr⟩
  exact all X.outer (fun _ hb => hb) I.ok.funs
theorem Inv.stack (I : Inv X pins σ H s) : s.heap.FunFrames X.base X.stack := by
  rcases I.ok.stk with e | ⟨e, hf⟩
  · rw [e]; exact I.funs
  · rw [e]
    obtain ⟨m, hn, _⟩ := I.loc
    refine .cons (by rw [I.ok.kind]; decide) hf hn ?_ I.funs
    exact Heap.get?_none_of_le (Nat.le_trans I.ok.bsz I.ok.above)
theorem Inv.stkSub (I : Inv X pins σ H s) : ∀ b ∈ frs X.stack, b ∈ X.env.locals :: X.fs := fun b hb => by
  rcases I.ok.stk with e | ⟨e, hf⟩
  · rw [e] at hb; exact List.mem_cons_of_mem _ hb
  · rw [e] at hb
    unfold frs at hb
    rw [List.filterMap_cons, hf] at hb
    exact hb
theorem Inv.stkFree (I : Inv X pins σ H s) : ∀ b ∈ frs X.stack, H b = none := fun b hb => by
  rcases List.mem_cons.mp (I.stkSub b hb) with e | hb
  · rw [e]; exact I.free
  · obtain ⟨_, o, ho, _⟩ := I.ok.funs.mem hb
    exact I.base.free b o ho (I.ok.frf b hb) fun z => I.ok.exfs b z hb
theorem Inv.step {g' : Array GenState} {t' : Nat} {d' : Drawn} {ch : List Addr} (I : Inv X pins σ H s)
    (hch : ∀ b ∈ ch, (b ∈ X.ex ∨ X.s₀.heap.objs.size ≤ b) ∧ b ≠ X.env.locals ∧ (∀ x c, X.env.cells.lookup x = some c → c ≠ b) ∧ ∀ p ∈ X.pn ++ pins, p.1 ≠ b)
    (keep : ∀ b o, b ≠ X.env.locals → b ∉ X.fs → b ∉ ch → s.heap.get? b = some o → H b = none → h'.get? b = some o)
    (slot : ∀ b o, b ≠ X.env.locals → b ∈ X.fs → b ∉ ch → s.heap.get? b = some o → H b = none → ∃ sl, h'.get? b = some { o with slots := sl }) (free : ∀ b o, b ∉ ch → s.heap.get? b = some o → H b = none → H' b = none)
    (there : ∀ b o, b ∉ ch → s.heap.get? b = some o → ∃ o', h'.get? b = some o')
    (tups : ∀ b xs, H b = some (.tup xs) → H' b = some (.tup xs)) (frzs : ∀ b o u, H b = some (.frz o u) → H' b = some (.frz o u)) (tbls : ∀ b ps, H b = some (.tbl ps) → ∃ more, H' b = some (.tbl (ps ++ more)))
    (ns : ∀ m, s.heap.Ns X.env.locals m → h'.Ns X.env.locals m) (hok : HOk X.prog X.w H' h') (hg : AllBare g') :
    Inv X pins σ H' { s with heap := h', gens := g', drawn := d', toks := t' } := by
  have neL : ∀ b o, X.s₀.heap.get? b = some o → b ≠ X.env.locals := fun b o e => Nat.ne_of_lt (Nat.lt_of_lt_of_le (Heap.lt_size e) I.ok.above)
  have neC : ∀ b o, X.s₀.heap.get? b = some o → b ∉ X.ex → b ∉ ch := fun b o e hx hb => by
    rcases (hch b hb).1 with z | z
    · exact hx z
    · exact absurd (Nat.lt_of_lt_of_le (Heap.lt_size e) z) (Nat.lt_irrefl _)
  have cellK : ∀ x c, X.env.cells.lookup x = some c → ∀ v, s.heap.IsCell c v → h'.IsCell c v := fun x c e v ⟨o, ho, hd⟩ => by
    have nch : c ∉ ch := fun z => (hch c z).2.2.1 x c e rfl
    by_cases hc : c ∈ X.fs
    · obtain ⟨sl, q⟩ := slot c o (I.cne x c e) hc nch ho (I.freeC x c e)
      exact ⟨_, q, hd⟩
    · exact ⟨o, keep c o (I.cne x c e) hc nch ho (I.freeC x c e), hd⟩
  refine ⟨I.ok, I.os, hg, ⟨fun b o e n hb hx => ?_, fun b o e n hb hx => ?_, fun b o e n hx => ?_, fun b o e hx => ?_, fun b xs e => tups b xs (I.base.tups b xs e), fun b o xs e => frzs b o xs (I.base.frzs b o xs e), fun b ps e => ?_⟩, ?_, fun x c e => ?_, ?_, fun x c e => ?_, fun p hp => ?_, hok, I.len⟩
  · exact keep b o (neL b o e) hb (neC b o e hx) (I.base.keep b o e n hb hx) (I.base.free b o e n hx)
  · obtain ⟨sl, e1⟩ := I.base.slot b o e n hb hx
    obtain ⟨sl', e2⟩ := slot b _ (neL b o e) hb (neC b o e hx) e1 (I.base.free b o e n hx)
    exact ⟨sl', e2⟩
  · obtain ⟨o', e1⟩ := I.base.there b o e hx
    exact free b o' (neC b o e hx) e1 (I.base.free b o e n hx)
  · obtain ⟨o', e1⟩ := I.base.there b o e hx
    exact there b o' (neC b o e hx) e1
  · obtain ⟨m1, e1⟩ := I.base.tbls b ps e
    obtain ⟨m2, e2⟩ := tbls b _ e1
    exact ⟨m1 ++ m2, by rw [e2, Array.append_assoc]⟩
  · obtain ⟨m, hn, hl⟩ := I.loc
    refine ⟨m, ns m hn, fun i x v e1 e2 e3 => ?_⟩
    obtain ⟨u, r, l⟩ := hl i x v e1 e2 e3
    refine ⟨u, r, ?_⟩
    rcases l with l | ⟨k, c, e, z⟩
    · exact .inl l
    · exact .inr ⟨k, c, e, cellK x c e _ z⟩
  · obtain ⟨v, z⟩ := I.cell x c e
    exact ⟨v, cellK x c e v z⟩
  · obtain ⟨m, ⟨o, _, _, ho, _⟩, _⟩ := I.loc
    exact free _ o (fun z => (hch _ z).2.1 rfl) ho I.free
  · obtain ⟨v, o, ho, hd⟩ := I.cell x c e
    exact free c o (fun z => (hch c z).2.2.1 x c e rfl) ho (I.freeC x c e)
  · obtain ⟨e, n, ne, nf, d⟩ := I.pin p hp
    have nch : p.1 ∉ ch := fun z => (hch p.1 z).2.2.2 p hp rfl
    exact ⟨keep p.1 p.2 ne nf nch e n, free p.1 p.2 nch e n, ne, nf, d⟩
theorem Inv.un {t' : Nat} (I : Inv X pins σ H s) (u : Un X.fs [] H H' s.heap h') (hok : HOk X.prog X.w H' h') : Inv X pins σ H' { s with heap := h', toks := t' } := by
  obtain ⟨m, ⟨o, es, ep, ho, r⟩, _⟩ := id I.loc
  obtain ⟨sl, hL⟩ := u.any ho I.free (by simp)
  exact I.step (g' := s.gens) (d' := s.drawn) (ch := []) (fun _ z => nomatch z) (fun b o _ hb _ e n => u.keep b o e n hb (by simp)) (fun b o _ hb _ e n => u.slot b o e n hb (by simp)) (fun b o _ e n => u.free b o e n (by simp)) (fun b o _ e => u.there b o e (by simp)) u.tups u.frzs u.tbls (fun m' hm => by
    obtain ⟨o', es', ep', ho', r'⟩ := hm
    rw [ho] at ho'; cases ho'
    exact ⟨_, es', ep', hL, r'⟩) hok I.bare
theorem Inv.call {g' : Array GenState} {t' : Nat} {d' : Drawn} {ch : List Addr} (I : Inv X pins σ H s) (u : Un (frs X.stack) ch H H' s.heap h') (hok : HOk X.prog X.w H' h') (hg : AllBare g')
    (hch : ∀ b ∈ ch, (b ∈ X.ex ∨ X.s₀.heap.objs.size ≤ b) ∧ b ≠ X.env.locals ∧ (∀ x c, X.env.cells.lookup x = some c → c ≠ b) ∧ ∀ p ∈ X.pn ++ pins, p.1 ≠ b) :
    Inv X pins σ H' { s with heap := h', gens := g', drawn := d', toks := t' } := by
  obtain ⟨m, ⟨o, es, ep, ho, r⟩, _⟩ := id I.loc
  obtain ⟨sl, hL⟩ := u.any ho I.free fun z => (hch _ z).2.1 rfl
  exact I.step (ch := ch) hch (fun b o hL hb hc e n => u.keep b o e n (fun z => (List.mem_cons.mp (I.stkSub b z)).elim hL hb) hc) (fun b o _ _ hc e n => u.any e n hc) (fun b o hc e n => u.free b o e n hc) (fun b o hc e => u.there b o e hc) u.tups u.frzs u.tbls (fun m' hm => by
    obtain ⟨o', es', ep', ho', r'⟩ := hm
    rw [ho] at ho'; cases ho'
    exact ⟨_, es', ep', hL, r'⟩) hok hg
theorem Inv.turned {t' : Nat} {it : Addr} (I : Inv X pins σ H s) (k : ∀ b o, b ≠ it → s.heap.get? b = some o → h'.get? b = some o) (hn : H it = none) (hL : it ≠ X.env.locals)
    (h1 : it ∈ X.ex ∨ X.s₀.heap.objs.size ≤ it) (h2 : ∀ x c, X.env.cells.lookup x = some c → c ≠ it) (h3 : ∀ p ∈ X.pn ++ pins, p.1 ≠ it) : Inv X pins σ H { s with heap := h', toks := t' } := by
  have nit : ∀ b u, H b = some u → b ≠ it := fun b u e z => by rw [z, hn] at e; cases e
  refine I.step (g' := s.gens) (d' := s.drawn) (ch := [it]) (fun b hb => ?_) (fun b o _ _ hc e _ => k b o (fun z => hc (by simp [z])) e) (fun b o _ _ hc e _ => ⟨o.slots, k b o (fun z => hc (by simp [z])) e⟩) (fun _ _ _ _ n => n)
    (fun b o hc e => ⟨o, k b o (fun z => hc (by simp [z])) e⟩) (fun _ _ e => e) (fun _ _ _ e => e) (fun b ps e => ⟨#[], by rw [e]; simp⟩) (fun m hm => ?_) (fun b u e => ?_) I.bare
  · have e : b = it := by simpa using hb
    subst e
    exact ⟨h1, hL, h2, h3⟩
  · obtain ⟨o, es, ep, ho, r⟩ := hm
    exact ⟨o, es, ep, k _ o (Ne.symm hL) ho, r⟩
  · refine (I.hok b u e).stay (fun c v hc q => k c v ?_ q) (fun _ q => q) fun _ _ q => q
    rcases hc with z | z
    · rw [z]; exact nit b u e
    · exact nit c _ z
theorem Inv.tok (I : Inv X pins σ H s) (t : Nat) : Inv X pins σ H { s with toks := t } := I.un (h' := s.heap) (t' := t) Un.refl I.hok
theorem Inv.kept {t' : Nat} (I : Inv X pins σ H s) (k : ∀ b u, s.heap.get? b = some u → h'.get? b = some u) : Inv X pins σ H { s with heap := h', toks := t' } := I.un (Un.kept k) (I.hok.kept k)
theorem Inv.laid {a : Addr} {o : HO} {t' : Nat} (I : Inv X pins σ H s) (k : ∀ b u, s.heap.get? b = some u → h'.get? b = some u) (hp : s.heap.objs.size ≤ a) (new : ObjOk X.prog X.w (upd H a o) h' a o) :
    Inv X pins σ (upd H a o) { s with heap := h', toks := t' } := I.un (Un.laid k hp (I.hok.fresh hp)) (I.hok.laid k hp new)
theorem Inv.write {x e : Addr} {o : HO} {t' : Nat} (I : Inv X pins σ H s) (mu : Mut (H x)) (he : e = x ∨ H e = some (.own x)) (k : ∀ b u, b ≠ e → s.heap.get? b = some u → h'.get? b = some u) (heo : ∃ u, h'.get? e = some u)
    (new : ObjOk X.prog X.w (upd H x o) h' x o) : Inv X pins σ (upd H x o) { s with heap := h', toks := t' } := I.un (Un.write mu he k heo) (I.hok.write mu he k heo new)
theorem Inv.pins_of {pins' : List (Addr × Obj)} (I : Inv X pins σ H s) (h : ∀ p ∈ pins', s.heap.get? p.1 = some p.2 ∧ H p.1 = none ∧ p.1 ≠ X.env.locals ∧ p.1 ∉ X.fs ∧ ∀ v, p.2.data ≠ .cell v) : Inv X pins' σ H s :=
  ⟨I.ok, I.os, I.bare, I.base, I.loc, I.cell, I.free, I.freeC, fun p hp => (List.mem_append.mp hp).elim (fun z => I.pin p (List.mem_append_left _ z)) (h p), I.hok, I.len⟩
theorem nodup_ix {N : List Str} (hN : N.Nodup) {i j : Nat} {x : Str} (a : N[i]? = some x) (b : N[j]? = some x) : i = j := by
  obtain ⟨h1, e1⟩ := List.getElem?_eq_some_iff.mp a
  obtain ⟨h2, e2⟩ := List.getElem?_eq_some_iff.mp b
  exact (List.getElem_inj hN).mp (e1.trans e2.symm)
theorem store_ok2 {M : Model} {A : Around} {E : Value → Shared → Prop} {i : Nat} {x : Str} {v : V} {u : Value} {Q : Unit → Shared → Prop} (I : Inv X pins σ H s) (hN : X.N.Nodup) (hi : X.N[i]? = some x) (hx : Loc X.env.scope x) (r : RelV v u)
    (h : ∀ s', Inv X pins (σ.set i (some v)) H s' → (∃ a, Heap.SameBut a s.heap s'.heap ∧ (a = X.env.locals ∨ X.env.cells.lookup x = some a)) → Q () s') (hf : X.fn x = true ∨ X.env.scope.names.lookup x = some .local := by first | exact .inl rfl | exact .inr rfl | assumption) : wpAny M A (storeName X.env x u) Q E s := by
  obtain ⟨m, hn, hl⟩ := id I.loc
  have hcls : (X.env.scope.kind == .class || (X.env.scope.kind == .module && X.env.locals != X.env.globals)) = false := by rw [I.ok.kind]; rfl
  have hiσ : i < σ.length := by rw [I.len]; exact (List.getElem?_eq_some_iff.mp hi).1
  have cne := I.cne
  have tracked : ∀ {a : Addr} {h' : Heap}, (∃ o, s.heap.get? a = some o ∧ H a = none) → Heap.SameBut a s.heap h' → HOk X.prog X.w H h' := fun {a h'} ha hs b ob e => by
    obtain ⟨_, _, hfree⟩ := ha
    refine (I.hok b ob e).stay (fun c w' hc q => (hs.2 c ?_).trans q) (fun _ q => q) fun _ _ q => q
    rintro rfl
    rcases hc with rfl | hc
    · rw [hfree] at e; cases e
    · rw [hfree] at hc; cases hc
  rcases hx with hk | hk
  · refine wpAny_storeName_local hk hn (fun h' hn' hs => ?_) hcls
    obtain ⟨oL, _, _, hoL, _⟩ := id hn
    refine h _ ⟨I.ok, I.os, I.bare, ⟨fun b o e n hb hx => ?_, fun b o e n hb hx => ?_, I.base.free, fun b o e hx => ?_, I.base.tups, I.base.frzs, I.base.tbls⟩, ⟨_, hn', fun j y v' e1 e2 e3 => ?_⟩, fun y c e => ?_, I.free, I.freeC, fun p hp => ?_, tracked ⟨oL, hoL, I.free⟩ hs, by simpa using I.len⟩ ⟨_, hs, .inl rfl⟩
    · exact (hs.2 b (Nat.ne_of_lt (Nat.lt_of_lt_of_le (Heap.lt_size e) I.ok.above))).trans (I.base.keep b o e n hb hx)
    · obtain ⟨sl, e1⟩ := I.base.slot b o e n hb hx
      exact ⟨sl, (hs.2 b (Nat.ne_of_lt (Nat.lt_of_lt_of_le (Heap.lt_size e) I.ok.above))).trans e1⟩
    · obtain ⟨o', e1⟩ := I.base.there b o e hx
      exact ⟨o', (hs.2 b (Nat.ne_of_lt (Nat.lt_of_lt_of_le (Heap.lt_size e) I.ok.above))).trans e1⟩
    · by_cases hj : j = i
      · subst hj
        rw [hi] at e1; cases e1
        rw [List.getElem?_set_self hiσ] at e2
        cases e2
        exact ⟨u, r, .inl ⟨hk, by simp⟩⟩
      · rw [List.getElem?_set_ne (Ne.symm hj)] at e2
        obtain ⟨u', r', q⟩ := hl j y v' e1 e2 e3
        refine ⟨u', r', ?_⟩
        rcases q with ⟨k, e⟩ | ⟨k, c, e, z⟩
        · refine .inl ⟨k, ?_⟩
          have : y ≠ x := fun e => hj (nodup_ix hN e1 (e ▸ hi))
          simp [this, e]
        · exact .inr ⟨k, c, e, z.sameBut hs (cne y c e)⟩
    · obtain ⟨w', z⟩ := I.cell y c e
      exact ⟨w', z.sameBut hs (cne y c e)⟩
    · obtain ⟨e, n, ne, nf, d⟩ := I.pin p hp
      exact ⟨(hs.2 p.1 ne).trans e, n, ne, nf, d⟩
  · have hfn : X.fn x = true := by
      rcases hf with z | z
      · exact z
      · rw [z] at hk; cases hk
    obtain ⟨c, hc⟩ := I.ok.has x (.inl hk)
    obtain ⟨w', z⟩ := I.cell x c hc
    refine wpAny_storeName_cell I.ok.kind hk hc z (fun h' hc' hs => ?_)
    obtain ⟨oc, hoc, hocd⟩ := id z
    refine h { s with heap := h' } ⟨I.ok, I.os, I.bare, ⟨fun b o e n hb hx => ?_, fun b o e n hb hx => ?_, I.base.free, fun b o e hx => ?_, I.base.tups, I.base.frzs, I.base.tbls⟩, ⟨m, hn.sameBut hs (Ne.symm (cne x c hc)), fun j y v' e1 e2 e3 => ?_⟩, fun y c' e => ?_, I.free, I.freeC, fun p hp => ?_, tracked ⟨oc, hoc, I.freeC x c hc⟩ hs, by simpa using I.len⟩ ⟨c, hs, .inr hc⟩
    · exact (hs.2 b (Nat.ne_of_lt (Nat.lt_of_lt_of_le (Heap.lt_size e) (I.ok.cab x c hfn hc)))).trans (I.base.keep b o e n hb hx)
    · obtain ⟨sl, e1⟩ := I.base.slot b o e n hb hx
      exact ⟨sl, (hs.2 b (Nat.ne_of_lt (Nat.lt_of_lt_of_le (Heap.lt_size e) (I.ok.cab x c hfn hc)))).trans e1⟩
    · obtain ⟨o', e1⟩ := I.base.there b o e hx
      exact ⟨o', (hs.2 b (Nat.ne_of_lt (Nat.lt_of_lt_of_le (Heap.lt_size e) (I.ok.cab x c hfn hc)))).trans e1⟩
    · by_cases hj : j = i
      · subst hj
        rw [hi] at e1; cases e1
        rw [List.getElem?_set_self hiσ] at e2
        cases e2
        exact ⟨u, r, .inr ⟨.inl hk, c, hc, hc'⟩⟩
      · rw [List.getElem?_set_ne (Ne.symm hj)] at e2
        obtain ⟨u', r', q⟩ := hl j y v' e1 e2 e3
        refine ⟨u', r', ?_⟩
        rcases q with q | ⟨k, c', e, z'⟩
        · exact .inl q
        · refine .inr ⟨k, c', e, z'.sameBut hs ?_⟩
          rintro rfl
          exact hj (nodup_ix hN e1 (I.ok.inj _ _ _ e hc ▸ hi))
    · by_cases hcc : c' = c
      · subst hcc; exact ⟨_, hc'⟩
      · obtain ⟨w2, z2⟩ := I.cell y c' e
        exact ⟨w2, z2.sameBut hs hcc⟩
    · obtain ⟨e, n, ne, nf, d⟩ := I.pin p hp
      refine ⟨(hs.2 p.1 ?_).trans e, n, ne, nf, d⟩
      intro q
      rw [q, hoc] at e
      have q' : oc = p.2 := Option.some.inj e
      exact d w' (by rw [← q']; exact hocd)
theorem store_ok {M : Model} {A : Around} {E : Value → Shared → Prop} {i : Nat} {x : Str} {v : V} {u : Value} {Q : Unit → Shared → Prop} (I : Inv X pins σ H s) (hN : X.N.Nodup) (hi : X.N[i]? = some x) (hx : Loc X.env.scope x) (r : RelV v u)
    (h : ∀ s', Inv X pins (σ.set i (some v)) H s' → Q () s') (hf : X.fn x = true ∨ X.env.scope.names.lookup x = some .local := by first | exact .inl rfl | exact .inr rfl | assumption) : wpAny M A (storeName X.env x u) Q E s :=
  store_ok2 I hN hi hx r (fun s' I' _ => h s' I') hf
theorem Inv.call' {s' : Shared} {ch : List Addr} (I : Inv X pins σ H s) (ho : s'.os = s.os) (u : Un (frs X.stack) ch H H' s.heap s'.heap) (hok : HOk X.prog X.w H' s'.heap) (hg : AllBare s'.gens)
    (hch : ∀ b ∈ ch, (b ∈ X.ex ∨ X.s₀.heap.objs.size ≤ b) ∧ b ≠ X.env.locals ∧ (∀ x c, X.env.cells.lookup x = some c → c ≠ b) ∧ ∀ p ∈ X.pn ++ pins, p.1 ≠ b) : Inv X pins σ H' s' := by
  obtain ⟨h', g', d', t', o'⟩ := s'
  have e : o' = s.os := ho
  subst e
  exact I.call (g' := g') (t' := t') (d' := d') u hok hg hch
end
noncomputable abbrev XK := Value → Option Addr → Hp → Prop
noncomputable abbrev St := List (Option V)
noncomputable abbrev VK := V → Hp → Prop
noncomputable abbrev TE := St → Hp → VK → Prop
noncomputable abbrev TT := St → Hp → (Bool → Hp → Prop) → Prop
noncomputable abbrev TA := St → Hp → (List V → Hp → Prop) → Prop
structure Ends where
  nx : St → Hp → Prop
  rt : VK
  bk : St → Hp → Prop := fun _ _ => False
  ct : St → Hp → Prop := fun _ _ => False
noncomputable abbrev TS := Ends → St → Hp → Prop
noncomputable def EP (X : Cx) (pins : List (Addr × Obj)) (σ : St) (Q : VK) (u : Value) (s' : Shared) : Prop := ∃ v H', Inv X pins σ H' s' ∧ RelV v u ∧ Q v H'
noncomputable def TP (X : Cx) (pins : List (Addr × Obj)) (σ : St) (Q : Bool → Hp → Prop) (b : Bool) (s' : Shared) : Prop := ∃ H', Inv X pins σ H' s' ∧ Q b H'
noncomputable def AP (X : Cx) (pins : List (Addr × Obj)) (σ : St) (Q : List V → Hp → Prop) (us : List Value) (s' : Shared) : Prop := ∃ vs H', Inv X pins σ H' s' ∧ Vals vs us ∧ Q vs H'
noncomputable def SP (X : Cx) (pins : List (Addr × Obj)) (D : Ends) (f : Flow) (s' : Shared) : Prop :=
  match f with
  | .next => ∃ σ' H', Inv X pins σ' H' s' ∧ D.nx σ' H'
  | .brk => ∃ σ' H', Inv X pins σ' H' s' ∧ D.bk σ' H'
  | .cont => ∃ σ' H', Inv X pins σ' H' s' ∧ D.ct σ' H'
  | .ret u => ∃ v σ' H', Inv X pins σ' H' s' ∧ RelV v u ∧ D.rt v H'
noncomputable def PE (X : Cx) (e : Expr) (t : TE) : Prop :=
  ∀ (pins : List (Addr × Obj)) (s : Shared) (σ : St) (H : Hp) (Q : VK), Inv X pins σ H s → t σ H Q → wpAny (model X.prog X.w) X.A (eval e X.env) (EP X pins σ Q) X.xe s
noncomputable def PT (X : Cx) (e : Expr) (t : TT) : Prop :=
  ∀ (pins : List (Addr × Obj)) (s : Shared) (σ : St) (H : Hp) (Q : Bool → Hp → Prop), Inv X pins σ H s → t σ H Q → wpAny (model X.prog X.w) X.A (isTrue e X.env (eval e X.env)) (TP X pins σ Q) X.xe s
noncomputable def PW (X : Cx) (e : Expr) (t : TT) : Prop :=
  ∀ (whole : Sem Value) (pins : List (Addr × Obj)) (s : Shared) (σ : St) (H : Hp) (Q : Bool → Hp → Prop), Inv X pins σ H s → t σ H Q → wpAny (model X.prog X.w) X.A (isTrue e X.env whole) (TP X pins σ Q) X.xe s
theorem PW.pt {X : Cx} {e : Expr} {t : TT} (h : PW X e t) : PT X e t := h _
noncomputable def PA (X : Cx) (es : List Expr) (t : TA) : Prop :=
  ∀ (pos : Pos) (pins : List (Addr × Obj)) (s : Shared) (σ : St) (H : Hp) (Q : List V → Hp → Prop), Inv X pins σ H s → t σ H Q → wpAny (model X.prog X.w) X.A (spliced (backTo pos (starEach es X.env))) (AP X pins σ Q) X.xe s
noncomputable def PS (X : Cx) (st : Stmt) (t : TS) : Prop :=
  ∀ (pins : List (Addr × Obj)) (s : Shared) (σ : St) (H : Hp) (D : Ends), Inv X pins σ H s → t D σ H → wpAny (model X.prog X.w) X.A (exec st X.env) (SP X pins D) X.xe s
noncomputable def PSs (X : Cx) (st : List Stmt) (t : TS) : Prop :=
  ∀ (pins : List (Addr × Obj)) (s : Shared) (σ : St) (H : Hp) (D : Ends), Inv X pins σ H s → t D σ H → wpAny (model X.prog X.w) X.A (execs st X.env) (SP X pins D) X.xe s
theorem thn {α : Type} {t : Sem α} {Q Q' : α → Shared → Prop} {M : Model} {A : Around} {E : Value → Shared → Prop} {s : Shared} (h : wpAny M A t Q E s) (hQ : ∀ a s, Q a s → Q' a s) : wpAny M A t Q' E s := wpAny_mono h hQ fun _ _ x => x
end L2
namespace L2
open PySem PySem.Spec PyProof.Rows
section
variable {X : Cx}
noncomputable def tVar (i : Nat) : TE := fun σ H Q => ∃ v, σ[i]? = some (some v) ∧ Q v H
noncomputable def tC (v : V) : TE := fun _ H Q => Q v H
theorem pe_var {i : Nat} {x : Str} {pos : Pos} (hN : X.N[i]? = some x) (hv : Vis X.env.scope x) (hd : (x == ("__debug__" : Str)) = false := by decide) (hcd : (x == ("__classdict__" : Str)) = false := by decide) : PE X (.Name x pos) (tVar i) := by
  intro pins s σ H Q I h
  obtain ⟨v, e, h⟩ := h
  obtain ⟨m, hn, hl⟩ := I.loc
  obtain ⟨u, r, l⟩ := hl i x v hN e hv
  have fin : EP X pins σ Q u s := ⟨v, H, I, r, h⟩
  rcases l with ⟨hk, hm⟩ | ⟨hk, c, hc, hcell⟩
  · exact wpAny_Name (wpAny_loadName_local I.ok.kind hk hn hm fin) hd
  · rcases hk with hk | hk
    · exact wpAny_Name (wpAny_loadName_cell I.ok.kind hk hc hcell fin) hd
    · exact wpAny_Name (wpAny_loadName_free I.ok.kind hk hc hcell fin hcd) hd
theorem pe_int {i j pos} : PE X (.Constant (.int i) j pos) (tC (.int i)) := fun _ _ _ H _ I h => wpAny_Constant_int ⟨.int i, H, I.tok _, ⟨_, rfl⟩, h⟩
theorem pe_bl {b j pos} : PE X (.Constant (.bool b) j pos) (tC (.bl b)) := fun _ _ _ H _ I h => Constant_bool ⟨.bl b, H, I, rfl, h⟩
theorem pe_non {j pos} : PE X (.Constant .none j pos) (tC .non) := fun _ _ _ H _ I h => Constant_none ⟨.non, H, I, rfl, h⟩
theorem pe_str {x j pos} : PE X (.Constant (.str x) j pos) (tC (.str x)) := fun _ _ _ H _ I h => Calls.Constant_str ⟨.str x, H, I.tok _, ⟨_, rfl⟩, h⟩
noncomputable def Gl (X : Cx) (x : Str) : Prop := X.env.kindOf x = some .globalImplicit
theorem ld_glob {E : Value → Shared → Prop} {pins : List (Addr × Obj)} {s : Shared} {σ : St} {H : Hp} {x : Str} {u : Value} {pos : Pos} {Q : Value → Shared → Prop} (I : Inv X pins σ H s) (hg : Gl X x) (hm : X.mg x = some u) (h : Q u s)
    (hd : (x == ("__debug__" : Str)) = false := by decide) : wpAny (model X.prog X.w) X.A (eval (.Name x pos) X.env) Q E s :=
  Calls.Name_function_global I.ok.kind hg (Calls.loadGlobal_global (by rw [I.ok.glob]; exact I.mod.glob.keeps I.bk) hm h) hd
theorem ld_blt {E : Value → Shared → Prop} {pins : List (Addr × Obj)} {s : Shared} {σ : St} {H : Hp} {x : Str} {u : Value} {pos : Pos} {Q : Value → Shared → Prop} (I : Inv X pins σ H s) (hg : Gl X x) (hm : X.mg x = none) (hv : bootBuiltins x = some u) (h : Q u s)
    (hn : x ≠ "__name__" := by decide) (hd : (x == ("__debug__" : Str)) = false := by decide) : wpAny (model X.prog X.w) X.A (eval (.Name x pos) X.env) Q E s := by
  obtain ⟨mb, h1, h2⟩ := I.mod.blt
  exact Calls.Name_function_global I.ok.kind hg (Calls.loadGlobal_builtin (by rw [I.ok.glob]; exact I.mod.glob.keeps I.bk) hm (by rw [I.ok.blt]; exact h1.keeps I.bk) ((h2 x hn).trans hv) h) hd
theorem pe_glob {x : Str} {v : V} {u : Value} {pos : Pos} (hg : Gl X x) (hm : X.mg x = some u) (r : RelV v u) (hd : (x == ("__debug__" : Str)) = false := by decide) : PE X (.Name x pos) (tC v) :=
  fun _ _ _ H _ I h => ld_glob I hg hm ⟨v, H, I, r, h⟩ hd
theorem pe_bltn {x : Str} {v : V} {u : Value} {pos : Pos} (hg : Gl X x) (hm : X.mg x = none) (hv : bootBuiltins x = some u) (r : RelV v u) (hn : x ≠ "__name__" := by decide) (hd : (x == ("__debug__" : Str)) = false := by decide) : PE X (.Name x pos) (tC v) :=
  fun _ _ _ H _ I h => ld_blt I hg hm hv ⟨v, H, I, r, h⟩ hn hd
variable {a b : Expr} {ta tb : TE} {pos : Pos}
noncomputable def tB (t : TE) : TT := fun σ H Q => t σ H fun x H1 => ∃ c, x = .bl c ∧ Q c H1
theorem pt_val {e : Expr} {t : TE} (h : PE X e t) (he : ∀ whole, isTrue e X.env whole = (do let v ← whole; standAt e.pos; holding [v] (truthy v)) := by intro _; rfl) : PT X e (tB t) := by
  intro pins s σ H Q I hw
  refine isTrue_plain (thn (h pins s σ H _ I hw) fun v s1 ⟨x, H1, I1, r1, q1⟩ => ?_) (he _)
  obtain ⟨d, rfl, q⟩ := q1
  cases r1
  exact wpAny_truthy_bool ⟨H1, I1, q⟩
variable {tA tB' : TT} {rest : List Expr}
noncomputable def tAnd (t u : TT) : TT := fun σ H Q => t σ H fun c H1 => if c = true then u σ H1 Q else Q false H1
noncomputable def tOr (t u : TT) : TT := fun σ H Q => t σ H fun c H1 => if c = true then Q true H1 else u σ H1 Q
noncomputable def tNot (t : TT) : TT := fun σ H Q => t σ H fun c H1 => Q (!c) H1
theorem pw_and1 (ha : PT X a tA) : PW X (.BoolOp .And [a] pos) tA := by
  intro wh pins s σ H Q I h
  refine isTrue_and (thn (ha pins s σ H Q I h) fun c s1 e => ?_)
  cases c with
  | true => exact isTrue_and_nil e
  | false => exact e
theorem pw_or1 (ha : PT X a tA) : PW X (.BoolOp .Or [a] pos) tA := by
  intro wh pins s σ H Q I h
  refine isTrue_or (thn (ha pins s σ H Q I h) fun c s1 e => ?_)
  cases c with
  | false => exact isTrue_or_nil e
  | true => exact e
theorem pw_and (ha : PT X a tA) (hb : PW X (.BoolOp .And (b :: rest) pos) tB') : PW X (.BoolOp .And (a :: b :: rest) pos) (tAnd tA tB') := by
  intro wh pins s σ H Q I h
  refine isTrue_and (thn (ha pins s σ H _ I h) fun c s1 ⟨H1, I1, q1⟩ => ?_)
  cases c with
  | true => exact hb wh pins s1 σ H1 Q I1 q1
  | false => exact ⟨H1, I1, q1⟩
theorem pw_or (ha : PT X a tA) (hb : PW X (.BoolOp .Or (b :: rest) pos) tB') : PW X (.BoolOp .Or (a :: b :: rest) pos) (tOr tA tB') := by
  intro wh pins s σ H Q I h
  refine isTrue_or (thn (ha pins s σ H _ I h) fun c s1 ⟨H1, I1, q1⟩ => ?_)
  cases c with
  | true => exact ⟨H1, I1, q1⟩
  | false => exact hb wh pins s1 σ H1 Q I1 q1
theorem pt_not (ha : PT X a tA) : PT X (.UnaryOp .Not a pos) (tNot tA) := by
  intro pins s σ H Q I h
  exact isTrue_not (ha pins s σ H (fun c H1 => Q (!c) H1) I h)
noncomputable def tAndV (ta tb : TE) : TE := fun σ H Q => ta σ H fun x H1 => ∃ c, x = .bl c ∧ if c = true then tb σ H1 Q else Q (.bl false) H1
noncomputable def tNotV (ta : TE) : TE := fun σ H Q => ta σ H fun x H1 => ∃ c, x = .bl c ∧ Q (.bl (!c)) H1
theorem pe_one {op} {t : TE} (h : PE X a t) : PE X (.BoolOp op [a] pos) t := fun pins s σ H Q I hw => BoolOp_one (h pins s σ H Q I hw)
theorem pe_and (ha : PE X a ta) (hb : PE X (.BoolOp .And (b :: rest) pos) tb) : PE X (.BoolOp .And (a :: b :: rest) pos) (tAndV ta tb) := by
  intro pins s σ H Q I h
  refine BoolOp_and (thn (ha pins s σ H _ I h) fun v s1 ⟨x, H1, I1, r1, q1⟩ => ?_)
  obtain ⟨c, rfl, q1⟩ := q1
  cases r1
  refine wpAny_truthy_bool ?_
  cases c with
  | true => exact hb pins s1 σ H1 Q I1 q1
  | false => exact ⟨.bl false, H1, I1, rfl, q1⟩
theorem pe_not (ha : PE X a ta) : PE X (.UnaryOp .Not a pos) (tNotV ta) := by
  intro pins s σ H Q I h
  refine UnaryOp_ (thn (ha pins s σ H _ I h) fun v s1 ⟨x, H1, I1, r1, q1⟩ => ?_)
  obtain ⟨c, rfl, q1⟩ := q1
  cases r1
  exact not_of (wpAny_truthy_bool ⟨.bl (!c), H1, I1, rfl, q1⟩)
end
end L2
namespace L2
open PySem PySem.Spec PyProof.Rows
noncomputable def SqL (K : PySem.W.Frag) (H : Hp) (a : Addr) (xs : List V) : Prop :=
  Rd H a (.lst xs) ∨
    ∃ (o : Obj) (its : Array Value) (n : Nat), K.lookup a = some o ∧ o.cls = .type "list" ∧ o.dict = none ∧ o.data = .seq its n ∧ its.size ≤ sizeLine ∧ Vals xs its.toList
noncomputable def SqT (K : PySem.W.Frag) (H : Hp) (a : Addr) (xs : List V) : Prop :=
  Rd H a (.tup xs) ∨
    ∃ (o : Obj) (its : Array Value) (n : Nat), K.lookup a = some o ∧ o.cls = .type "tuple" ∧ o.data = .seq its n ∧ its.size ≤ sizeLine ∧ Vals xs its.toList
noncomputable def absV : Value → Option V
  | .none => some .non
  | .bool b => some (.bl b)
  | .int i _ => some (.int i)
  | .str x _ => some (.str x)
  | .bytes b _ => some (.byt b)
  | .float b _ => some (.flt b)
  | .ref a => some (.ref a)
  | .type n => some (.ty n)
  | _ => none
theorem RelV.abs {x : V} {u : Value} (r : RelV x u) : absV u = some x := by
  cases x with
  | non => cases r; rfl
  | bl _ => cases r; rfl
  | int _ => obtain ⟨t, rfl⟩ := r; rfl
  | str _ => obtain ⟨t, rfl⟩ := r; rfl
  | byt _ => obtain ⟨t, rfl⟩ := r; rfl
  | flt _ => obtain ⟨t, rfl⟩ := r; rfl
  | ref _ => cases r; rfl
  | ty _ => cases r; rfl
theorem RelV.inj {x y : V} {u : Value} (r : RelV x u) (q : RelV y u) : x = y := Option.some.inj (r.abs.symm.trans q.abs)
theorem Vals.inj : ∀ {xs ys : List V} {us : List Value}, Vals xs us → Vals ys us → xs = ys
  | _, _, _, .nil, .nil => rfl
  | _, _, _, .cons r t, .cons r' t' => by rw [r.inj r', Vals.inj t t']
section
variable {X : Cx} {pins : List (Addr × Obj)} {σ : St} {H : Hp} {s : Shared} {a : Addr} {xs ys : List V}
theorem SqL.of {K : PySem.W.Frag} (h : H a = some (.lst xs)) : SqL K H a xs := .inl (.inl h)
theorem SqT.of {K : PySem.W.Frag} (h : H a = some (.tup xs)) : SqT K H a xs := .inl (.inl h)
theorem Inv.list (I : Inv X pins σ H s) (h : SqL X.K H a xs) : ∃ its : List Value, Vals xs its ∧ PlainL s.heap a its.toArray ∧ xs.length ≤ sizeLine := by
  rcases h with h | ⟨o, its, n, hk, hc, hd, hs, hz, r⟩
  · obtain ⟨z, its, n, r, e⟩ := h.ok I.hok
    exact ⟨its, r, ⟨_, n, e, rfl, rfl, rfl⟩, z⟩
  · refine ⟨its.toList, r, ⟨o, n, I.kIn a o hk, hc, hd, by simpa using hs⟩, ?_⟩
    have e := r.length
    simp only [Array.length_toList] at e
    omega
theorem Inv.tuple (I : Inv X pins σ H s) (h : SqT X.K H a xs) : ∃ its : List Value, Vals xs its ∧ IsTup s.heap a its.toArray ∧ xs.length ≤ sizeLine := by
  rcases h with h | ⟨o, its, n, hk, hc, hs, hz, r⟩
  · obtain ⟨z, its, r, p⟩ := h.ok I.hok
    exact ⟨its, r, p, z⟩
  · refine ⟨its.toList, r, ⟨o, I.kIn a o hk, hc, n, by simpa using hs⟩, ?_⟩
    have e := r.length
    simp only [Array.length_toList] at e
    omega
theorem Inv.list_inj (I : Inv X pins σ H s) (h : SqL X.K H a xs) (h' : SqL X.K H a ys) : xs = ys := by
  obtain ⟨its, r, ⟨o, n, e, _, _, d⟩, _⟩ := I.list h
  obtain ⟨its', r', ⟨o', n', e', _, _, d'⟩, _⟩ := I.list h'
  rw [e] at e'; cases e'
  rw [d] at d'
  injection d' with d1 _
  have : its = its' := by simpa using congrArg Array.toList d1
  subst this
  exact r.inj r'
theorem Inv.tuple_inj (I : Inv X pins σ H s) (h : SqT X.K H a xs) (h' : SqT X.K H a ys) : xs = ys := by
  obtain ⟨its, r, ⟨o, e, _, n, d⟩, _⟩ := I.tuple h
  obtain ⟨its', r', ⟨o', e', _, n', d'⟩, _⟩ := I.tuple h'
  rw [e] at e'; cases e'
  rw [d] at d'
  injection d' with d1 _
  have : its = its' := by simpa using congrArg Array.toList d1
  subst this
  exact r.inj r'
end
noncomputable abbrev Cx.wish (X : Cx) (E : Value → Shared → Prop) : Cx := { X with xe := E }
noncomputable abbrev Cx.nox (X : Cx) : Cx := X.wish fun _ _ => False
theorem Cx.Ok.wish {X : Cx} (ok : X.Ok) (E : Value → Shared → Prop) : (X.wish E).Ok :=
  ⟨ok.mod, ok.kind, ok.glob, ok.blt, ok.above, ok.inj, ok.has, ok.cab, ok.hd, ok.frames, ok.stk, ok.exf, ok.bs, ok.bsz, ok.noex, ok.exfs, ok.funs, ok.frf⟩
theorem Cx.Ok.unwish {X : Cx} {E : Value → Shared → Prop} (ok : (X.wish E).Ok) : X.Ok :=
  ⟨ok.mod, ok.kind, ok.glob, ok.blt, ok.above, ok.inj, ok.has, ok.cab, ok.hd, ok.frames, ok.stk, ok.exf, ok.bs, ok.bsz, ok.noex, ok.exfs, ok.funs, ok.frf⟩
section
variable {X : Cx} {pins : List (Addr × Obj)} {σ : St} {H : Hp} {s : Shared} {E : Value → Shared → Prop}
theorem Inv.wish (I : Inv X pins σ H s) (E : Value → Shared → Prop) : Inv (X.wish E) pins σ H s := ⟨I.ok.wish E, I.os, I.bare, I.base, I.loc, I.cell, I.free, I.freeC, I.pin, I.hok, I.len⟩
theorem Inv.unwish (I : Inv (X.wish E) pins σ H s) : Inv X pins σ H s := ⟨I.ok.unwish, I.os, I.bare, I.base, I.loc, I.cell, I.free, I.freeC, I.pin, I.hok, I.len⟩
theorem SP.unwish {D : Ends} {f : Flow} {s' : Shared} (h : SP (X.wish E) pins D f s') : SP X pins D f s' := by
  cases f with
  | next => obtain ⟨σ', H', I, q⟩ := h; exact ⟨σ', H', I.unwish, q⟩
  | brk => obtain ⟨σ', H', I, q⟩ := h; exact ⟨σ', H', I.unwish, q⟩
  | cont => obtain ⟨σ', H', I, q⟩ := h; exact ⟨σ', H', I.unwish, q⟩
  | ret u => obtain ⟨v, σ', H', I, r, q⟩ := h; exact ⟨v, σ', H', I.unwish, r, q⟩
theorem PSs.nox {st : List Stmt} {t : TS} (h : PSs X.nox st t) : PSs X st t := fun pins s σ H D I hw =>
  wpAny_mono (h pins s σ H D (I.wish _) hw) (fun _ _ q => q.unwish) fun _ _ z => False.elim z
end
section
variable {X : Cx} {st : Stmt} {rest : List Stmt} {t u : TS} {e : Expr} {te : TE} {pos : Pos}
noncomputable def tNext : TS := fun D σ H => D.nx σ H
noncomputable def tSeq (t u : TS) : TS := fun D σ H => t { D with nx := u D } σ H
theorem pss_nil : PSs X [] tNext := fun _ _ σ H _ I h => wpAny_execs_nil ⟨σ, H, I, h⟩
theorem pss_cons (h1 : PS X st t) (h2 : PSs X rest u) : PSs X (st :: rest) (tSeq t u) := by
  intro pins s σ H D I h
  refine wpAny_execs_cons (thn (h1 pins s σ H { D with nx := u D } I h) fun f s1 q => ?_)
  cases f with
  | next =>
    obtain ⟨σ', H', I', q⟩ := q
    exact h2 pins s1 σ' H' D I' q
  | ret v => exact q
  | brk => exact q
  | cont => exact q
theorem pss_one (h1 : PS X st t) : PSs X [st] t := by
  intro pins s σ H D I h
  refine wpAny_execs_cons (thn (h1 pins s σ H D I h) fun f s1 q => ?_)
  cases f with
  | next => exact wpAny_execs_nil q
  | ret v => exact q
  | brk => exact q
  | cont => exact q
theorem Inv.quiet {pins : List (Addr × Obj)} {σ : St} {H : Hp} {s : Shared} (I : Inv X pins σ H s) : interactive X.env = false := by simp [interactive, I.ok.kind]
noncomputable def tDrop (te : TE) : TS := fun D σ H => te σ H fun _ H1 => D.nx σ H1
theorem ps_expr (he : PE X e te) (hs : swapsWith e none pos.line X.env = pure false := by rfl) : PS X (.Expr e pos) (tDrop te) := by
  intro pins s σ H D I h
  exact wpAny_Expr_any (thn (he pins s σ H _ I h) fun v s1 ⟨x, H1, I1, r1, q1⟩ => ⟨σ, H1, I1, q1⟩) I.quiet hs
noncomputable def tRet (te : TE) : TS := fun D σ H => te σ H D.rt
theorem ps_ret (he : PE X e te) : PS X (.Return (some e) pos) (tRet te) := by
  intro pins s σ H D I h
  exact wpAny_Return_some (thn (he pins s σ H _ I h) fun v s1 ⟨x, H1, I1, r1, q1⟩ => ⟨x, σ, H1, I1, r1, q1⟩)
noncomputable def tIfS (c : TT) (t u : TS) : TS := fun D σ H => c σ H fun b H1 => if b = true then t D σ H1 else u D σ H1
theorem ps_if {c : Expr} {a b : List Stmt} {tc : TT} (hc : PT X c tc) (ha : PSs X a t) (hb : PSs X b u) : PS X (.If c a b pos) (tIfS tc t u) := by
  intro pins s σ H D I h
  refine wpAny_If (thn (hc pins s σ H _ I h) fun d s1 ⟨H1, I1, q1⟩ => ?_)
  cases d with
  | true => exact ha pins s1 σ H1 D I1 q1
  | false => exact hb pins s1 σ H1 D I1 q1
noncomputable def tNever : TS := fun _ _ _ => False
theorem ps_never : PS X st tNever := fun _ _ _ _ _ _ h => h.elim
end
noncomputable abbrev TG := V → St → Hp → (St → Hp → Prop) → Prop
noncomputable abbrev TGs := List V → St → Hp → (St → Hp → Prop) → Prop
noncomputable def PG (X : Cx) (target : Expr) (t : TG) : Prop :=
  ∀ (pins : List (Addr × Obj)) (s : Shared) (σ : St) (H : Hp) (v : V) (u : Value) (Q : St → Hp → Prop), Inv X pins σ H s → RelV v u → t v σ H Q →
    wpAny (model X.prog X.w) X.A (assign target X.env u) (fun _ s' => ∃ σ' H', Inv X pins σ' H' s' ∧ Q σ' H') X.xe s
noncomputable def PGs (X : Cx) (ts : List Expr) (t : TGs) : Prop :=
  ∀ (pins : List (Addr × Obj)) (s : Shared) (σ : St) (H : Hp) (vs : List V) (us : List Value) (Q : St → Hp → Prop), Inv X pins σ H s → Vals vs us → t vs σ H Q →
    wpAny (model X.prog X.w) X.A (assignInOrder ((assignEach ts X.env).map (·.2)) us) (fun _ s' => ∃ σ' H', Inv X pins σ' H' s' ∧ Q σ' H') X.xe s
noncomputable abbrev TIp := V → V → Hp → VK → Prop
noncomputable def PIp (X : Cx) (op : Operator) (t : TIp) : Prop :=
  ∀ (pins : List (Addr × Obj)) (s : Shared) (σ : St) (H : Hp) (x y : V) (v u : Value) (Q : VK), Inv X pins σ H s → RelV x v → RelV y u → t x y H Q →
    wpAny (model X.prog X.w) X.A (inplaceOp op v u) (EP X pins σ Q) X.xe s
section
variable {X : Cx} {pos : Pos}
noncomputable def gName (i : Nat) : TG := fun v σ H Q => Q (σ.set i (some v)) H
theorem pg_name {i : Nat} {x : Str} (hN : X.N.Nodup) (hi : X.N[i]? = some x) (hx : Loc X.env.scope x) (hf : X.fn x = true ∨ X.env.scope.names.lookup x = some .local := by first | exact .inl rfl | exact .inr rfl | assumption) : PG X (.Name x pos) (gName i) := by
  intro pins s σ H v u Q I r h
  exact wpAny_assign_Name (store_ok I hN hi hx r (fun s' I' => ⟨_, H, I', h⟩) hf)
noncomputable def gNil : TGs := fun vs σ H Q => vs = [] ∧ Q σ H
noncomputable def gCons (t : TG) (u : TGs) : TGs := fun vs σ H Q => ∃ v r, vs = v :: r ∧ t v σ H fun σ' H' => u r σ' H' Q
theorem pgs_nil : PGs X [] gNil := by
  intro pins s σ H vs us Q I r h
  obtain ⟨e, h⟩ := h
  subst e
  cases r
  exact assignInOrder_nil ⟨σ, H, I, h⟩
theorem pgs_cons {e : Expr} {es : List Expr} {t : TG} {u : TGs} (h1 : PG X e t) (h2 : PGs X es u)
    (hs : (assignEach (e :: es) X.env).map (·.2) = assign e X.env :: (assignEach es X.env).map (·.2) := by rfl) : PGs X (e :: es) (gCons t u) := by
  intro pins s σ H vs us Q I r h
  obtain ⟨v, vr, e1, h⟩ := h
  subst e1
  cases r with
  | cons r rr =>
    rw [hs]
    refine assignInOrder_cons (thn (h1 pins s σ H _ _ _ I r h) fun _ s1 ⟨σ1, H1, I1, q1⟩ => ?_)
    exact h2 pins s1 σ1 H1 _ _ Q I1 rr q1
noncomputable def gTup (K : PySem.W.Frag) (n : Nat) (t : TGs) : TG := fun v σ H Q => ∃ a xs, v = .ref a ∧ SqT K H a xs ∧ xs.length = n ∧ t xs σ H Q
theorem pg_tup {es : List Expr} {k : Nat} {t : TGs} {n : Nat} (hc : X.calm = true) (h : PGs X es t)
    (hn : (assignEach es X.env).length = n := by rfl) (hst : (assignEach es X.env).findIdx? (·.1) = none := by rfl) : PG X (.Tuple es k pos) (gTup X.K n t) := by
  intro pins s σ H v u Q I r hw
  obtain ⟨a, xs, e1, hq, hl, hw⟩ := hw
  subst e1
  cases r
  obtain ⟨its, rv, ht, hz⟩ := I.tuple hq
  refine assign_Tuple_tuple (I.ok.hd hc) ht (by simp [hn, ← hl, rv.length]) hst fun h' hx => ?_
  have I1 : Inv X pins σ H { s with heap := h' } := I.kept (t' := s.toks) fun b o e => hx b o (Nat.ne_of_lt (Heap.lt_size e)) e
  exact h pins _ σ H xs _ Q I1 (by simpa using rv) hw
noncomputable def tAsg (te : TE) (g : TG) : TS := fun D σ H => te σ H fun x H1 => g x σ H1 D.nx
theorem ps_set {i : Nat} {x : Str} {e : Expr} {te : TE} {pos' : Pos} (hN : X.N.Nodup) (hi : X.N[i]? = some x) (hx : Loc X.env.scope x) (he : PE X e te) (hs : swapsWith e (some (.Name x pos')) pos.line X.env = pure false := by rfl) (hf : X.fn x = true ∨ X.env.scope.names.lookup x = some .local := by first | exact .inl rfl | exact .inr rfl | assumption) :
    PS X (.Assign [.Name x pos'] e pos) (tAsg te (gName i)) := by
  intro pins s σ H D I h
  refine wpAny_Assign_Name (thn (he pins s σ H _ I h) fun v s1 ⟨y, H1, I1, r1, q1⟩ => ?_) hs
  exact store_ok I1 hN hi hx r1 (fun s2 I2 => ⟨_, H1, I2, q1⟩) hf
noncomputable def tAug (i : Nat) (te : TE) (ti : TIp) : TS := fun D σ H => ∃ x, σ[i]? = some (some x) ∧ te σ H fun y H1 => ti x y H1 fun z H2 => D.nx (σ.set i (some z)) H2
theorem ps_aug {i : Nat} {x : Str} {e : Expr} {te : TE} {op : Operator} {ti : TIp} {pos' : Pos} (hN : X.N.Nodup) (hi : X.N[i]? = some x) (hx : Loc X.env.scope x) (he : PE X e te) (ho : PIp X op ti) (hf : X.fn x = true ∨ X.env.scope.names.lookup x = some .local := by first | exact .inl rfl | exact .inr rfl | assumption) :
    PS X (.AugAssign (.Name x pos') op e pos) (tAug i te ti) := by
  intro pins s σ H D I h
  obtain ⟨v, e1, h⟩ := h
  obtain ⟨m, hn, hl⟩ := I.loc
  have vis : Vis X.env.scope x := by rcases hx with k | k; exact .inl k; exact .inr (.inl k)
  obtain ⟨u, r, l⟩ := hl i x v hi e1 vis
  refine wpAny_AugAssign_Name ?_
  have go : wpAny (model X.prog X.w) X.A (eval e X.env) (fun w s₂ => wpAny (model X.prog X.w) X.A (inplaceOp op u w) (fun r s₃ => wpAny (model X.prog X.w) X.A (storeName X.env x r) (fun _ => SP X pins D .next) X.xe s₃) X.xe s₂) X.xe s := by
    refine thn (he pins s σ H _ I h) fun w s1 ⟨y, H1, I1, r1, q1⟩ => ?_
    refine thn (ho pins s1 σ H1 v y u w _ I1 r r1 q1) fun z s2 ⟨zv, H2, I2, r2, q2⟩ => ?_
    exact store_ok I2 hN hi hx r2 (fun s3 I3 => ⟨_, H2, I3, q2⟩) hf
  rcases l with ⟨hk, hm⟩ | ⟨hk, c, hc, hcell⟩
  · exact wpAny_loadName_local I.ok.kind hk hn hm go
  · rcases hk with hk | hk
    · exact wpAny_loadName_cell I.ok.kind hk hc hcell go
    · rcases hx with k | k
      · have : X.env.scope.names.lookup x = some .free := hk
        rw [k] at this; cases this
      · have : X.env.scope.names.lookup x = some .free := hk
        rw [k] at this; cases this
noncomputable def ipI (f : Int → Int → Int) : TIp := fun x y H Q => ∃ i j, x = .int i ∧ y = .int j ∧ Q (.int (f i j)) H
theorem ip_add : PIp X .Add (ipI fun i j => i + j) := by
  intro pins s σ H x y v u Q I r1 r2 h
  obtain ⟨i, j, e1, e2, q⟩ := h
  subst e1; subst e2
  obtain ⟨t, rfl⟩ := r1
  obtain ⟨t', rfl⟩ := r2
  exact iadd_int ⟨.int _, H, I.tok _, ⟨_, rfl⟩, q⟩
end
section
variable {X : Cx} {pos : Pos}
noncomputable def tWhile (c : TT) (tb : TS) : TS := fun D σ H => ∃ W : Nat → St → Hp → Prop, (∃ m, W m σ H) ∧ ∀ m σ H, W m σ H →
  c σ H fun b H1 => if b = true then ∃ N : St → Hp → Prop, (∀ σ' H', N σ' H' → ∃ m', m' < m ∧ W m' σ' H') ∧ tb { D with nx := N, ct := N, bk := D.nx } σ H1 else D.nx σ H1
theorem ps_while {c : Expr} {body : List Stmt} {tc : TT} {tb : TS} (hp : PassesOwn (model X.prog X.w) X.A X.env X.xe) (hc : PT X c tc) (hb : PSs X body tb) : PS X (.While c body [] pos) (tWhile tc tb) := by
  intro pins s σ H D I h
  obtain ⟨W, ⟨m0, w0⟩, turn⟩ := h
  refine wpAny_While (codeAny_whileLoop (fun n s' => ∃ σ' H', Inv X pins σ' H' s' ∧ W n σ' H') ?_ m0 ⟨σ, H, I, w0⟩)
  rintro n s1 ⟨σ1, H1, I1, w1⟩
  refine wpAny_passesOwn hp (thn (hc pins s1 σ1 H1 _ I1 (turn n σ1 H1 w1)) fun b s2 ⟨H2, I2, q2⟩ => ?_)
  cases b with
  | true =>
    obtain ⟨N, hN, q2⟩ := q2
    rw [if_pos rfl]
    refine wpAny_passesOwn hp (thn (hb pins s2 σ1 H2 _ I2 q2) fun f s3 q3 => ?_)
    cases f with
    | next =>
      obtain ⟨σ3, H3, I3, n3⟩ := q3
      obtain ⟨m', hm, w3⟩ := hN σ3 H3 n3
      exact ⟨m', hm, σ3, H3, I3, w3⟩
    | cont =>
      obtain ⟨σ3, H3, I3, n3⟩ := q3
      obtain ⟨m', hm, w3⟩ := hN σ3 H3 n3
      exact ⟨m', hm, σ3, H3, I3, w3⟩
    | brk => exact q3
    | ret v => exact q3
  | false =>
    rw [if_neg Bool.false_ne_true]
    exact wpAny_execs_nil ⟨σ1, H2, I2, q2⟩
end
structure It where
  go : Nat → Hp → Prop
  yld : Nat → Hp → V → Hp → Prop
  stop : Nat → Hp → Prop
noncomputable def FpOk (X : Cx) (pins : List (Addr × Obj)) (H : Hp) (b : Addr) : Prop :=
  H b = none ∧ b ≠ X.env.locals ∧ b ∉ X.fs ∧ (b ∈ X.ex ∨ X.s₀.heap.objs.size ≤ b) ∧ (∀ x c, X.env.cells.lookup x = some c → c ≠ b) ∧ ∀ p ∈ X.pn ++ pins, p.1 ≠ b
theorem Inv.fpOk {X : Cx} {pins : List (Addr × Obj)} {σ : St} {H H' : Hp} {s : Shared} {b : Addr} (I : Inv X pins σ H s) (hb : s.heap.objs.size ≤ b) (hn : H' b = none) : FpOk X pins H' b := by
  refine ⟨hn, Nat.ne_of_gt (Nat.lt_of_lt_of_le I.lt hb), I.nofs hb, .inr (Nat.le_trans I.sz hb), fun x c e z => ?_, fun p hp z => ?_⟩
  · obtain ⟨v, q⟩ := I.cell x c e
    exact absurd (Nat.lt_of_lt_of_le q.lt (by rw [z]; exact hb)) (Nat.lt_irrefl _)
  · exact absurd (Nat.lt_of_lt_of_le (Heap.lt_size (I.pin p hp).1) (by rw [z]; exact hb)) (Nat.lt_irrefl _)
structure Turn (P : Program) (w : World) (K : PySem.W.Frag) (tg : Expr) (J : It) (fp : List Addr) (it : Addr) (tn : Nat → Heap → Prop) : Prop where
  mem : it ∈ fp
  obj : ∀ i h, tn i h → ∀ b ∈ fp, ∃ o, h.get? b = some o ∧ ∀ v, o.data ≠ .cell v
  keep : ∀ i h h', tn i h → (∀ b ∈ fp, ∀ o, h.get? b = some o → h'.get? b = some o) → tn i h'
  item : ∀ (X : Cx), X.prog = P → X.w = w → X.K = K → X.calm = true → ∀ (i : Nat) (pins : List (Addr × Obj)) (s : Shared) (σ : St) (H : Hp) (E : Value → Shared → Prop), Inv X pins σ H s → (∀ b ∈ fp, FpOk X pins H b) → tn i s.heap → J.go i H →
    wpAny (model P w) X.A (pyNext (.ref it)) (fun r s1 => ∃ u, r = some u ∧
      wpAny (model P w) X.A (letOwnedTupleGo tg (.ref it) u) (fun _ s2 => ∃ x H', Inv X pins σ H' s2 ∧ RelV x u ∧ J.yld i H x H' ∧ tn (i + 1) s2.heap ∧ ∀ b ∈ fp, H' b = none) E s1) E s
  done : ∀ (X : Cx), X.prog = P → X.w = w → X.K = K → X.calm = true → ∀ (i : Nat) (pins : List (Addr × Obj)) (s : Shared) (σ : St) (H : Hp) (E : Value → Shared → Prop), Inv X pins σ H s → (∀ b ∈ fp, FpOk X pins H b) → tn i s.heap → J.stop i H →
    wpAny (model P w) X.A (pyNext (.ref it)) (fun r s1 => r = none ∧ Inv X pins σ H s1) E s
  self : ∀ (A : Around) (i : Nat) (s : Shared) (Q : Value → Shared → Prop) (E : Value → Shared → Prop), tn i s.heap → Q (.ref it) s → wpAny (model P w) A (pyIter (.ref it)) Q E s
noncomputable abbrev TI := St → Hp → (It → Hp → Prop) → Prop
noncomputable def PIE (X : Cx) (pins : List (Addr × Obj)) (σ : St) (tg : Expr) (R : It → Hp → Prop) (itv : Value) (s2 : Shared) : Prop :=
  ∃ (it : Addr) (fp : List Addr) (tn : Nat → Heap → Prop) (J : It) (H' : Hp), itv = .ref it ∧ Inv X pins σ H' s2 ∧ Turn X.prog X.w X.K tg J fp it tn ∧ tn 0 s2.heap ∧ (∀ b ∈ fp, FpOk X pins H' b) ∧ R J H'
noncomputable def PI (X : Cx) (tg iter : Expr) (wi : TI) : Prop :=
  ∀ (pins : List (Addr × Obj)) (s : Shared) (σ : St) (H : Hp) (R : It → Hp → Prop), Inv X pins σ H s → wi σ H R →
    wpAny (model X.prog X.w) X.A (eval iter X.env) (fun v s1 => wpAny (model X.prog X.w) X.A (pyIter v) (PIE X pins σ tg R) X.xe s1) X.xe s
theorem go_of {M : Model} {A : Around} {E : Value → Shared → Prop} {s : Shared} {tg : Expr} {it : Addr} {u : Value} {o : Obj} {n : String} {vs : Array Value} {Q : Unit → Shared → Prop} (ho : s.heap.get? it = some o) (hc : o.cls = .type n) (hd : o.data = .fields vs)
    (hn : ["enumerate", "zip", "dict_itemiterator", "dict_reverseitemiterator", "odict_iterator", "itertools.zip_longest", "itertools.pairwise"].contains n = false) (hQ : Q () s) : wpAny M A (letOwnedTupleGo tg (.ref it) u) Q E s := by
  unfold letOwnedTupleGo
  cases tg <;> first
    | exact wpAny_pure hQ
    | (cases u <;> first
        | exact wpAny_pure hQ
        | (refine wpAny_bind (wpAny_load ho ?_)
           rw [hc, hd]
           show wpAny M A (if (["enumerate", "zip", "dict_itemiterator", "dict_reverseitemiterator", "odict_iterator", "itertools.zip_longest", "itertools.pairwise"].contains n && vs[0]? == some (rawInt _)) = true then _ else _) Q E s
           rw [if_neg (by intro h; rw [hn, Bool.false_and] at h; cases h)]
           exact wpAny_pure hQ))
noncomputable def Itl (K : PySem.W.Frag) (a : Addr) : It :=
  ⟨fun i H => ∃ xs x, SqL K H a xs ∧ xs[i]? = some x, fun i H x H' => H' = H ∧ ∀ xs, SqL K H a xs → xs[i]? = some x, fun i H => ∃ xs, SqL K H a xs ∧ xs.length ≤ i⟩
noncomputable def Itt (K : PySem.W.Frag) (a : Addr) : It :=
  ⟨fun i H => ∃ xs x, SqT K H a xs ∧ xs[i]? = some x, fun i H x H' => H' = H ∧ ∀ xs, SqT K H a xs → xs[i]? = some x, fun i H => ∃ xs, SqT K H a xs ∧ xs.length ≤ i⟩
noncomputable def Itr (lo : Int) (n : Nat) : It := ⟨fun i _ => i < n, fun i H x H' => H' = H ∧ x = .int (lo + i), fun i _ => n ≤ i⟩
theorem turn_list {P : Program} {w : World} {K : PySem.W.Frag} {tg : Expr} (a it : Addr) : Turn P w K tg (Itl K a) [it] it (fun i h => h.IsListIter it a i) where
  mem := by simp
  obj := fun i h st b hb => by
    have e : b = it := by simpa using hb
    subst e
    obtain ⟨o, e, c, d⟩ := st
    exact ⟨o, e, fun v z => by rw [d] at z; cases z⟩
  keep := fun i h h' st k => st.at fun o e => k it (by simp) o e
  item := by
    intro X hP hw hK hc i pins s σ H E I hf st hg
    subst hP hw hK
    obtain ⟨xs, x, hq, hx⟩ := hg
    obtain ⟨its, rv, p, hz⟩ := I.list hq
    obtain ⟨u, hu, ru⟩ := rv.get hx
    obtain ⟨f0, f1, f2, f3, f4, f5⟩ := hf it (by simp)
    refine wpAny_pyNext_list_item st p.isList (x := u) (by simpa using hu) fun h' st' sb => ?_
    have I1 : Inv X pins σ H { s with heap := h' } := I.turned (t' := s.toks) (fun b o hb e => (sb.2 b hb).trans e) f0 f1 f3 f4 f5
    obtain ⟨o, e, c, d⟩ := id st'
    exact ⟨u, rfl, go_of (s := { s with heap := h' }) e c d (by decide) ⟨x, H, I1, ru, ⟨rfl, fun ys hy => by rw [I.list_inj hy hq]; exact hx⟩, st', fun b hb => (hf b hb).1⟩⟩
  done := by
    intro X hP hw hK hc i pins s σ H E I hf st hg
    subst hP hw hK
    obtain ⟨xs, hq, hx⟩ := hg
    obtain ⟨its, rv, p, hz⟩ := I.list hq
    obtain ⟨f0, f1, f2, f3, f4, f5⟩ := hf it (by simp)
    have hl := rv.length
    exact wpAny_pyNext_list_end (I.ok.hd hc) st p.isList (by simp; omega) fun h' eb => ⟨rfl, I.turned (t' := s.toks) (fun b o hb e => eb b o hb e) f0 f1 f3 f4 f5⟩
  self := fun _ _ _ _ _ st h => wpAny_pyIter_listiter st h
theorem turn_tuple {P : Program} {w : World} {K : PySem.W.Frag} {tg : Expr} (a it : Addr) : Turn P w K tg (Itt K a) [it] it (fun i h => h.IsTupleIter it a i) where
  mem := by simp
  obj := fun i h st b hb => by
    have e : b = it := by simpa using hb
    subst e
    obtain ⟨o, e, c, d⟩ := st
    exact ⟨o, e, fun v z => by rw [d] at z; cases z⟩
  keep := fun i h h' st k => st.at fun o e => k it (by simp) o e
  item := by
    intro X hP hw hK hc i pins s σ H E I hf st hg
    subst hP hw hK
    obtain ⟨xs, x, hq, hx⟩ := hg
    obtain ⟨its, rv, p, hz⟩ := I.tuple hq
    obtain ⟨u, hu, ru⟩ := rv.get hx
    obtain ⟨f0, f1, f2, f3, f4, f5⟩ := hf it (by simp)
    refine wpAny_pyNext_tuple_item st (show s.heap.IsTuple a its.toArray from p) (x := u) (by simpa using hu) fun h' st' sb => ?_
    have I1 : Inv X pins σ H { s with heap := h' } := I.turned (t' := s.toks) (fun b o hb e => (sb.2 b hb).trans e) f0 f1 f3 f4 f5
    obtain ⟨o, e, c, d⟩ := id st'
    exact ⟨u, rfl, go_of (s := { s with heap := h' }) e c d (by decide) ⟨x, H, I1, ru, ⟨rfl, fun ys hy => by rw [I.tuple_inj hy hq]; exact hx⟩, st', fun b hb => (hf b hb).1⟩⟩
  done := by
    intro X hP hw hK hc i pins s σ H E I hf st hg
    subst hP hw hK
    obtain ⟨xs, hq, hx⟩ := hg
    obtain ⟨its, rv, p, hz⟩ := I.tuple hq
    obtain ⟨f0, f1, f2, f3, f4, f5⟩ := hf it (by simp)
    have hl := rv.length
    exact wpAny_pyNext_tuple_end (I.ok.hd hc) st (show s.heap.IsTuple a its.toArray from p) (by simp; omega) fun h' eb => ⟨rfl, I.turned (t' := s.toks) (fun b o hb e => eb b o hb e) f0 f1 f3 f4 f5⟩
  self := fun _ _ _ _ _ st h => wpAny_pyIter_tupleiter st h
theorem turn_range {P : Program} {w : World} {K : PySem.W.Frag} {tg : Expr} (it : Addr) (lo : Int) (n : Nat) : Turn P w K tg (Itr lo n) [it] it (fun i h => IsRangeIter h it (lo + (i : Nat) * 1) ((n : Int) - (i : Nat)) 1) where
  mem := by simp
  obj := fun i h st b hb => by
    have e : b = it := by simpa using hb
    subst e
    exact ⟨_, st, fun v z => by
      have z' : Data.fields _ = Data.cell v := z
      cases z'⟩
  keep := fun i h h' st k => k it (by simp) _ st
  item := by
    intro X hP hw hK hc i pins s σ H E I hf st hg
    subst hP hw hK
    obtain ⟨f0, f1, f2, f3, f4, f5⟩ := hf it (by simp)
    have W := Walks.range (prog := X.prog) (w := X.w) (I.ok.hd hc) it lo 1 n
    refine W.item i s _ _ hg st fun v h' tk hv st' kk => ?_
    obtain ⟨t, rfl⟩ := hv
    have I1 : Inv X pins σ H { s with heap := h', toks := tk } := I.turned (fun b o hb e => kk b o (by simpa using hb) e) f0 f1 f3 f4 f5
    refine ⟨_, rfl, go_of (s := { s with heap := h', toks := tk }) (n := "range_iterator") st' rfl rfl (by decide) ⟨.int (lo + i), H, I1, ⟨t, ?_⟩, ⟨rfl, rfl⟩, st', fun b hb => (hf b hb).1⟩⟩
    rw [Int.mul_one]
  done := by
    intro X hP hw hK hc i pins s σ H E I hf st hg
    subst hP hw hK
    obtain ⟨f0, f1, f2, f3, f4, f5⟩ := hf it (by simp)
    exact wpAny_pyNext_range_end (I.ok.hd hc) st (by have : n ≤ i := hg; omega) fun h' eb => ⟨rfl, I.turned (t' := s.toks) (fun b o hb e => eb b o hb e) f0 f1 f3 f4 f5⟩
  self := fun _ _ _ _ _ st h => wpAny_pyIter_rangeiter st h
end L2
namespace L2
open PySem PySem.Spec PyProof.Rows
section
variable {X : Cx} {tg : Expr}
noncomputable def iList (K : PySem.W.Frag) (tl : TE) : TI := fun σ H R => tl σ H fun x H1 => ∃ a, x = .ref a ∧ (∃ xs, SqL K H1 a xs) ∧ R (Itl K a) H1
noncomputable def iTup (K : PySem.W.Frag) (tl : TE) : TI := fun σ H R => tl σ H fun x H1 => ∃ a, x = .ref a ∧ (∃ xs, SqT K H1 a xs) ∧ R (Itt K a) H1
theorem pi_list {l : Expr} {tl : TE} (hl : PE X l tl) : PI X tg l (iList X.K tl) := by
  intro pins s σ H R I h
  refine thn (hl pins s σ H _ I h) fun v s1 ⟨x, H1, I1, r1, q1⟩ => ?_
  obtain ⟨a, e, ⟨xs, hq⟩, q⟩ := q1
  subst e
  cases r1
  obtain ⟨its, rv, p, hz⟩ := I1.list hq
  refine wpAny_pyIter_list p.isList ?_
  refine ⟨s1.heap.objs.size, [s1.heap.objs.size], _, _, H1, rfl, I1.kept (t' := s1.toks) fun b o e => Heap.get?_push_of_some _ e, turn_list a _, ⟨_, Heap.get?_push_size _ rfl, rfl, rfl⟩, fun b hb => ?_, q⟩
  have e : b = s1.heap.objs.size := by simpa using hb
  subst e
  exact I1.fpOk (Nat.le_refl _) (I1.hok.fresh (Nat.le_refl _))
theorem pi_tup {l : Expr} {tl : TE} (hl : PE X l tl) : PI X tg l (iTup X.K tl) := by
  intro pins s σ H R I h
  refine thn (hl pins s σ H _ I h) fun v s1 ⟨x, H1, I1, r1, q1⟩ => ?_
  obtain ⟨a, e, ⟨xs, hq⟩, q⟩ := q1
  subst e
  cases r1
  obtain ⟨its, rv, p, hz⟩ := I1.tuple hq
  refine wpAny_pyIter_tuple (show s1.heap.IsTuple a its.toArray from p) ?_
  refine ⟨s1.heap.objs.size, [s1.heap.objs.size], _, _, H1, rfl, I1.kept (t' := s1.toks) fun b o e => Heap.get?_push_of_some _ e, turn_tuple a _, ⟨_, Heap.get?_push_size _ rfl, rfl, rfl⟩, fun b hb => ?_, q⟩
  have e : b = s1.heap.objs.size := by simpa using hb
  subst e
  exact I1.fpOk (Nat.le_refl _) (I1.hok.fresh (Nat.le_refl _))
theorem range_it {pins : List (Addr × Obj)} {σ : St} {H : Hp} {s : Shared} {R : It → Hp → Prop} {E : Value → Shared → Prop} {lo hi : Int} {t u v : Tok} {tk : Nat} (I : Inv X pins σ H s) (h1 : -(2 ^ 62) ≤ lo) (h2 : lo < 2 ^ 62) (h3 : -(2 ^ 62) ≤ hi) (h4 : hi < 2 ^ 62)
    (q : R (Itr lo (hi - lo).toNat) H) : wpAny (model X.prog X.w) X.A (pyIter (.ref s.heap.objs.size)) (PIE X pins σ tg R) E { s with heap := s.heap.push { cls := .type "range", data := .fields #[.int lo t, .int hi u, .int 1 v] }, toks := tk } := by
  refine wpAny_pyIter_range (IsRange.new ..) (small_one h1 h2 h3 h4) ?_
  have I1 : Inv X pins σ H { s with heap := s.heap.push { cls := .type "range", data := .fields #[.int lo t, .int hi u, .int 1 v] }, toks := tk } := I.kept fun b o e => Heap.get?_push_of_some _ e
  refine ⟨(s.heap.push { cls := .type "range", data := .fields #[.int lo t, .int hi u, .int 1 v] }).objs.size, [(s.heap.push { cls := .type "range", data := .fields #[.int lo t, .int hi u, .int 1 v] }).objs.size], _, _, H, rfl,
    I1.kept (t' := tk) fun b o e => Heap.get?_push_of_some _ e, turn_range _ lo (hi - lo).toNat, ?_, fun b hb => ?_, q⟩
  · have e1 : lo + ((0 : Nat) : Int) * 1 = lo := by simp
    have e2 : (((hi - lo).toNat : Nat) : Int) - ((0 : Nat) : Int) = Builtin.Range.rangeSize lo hi 1 := by rw [rangeSize_one]; split <;> omega
    show IsRangeIter _ _ (lo + ((0 : Nat) : Int) * 1) ((((hi - lo).toNat : Nat) : Int) - ((0 : Nat) : Int)) 1
    rw [e1, e2]
    exact Heap.get?_push_size _ rfl
  · have e : b = (s.heap.push { cls := .type "range", data := .fields #[.int lo t, .int hi u, .int 1 v] }).objs.size := by simpa using hb
    subst e
    exact I1.fpOk (Nat.le_refl _) (I1.hok.fresh (Nat.le_refl _))
noncomputable def iRng1 (ta : TA) : TI := fun σ H R => ta σ H fun vs H1 => ∃ j : Int, vs = [.int j] ∧ -(2 ^ 62) ≤ j ∧ j < 2 ^ 62 ∧ R (Itr 0 j.toNat) H1
theorem pi_range1 {a : Expr} {ta : TA} {p pos : Pos} (hg : Gl X "range") (hm : X.mg "range" = none) (ha : PA X [a] ta) (hs : starEach [a] X.env = [(false, eval a X.env)] := by rfl) : PI X tg (.Call (.Name "range" p) [a] [] pos) (iRng1 ta) := by
  intro pins s σ H R I h
  refine Call_ (ld_blt I hg hm boot_range (PyProof.Rows.callWith_type1 (thn (ha pos pins s σ H _ I h) fun us s1 ⟨vs, H1, I1, r1, q1⟩ => ?_) hs rfl))
  obtain ⟨j, e, q1, q2, q⟩ := q1
  subst e
  cases r1 with
  | cons r rr =>
    cases rr
    obtain ⟨t, rfl⟩ := r
    exact call_range_1 (range_it I1 (by omega) (by omega) q1 q2 (by simpa using q))
noncomputable def tFor (wi : TI) (g : TG) (tb : TS) : TS := fun D σ H => wi σ H fun J H1 => ∃ W : Nat → Nat → St → Hp → Prop, (∃ m, W 0 m σ H1) ∧ ∀ i m σ H, W i m σ H →
  (J.stop i H ∧ D.nx σ H) ∨ (J.go i H ∧ ∃ N : St → Hp → Prop, (∀ σ' H', N σ' H' → ∃ m', m' < m ∧ W (i + 1) m' σ' H') ∧ ∀ x H', J.yld i H x H' → g x σ H' fun σ2 H2 => tb { D with nx := N, ct := N, bk := D.nx } σ2 H2)
noncomputable def pinsAt (fp : List Addr) (h : Heap) : List (Addr × Obj) := fp.filterMap fun b => (h.get? b).map fun o => (b, o)
theorem mem_pinsAt {fp : List Addr} {h : Heap} {b : Addr} {o : Obj} (hb : b ∈ fp) (e : h.get? b = some o) : (b, o) ∈ pinsAt fp h := List.mem_filterMap.mpr ⟨b, hb, by rw [e]; rfl⟩
theorem of_pinsAt {fp : List Addr} {h : Heap} {p : Addr × Obj} (hp : p ∈ pinsAt fp h) : p.1 ∈ fp ∧ h.get? p.1 = some p.2 := by
  obtain ⟨b, hb, e⟩ := List.mem_filterMap.mp hp
  cases q : h.get? b with
  | none => rw [q] at e; cases e
  | some o =>
    rw [q] at e
    have e' : (b, o) = p := Option.some.inj e
    subst e'
    exact ⟨hb, q⟩
theorem Inv.pinned {pins : List (Addr × Obj)} {σ : St} {H : Hp} {s : Shared} {fp : List Addr} (I : Inv X pins σ H s) (hf : ∀ b ∈ fp, FpOk X pins H b) (ho : ∀ b ∈ fp, ∃ o, s.heap.get? b = some o ∧ ∀ v, o.data ≠ .cell v) : Inv X (pins ++ pinsAt fp s.heap) σ H s :=
  I.pins_of fun p hp => (List.mem_append.mp hp).elim (fun z => I.pin p (List.mem_append_right _ z)) fun z => by
    obtain ⟨hb, e⟩ := of_pinsAt z
    obtain ⟨f0, f1, f2, _⟩ := hf p.1 hb
    obtain ⟨o, e', d⟩ := ho p.1 hb
    rw [e] at e'; cases e'
    exact ⟨e, f0, f1, f2, d⟩
theorem Inv.unpinned {pins pl : List (Addr × Obj)} {σ : St} {H : Hp} {s : Shared} (I : Inv X (pins ++ pl) σ H s) : Inv X pins σ H s := I.pins_of fun p hp => I.pin p (List.mem_append_right _ (List.mem_append_left _ hp))
theorem ps_for {iter : Expr} {body : List Stmt} {wi : TI} {g : TG} {tb : TS} {pos : Pos} (hp : PassesOwn (model X.prog X.w) X.A X.env X.xe) (hc : X.calm = true) (hi : PI X tg iter wi) (hg : PG X tg g) (hb : PSs X body tb)
    (hs : ∀ x, foldedSetIterable iter X.env x = pure x := by intro _; rfl) : PS X (.For tg iter body [] pos) (tFor wi g tb) := by
  intro pins s σ H D I h
  refine wpAny_For (thn (hi pins s σ H _ I h) fun v s1 h1 => thn h1 fun itv s2 h2 => ?_) hs
  obtain ⟨it, fp, tn, J, H2, e, I2, T, st2, f2, W, ⟨m0, w0⟩, turn⟩ := h2
  subst e
  have stat : ∀ {H' : Hp}, (∀ b ∈ fp, H' b = none) → ∀ b ∈ fp, FpOk X pins H' b := fun hn b hb => ⟨hn b hb, (f2 b hb).2⟩
  refine codeAny_forLoop_any (fun n s' => ∃ i σ' H', Inv X pins σ' H' s' ∧ tn i s'.heap ∧ (∀ b ∈ fp, H' b = none) ∧ W i n σ' H') ?_ m0 ⟨0, σ, H2, I2, st2, fun b hb => (f2 b hb).1, w0⟩
  rintro n s3 ⟨i, σ3, H3, I3, st3, fr3, w3⟩
  rcases turn i n σ3 H3 w3 with ⟨stop, qn⟩ | ⟨go, N, hN, step⟩
  · refine wpAny_passesOwn hp (thn (T.done X rfl rfl rfl hc i pins s3 σ3 H3 X.xe I3 (stat fr3) st3 stop) fun r s4 ⟨hr, I4⟩ => ?_)
    subst hr
    exact wpAny_execs_nil ⟨σ3, H3, I4, qn⟩
  · refine wpAny_passesOwn hp (thn (T.item X rfl rfl rfl hc i pins s3 σ3 H3 X.xe I3 (stat fr3) st3 go) fun r s4 ⟨u, hr, h4⟩ => ?_)
    subst hr
    refine wpAny_passesOwn hp (thn h4 fun _ s5 ⟨x, H5, I5, r5, y5, st5, fr5⟩ => ?_)
    have I5' := I5.pinned (stat fr5) (T.obj _ _ st5)
    refine wpAny_passesOwn hp (thn (hg _ s5 σ3 H5 x u _ I5' r5 (step x H5 y5)) fun _ s6 ⟨σ6, H6, I6, q6⟩ => ?_)
    refine wpAny_passesOwn hp (thn (hb _ s6 σ6 H6 _ I6 q6) fun f s7 q7 => ?_)
    have again : ∀ {σ7 : St} {H7 : Hp}, Inv X (pins ++ pinsAt fp s5.heap) σ7 H7 s7 → N σ7 H7 → ∃ m, m < n ∧ ∃ i σ' H', Inv X pins σ' H' s7 ∧ tn i s7.heap ∧ (∀ b ∈ fp, H' b = none) ∧ W i m σ' H' := fun {σ7 H7} I7 n7 => by
      obtain ⟨m', hm, w7⟩ := hN σ7 H7 n7
      refine ⟨m', hm, i + 1, σ7, H7, I7.unpinned, T.keep _ _ _ st5 fun b hb o e => (I7.pin (b, o) (List.mem_append_right _ (List.mem_append_right _ (mem_pinsAt hb e)))).1, fun b hb => ?_, w7⟩
      obtain ⟨o, e, d⟩ := T.obj _ _ st5 b hb
      exact (I7.pin (b, o) (List.mem_append_right _ (List.mem_append_right _ (mem_pinsAt hb e)))).2.1
    cases f with
    | next => obtain ⟨σ7, H7, I7, n7⟩ := q7; exact again I7 n7
    | cont => obtain ⟨σ7, H7, I7, n7⟩ := q7; exact again I7 n7
    | brk => obtain ⟨σ7, H7, I7, q7⟩ := q7; exact ⟨σ7, H7, I7.unpinned, q7⟩
    | ret v => obtain ⟨x7, σ7, H7, I7, r7, q7⟩ := q7; exact ⟨x7, σ7, H7, I7.unpinned, r7, q7⟩
end
end L2
namespace L2
open PySem PySem.Spec PyProof.Rows
noncomputable abbrev R2 := V → V → Hp → VK → Prop
noncomputable def OpR (X : Cx) (f : Value → Value → Sem Value) (r : R2) : Prop :=
  ∀ (pins : List (Addr × Obj)) (s : Shared) (σ : St) (H : Hp) (x y : V) (v u : Value) (Q : VK), Inv X pins σ H s → RelV x v → RelV y u → r x y H Q →
    wpAny (model X.prog X.w) X.A (f v u) (EP X pins σ Q) X.xe s
noncomputable def UnR (X : Cx) (f : Value → Sem Value) (r : V → Hp → VK → Prop) : Prop :=
  ∀ (pins : List (Addr × Obj)) (s : Shared) (σ : St) (H : Hp) (x : V) (v : Value) (Q : VK), Inv X pins σ H s → RelV x v → r x H Q →
    wpAny (model X.prog X.w) X.A (f v) (EP X pins σ Q) X.xe s
noncomputable def CallR (X : Cx) (f : Value) (r : List V → Hp → VK → Prop) : Prop :=
  ∀ (pins : List (Addr × Obj)) (s : Shared) (σ : St) (H : Hp) (xs : List V) (us : List Value) (Q : VK), Inv X pins σ H s → Vals xs us → r xs H Q →
    wpAny (model X.prog X.w) X.A (call f us) (EP X pins σ Q) X.xe s
noncomputable def tOp (r : R2) (ta tb : TE) : TE := fun σ H Q => ta σ H fun x H1 => tb σ H1 fun y H2 => r x y H2 Q
noncomputable def tUn (r : V → Hp → VK → Prop) (ta : TE) : TE := fun σ H Q => ta σ H fun x H1 => r x H1 Q
noncomputable def rI (C : Int → Int → Prop) (g : Int → Int → V) : R2 := fun x y H Q => ∃ i j, x = .int i ∧ y = .int j ∧ C i j ∧ Q (g i j) H
noncomputable def rI0 (g : Int → Int → V) : R2 := fun x y H Q => ∃ i j, x = .int i ∧ y = .int j ∧ Q (g i j) H
noncomputable def rU (g : Int → V) : V → Hp → VK → Prop := fun x H Q => ∃ i, x = .int i ∧ Q (g i) H
section
variable {X : Cx} {a b c : Expr} {ta tb tc : TE} {pos : Pos}
theorem binT (ha : PE X a ta) (hb : PE X b tb) {pins : List (Addr × Obj)} {s : Shared} {σ : St} {H : Hp} {R : V → V → Hp → Prop} (I : Inv X pins σ H s)
    (h : ta σ H fun x H1 => tb σ H1 fun y H2 => R x y H2) {Q : Value → Shared → Prop} {f : Value → Value → Sem Value}
    (hf : ∀ v u s2 x y H2, Inv X pins σ H2 s2 → RelV x v → RelV y u → R x y H2 → wpAny (model X.prog X.w) X.A (f v u) Q X.xe s2) :
    wpAny (model X.prog X.w) X.A (eval a X.env) (fun v s₁ => wpAny (model X.prog X.w) X.A (eval b X.env) (fun u s₂ => wpAny (model X.prog X.w) X.A (f v u) Q X.xe s₂) X.xe s₁) X.xe s := by
  refine thn (ha pins s σ H _ I h) fun v s1 ⟨x, H1, I1, r1, q1⟩ => ?_
  refine thn (hb pins s1 σ H1 _ I1 q1) fun u s2 ⟨y, H2, I2, r2, q2⟩ => ?_
  exact hf v u s2 x y H2 I2 r1 r2 q2
theorem pe_op {op : Operator} {r : R2} (ho : OpR X (binaryOp op) r) (ha : PE X a ta) (hb : PE X b tb) : PE X (.BinOp a op b pos) (tOp r ta tb) := by
  intro pins s σ H Q I h
  exact wpAny_BinOp (binT ha hb I h fun v u s2 x y H2 I2 rx ry q => ho pins s2 σ H2 x y v u Q I2 rx ry q)
theorem pe_un {op : UnaryOp} {r : V → Hp → VK → Prop} (ho : UnR X (unaryOp op) r) (ha : PE X a ta) : PE X (.UnaryOp op a pos) (tUn r ta) := by
  intro pins s σ H Q I h
  exact UnaryOp_ (thn (ha pins s σ H _ I h) fun v s1 ⟨x, H1, I1, r1, q1⟩ => ho pins s1 σ H1 x v Q I1 r1 q1)
theorem opI {f : Value → Value → Sem Value} {C : Int → Int → Prop} {g : Int → Int → Int}
    (rule : ∀ (i j : Int) (t u : Tok) (s : Shared) (Q : Value → Shared → Prop) (E : Value → Shared → Prop), C i j → Q (.int (g i j) s.toks) { s with toks := s.toks + 1 } → wpAny (model X.prog X.w) X.A (f (.int i t) (.int j u)) Q E s) :
    OpR X f (rI C fun i j => .int (g i j)) := by
  intro pins s σ H x y v u Q I rx ry h
  obtain ⟨i, j, rfl, rfl, hc, q⟩ := h
  obtain ⟨t, rfl⟩ := rx
  obtain ⟨t', rfl⟩ := ry
  exact rule i j t t' s _ _ hc ⟨.int (g i j), H, I.tok _, ⟨_, rfl⟩, q⟩
theorem opI0 {f : Value → Value → Sem Value} {g : Int → Int → Int}
    (rule : ∀ (i j : Int) (t u : Tok) (s : Shared) (Q : Value → Shared → Prop) (E : Value → Shared → Prop), Q (.int (g i j) s.toks) { s with toks := s.toks + 1 } → wpAny (model X.prog X.w) X.A (f (.int i t) (.int j u)) Q E s) :
    OpR X f (rI0 fun i j => .int (g i j)) := by
  intro pins s σ H x y v u Q I rx ry h
  obtain ⟨i, j, rfl, rfl, q⟩ := h
  obtain ⟨t, rfl⟩ := rx
  obtain ⟨t', rfl⟩ := ry
  exact rule i j t t' s _ _ ⟨.int (g i j), H, I.tok _, ⟨_, rfl⟩, q⟩
theorem opB0 {f : Value → Value → Sem Value} {g : Int → Int → Bool}
    (rule : ∀ (i j : Int) (t u : Tok) (s : Shared) (Q : Value → Shared → Prop) (E : Value → Shared → Prop), Q (.bool (g i j)) s → wpAny (model X.prog X.w) X.A (f (.int i t) (.int j u)) Q E s) :
    OpR X f (rI0 fun i j => .bl (g i j)) := by
  intro pins s σ H x y v u Q I rx ry h
  obtain ⟨i, j, rfl, rfl, q⟩ := h
  obtain ⟨t, rfl⟩ := rx
  obtain ⟨t', rfl⟩ := ry
  exact rule i j t t' s _ _ ⟨.bl (g i j), H, I, rfl, q⟩
noncomputable def CDiv (i j : Int) : Prop := 0 < j ∧ j < 1073741824
noncomputable def CMul (i j : Int) : Prop := (-(2 ^ 64) < i ∧ i < 2 ^ 64) ∨ (-(2 ^ 64) < j ∧ j < 2 ^ 64)
theorem CMul.ok {i j : Int} (h : CMul i j) : IntMulOk i j := by
  rcases h with ⟨h1, h2⟩ | ⟨h1, h2⟩
  · exact .of_left (intBits_le_64 h1 h2)
  · exact .of_right (intBits_le_64 h1 h2)
theorem op_add : OpR X (binaryOp .Add) (rI0 fun i j => .int (i + j)) := opI0 fun _ _ _ _ _ _ _ q => add_int q
theorem op_sub : OpR X (binaryOp .Sub) (rI0 fun i j => .int (i - j)) := opI0 fun _ _ _ _ _ _ _ q => sub_int q
theorem op_mul : OpR X (binaryOp .Mult) (rI CMul fun i j => .int (i * j)) := opI fun _ _ _ _ _ _ _ hc q => mul_int q hc.ok
theorem op_fdiv : OpR X (binaryOp .FloorDiv) (rI CDiv fun i j => .int (i / j)) := opI fun i j _ _ _ _ _ hc q => by
  have h1 : (0 : Int) < j := hc.1
  have h2 : j < 1073741824 := hc.2
  exact floordiv_int (by omega) (by rw [Int.fdiv_eq_ediv_of_nonneg i (by omega)]; exact q) (.inl (PyProof.noPylong_small (by omega)))
theorem op_mod : OpR X (binaryOp .Mod) (rI (fun _ j => 0 < j) fun i j => .int (i % j)) := opI fun i j _ _ _ _ _ hc q => by
  have h1 : (0 : Int) < j := hc
  exact mod_int' (by omega) (by rw [Int.fmod_eq_emod_of_nonneg i (by omega)]; exact q)
theorem op_and : OpR X (binaryOp .BitAnd) (rI0 fun i j => .int (Builtin.bitAnd i j)) := opI0 fun _ _ _ _ _ _ _ q => and_int q
theorem unI {f : Value → Sem Value} {g : Int → Int}
    (rule : ∀ (i : Int) (t : Tok) (s : Shared) (Q : Value → Shared → Prop) (E : Value → Shared → Prop), Q (.int (g i) s.toks) { s with toks := s.toks + 1 } → wpAny (model X.prog X.w) X.A (f (.int i t)) Q E s) :
    UnR X f (rU fun i => .int (g i)) := by
  intro pins s σ H x v Q I rx h
  obtain ⟨i, rfl, q⟩ := h
  obtain ⟨t, rfl⟩ := rx
  exact rule i t s _ _ ⟨.int (g i), H, I.tok _, ⟨_, rfl⟩, q⟩
theorem un_neg : UnR X (unaryOp .USub) (rU fun i => .int (-i)) := unI fun _ _ _ _ _ q => neg_int q
end
noncomputable def scal : V → V → Bool
  | .non, .non => true | .non, .int _ => true | .int _, .non => true | .non, .bl _ => true | .bl _, .non => true | .non, .str _ => true | .str _, .non => true
  | .int _, .int _ => true | .bl _, .bl _ => true | .str _, .str _ => true | .byt _, .byt _ => true
  | .int _, .str _ => true | .str _, .int _ => true | .bl _, .str _ => true | .str _, .bl _ => true
  | _, _ => false
noncomputable def rEq : R2 := fun x y H Q => scal x y = true ∧ Q (.bl (decide (x = y))) H
noncomputable def rNe : R2 := fun x y H Q => scal x y = true ∧ Q (.bl (!decide (x = y))) H
theorem dec_int {i j : Int} : decide (V.int i = V.int j) = (i == j) := by
  rw [Bool.eq_iff_iff]
  simp
theorem dec_bl {i j : Bool} : decide (V.bl i = V.bl j) = (i == j) := by
  rw [Bool.eq_iff_iff]
  simp
theorem dec_str {i j : Str} : decide (V.str i = V.str j) = (i == j) := by
  rw [Bool.eq_iff_iff]
  simp
theorem dec_byt {i j : Array UInt8} : decide (V.byt i = V.byt j) = (i.toList == j.toList) := by
  rw [Bool.eq_iff_iff]
  cases i
  cases j
  simp
section
variable {X : Cx} {a b c : Expr} {ta tb tc : TE} {pos : Pos}
theorem fin_bl {pins : List (Addr × Obj)} {σ : St} {H : Hp} {s : Shared} {Q : VK} {k k' : Bool} (I : Inv X pins σ H s) (q : Q (.bl k) H) (e : k = k') : EP X pins σ Q (.bool k') s := by
  subst e
  exact ⟨.bl k, H, I, rfl, q⟩
theorem op_eq : OpR X (compareOp .Eq) rEq := by
  intro pins s σ H x y v u Q I rx ry h
  obtain ⟨hs, q⟩ := h
  cases x with
  | non =>
    cases rx
    cases y with
    | non => cases ry; exact PySem.EqNone.eq_none_none (fin_bl I q (by simp))
    | bl j => cases ry; exact PySem.EqNone.eq_none_bool (fin_bl I q (by simp))
    | int j => obtain ⟨t', rfl⟩ := ry; exact PySem.EqNone.eq_none_int (fin_bl I q (by simp))
    | str j => obtain ⟨t', rfl⟩ := ry; exact PySem.EqNone.eq_none_str (fin_bl I q (by simp))
    | _ => exact absurd (show false = true from hs) Bool.false_ne_true
  | bl i =>
    cases rx
    cases y with
    | non => cases ry; exact PySem.EqNone.eq_bool_none (fin_bl I q (by simp))
    | bl j => cases ry; exact eq_bool (fin_bl I q dec_bl)
    | str j => obtain ⟨t', rfl⟩ := ry; exact PySem.EqMixed.eq_bool_str (fin_bl I q (by simp))
    | _ => exact absurd (show false = true from hs) Bool.false_ne_true
  | int i =>
    obtain ⟨t, rfl⟩ := rx
    cases y with
    | non => cases ry; exact PySem.EqNone.eq_int_none (fin_bl I q (by simp))
    | int j => obtain ⟨t', rfl⟩ := ry; exact eq_int (fin_bl I q dec_int)
    | str j => obtain ⟨t', rfl⟩ := ry; exact PySem.EqMixed.eq_int_str (fin_bl I q (by simp))
    | _ => exact absurd (show false = true from hs) Bool.false_ne_true
  | str i =>
    obtain ⟨t, rfl⟩ := rx
    cases y with
    | non => cases ry; exact PySem.EqNone.eq_str_none (fin_bl I q (by simp))
    | bl j => cases ry; exact PySem.EqMixed.eq_str_bool (fin_bl I q (by simp))
    | int j => obtain ⟨t', rfl⟩ := ry; exact PySem.EqMixed.eq_str_int (fin_bl I q (by simp))
    | str j => obtain ⟨t', rfl⟩ := ry; exact eq_str (fin_bl I q dec_str)
    | _ => exact absurd (show false = true from hs) Bool.false_ne_true
  | byt i =>
    obtain ⟨t, rfl⟩ := rx
    cases y with
    | byt j => obtain ⟨t', rfl⟩ := ry; exact PySem.W.eq_bytes (fin_bl I q dec_byt)
    | _ => exact absurd (show false = true from hs) Bool.false_ne_true
  | _ => cases y <;> exact absurd (show false = true from hs) Bool.false_ne_true
theorem op_ne : OpR X (compareOp .NotEq) rNe := by
  intro pins s σ H x y v u Q I rx ry h
  obtain ⟨hs, q⟩ := h
  cases x with
  | non =>
    cases rx
    cases y with
    | non => cases ry; exact PySem.EqNone.ne_none_none (fin_bl I q (by simp))
    | bl j => cases ry; exact PySem.EqNone.ne_none_bool (fin_bl I q (by simp))
    | int j => obtain ⟨t', rfl⟩ := ry; exact PySem.EqNone.ne_none_int (fin_bl I q (by simp))
    | str j => obtain ⟨t', rfl⟩ := ry; exact PySem.EqNone.ne_none_str (fin_bl I q (by simp))
    | _ => exact absurd (show false = true from hs) Bool.false_ne_true
  | bl i =>
    cases rx
    cases y with
    | non => cases ry; exact PySem.EqNone.ne_bool_none (fin_bl I q (by simp))
    | bl j => cases ry; exact ne_bool (fin_bl I q (congrArg not dec_bl))
    | str j => obtain ⟨t', rfl⟩ := ry; exact PySem.EqMixed.ne_bool_str (fin_bl I q (by simp))
    | _ => exact absurd (show false = true from hs) Bool.false_ne_true
  | int i =>
    obtain ⟨t, rfl⟩ := rx
    cases y with
    | non => cases ry; exact PySem.EqNone.ne_int_none (fin_bl I q (by simp))
    | int j => obtain ⟨t', rfl⟩ := ry; exact ne_int (fin_bl I q (congrArg not dec_int))
    | str j => obtain ⟨t', rfl⟩ := ry; exact PySem.EqMixed.ne_int_str (fin_bl I q (by simp))
    | _ => exact absurd (show false = true from hs) Bool.false_ne_true
  | str i =>
    obtain ⟨t, rfl⟩ := rx
    cases y with
    | non => cases ry; exact PySem.EqNone.ne_str_none (fin_bl I q (by simp))
    | bl j => cases ry; exact PySem.EqMixed.ne_str_bool (fin_bl I q (by simp))
    | int j => obtain ⟨t', rfl⟩ := ry; exact PySem.EqMixed.ne_str_int (fin_bl I q (by simp))
    | str j => obtain ⟨t', rfl⟩ := ry; exact ne_str (fin_bl I q (congrArg not dec_str))
    | _ => exact absurd (show false = true from hs) Bool.false_ne_true
  | byt i =>
    obtain ⟨t, rfl⟩ := rx
    cases y with
    | byt j => obtain ⟨t', rfl⟩ := ry; exact PySem.W.ne_bytes (fin_bl I q (congrArg not dec_byt))
    | _ => exact absurd (show false = true from hs) Bool.false_ne_true
  | _ => cases y <;> exact absurd (show false = true from hs) Bool.false_ne_true
theorem op_lt : OpR X (compareOp .Lt) (rI0 fun i j => .bl (decide (i < j))) := opB0 fun _ _ _ _ _ _ _ q => lt_int q
theorem op_le : OpR X (compareOp .LtE) (rI0 fun i j => .bl (decide (i ≤ j))) := opB0 fun _ _ _ _ _ _ _ q => le_int q
theorem op_gt : OpR X (compareOp .Gt) (rI0 fun i j => .bl (decide (j < i))) := opB0 fun _ _ _ _ _ _ _ q => gt_int q
theorem op_isN : OpR X (compareOp .Is) (fun x y H Q => y = .non ∧ Q (.bl (decide (x = .non))) H) := by
  intro pins s σ H x y v u Q I rx ry h
  obtain ⟨rfl, q⟩ := h
  cases ry
  refine is_none_gen (fin_bl I q ?_)
  cases x <;> first
    | (cases rx; rfl)
    | (obtain ⟨t, rfl⟩ := rx; rfl)
theorem OpR.or {f : Value → Value → Sem Value} {r r' : R2} (h : OpR X f r) (h' : OpR X f r') : OpR X f (fun x y H Q => r x y H Q ∨ r' x y H Q) := by
  intro pins s σ H x y v u Q I rx ry q
  rcases q with q | q
  · exact h pins s σ H x y v u Q I rx ry q
  · exact h' pins s σ H x y v u Q I rx ry q
theorem nomark (b : Expr) {op : CmpOp} (h : op ≠ .In := by decide) (h2 : op ≠ .NotIn := by decide) : behindInMarks op b = false := by
  have e1 : (op == CmpOp.In) = false := by cases op <;> first | rfl | exact absurd rfl h
  have e2 : (op == CmpOp.NotIn) = false := by cases op <;> first | rfl | exact absurd rfl h2
  cases b <;> simp [behindInMarks, e1, e2]
theorem pe_cmpR {op : CmpOp} {r : R2} (ho : OpR X (compareOp op) r) (ha : PE X a ta) (hb : PE X b tb) (hm : behindInMarks op b = false) : PE X (.Compare a [op] [b] pos) (tOp r ta tb) := by
  intro pins s σ H Q I h
  exact wpAny_Compare1 (binT ha hb I h fun v u s2 x y H2 I2 rx ry q => ho pins s2 σ H2 x y v u Q I2 rx ry q) hm
noncomputable def tTest (t : TE) : TT := fun σ H Q => t σ H fun x H' => ∃ k, x = .bl k ∧ Q k H'
theorem pt_cmpR {op : CmpOp} {r : R2} (ho : OpR X (compareOp op) r) (ha : PE X a ta) (hb : PE X b tb) (hm : behindInMarks op b = false) : PT X (.Compare a [op] [b] pos) (tTest (tOp r ta tb)) := by
  intro pins s σ H Q I h
  refine wpAny_isTrue_Compare1 (thn (ha pins s σ H _ I h) fun v s1 ⟨x, H1, I1, r1, q1⟩ => thn (hb pins s1 σ H1 _ I1 q1) fun u s2 ⟨y, H2, I2, r2, q2⟩ =>
    thn (ho pins s2 σ H2 x y v u _ I2 r1 r2 q2) fun c s3 ⟨z, H3, I3, r3, k, e, q3⟩ => ?_) hm
  subst e
  cases r3
  exact wpAny_truthy_bool ⟨H3, I3, q3⟩
noncomputable def tChain (r r' : R2) (ta tb tc : TE) : TE := fun σ H Q => ta σ H fun x H1 => tb σ H1 fun y H2 => r x y H2 fun z H3 => ∃ k, z = .bl k ∧
  (if k = true then tc σ H3 fun w' H4 => r' y w' H4 Q else Q (.bl false) H3)
theorem pt_chain {op op' : CmpOp} {r r' : R2} (ho : OpR X (compareOp op) r) (ho' : OpR X (compareOp op') r') (ha : PE X a ta) (hb : PE X b tb) (hc : PE X c tc)
    (hm : lastMarks [op, op'] [b, c] = false := by with_unfolding_all rfl) : PT X (.Compare a [op, op'] [b, c] pos) (tTest (tChain r r' ta tb tc)) := by
  intro pins s σ H Q I h
  refine isTrue_chain (thn (ha pins s σ H _ I h) fun v s1 ⟨x, H1, I1, r1, q1⟩ => test_link (thn (hb pins s1 σ H1 _ I1 q1) fun u s2 ⟨y, H2, I2, r2, q2⟩ =>
    thn (ho pins s2 σ H2 x y v u _ I2 r1 r2 q2) fun d s3 ⟨z, H3, I3, r3, k, e, q3⟩ => ?_)) hm
  subst e
  cases r3
  refine wpAny_truthy_bool ?_
  cases k with
  | false =>
    obtain ⟨k', e', q'⟩ := q3
    cases e'
    exact ite_ff ⟨H3, I3, q'⟩
  | true =>
    refine ite_tt (test_last (thn (hc pins s3 σ H3 _ I3 q3) fun w' s4 ⟨z', H4, I4, r4, q4⟩ => thn (ho' pins s4 σ H4 y z' u w' _ I4 r2 r4 q4) fun d' s5 ⟨z2, H5, I5, r5, k2, e2, q5⟩ => ?_))
    subst e2
    cases r5
    exact wpAny_truthy_bool ⟨H5, I5, q5⟩
theorem line63 : (sizeLine : Nat) < 2 ^ 63 := by rw [sizeLine_eq]; decide
theorem op_add_str : OpR X (binaryOp .Add) (fun x y H Q => ∃ i j, x = .str i ∧ y = .str j ∧ i.length + j.length ≤ sizeLine ∧ Q (.str (i ++ j)) H) := by
  intro pins s σ H x y v u Q I rx ry h
  obtain ⟨i, j, rfl, rfl, hz, q⟩ := h
  obtain ⟨t, rfl⟩ := rx
  obtain ⟨t', rfl⟩ := ry
  exact add_str (fun t' tk => ⟨.str (i ++ j), H, I.tok _, ⟨_, rfl⟩, q⟩) hz
theorem vals1 {x : V} {us : List Value} (r : Vals [x] us) : ∃ u, us = [u] ∧ RelV x u := by
  cases r with
  | cons r1 r2 => cases r2; exact ⟨_, rfl, r1⟩
theorem call_int1 : CallR X (.type "int") (fun xs H Q => (∃ i, xs = [.int i] ∧ Q (.int i) H) ∨ ∃ k, xs = [.bl k] ∧ Q (.int (if k then 1 else 0)) H) := by
  intro pins s σ H xs us Q I r h
  rcases h with ⟨i, rfl, q⟩ | ⟨k, rfl, q⟩
  · obtain ⟨u, rfl, t, rfl⟩ := vals1 r
    exact call_int_int ⟨.int i, H, I, ⟨_, rfl⟩, q⟩
  · obtain ⟨u, rfl, r1⟩ := vals1 r
    cases r1
    exact call_int_bool ⟨.int (if k then 1 else 0), H, I.tok _, ⟨_, rfl⟩, q⟩
noncomputable def LenV (K : PySem.W.Frag) (x : V) (H : Hp) (n : Nat) : Prop :=
  match x with
  | .str y => y.length ≤ sizeLine ∧ n = y.length
  | .byt y => y.size ≤ sizeLine ∧ n = y.size
  | .ref p => (∃ xs, SqL K H p xs ∧ n = xs.length) ∨ ∃ xs, SqT K H p xs ∧ n = xs.length
  | _ => False
theorem call_len : CallR X (.builtin "len") (fun xs H Q => ∃ x n, xs = [x] ∧ LenV X.K x H n ∧ Q (.int n) H) := by
  intro pins s σ H xs us Q I r h
  obtain ⟨x, n, rfl, e, q⟩ := h
  obtain ⟨u, rfl, rx⟩ := vals1 r
  have hl := line63
  have hs : sizeLine = 16777216 := sizeLine_eq
  cases x with
  | str y =>
    obtain ⟨t, rfl⟩ := rx
    obtain ⟨hy, e'⟩ : y.length ≤ sizeLine ∧ n = y.length := e
    subst e'
    exact len_str (by omega) ⟨.int _, H, I.tok _, ⟨_, rfl⟩, q⟩
  | byt y =>
    obtain ⟨t, rfl⟩ := rx
    obtain ⟨hy, e'⟩ : y.size ≤ sizeLine ∧ n = y.size := e
    subst e'
    exact PySem.W.len_bytes (by omega) ⟨.int _, H, I.tok _, ⟨_, rfl⟩, q⟩
  | ref p =>
    cases rx
    have e' : (∃ xs, SqL X.K H p xs ∧ n = xs.length) ∨ ∃ xs, SqT X.K H p xs ∧ n = xs.length := e
    rcases e' with ⟨xs, hx, e'⟩ | ⟨xs, hx, e'⟩
    · subst e'
      obtain ⟨its, r', pl, hz⟩ := I.list hx
      have hlen := r'.length
      exact Calls.call_len_list pl.isList (by simp only [List.size_toArray]; omega) ⟨.int xs.length, H, I.tok _, ⟨_, by simp only [List.size_toArray]; rw [hlen]⟩, q⟩
    · subst e'
      obtain ⟨its, r', pl, hz⟩ := I.tuple hx
      have hlen := r'.length
      exact len_tuple pl (by simp only [List.size_toArray]; omega) ⟨.int xs.length, H, I.tok _, ⟨_, by simp only [List.size_toArray]; rw [hlen]⟩, q⟩
  | _ => exact (show False from e).elim
end
end L2
namespace L2
open PySem PySem.Spec PyProof.Rows
structure ObjM (h : Heap) (x dx C : Addr) (mA : Str → Option Value) : Prop where
  obj : h.get? x = some (PySem.W.instObj C dx)
  ns : h.Ns1 dx mA
  ne : dx ≠ x
theorem lookIn_ns {h : Heap} {dx : Addr} {mA : Str → Option Value} (n : h.Ns1 dx mA) : ∃ od, h.get? dx = some od ∧ ∀ name, PySem.W.lookIn name od = some (mA name) := by
  obtain ⟨o, es, ep, ho, hd, hk, _, hm⟩ := n
  refine ⟨o, ho, fun name => ?_⟩
  have e := hm name
  unfold nsFind findBy at e
  rw [← Array.find?_toList] at e
  unfold PySem.W.lookIn
  rw [hd]
  dsimp only
  split
  · rename_i y q
    rw [q] at e
    exact congrArg some e
  · rename_i q
    rw [q] at e
    have a : es.toList.any (·.refKey) = false := by
      rw [List.any_eq_false]
      intro y hy
      obtain ⟨z, t, hkey⟩ := hk y (Array.mem_toList_iff.mp hy)
      simp [DictEntry.refKey, hkey]
    have a' : ¬ es.toList.any (·.refKey) = true := by rw [a]; exact Bool.false_ne_true
    rw [if_neg a']
    exact congrArg some e
theorem ObjM.look {h : Heap} {x dx C : Addr} {mA : Str → Option Value} (I : ObjM h x dx C mA) : ∃ od, PySem.W.InstAt h x (PySem.W.instObj C dx) C (some od) ∧ ∀ name, PySem.W.lookIn name od = some (mA name) :=
  let ⟨od, ho, hl⟩ := lookIn_ns I.ns
  ⟨od, ⟨I.obj, rfl, rfl, ho⟩, hl⟩
section
variable {prog : Program} {w : World} {A : Around} {E : Value → Shared → Prop} {s : Shared} {K : PySem.W.Frag} {x dx C f : Addr} {mA : Str → Option Value} {name : Str} {v : Value}
theorem get_map {expr : Bool} {Q : Value → Shared → Prop} (X : K.In s.heap) (I : ObjM s.heap x dx C mA) (hg : PySem.W.plainGet K C name = true) (hh : PySem.W.hasDictIn K C = true)
    (ha : PySem.W.findIn K (.ref C) name = some none) (hv : mA name = some v) (hv' : PySem.W.handedIn v = true) (h : Q v { s with toks := s.toks + 1 }) :
    wpAny (model prog w) A (getAttr (.ref x) name expr) Q E s := by
  obtain ⟨od, J, hl⟩ := I.look
  exact PySem.W.get_value X J (PySem.W.plainGet_of hg).1 (PySem.W.findObj_own hh ha rfl (by rw [hl, hv])) hv' h
theorem get_meth {pl : Sem Bool} {Q : Value × List Value → Shared → Prop} (X : K.In s.heap) (I : ObjM s.heap x dx C mA) (hg : PySem.W.plainGet K C name = true)
    (hf : PySem.W.findIn K (.ref C) name = some (some (.ref f))) (ht : PySem.W.isFn K (.ref f) = true) (hv : mA name = none) (h : Q (.ref f, [.ref x]) s) :
    wpAny (model prog w) A (getMethod (.ref x) name pl) Q E s := by
  obtain ⟨od, J, hl⟩ := I.look
  exact PySem.W.method_fn X J (PySem.W.plainGet_of hg).1 (PySem.W.plainGet_of hg).2 hf (beq_iff_eq.mp ht) (by show (PySem.W.lookIn name od).map (·.isSome) = some false; rw [hl, hv]; rfl) h
theorem set_map {ns : List Str} {Q : Unit → Shared → Prop} (X : K.In s.heap) (I : ObjM s.heap x dx C mA)
    (hs : PySem.W.findIn K (.ref C) "__setattr__" = some (some (.builtin "object.__setattr__"))) (hp : PySem.W.plainOver K C = true) (ht : PySem.W.takerIn K C name = some none) (hh : PySem.W.hasDictIn K C = true)
    (hw : PySem.Within mA ns) (hsz : ns.length ≤ sizeLine)
    (h : ∀ h', ObjM h' x dx C (fun y => if y = name then some v else mA y) → Heap.SameBut dx s.heap h' → Q () { s with heap := h', toks := s.toks + 2 }) :
    wpAny (model prog w) A (setAttr (.ref x) name v) Q E s := by
  obtain ⟨od, J, hl⟩ := I.look
  refine PySem.W.set_plain X J hs (PySem.W.osa_open (s := { s with toks := s.toks + 1 }) (r := none) X J hp ht fun b => ?_)
  obtain ⟨cd, hc, hd'⟩ := PySem.W.any_some hh
  have hx : s.heap.get? x = some ⟨.ref C, some dx, .plain, #[]⟩ := I.obj
  refine wpAny_bind (wpAny_pure (wpAny_bind (wpAny_bind (wpAny_loadPart hx (wpAny_bind (PySem.W.Looks.here (s := { s with toks := s.toks + 1 }) (PySem.W.looks_clsIn X hc) ?_))))))
  rw [hd']
  refine wpAny_pure (a := some dx) (wpAny_bind (wpAny_pure (wpAny_bind ?_)))
  refine wpAny_nsSet1 (s := { s with toks := s.toks + 1 }) I.ns fun h' hn2 hs2 => ?_
  obtain ⟨oD, esD, epD, hoD, hdD, hcD⟩ := hn2.count (PySem.Within.cons name v hw)
  refine wpAny_bind (wpAny_lookBehind hoD (by rw [hdD]; exact pastItsLine_dict (Nat.le_trans hcD (by rw [List.length_cons]; omega))) ?_)
  exact wpAny_pure (h _ ⟨(hs2.2 _ (Ne.symm I.ne)).trans I.obj, hn2, I.ne⟩ hs2)
theorem make_map {R : Result → Shared → Prop} {vs : List Value} {kw : List (Str × Value)} (X : K.In s.heap) (hm : PySem.W.makesIn K C = true)
    (hi : PySem.W.findIn K (.ref C) "__init__" = some (some (.ref f))) (hf : PySem.W.typeIn K (.ref f) = some (.type "function"))
    (h : codeAny (model prog w) (A.under (.builtin "type.__call__" ⟨.ref C :: vs, kw⟩)) (.call (.ref f) ⟨.ref (s.heap.objs.size + 1) :: vs, kw⟩) (PySem.W.InitBack (s.heap.objs.size + 1) R)
      { s with heap := (s.heap.push PySem.W.emptyDict).push (PySem.W.instObj C s.heap.objs.size) }) :
    codeAny (model prog w) A (.call (.ref C) ⟨vs, kw⟩) R s := by
  obtain ⟨hh, g, d, t, os⟩ := s
  exact PySem.W.make_core (PySem.W.makes_of X hm) (PySem.W.looks_findIn X hi) (fun self => PySem.W.bind_fn X self hf) (.inl rfl) h
end
noncomputable def putF (f : Str) (v : V) : List (Str × V) → List (Str × V)
  | [] => [(f, v)]
  | (g, x) :: r => if g = f then (g, v) :: r else (g, x) :: putF f v r
theorem lookup_putF (f g : Str) (v : V) : ∀ fs : List (Str × V), (putF f v fs).lookup g = if g = f then some v else fs.lookup g
  | [] => by
    show List.lookup g [(f, v)] = _
    by_cases h : g = f
    · have hb : (g == f) = true := beq_iff_eq.mpr h
      simp only [List.lookup, hb, if_pos h]
    · have hb : (g == f) = false := beq_eq_false_iff_ne.mpr h
      simp only [List.lookup, hb, if_neg h]
  | (k, x) :: r => by
    have ih := lookup_putF f g v r
    rw [show putF f v ((k, x) :: r) = (if k = f then (k, v) :: r else (k, x) :: putF f v r) from rfl]
    by_cases hk : k = f
    · rw [if_pos hk]
      by_cases h : g = k
      · have hb : (g == k) = true := beq_iff_eq.mpr h
        simp only [List.lookup, hb, if_pos (h.trans hk)]
      · have hb : (g == k) = false := beq_eq_false_iff_ne.mpr h
        simp only [List.lookup, hb, if_neg (fun e : g = f => h (e.trans hk.symm))]
    · rw [if_neg hk]
      by_cases h : g = k
      · have hb : (g == k) = true := beq_iff_eq.mpr h
        simp only [List.lookup, hb, if_neg (fun e : g = f => hk (h.symm.trans e))]
      · have hb : (g == k) = false := beq_eq_false_iff_ne.mpr h
        simp only [List.lookup, hb]
        exact ih
theorem keys_putF (f : Str) (v : V) : ∀ fs : List (Str × V), f ∈ (putF f v fs).map (·.1) ∧ ∀ g, g ∈ fs.map (·.1) → g ∈ (putF f v fs).map (·.1)
  | [] => ⟨by simp [putF], fun g h => by simp at h⟩
  | (k, x) :: r => by
    obtain ⟨i1, i2⟩ := keys_putF f v r
    rw [show putF f v ((k, x) :: r) = (if k = f then (k, v) :: r else (k, x) :: putF f v r) from rfl]
    by_cases hk : k = f
    · rw [if_pos hk]
      subst hk
      exact ⟨by simp, fun g h => by simpa using h⟩
    · rw [if_neg hk]
      refine ⟨?_, fun g h => ?_⟩
      · rw [List.map_cons]
        exact List.mem_cons_of_mem _ i1
      · rw [List.map_cons] at h ⊢
        rcases List.mem_cons.mp h with e | e
        · exact List.mem_cons.mpr (.inl e)
        · exact List.mem_cons_of_mem _ (i2 g e)
theorem length_putF (f : Str) (v : V) : ∀ fs : List (Str × V), (putF f v fs).length ≤ fs.length + 1
  | [] => by simp [putF]
  | (k, x) :: r => by
    have ih := length_putF f v r
    rw [show putF f v ((k, x) :: r) = (if k = f then (k, v) :: r else (k, x) :: putF f v r) from rfl]
    by_cases hk : k = f
    · rw [if_pos hk, List.length_cons, List.length_cons]; omega
    · rw [if_neg hk, List.length_cons, List.length_cons]; omega
theorem RelO.some_of {v : V} {o : Option Value} (r : RelO (some v) o) : ∃ u, o = some u ∧ RelV v u := by
  cases o with
  | none => exact (show False from r).elim
  | some u => exact ⟨u, rfl, r⟩
theorem RelO.none_of {o : Option Value} (r : RelO none o) : o = none := by
  cases o with
  | none => rfl
  | some u => exact (show False from r).elim
theorem handed_of {v : V} {u : Value} (r : RelV v u) : PySem.W.handedIn u = true := by
  cases v with
  | non => cases (show u = Value.none from r); rfl
  | bl b => cases (show u = Value.bool b from r); rfl
  | int i => obtain ⟨t, e⟩ := (show ∃ t, u = Value.int i t from r); cases e; rfl
  | str x => obtain ⟨t, e⟩ := (show ∃ t, u = Value.str x t from r); cases e; rfl
  | byt b => obtain ⟨t, e⟩ := (show ∃ t, u = Value.bytes b t from r); cases e; rfl
  | flt b => obtain ⟨t, e⟩ := (show ∃ t, u = Value.float b t from r); cases e; rfl
  | ref a => cases (show u = Value.ref a from r); rfl
  | ty n => cases (show u = Value.type n from r); rfl
section
variable {P : Program} {w : World} {H H' : Hp} {h h' : Heap} {a C dx : Addr} {fs fs' : List (Str × V)}
theorem ins_get (hok : HOk P w H h) (e : H a = some (.ins C dx fs)) : ∃ mA, ObjM h a dx C mA ∧ (∀ f, RelO (fs.lookup f) (mA f)) ∧ PySem.Within mA (fs.map (·.1)) ∧ fs.length ≤ 1000 ∧ H dx = some (.own a) := by
  obtain ⟨d, z, ne, ob, mA, n, r, q⟩ := (show ObjOk P w H h a (.ins C dx fs) from hok a _ e)
  exact ⟨mA, ⟨ob, n, ne⟩, r, q, z, d⟩
end
structure Cls (K : PySem.W.Frag) (C : Addr) : Prop where
  pg : PySem.W.plainGet K C Str.empty = true
  hd : PySem.W.hasDictIn K C = true
  po : PySem.W.plainOver K C = true
  sa : PySem.W.findIn K (.ref C) "__setattr__" = some (some (.builtin "object.__setattr__"))
theorem Cls.get {K : PySem.W.Frag} {C : Addr} (c : Cls K C) (f : Str) : PySem.W.plainGet K C f = true := c.pg
noncomputable def NoAttr (K : PySem.W.Frag) (C : Addr) (f : Str) : Prop := PySem.W.findIn K (.ref C) f = some none
theorem NoAttr.taker {K : PySem.W.Frag} {C : Addr} {f : Str} (n : NoAttr K C f) : PySem.W.takerIn K C f = some none := by
  unfold PySem.W.takerIn
  rw [show PySem.W.findIn K (.ref C) f = some none from n]
  rfl
structure Con (K : PySem.W.Frag) (C : Addr) (f : Str) (v : V) (u : Value) : Prop where
  at_ : PySem.W.findIn K (.ref C) f = some (some u)
  rel : RelV v u
  get : PySem.W.specialIn K u "__get__" = some none
  cp : PySem.W.copiedNames.contains f = false
structure Meth (K : PySem.W.Frag) (C : Addr) (m : Str) (f : Addr) : Prop where
  at_ : PySem.W.findIn K (.ref C) m = some (some (.ref f))
  fn : PySem.W.isFn K (.ref f) = true
  kp : PySem.W.keepIn K (.ref f) = true
section
variable {X : Cx} {pins : List (Addr × Obj)} {σ : St} {H : Hp} {s : Shared} {a C dx : Addr} {fs : List (Str × V)} {f : Str} {v : V} {A : Around} {E : Value → Shared → Prop}
theorem getattr_ok {b : Bool} {Q : Value → Shared → Prop} (I : Inv X pins σ H s) (e : H a = some (.ins C dx fs)) (c : Cls X.K C) (n : NoAttr X.K C f) (l : fs.lookup f = some v)
    (h : ∀ u s', Inv X pins σ H s' → RelV v u → Q u s') : wpAny (model X.prog X.w) A (getAttr (.ref a) f b) Q E s := by
  obtain ⟨mA, O, r, _, _, _⟩ := ins_get I.hok e
  obtain ⟨u, hu, ru⟩ := RelO.some_of (v := v) (o := mA f) (by rw [← l]; exact r f)
  exact get_map I.kIn O (c.get f) c.hd n hu (handed_of ru) (h u _ (I.tok _) ru)
theorem getmeth_ok {m : Str} {g : Addr} {pl : Sem Bool} {Q : Value × List Value → Shared → Prop} (I : Inv X pins σ H s) (e : H a = some (.ins C dx fs)) (c : Cls X.K C) (k : Meth X.K C m g) (l : fs.lookup m = none)
    (h : Q (.ref g, [.ref a]) s) : wpAny (model X.prog X.w) A (getMethod (.ref a) m pl) Q E s := by
  obtain ⟨mA, O, r, _, _, _⟩ := ins_get I.hok e
  have hn : mA m = none := RelO.none_of (by rw [← l]; exact r m)
  exact get_meth I.kIn O (c.get m) k.at_ k.fn hn h
theorem setattr_ok {y : V} {u : Value} {Q : Unit → Shared → Prop} (I : Inv X pins σ H s) (e : H a = some (.ins C dx fs)) (c : Cls X.K C) (n : NoAttr X.K C f) (hl : fs.length < 1000) (ry : RelV y u)
    (h : ∀ s', Inv X pins σ (upd H a (.ins C dx (putF f y fs))) s' → Q () s') : wpAny (model X.prog X.w) A (setAttr (.ref a) f u) Q E s := by
  obtain ⟨mA, O, r, wi, _, ho⟩ := ins_get I.hok e
  have hz : (fs.map (·.1)).length ≤ sizeLine := by rw [List.length_map, sizeLine_eq]; omega
  refine set_map I.kIn O c.sa c.po n.taker c.hd wi hz fun h' O' sb => h _ ?_
  have hd : ∃ o, h'.get? dx = some o := let ⟨o, _, _, e', _⟩ := O'.ns; ⟨o, e'⟩
  refine I.write (x := a) (e := dx) (by rw [e]; exact True.intro) (.inr ho) (fun b q hb z => (sb.2 b hb).trans z) hd ?_
  refine ⟨by rw [upd_ne O.ne]; exact ho, ?_, O.ne, O'.obj, _, O'.ns, fun g => ?_, fun g hg => ?_⟩
  · have := length_putF f y fs; omega
  · show RelO ((putF f y fs).lookup g) (if g = f then some u else mA g)
    rw [lookup_putF]
    by_cases q : g = f
    · rw [if_pos q, if_pos q]; exact ry
    · rw [if_neg q, if_neg q]; exact r g
  · by_cases q : g = f
    · rw [q]; exact (keys_putF f y fs).1
    · refine (keys_putF f y fs).2 g (wi g fun z => hg ?_)
      show (if g = f then some u else mA g) = none
      rw [if_neg q]; exact z
theorem Inv.made (I : Inv X pins σ H s) : Inv X pins σ (upd (upd H s.heap.objs.size (.own (s.heap.objs.size + 1))) (s.heap.objs.size + 1) (.ins C s.heap.objs.size []))
    { s with heap := (s.heap.push PySem.W.emptyDict).push (PySem.W.instObj C s.heap.objs.size) } := by
  have e1 : (s.heap.push PySem.W.emptyDict).get? s.heap.objs.size = some PySem.W.emptyDict := Heap.get?_push_size s.heap rfl
  have e2 : ((s.heap.push PySem.W.emptyDict).push (PySem.W.instObj C s.heap.objs.size)).get? (s.heap.objs.size + 1) = some (PySem.W.instObj C s.heap.objs.size) := by
    have := Heap.get?_push_size (s.heap.push PySem.W.emptyDict) (o := PySem.W.instObj C s.heap.objs.size) rfl
    rwa [Heap.size_push] at this
  have e3 : (s.heap.push PySem.W.emptyDict).Ns s.heap.objs.size (fun _ => none) := ⟨PySem.W.emptyDict, #[], _, e1, rfl, (fun e he => absurd he (by simp)), fun _ => rfl⟩
  have I1 := I.laid (a := s.heap.objs.size) (o := .own (s.heap.objs.size + 1)) (h' := s.heap.push PySem.W.emptyDict) (t' := s.toks) (fun b u q => Heap.get?_push_of_some _ q) (Nat.le_refl _) ⟨_, e1⟩
  refine I1.laid (a := s.heap.objs.size + 1) (o := .ins C s.heap.objs.size []) (t' := s.toks) (fun b u q => Heap.get?_push_of_some _ q) (Nat.le_of_eq (Heap.size_push _ _)) ?_
  have ne : s.heap.objs.size ≠ s.heap.objs.size + 1 := Nat.ne_of_lt (Nat.lt_succ_self _)
  refine ⟨by rw [upd_ne ne, upd_same], Nat.zero_le _, ne, e2, fun _ => none, (Heap.Ns1.of_empty e3).at fun o q => Heap.get?_push_of_some _ q, fun _ => True.intro, fun y hy => absurd rfl hy⟩
theorem attr_of {prog : Program} {w : World} {env : Env} {e : Expr} {f : Str} {pos : Pos} {s : Shared} {Q : Value → Shared → Prop} (hb : attributeBase e f env (eval e env) = eval e env)
    (h : wpAny (model prog w) A (eval e env) (fun o s₁ => wpAny (model prog w) A (getAttr o f true) Q E s₁) E s) : wpAny (model prog w) A (eval (.Attribute e f pos) env) Q E s :=
  Attribute_any_ h (by rw [arm_eval_Attribute, hb])
end
noncomputable def tFld (K : PySem.W.Frag) (ta : TE) (f : Str) : TE := fun σ H Q => ta σ H fun x H1 => ∃ a C dx fs v, x = .ref a ∧ H1 a = some (.ins C dx fs) ∧ Cls K C ∧ NoAttr K C f ∧ fs.lookup f = some v ∧ Q v H1
noncomputable def sFld (K : PySem.W.Frag) (ta tv : TE) (f : Str) : TS := fun D σ H => tv σ H fun y H1 => ta σ H1 fun x H2 => ∃ a C dx fs, x = .ref a ∧ H2 a = some (.ins C dx fs) ∧ Cls K C ∧ NoAttr K C f ∧ fs.length < 1000 ∧
  D.nx σ (upd H2 a (.ins C dx (putF f y fs)))
section
variable {X : Cx} {o e value : Expr} {f : Str} {pos pos' tpos : Pos} {ta tv : TE}
theorem pe_fld (he : PE X e ta) (hb : attributeBase e f X.env (eval e X.env) = eval e X.env) : PE X (.Attribute e f pos) (tFld X.K ta f) := by
  intro pins s σ H Q I h
  refine attr_of hb (thn (he pins s σ H _ I h) fun u s1 z => ?_)
  obtain ⟨x, H1, I1, rx, a, C, dx, fs, v, ex, ea, c, n, l, q⟩ := z
  subst ex
  obtain rfl : u = Value.ref a := rx
  exact getattr_ok I1 ea c n l fun u' s2 I2 ru => ⟨v, H1, I2, ru, q⟩
theorem ps_fld (ha : PE X o ta) (hv : PE X value tv) (hs : swapsWith value (some (.Attribute o f pos')) pos.line X.env = pure false) : PS X (.Assign [.Attribute o f pos'] value pos) (sFld X.K ta tv f) := by
  intro pins s σ H D I h
  refine plainObj_wpAny_Assign_Attribute (thn (hv pins s σ H _ I h) fun u s1 z => ?_) hs
  obtain ⟨y, H1, I1, ry, q⟩ := z
  refine thn (ha pins s1 σ H1 _ I1 q) fun ov s2 z => ?_
  obtain ⟨x, H2, I2, rx, a, C, dx, fs, ex, ea, c, n, l, q2⟩ := z
  subst ex
  obtain rfl : ov = Value.ref a := rx
  exact setattr_ok I2 ea c n l ry fun s3 I3 => ⟨σ, _, I3, q2⟩
end
section
variable {X : Cx} {pins : List (Addr × Obj)} {σ : St} {H : Hp} {s : Shared} {A : Around} {E : Value → Shared → Prop} {Q : Value → Shared → Prop} {c : Value} {b : Bool}
inductive TyOf (K : PySem.W.Frag) (H : Hp) : V → Value → Prop where
  | non : TyOf K H .non (.type "NoneType")
  | bl (x : Bool) : TyOf K H (.bl x) (.type "bool")
  | int (i : Int) : TyOf K H (.int i) (.type "int")
  | str (x : Str) : TyOf K H (.str x) (.type "str")
  | flt (x : UInt64) : TyOf K H (.flt x) (.type "float")
  | lst {a : Addr} {xs : List V} (e : H a = some (.lst xs)) : TyOf K H (.ref a) (.type "list")
  | frz {a : Addr} {o : Obj} {xs : List V} (e : H a = some (.frz o (.lst xs))) : TyOf K H (.ref a) (.type "list")
  | tup {a : Addr} {xs : List V} (e : H a = some (.tup xs)) : TyOf K H (.ref a) (.type "tuple")
  | dK {a : Addr} {kvs : List (Key × V)} (e : H a = some (.dK kvs)) : TyOf K H (.ref a) (.type "dict")
  | dT {a : Addr} {kvs : List (List Key × V)} (e : H a = some (.dT kvs)) : TyOf K H (.ref a) (.type "dict")
  | ins {a C dx : Addr} {fs : List (Str × V)} (e : H a = some (.ins C dx fs)) (cl : Cls K C) (ha : PySem.W.findIn K (.ref C) "__class__" = some (some (.builtin "object.__class__")))
      (hn : PySem.W.specialIn K (.builtin "object.__class__") "__get__" = some (some (.builtin "getset_descriptor.__get__"))) (htk : PySem.W.takesIn K (.builtin "object.__class__") = some true)
      (hm : PySem.W.mroIn K C (.type "object") = some true) : TyOf K H (.ref a) (.ref C)
theorem isinst_ok {x : V} {u t : Value} (I : Inv X pins σ H s) (rx : RelV x u) (ty : TyOf X.K H x t) (e : PySem.W.kitOne X.K t c = some b) (h : ∀ tk, Q (.bool b) { s with toks := tk }) :
    wpAny (model X.prog X.w) A (call (.builtin "isinstance") [u, c]) Q E s := by
  cases ty with
  | non => cases (show u = Value.none from rx); exact PySem.W.kia_one PySem.W.kitx_none I.kIn True.intro e (fun z => nomatch z) h
  | bl y => cases (show u = Value.bool y from rx); exact PySem.W.kia_one PySem.W.kitx_bool I.kIn True.intro e (fun z => nomatch z) h
  | int i => obtain ⟨t, q⟩ := (show ∃ t, u = Value.int i t from rx); cases q; exact PySem.W.kia_one PySem.W.kitx_int I.kIn True.intro e (fun z => nomatch z) h
  | str y => obtain ⟨t, q⟩ := (show ∃ t, u = Value.str y t from rx); cases q; exact PySem.W.kia_one PySem.W.kitx_str I.kIn True.intro e (fun z => nomatch z) h
  | flt y => obtain ⟨t, q⟩ := (show ∃ t, u = Value.float y t from rx); cases q; exact PySem.W.kia_one PySem.W.kitx_float I.kIn True.intro e (fun z => nomatch z) h
  | @lst a xs ea =>
    cases (show u = Value.ref a from rx)
    obtain ⟨_, _, n, _, h1⟩ := (show ObjOk X.prog X.w H s.heap a (.lst xs) from I.hok a _ ea)
    exact PySem.W.kia_one PySem.W.kitx_list I.kIn ⟨_, h1, rfl⟩ e (fun z => nomatch z) h
  | @frz a ob xs ea =>
    cases (show u = Value.ref a from rx)
    obtain ⟨_, _, _, n, _, h1⟩ := (show ObjOk X.prog X.w H s.heap a (.frz ob (.lst xs)) from I.hok a _ ea)
    exact PySem.W.kia_one PySem.W.kitx_list I.kIn ⟨_, h1, rfl⟩ e (fun z => nomatch z) h
  | @tup a xs ea =>
    cases (show u = Value.ref a from rx)
    obtain ⟨_, _, _, p⟩ := (show ObjOk X.prog X.w H s.heap a (.tup xs) from I.hok a _ ea)
    obtain ⟨o, h1, h2, _⟩ := p
    exact PySem.W.kia_one PySem.W.kitx_tuple I.kIn ⟨o, h1, h2⟩ e (fun z => nomatch z) h
  | @dK a kvs ea =>
    cases (show u = Value.ref a from rx)
    obtain ⟨_, _, vs, _, p⟩ := (show ObjOk X.prog X.w H s.heap a (.dK kvs) from I.hok a _ ea)
    obtain ⟨o, es, ep, h1, h2, _⟩ := p
    exact PySem.W.kia_one PySem.W.kitx_dict I.kIn ⟨o, h1, h2.1⟩ e (fun z => nomatch z) h
  | @dT a kvs ea =>
    cases (show u = Value.ref a from rx)
    obtain ⟨_, _, xs, _, o, es, ep, h1, h2, _⟩ := (show ObjOk X.prog X.w H s.heap a (.dT kvs) from I.hok a _ ea)
    exact PySem.W.kia_one PySem.W.kitx_dict I.kIn ⟨o, h1, h2.1⟩ e (fun z => nomatch z) h
  | @ins a C dx fs ea cl ha hn htk hm =>
    cases (show u = Value.ref a from rx)
    obtain ⟨mA, O, _⟩ := ins_get I.hok ea
    obtain ⟨od, J, _⟩ := O.look
    exact PySem.W.kia_one (PySem.W.kitx_own (cl.get _) cl.hd ha hn htk hm) I.kIn J e (fun z => nomatch z) h
end
end L2
namespace L2
open PySem PySem.Spec PyProof.Rows
structure Room (k : Nat) (A : Around) : Prop where
  hd : A.handled = none
  dp : A.depth + 3 * k + 5 < recursionLimit
  un : A.units + 16 * k + 200 < cLine
theorem Room.mono {j k : Nat} {A : Around} (r : Room k A) (h : j ≤ k) : Room j A := ⟨r.hd, by have := r.dp; omega, by have := r.un; omega⟩
theorem Room.deeper {k : Nat} {A : Around} (r : Room (k + 1) A) (env : Env) : Room k (A.deeper env) :=
  ⟨r.hd, by have := r.dp; show A.depth + 1 + 3 * k + 5 < _; omega, by have := r.un; show A.units + 3 + 16 * k + 200 < _; omega⟩
theorem make_depth {A : Around} {C : Addr} {us : List Value} {kw : List (Str × Value)} : (A.under (.builtin "type.__call__" ⟨.ref C :: us, kw⟩)).depth = A.depth + 1 := by
  first | rfl | simp [Around.under, Code.weight, Code.isCreation, Code.isGuard, Code.isCaller, Code.frames, Code.isFrame, guardIds]
theorem make_units {A : Around} {C : Addr} {us : List Value} {kw : List (Str × Value)} : (A.under (.builtin "type.__call__" ⟨.ref C :: us, kw⟩)).units = A.units + 1 := by
  first | rfl | simp [Around.under, Code.cUnits, Code.frames, Code.isFrame]
theorem Room.make {k : Nat} {A : Around} (r : Room (k + 1) A) (C : Addr) (us : List Value) (kw : List (Str × Value)) : Room k (A.under (.builtin "type.__call__" ⟨.ref C :: us, kw⟩)) :=
  ⟨r.hd, by have := r.dp; rw [make_depth]; omega, by have := r.un; rw [make_units]; omega⟩
theorem Room.depth {k : Nat} {A : Around} (r : Room k A) : A.depth < recursionLimit := by have := r.dp; omega
theorem Room.units {k : Nat} {A : Around} (r : Room k A) : A.units + 64 < cLine := by have := r.un; omega
noncomputable def tNil : TA := fun _ H Q => Q [] H
noncomputable def tCons (ta : TE) (tr : TA) : TA := fun σ H Q => ta σ H fun x H1 => tr σ H1 fun xs H2 => Q (x :: xs) H2
section
variable {X : Cx} {e : Expr} {es : List Expr} {te : TE} {t : TA} {pos : Pos}
theorem pa_nil : PA X [] tNil := fun _ _ _ _ H Q I h => Calls.spliced_nil ⟨[], H, I, .nil, h⟩
theorem pa_cons (ha : PE X e te) (hr : PA X es t) (hs : starEach (e :: es) X.env = (false, eval e X.env) :: starEach es X.env := by rfl) : PA X (e :: es) (tCons te t) := by
  intro pos pins s σ H Q I h
  rw [hs]
  show wpAny _ _ (spliced ((false, eval e X.env) :: backTo pos (starEach es X.env))) _ _ s
  refine Calls.spliced_cons (thn (ha pins s σ H _ I h) fun u s1 ⟨x, H1, I1, r1, q1⟩ => ?_)
  exact thn (hr pos pins s1 σ H1 _ I1 q1) fun us s2 ⟨xs, H2, I2, r2, q2⟩ => ⟨x :: xs, H2, I2, .cons r1 r2, q2⟩
noncomputable def tTup (t : TA) : TE := fun σ H Q => t σ H fun xs H1 => xs.length ≤ sizeLine ∧ ∀ p, H1 p = none → Q (.ref p) (upd H1 p (.tup xs))
noncomputable def tLst (t : TA) : TE := fun σ H Q => t σ H fun xs H1 => xs.length ≤ sizeLine ∧ ∀ p, H1 p = none → Q (.ref p) (upd H1 p (.lst xs))
theorem pe_tup {x1} (h : PA X es t) : PE X (.Tuple es x1 pos) (tTup t) := by
  intro pins s σ H Q I hq
  refine wpAny_Tuple_spliced (thn (h pos pins s σ H _ I hq) fun us s1 ⟨xs, H1, I1, r, z, q⟩ => ⟨by rw [← r.length]; exact z, ?_⟩)
  have hf : H1 s1.heap.objs.size = none := I1.hok.fresh (Nat.le_refl _)
  refine ⟨.ref s1.heap.objs.size, upd H1 s1.heap.objs.size (.tup xs), I1.laid (t' := s1.toks) (fun b u e => Heap.get?_push_of_some _ e) (Nat.le_refl _) ?_, rfl, q _ hf⟩
  exact ⟨z, us, r, ⟨_, Heap.get?_push_size _ rfl, rfl, _, rfl⟩⟩
theorem pe_lst (h : PA X es t) : PE X (.List es pos) (tLst t) := by
  intro pins s σ H Q I hq
  refine wpAny_List_spliced (thn (h pos pins s σ H _ I hq) fun us s1 ⟨xs, H1, I1, r, z, q⟩ => ⟨by rw [← r.length]; exact z, ?_⟩)
  have hf : H1 s1.heap.objs.size = none := I1.hok.fresh (Nat.le_refl _)
  refine ⟨.ref s1.heap.objs.size, upd H1 s1.heap.objs.size (.lst xs), I1.laid (t' := s1.toks) (fun b u e => Heap.get?_push_of_some _ e) (Nat.le_refl _) ?_, rfl, q _ hf⟩
  exact ⟨z, us, 0, r, Heap.get?_push_size _ rfl⟩
end
noncomputable abbrev Sp := List V → Hp → VK → XK → Prop
noncomputable abbrev CXT := List Env → Hp → Shared → XK → Value → Shared → Prop
structure Env0 (P : Program) (w : World) (K : PySem.W.Frag) (mg : Str → Option Value) (base : Heap) (A : Around) (outer : List Env) (s : Shared) (H : Hp) : Prop where
  frames : A.frames = some outer
  mod : Mod K mg base
  bs : ∀ b o, base.get? b = some o → s.heap.get? b = some o ∧ H b = none
  bsz : base.objs.size ≤ s.heap.objs.size
  funs : s.heap.FunFrames base outer
  frf : ∀ b ∈ frs outer, H b = none
  hok : HOk P w H s.heap
  bare : AllBare s.gens
noncomputable def CE (outer : List Env) (P : Program) (w : World) (H : Hp) (s : Shared) (Q : VK) (u : Value) (s' : Shared) : Prop :=
  ∃ v H', s'.os = s.os ∧ AllBare s'.gens ∧ Un (frs outer) [] H H' s.heap s'.heap ∧ HOk P w H' s'.heap ∧ RelV v u ∧ Q v H'
noncomputable def CR (CX : CXT) (outer : List Env) (P : Program) (w : World) (H : Hp) (s : Shared) (Q : VK) (E : XK) (r : Result) (s' : Shared) : Prop :=
  match r with
  | .ok (.ret u) => CE outer P w H s Q u s'
  | .ok _ => False
  | .error e => CX outer H s E e s'
structure FnOk (P : Program) (w : World) (K : PySem.W.Frag) (mg : Str → Option Value) (base : Heap) (CX : CXT) (k : Nat) (f : Addr) (fd : FuncData) (ps : List Str) (sp : Sp) : Prop where
  len : ∀ vs H Q E, sp vs H Q E → vs.length = ps.length
  run : ∀ (A : Around) (outer : List Env) (s : Shared) (H : Hp) (args : Args) (us : List Value) (vs : List V) (Q : VK) (E : XK), Room k A → Env0 P w K mg base A outer s H → BindsTo s fd args (ps.zip us) → Vals vs us → sp vs H Q E →
    codeAny (model P w) A (.call (.ref f) args) (CR CX outer P w H s Q E) s
theorem FnOk.imp {P : Program} {w : World} {K : PySem.W.Frag} {mg : Str → Option Value} {base : Heap} {CX : CXT} {k : Nat} {f : Addr} {fd : FuncData} {ps : List Str} {sp sp' : Sp} (F : FnOk P w K mg base CX k f fd ps sp)
    (h : ∀ vs H Q E, sp' vs H Q E → sp vs H Q E) : FnOk P w K mg base CX k f fd ps sp' :=
  ⟨fun vs H Q E q => F.len vs H Q E (h _ _ _ _ q), fun A outer s H args us vs Q E hr he hb hv hs => F.run A outer s H args us vs Q E hr he hb hv (h _ _ _ _ hs)⟩
theorem Env0.make {P : Program} {w : World} {K : PySem.W.Frag} {mg : Str → Option Value} {base : Heap} {A : Around} {outer : List Env} {s : Shared} {H : Hp} (e : Env0 P w K mg base A outer s H) (C : Addr) (us : List Value) (kw : List (Str × Value)) :
    Env0 P w K mg base (A.under (.builtin "type.__call__" ⟨.ref C :: us, kw⟩)) outer s H := ⟨by first | exact e.frames | (simpa [Around.under, Code.envs, Code.isFrame, pushEnvs] using e.frames), e.mod, e.bs, e.bsz, e.funs, e.frf, e.hok, e.bare⟩
section
variable {X : Cx} {pins : List (Addr × Obj)} {σ : St} {H : Hp} {s s' : Shared}
theorem Inv.env0 (I : Inv X pins σ H s) : Env0 X.prog X.w X.K X.mg X.base X.A X.stack s H :=
  ⟨I.ok.frames, I.ok.mod, I.bs, Nat.le_trans I.ok.bsz I.sz, I.stack, I.stkFree, I.hok, I.bare⟩
theorem Inv.after {Q : VK} {u : Value} (I : Inv X pins σ H s) (h : CE X.stack X.prog X.w H s Q u s') : EP X pins σ Q u s' := by
  obtain ⟨v, H', os, bare, un, hok, r, q⟩ := h
  obtain ⟨hh, g, d, t, os'⟩ := s'
  obtain rfl : os' = s.os := os
  exact ⟨v, H', I.call (h' := hh) (g' := g) (d' := d) (t' := t) (ch := []) un hok bare (fun b z => absurd z (by simp)), r, q⟩
end
noncomputable def tCall (sp : Sp) (dvs : List V) (E : XK) (t : TA) : TE := fun σ H Q => t σ H fun vs H1 => sp (vs ++ dvs) H1 Q E
noncomputable def tMeth (C : Addr) (m : Str) (sp : Sp) (dvs : List V) (E : XK) (ta : TE) (t : TA) : TE := fun σ H Q => ta σ H fun x H1 => ∃ a dx fs, x = .ref a ∧ H1 a = some (.ins C dx fs) ∧ fs.lookup m = none ∧
  t σ H1 fun vs H2 => sp (x :: (vs ++ dvs)) H2 Q E
noncomputable def tMake (C : Addr) (sp : Sp) (dvs : List V) (E : XK) (t : TA) : TE := fun σ H Q => t σ H fun vs H1 => ∀ x dx, H1 x = none → H1 dx = none → dx ≠ x →
  sp (.ref x :: (vs ++ dvs)) (upd (upd H1 dx (.own x)) x (.ins C dx [])) (fun v H2 => v = .non ∧ Q (.ref x) H2) E
noncomputable def Binds (K : PySem.W.Frag) (fd : FuncData) (ps : List Str) (ds : List Value) : Prop :=
  ∀ (s : Shared) (us : List Value), K.In s.heap → (us ++ ds).length = ps.length → BindsTo s fd ⟨us, []⟩ (ps.zip (us ++ ds))
theorem Binds.all {K : PySem.W.Frag} {fd : FuncData} {ps : List Str} (h : ∀ us : List Value, us.length = ps.length → bindArgs fd ⟨us, []⟩ = pure (ps.zip us)) : Binds K fd ps [] := fun s us _ hl => by
  rw [List.append_nil] at hl ⊢
  exact .of_eq (h us hl)
noncomputable def Passes (CX : CXT) (X : Cx) (E : XK) : Prop := ∀ (pins : List (Addr × Obj)) (σ : St) (H : Hp) (s : Shared) (e : Value) (s' : Shared), Inv X pins σ H s → CX X.stack H s E e s' → X.xe e s'
section
variable {X : Cx} {CX : CXT} {k : Nat} {f C : Addr} {fd : FuncData} {ps : List Str} {sp : Sp} {dvs : List V} {ds : List Value} {E : XK} {x m : Str} {p pos apos : Pos} {e o : Expr} {es : List Expr} {ta : TE} {t : TA}
theorem run_fn {pins : List (Addr × Obj)} {σ : St} {H : Hp} {s : Shared} {Q : VK} {us : List Value} {vs : List V} (F : FnOk X.prog X.w X.K X.mg X.base CX k f fd ps sp) (hr : Room k X.A) (hb : Binds X.K fd ps ds) (hd : Vals dvs ds) (hx : Passes CX X E)
    (I : Inv X pins σ H s) (r : Vals vs us) (h : sp (vs ++ dvs) H Q E) : wpAny (model X.prog X.w) X.A (call (.ref f) us) (EP X pins σ Q) X.xe s := by
  have r2 : Vals (vs ++ dvs) (us ++ ds) := r.append hd
  have hl : (us ++ ds).length = ps.length := by rw [← r2.length]; exact F.len _ _ _ _ h
  refine wpAny_call (codeAny_mono (F.run X.A X.stack s H ⟨us, []⟩ (us ++ ds) (vs ++ dvs) Q E hr I.env0 (hb s us I.kIn hl) r2 h) fun r s' hq => ?_)
  cases r with
  | error e => exact hx pins σ H s e s' I hq
  | ok fl =>
    cases fl with
    | ret u => exact I.after hq
    | next => exact False.elim hq
    | brk => exact False.elim hq
    | cont => exact False.elim hq
theorem pe_call (F : FnOk X.prog X.w X.K X.mg X.base CX k f fd ps sp) (hr : Room k X.A) (hg : Gl X x) (hm : X.mg x = some (.ref f)) (hk : PySem.W.keepIn X.K (.ref f) = true) (hb : Binds X.K fd ps ds) (hd : Vals dvs ds) (hx : Passes CX X E)
    (ha : PA X (e :: es) t) (hdb : (x == ("__debug__" : Str)) = false := by decide) (he : starEach (e :: es) X.env = (false, eval e X.env) :: starEach es X.env := by rfl) (hpl : (backTo pos (starEach es X.env)).any (·.1) = false := by rfl) :
    PE X (.Call (.Name x p) (e :: es) [] pos) (tCall sp dvs E t) := by
  intro pins s σ H Q I h
  refine wpAny_Call_Name_kw (ld_glob I hg hm ?_ hdb)
  refine PySem.W.callWith_K (h₀ := X.base) I.ok.mod.kin hk (thn (ha pos pins s σ H _ I h) fun us s1 ⟨vs, H1, I1, r, q⟩ => ⟨I1.kIn, ?_⟩) he hpl
  exact run_fn F hr hb hd hx I1 r q
theorem pe_meth {pl : Sem Bool} (he : PE X o ta) (c : Cls X.K C) (hm : Meth X.K C m f) (F : FnOk X.prog X.w X.K X.mg X.base CX k f fd ps sp) (hr : Room k X.A) (hb : Binds X.K fd ps ds) (hd : Vals dvs ds) (hx : Passes CX X E) (ha : PA X (e :: es) t)
    (hst : starEach (e :: es) X.env = (false, eval e X.env) :: starEach es X.env := by rfl) (hpl : (backTo pos (starEach es X.env)).any (·.1) = false := by rfl)
    (ht : eval (.Call (.Attribute o m apos) (e :: es) [] pos) X.env = (do
      let ov ← eval o X.env
      standAt apos.atName
      let (f, first) ← holding [ov] (getMethod ov m pl)
      callWith pos f first (backTo pos (starEach (e :: es) X.env)) (backToKw pos (keywordEach [] X.env))) := by rfl) :
    PE X (.Call (.Attribute o m apos) (e :: es) [] pos) (tMeth C m sp dvs E ta t) := by
  intro pins s σ H Q I h
  refine PySem.W.methodCall_KW (pl := pl) (thn (he pins s σ H _ I h) fun u s1 z => ?_) ht
  obtain ⟨x, H1, I1, rx, a, dx, fs, ex, ea, l, q⟩ := z
  subst ex
  obtain rfl : u = Value.ref a := rx
  refine getmeth_ok I1 ea c hm l ?_
  refine PySem.W.callWith_K (first := [.ref a]) (h₀ := X.base) I.ok.mod.kin hm.kp (thn (ha pos pins s1 σ H1 _ I1 q) fun us s2 ⟨vs, H2, I2, r, q2⟩ => ⟨I2.kIn, ?_⟩) hst hpl
  exact run_fn (us := .ref a :: us) (vs := .ref a :: vs) F hr hb hd hx I2 (.cons rfl r) q2
structure Mk (K : PySem.W.Frag) (C f : Addr) : Prop where
  makes : PySem.W.makesIn K C = true
  init : PySem.W.findIn K (.ref C) "__init__" = some (some (.ref f))
  fn : PySem.W.isFn K (.ref f) = true
  kp : PySem.W.keepIn K (.ref C) = true
theorem run_make {pins : List (Addr × Obj)} {σ : St} {H : Hp} {s : Shared} {Q : VK} {us : List Value} {vs : List V} (M : Mk X.K C f) (F : FnOk X.prog X.w X.K X.mg X.base CX k f fd ps sp) (hr : Room (k + 1) X.A) (hb : Binds X.K fd ps ds) (hd : Vals dvs ds)
    (hx : Passes CX X E) (I : Inv X pins σ H s) (r : Vals vs us)
    (h : ∀ x dx, H x = none → H dx = none → dx ≠ x → sp (.ref x :: (vs ++ dvs)) (upd (upd H dx (.own x)) x (.ins C dx [])) (fun v H2 => v = .non ∧ Q (.ref x) H2) E) :
    wpAny (model X.prog X.w) X.A (call (.ref C) us) (EP X pins σ Q) X.xe s := by
  have hq := h (s.heap.objs.size + 1) s.heap.objs.size (I.hok.fresh (Nat.le_succ _)) (I.hok.fresh (Nat.le_refl _)) (Nat.ne_of_lt (Nat.lt_succ_self _))
  have I2 := Inv.made (C := C) I
  have r2 : Vals (V.ref (s.heap.objs.size + 1) :: (vs ++ dvs)) (Value.ref (s.heap.objs.size + 1) :: (us ++ ds)) := .cons rfl (r.append hd)
  have hl : (Value.ref (s.heap.objs.size + 1) :: us ++ ds).length = ps.length := by
    have e := r2.length
    rw [F.len _ _ _ _ hq] at e
    exact e.symm
  refine wpAny_call (make_map (f := f) I.kIn M.makes M.init (beq_iff_eq.mp M.fn) (codeAny_mono (F.run _ X.stack _ _ ⟨Value.ref (s.heap.objs.size + 1) :: us, []⟩ (Value.ref (s.heap.objs.size + 1) :: (us ++ ds)) _ _ E (hr.make C us [])
    (I2.env0.make C us []) (hb _ (Value.ref (s.heap.objs.size + 1) :: us) I2.kIn hl) r2 hq) fun r s' hq' => ?_))
  cases r with
  | error e => exact hx pins σ _ _ e s' I2 hq'
  | ok fl =>
    cases fl with
    | ret u =>
      obtain ⟨v, H', I3, rv, ev, q3⟩ := I2.after hq'
      subst ev
      exact ⟨rv, ⟨V.ref (s.heap.objs.size + 1), H', I3, rfl, q3⟩⟩
    | next => exact False.elim hq'
    | brk => exact False.elim hq'
    | cont => exact False.elim hq'
theorem pe_make (M : Mk X.K C f) (F : FnOk X.prog X.w X.K X.mg X.base CX k f fd ps sp) (hr : Room (k + 1) X.A) (hg : Gl X x) (hm : X.mg x = some (.ref C)) (hb : Binds X.K fd ps ds) (hd : Vals dvs ds) (hx : Passes CX X E)
    (ha : PA X (e :: es) t) (hdb : (x == ("__debug__" : Str)) = false := by decide) (he : starEach (e :: es) X.env = (false, eval e X.env) :: starEach es X.env := by rfl) (hpl : (backTo pos (starEach es X.env)).any (·.1) = false := by rfl) :
    PE X (.Call (.Name x p) (e :: es) [] pos) (tMake C sp dvs E t) := by
  intro pins s σ H Q I h
  refine wpAny_Call_Name_kw (ld_glob I hg hm ?_ hdb)
  refine PySem.W.callWith_K (h₀ := X.base) I.ok.mod.kin M.kp (thn (ha pos pins s σ H _ I h) fun us s1 ⟨vs, H1, I1, r, q⟩ => ⟨I1.kIn, ?_⟩) he hpl
  exact run_make M F hr hb hd hx I1 r q
end
section
variable {X : Cx} {CX : CXT} {k : Nat} {f C : Addr} {fd : FuncData} {ps ks : List Str} {sp : Sp} {E : XK} {x m : Str} {p pos apos kpos : Pos} {e o : Expr} {es : List Expr} {kws : List Keyword} {te ta : TE} {t tk : TA} {nm : Option Str}
structure KBinds (K : PySem.W.Frag) (fd : FuncData) (ps ks : List Str) (g : List Value → List Value → List Value) (gV : List V → List V → List V) : Prop where
  to : ∀ (s : Shared) (us ws : List Value), K.In s.heap → (g us ws).length = ps.length → BindsTo s fd ⟨us, ks.zip ws⟩ (ps.zip (g us ws))
  rel : ∀ {vs : List V} {us : List Value} {zs : List V} {ws : List Value}, Vals vs us → Vals zs ws → Vals (gV vs zs) (g us ws)
variable {g : List Value → List Value → List Value} {gV : List V → List V → List V}
end
structure FnScope (N P : List Str) (sc : Scope) : Prop where
  kind : sc.kind = .function
  co : sc.isCoroutine = false
  gen : sc.isGenerator = false
  nd : N.Nodup
  pre : N.take P.length = P
  par : ∀ x ∈ P, sc.names.lookup x = some .local ∨ sc.names.lookup x = some .cell
  nofree : ∀ y ∈ sc.names, y.2 ≠ .free
theorem bindL_out {kindOf : Str → Option NameKind} {x : Str} : ∀ {binds : List (Str × Value)} {m : Str → Option Value}, (∀ v, (x, v) ∉ binds) → bindL kindOf binds m x = m x
  | [], _, _ => rfl
  | (n, v) :: r, m, h => by
    unfold bindL
    rw [bindL_out fun w hw => h w (List.mem_cons_of_mem _ hw)]
    split
    · have : x ≠ n := by rintro rfl; exact h v List.mem_cons_self
      simp [this]
    · rfl
theorem bindC_out {kindOf : Str → Option NameKind} {x : Str} : ∀ {binds : List (Str × Value)} {m : Str → Option Value}, (∀ v, (x, v) ∉ binds) → bindC kindOf binds m x = m x
  | [], _, _ => rfl
  | (n, v) :: r, m, h => by
    unfold bindC
    rw [bindC_out fun w hw => h w (List.mem_cons_of_mem _ hw)]
    split
    · rfl
    · have : x ≠ n := by rintro rfl; exact h v List.mem_cons_self
      simp [this]
theorem bindL_get {kindOf : Str → Option NameKind} {x : Str} {v : Value} : ∀ {P : List Str} {vs : List Value} {i : Nat} {m : Str → Option Value}, P.Nodup → P[i]? = some x → vs[i]? = some v → kindOf x = some .local →
    bindL kindOf (P.zip vs) m x = some v
  | [], _, _, _, _, h, _, _ => by simp at h
  | _ :: _, [], _, _, _, _, h, _ => by simp at h
  | p :: P, w :: vs, 0, m, nd, h1, h2, hk => by
    simp at h1 h2; subst h1; subst h2
    show bindL kindOf ((p, w) :: P.zip vs) m p = _
    unfold bindL
    rw [bindL_out fun v hv => (List.nodup_cons.mp nd).1 (List.of_mem_zip hv).1, if_pos hk]
    simp
  | p :: P, w :: vs, i + 1, m, nd, h1, h2, hk => by
    show bindL kindOf ((p, w) :: P.zip vs) m x = _
    unfold bindL
    exact bindL_get (i := i) (List.nodup_cons.mp nd).2 (by simpa using h1) (by simpa using h2) hk
theorem bindC_get {kindOf : Str → Option NameKind} {x : Str} {v : Value} : ∀ {P : List Str} {vs : List Value} {i : Nat} {m : Str → Option Value}, P.Nodup → P[i]? = some x → vs[i]? = some v → kindOf x ≠ some .local →
    bindC kindOf (P.zip vs) m x = some v
  | [], _, _, _, _, h, _, _ => by simp at h
  | _ :: _, [], _, _, _, _, h, _ => by simp at h
  | p :: P, w :: vs, 0, m, nd, h1, h2, hk => by
    simp at h1 h2; subst h1; subst h2
    show bindC kindOf ((p, w) :: P.zip vs) m p = _
    unfold bindC
    rw [bindC_out fun v hv => (List.nodup_cons.mp nd).1 (List.of_mem_zip hv).1, if_neg hk]
    simp
  | p :: P, w :: vs, i + 1, m, nd, h1, h2, hk => by
    show bindC kindOf ((p, w) :: P.zip vs) m x = _
    unfold bindC
    exact bindC_get (i := i) (List.nodup_cons.mp nd).2 (by simpa using h1) (by simpa using h2) hk
noncomputable def start (N : List Str) (vs : List V) : St := vs.map some ++ List.replicate (N.length - vs.length) none
noncomputable def cxOf (CX : CXT) (P : Program) (w : World) (K : PySem.W.Frag) (mg : Str → Option Value) (base : Heap) (N : List Str) (qual : Str) (scope : Scope) (f : Addr) (cd : Value) (A : Around) (outer : List Env) (s : Shared) (H : Hp) (E : XK) : Cx where
  prog := P
  w := w
  K := K
  mg := mg
  base := base
  A := A.deeper (envOfC qual scope s.heap.objs.size f cd)
  N := N
  s₀ := s
  H₀ := H
  env := envOfC qual scope s.heap.objs.size f cd
  outer := outer
  stack := envOfC qual scope s.heap.objs.size f cd :: outer
  ex := []
  calm := true
  fn := fun _ => true
  pn := []
  xe := fun e s' => wpAny (model P w) (A.deeper (envOfC qual scope s.heap.objs.size f cd)) (leaving (envOfC qual scope s.heap.objs.size f cd) e) (fun _ s'' => CX outer H s E e s'') (fun e' s'' => CX outer H s E e' s'') s'
theorem cell_has {sc : Scope} {n : Nat} {x : Str} (h : sc.names.lookup x = some .cell) : ∃ c, (cellsFrom n sc.names []).lookup x = some c := by
  have q := PySem.W.cellsFrom_some sc.names n [] (.inl h)
  exact Option.isSome_iff_exists.mp q
theorem inv_start {CX : CXT} {P : Program} {w : World} {K : PySem.W.Frag} {mg : Str → Option Value} {base : Heap} {N ps : List Str} {qual : Str} {scope : Scope} {f : Addr} {cd : Value} {A : Around} {outer : List Env} {s s1 : Shared} {H : Hp} {E : XK} {us : List Value} {vs : List V}
    (S : FnScope N ps scope) (hd : A.handled = none) (e0 : Env0 P w K mg base A outer s H) (hl : vs.length = ps.length) (r : Vals vs us)
    (x : InCallC s s.heap.objs.size (bindL (envOfC qual scope s.heap.objs.size f cd).kindOf (ps.zip us) fun _ => none) (cellsFrom (s.heap.objs.size + 1) scope.names []) (bindC (envOfC qual scope s.heap.objs.size f cd).kindOf (ps.zip us) fun _ => none) s1) :
    Inv (cxOf CX P w K mg base N qual scope f cd A outer s H E) [] (start N vs) H s1 := by
  have hpl : ps.length ≤ N.length := by have := congrArg List.length S.pre; rw [List.length_take] at this; omega
  obtain ⟨h1, tk, rfl, hk⟩ := x.done
  have noA : ∀ b : Addr, b ∉ (cxOf CX P w K mg base N qual scope f cd A outer s H E).ex := fun b z => absurd (show b ∈ ([] : List Addr) from z) (by simp)
  refine ⟨⟨e0.mod, S.kind, rfl, rfl, Nat.le_refl _, fun y z c h1 h2 => ?_, fun y hy => ?_, fun y c _ h => ?_, fun _ => hd, Around.frames_deeper e0.frames, .inr ⟨rfl, rfl⟩, fun b z => absurd z (noA b), e0.bs, e0.bsz, fun b _ _ => noA b, fun b z => absurd z (noA b), e0.funs, e0.frf⟩,
    rfl, e0.bare, Un.kept hk, ⟨_, x.toInCall.ns, fun i y v h1 h2 h3 => ?_⟩, fun y c h => ⟨_, x.cell y c h⟩, e0.hok.fresh (Nat.le_refl _), fun y c h => ?_, fun p hp => absurd (show p ∈ ([] : List (Addr × Obj)) from hp) (by simp), e0.hok.kept hk, ?_⟩
  · exact name_of_addr x.apart (PySem.mem_of_lookup h1) (PySem.mem_of_lookup h2)
  · have hy : scope.names.lookup y = some .cell ∨ scope.names.lookup y = some .free := hy
    rcases hy with hy | hy
    · exact cell_has hy
    · exact absurd rfl (S.nofree _ (PySem.mem_of_lookup hy))
  · exact Nat.le_of_lt (x.above y c (PySem.mem_of_lookup h))
  · have hi : i < vs.length := by
      unfold start at h2
      by_cases hi : i < vs.length
      · exact hi
      · rw [List.getElem?_append_right (by simpa using hi)] at h2
        rw [List.getElem?_replicate] at h2
        split at h2 <;> cases h2
    have ha : vs[i]? = some v := by
      unfold start at h2
      rw [List.getElem?_append_left (by simpa using hi), List.getElem?_map] at h2
      cases e : vs[i]? with
      | none => rw [e] at h2; cases h2
      | some a => rw [e] at h2; cases h2; rfl
    obtain ⟨u, hu, rv⟩ := r.get ha
    have hp : ps[i]? = some y := by
      rw [← S.pre, List.getElem?_take_of_lt (by omega)]; exact h1
    have ndP : ps.Nodup := by rw [← S.pre]; exact S.nd.sublist (List.take_sublist _ _)
    refine ⟨u, rv, ?_⟩
    rcases S.par y (List.mem_of_getElem? hp) with k | k
    · exact .inl ⟨k, bindL_get ndP hp hu k⟩
    · obtain ⟨c, e⟩ := cell_has (n := s.heap.objs.size + 1) k
      refine .inr ⟨.inl k, c, e, ?_⟩
      have q := x.cell y c e
      rw [bindC_get ndP hp hu (by show scope.names.lookup y ≠ _; rw [k]; decide)] at q
      exact q
  · exact e0.hok.fresh (Nat.le_of_lt (x.above y c (PySem.mem_of_lookup h)))
  · unfold start
    show _ = N.length
    rw [List.length_append, List.length_map, List.length_replicate]
    omega
theorem fn_of {CX : CXT} {P : Program} {w : World} {K : PySem.W.Frag} {mg : Str → Option Value} {base : Heap} {k : Nat} {f : Addr} {name qual : Str} {params : Arguments} {body : List Stmt} {scope : Scope} {dV kV doc pm cdv ct oc : Value} {an od : Option Addr}
    {osl : Array (Option Value)} {N ps : List Str} {sp : Sp} (lk : K.lookup f = some ⟨oc, od, .func (PySem.W.fnOf name qual params body scope dV kV doc pm an cdv ct), osl⟩) (hcd : PySem.W.codeIn K cdv qual = true) (S : FnScope N ps scope)
    (len : ∀ vs H Q E, sp vs H Q E → vs.length = ps.length)
    (hbody : ∀ (A : Around) (outer : List Env) (s : Shared) (H : Hp) (vs : List V) (Q : VK) (E : XK), Room k (A.deeper (envOfC qual scope s.heap.objs.size f cdv)) → sp vs H Q E →
      ∃ t, PSs (cxOf CX P w K mg base N qual scope f cdv A outer s H E) body t ∧ t { nx := fun _ H' => Q .non H', rt := Q } (start N vs) H) :
    FnOk P w K mg base CX (k + 1) f (PySem.W.fnOf name qual params body scope dV kV doc pm an cdv ct) ps sp := by
  refine ⟨len, fun A outer s H args us vs Q E hr e0 hb r hsp => ?_⟩
  have hl := len _ _ _ _ hsp
  have KX : K.In s.heap := e0.mod.kin.keeps fun b o e => (e0.bs b o e).1
  have lim : s.heap.NoLimit := e0.mod.nolimit.keeps fun b o e => (e0.bs b o e).1
  have hkind : ∀ y ∈ ps.zip us, scope.names.lookup y.1 = some .local ∨ (scope.names.lookup y.1 = some .cell ∧ ((cellsFrom (s.heap.objs.size + 1) scope.names []).lookup y.1).isSome = true) := fun ⟨n, v⟩ hy => by
    rcases S.par n (List.of_mem_zip hy).1 with q | q
    · exact .inl q
    · exact .inr ⟨q, PySem.W.cellsFrom_some _ _ _ (.inl q)⟩
  refine codeAny_call_function hr.depth (KX _ _ lk) rfl S.co S.gen rfl (PySem.W.codeRec_of KX hcd) (hb _ _ _ _ ?_)
  refine wpAny_newFunctionEnv_cells S.kind hkind fun env he s1 x => ?_
  subst he
  refine ⟨lim.keeps x.toInCall.keep, codeAny_func ?_⟩
  obtain ⟨t, ht, hq⟩ := hbody A outer s H vs Q E (hr.deeper _) hsp
  have I : Inv (cxOf CX P w K mg base N qual scope f cdv A outer s H E) [] (start N vs) H s1 := inv_start S hr.hd e0 hl r x
  refine wpAny_mono (ht [] s1 (start N vs) H _ I hq) (fun fl s' hs => ?_) fun e s' hs => hs
  have fin : ∀ {σ' : St} {H' : Hp} {v : V} {u : Value}, Inv (cxOf CX P w K mg base N qual scope f cdv A outer s H E) [] σ' H' s' → RelV v u → Q v H' → CE outer P w H s Q u s' :=
    fun {σ' H' v u} J rv q => ⟨v, H', J.os, J.bare, J.base, J.hok, rv, q⟩
  cases fl with
  | ret u =>
    obtain ⟨v, σ', H', J, rv, q⟩ := hs
    exact fin J rv q
  | next =>
    obtain ⟨σ', H', J, q⟩ := hs
    exact fin (v := V.non) (u := Value.none) J rfl q
  | brk =>
    obtain ⟨_, _, _, q⟩ := hs
    exact False.elim q
  | cont =>
    obtain ⟨_, _, _, q⟩ := hs
    exact False.elim q
end L2
namespace L2
open PySem PySem.Spec PyProof.Rows
section
variable {X : Cx} {x : Str} {p pos : Pos} {e : Expr} {es : List Expr} {t : TA} {id T : String} {r : List V → Hp → VK → Prop}
noncomputable def tCB (r : List V → Hp → VK → Prop) (t : TA) : TE := fun σ H Q => t σ H fun vs H1 => r vs H1 Q
theorem pe_callB (hc : CallR X (.builtin id) r) (hg : Gl X x) (hm : X.mg x = none) (hv : bootBuiltins x = some (.builtin id)) (ha : PA X (e :: es) t) (hn : x ≠ "__name__" := by decide) (hdb : (x == ("__debug__" : Str)) = false := by decide)
    (he : starEach (e :: es) X.env = (false, eval e X.env) :: starEach es X.env := by rfl) (hpl : (backTo pos (starEach es X.env)).any (·.1) = false := by rfl) : PE X (.Call (.Name x p) (e :: es) [] pos) (tCB r t) := by
  intro pins s σ H Q I h
  refine wpAny_Call_Name_kw (ld_blt I hg hm hv ?_ hn hdb)
  exact PyProof.Rows.callWith_builtin1 (thn (ha pos pins s σ H _ I h) fun us s1 ⟨vs, H1, I1, r1, q1⟩ => hc pins s1 σ H1 vs us Q I1 r1 q1) he hpl
theorem pe_callTy (hc : CallR X (.type T) r) (hg : Gl X x) (hm : X.mg x = none) (hv : bootBuiltins x = some (.type T)) (ha : PA X (e :: es) t) (hn : x ≠ "__name__" := by decide) (hdb : (x == ("__debug__" : Str)) = false := by decide)
    (he : starEach (e :: es) X.env = (false, eval e X.env) :: starEach es X.env := by rfl) (hpl : (backTo pos (starEach es X.env)).any (·.1) = false := by rfl) : PE X (.Call (.Name x p) (e :: es) [] pos) (tCB r t) := by
  intro pins s σ H Q I h
  refine wpAny_Call_Name_kw (ld_blt I hg hm hv ?_ hn hdb)
  exact PyProof.Rows.callWith_type1 (thn (ha pos pins s σ H _ I h) fun us s1 ⟨vs, H1, I1, r1, q1⟩ => hc pins s1 σ H1 vs us Q I1 r1 q1) he hpl
end
end L2
namespace HT
open PySem PyProof.Rows
section
open PySem.SeqAt
open PySem.AutoSeq1 (wpAny_loadPart')
open PySem.MeetsSeq PySem.MeetsSeq2 PySem.MeetsSeq3
end
section
variable {prog : Program} {w : World} {A : Around} {E : Value → Shared → Prop} {s : Shared}
theorem cat_tup {t b : Addr} {vs ws : List Value} {Q : Value → Shared → Prop} (ht : IsTup s.heap t vs.toArray) (hb : IsTup s.heap b ws.toArray) (hv : vs ≠ [])
    (h1 : ws = [] → Q (.ref t) s) (h2 : ws ≠ [] → Q (.ref s.heap.objs.size) { s with heap := s.heap.push { cls := .type "tuple", data := .seq (vs ++ ws).toArray } })
    (hsz : vs.length + ws.length ≤ sizeLine) : wpAny (model prog w) A (binaryOp .Add (.ref t) (.ref b)) Q E s := by
  obtain ⟨⟨cls, dd, data, sl⟩, ho, hc, n, hd⟩ := id ht
  obtain ⟨⟨cls2, dd2, data2, sl2⟩, ho2, hc2, n2, hd2⟩ := id hb
  simp only at hc hd hc2 hd2
  subst hc hd hc2 hd2
  have e : vs.toArray ++ ws.toArray = (vs ++ ws).toArray := by simp
  by_cases hw : ws = []
  · exact concat_meets ⟨_, ho, rfl⟩ ⟨_, ho2, rfl⟩ noFill_tuple_add seq_tuple_add PySem.F.slot_tuple_add PySem.F.entry_tuple_add (PySem.F.args_tuple_add_2 _ _)
      (tuple_addW1 t b vs.toArray ws.toArray n n2 dd dd2 sl sl2 (by simpa using hv) (by simp [hw])) ⟨ho, ho2, h1 hw⟩
  · refine concat_meets ⟨_, ho, rfl⟩ ⟨_, ho2, rfl⟩ noFill_tuple_add seq_tuple_add PySem.F.slot_tuple_add PySem.F.entry_tuple_add (PySem.F.args_tuple_add_2 _ _)
      (tuple_addW2 t b vs.toArray ws.toArray n n2 dd dd2 sl sl2 (by simpa using hv) (by simpa using hw) (by rw [List.size_toArray, List.size_toArray]; exact hsz)) ⟨ho, ho2, ?_⟩
    rw [e]
    exact h2 hw
noncomputable def sIx (n d : Nat) : Option Int → Nat
  | none => d
  | some v => if v < 0 then (v + (n : Int)).toNat else min v.toNat n
theorem sIx_none (n d : Nat) : sIx n d none = d := rfl
theorem sIx_nat (n d k : Nat) : sIx n d (some (k : Int)) = min k n := by
  show (if (k : Int) < 0 then ((k : Int) + (n : Int)).toNat else min (k : Int).toNat n) = min k n
  rw [if_neg (by omega), Int.toNat_natCast]
theorem sIx_le (n d : Nat) (hd : d ≤ n) (o : Option Int) : sIx n d o ≤ n := by
  cases o with
  | none => exact hd
  | some v =>
    show (if v < 0 then (v + (n : Int)).toNat else min v.toNat n) ≤ n
    by_cases hv : v < 0
    · rw [if_pos hv]; omega
    · rw [if_neg hv]; exact Nat.min_le_right _ _
theorem clip_eq (v : Int) (n d : Nat) : (if v < 0 then max (v + (n : Int)) 0 else min v (n : Int)) = ((sIx n d (some v) : Nat) : Int) := by
  show (if v < 0 then max (v + (n : Int)) 0 else min v (n : Int)) = (((if v < 0 then (v + (n : Int)).toNat else min v.toNat n) : Nat) : Int)
  by_cases hv : v < 0
  · simp only [if_pos hv]; omega
  · simp only [if_neg hv]; omega
theorem adjust_gen (lo hi : Option Int) (n : Nat) : Builtin.Slice.sliceAdjust lo hi 1 (n : Int) = (((sIx n 0 lo : Nat) : Int), ((sIx n n hi : Nat) : Int)) := by
  have h1 : ¬ ((1 : Int) < 0) := by omega
  unfold Builtin.Slice.sliceAdjust
  simp only [h1, if_false]
  refine Prod.ext ?_ ?_
  · cases lo with
    | none => rfl
    | some v => exact clip_eq v n 0
  · cases hi with
    | none => rfl
    | some v => exact clip_eq v n n
theorem places_gen (i j : Nat) : Builtin.Slice.slicePlaces (i : Int) (j : Int) 1 = j - i := by
  unfold Builtin.Slice.slicePlaces
  have h1 : (1 : Int) > 0 := by omega
  simp only [h1, if_true, Int.ediv_one]
  split <;> omega
theorem slicePart_ {v : Value} {o : Option Int} {Q : Option Int → Shared → Prop} (p : IsPart v o) (h : Q o s) : wpAny (model prog w) A (Builtin.Slice.slicePartIndex v) Q E s := by
  cases p with
  | none => exact slicePart_none h
  | int i t => exact slicePart_int h
theorem sliceApplied_gen {sl : Addr} {vl vu : Value} {lo hi : Option Int} {n : Nat} {Q : Int × Int × Nat → Shared → Prop} (hs : s.heap.IsSliceOf sl vl vu .none) (pl : IsPart vl lo) (pu : IsPart vu hi)
    (h : Q (((sIx n 0 lo : Nat) : Int), 1, sIx n n hi - sIx n 0 lo) s) : wpAny (model prog w) A (Builtin.Slice.sliceApplied (.ref sl) (pure (n : Int))) Q E s := by
  obtain ⟨os, hos, hcs, hds⟩ := id hs
  unfold Builtin.Slice.sliceApplied Builtin.Slice.sliceFields
  refine wpAny_bind (wpAny_bind (wpAny_field hos hds (x := vl) rfl (wpAny_bind (wpAny_field hos hds (x := vu) rfl (wpAny_bind (wpAny_field hos hds (x := .none) rfl (wpAny_pure ?_)))))))
  refine wpAny_bind (slicePart_none ?_)
  show wpAny _ _ (if ((1 : Int) == 0) = true then _ else _) _ _ s
  rw [if_neg (by decide)]
  refine wpAny_bind (slicePart_ pl (wpAny_bind (slicePart_ pu (wpAny_bind (wpAny_pure ?_)))))
  show wpAny _ _ (match Builtin.Slice.sliceAdjust lo hi 1 (n : Int) with | (lo, hi) => pure (lo, (1 : Int), Builtin.Slice.slicePlaces lo hi 1)) _ _ s
  rw [adjust_gen lo hi n]
  show wpAny _ _ (pure (((sIx n 0 lo : Nat) : Int), (1 : Int), Builtin.Slice.slicePlaces ((sIx n 0 lo : Nat) : Int) ((sIx n n hi : Nat) : Int) 1)) _ _ s
  rw [places_gen]
  exact wpAny_pure h
theorem pick_gen (xs : Array Value) (i k : Nat) : ((List.range k).filterMap fun (m : Nat) => xs[((i : Int) + (m : Int) * 1).toNat]?).toArray = ((xs.toList.drop i).take k).toArray := by
  have e : (fun (m : Nat) => xs[((i : Int) + (m : Int) * 1).toNat]?) = fun m => xs[i + m]? := by
    funext m
    have : ((i : Int) + (m : Int) * 1).toNat = i + m := by omega
    rw [this]
  rw [e]
  have := pick_run xs i k
  rw [List.filterMap_map] at this
  have e2 : ((fun x => xs[x]?) ∘ fun x => i + x) = fun m => xs[i + m]? := rfl
  rw [e2] at this
  rw [this]
theorem getItem_tuple_cut {t sl : Addr} {items : Array Value} {vl vu : Value} {lo hi : Option Int} {Q : Value → Shared → Prop} (ht : IsTup s.heap t items) (hs : s.heap.IsSliceOf sl vl vu .none) (pl : IsPart vl lo) (pu : IsPart vu hi)
    (hw : ¬ (sIx items.size 0 lo = 0 ∧ sIx items.size items.size hi = items.size))
    (h : Q (.ref s.heap.objs.size) { s with heap := s.heap.push { cls := .type "tuple", data := .seq ((items.toList.drop (sIx items.size 0 lo)).take (sIx items.size items.size hi - sIx items.size 0 lo)).toArray } })
    (hsz : items.size ≤ sizeLine) : wpAny (model prog w) A (getItem (.ref t) (.ref sl)) Q E s := by
  have htake : sizeOk (.seq ((items.toList.drop (sIx items.size 0 lo)).take (sIx items.size items.size hi - sIx items.size 0 lo)).toArray) := by
    show ((items.toList.drop (sIx items.size 0 lo)).take (sIx items.size items.size hi - sIx items.size 0 lo)).toArray.size ≤ sizeLine
    rw [List.size_toArray, List.length_take, List.length_drop, Array.length_toList]
    omega
  have hj : sIx items.size items.size hi ≤ items.size := sIx_le _ _ (Nat.le_refl _) hi
  obtain ⟨os, hos, hcs, hds⟩ := id hs
  have hTs : s.TypeIs (.ref sl) "slice" := ⟨os, hos, hcs⟩
  unfold getItem
  try with_reducible refine wpAny_holding ?_
  first | refine wpAny_bind (wpAny_pure ?_) | skip
  refine wpAny_bind (wpAny_sequenceKey ht.typeIs (by decide) ?_)
  refine wpAny_bind (wpAny_callSpecial?_slot (name := Str.ofString "__getitem__") ht.typeIs PyProof.Rows.slot_tuple_getitem
    (wpAny_call_entry PyProof.Rows.slot_tuple_getitem ht.typeIs entry_tuple_getitem ?_ (args_tuple_getitem _ _)))
  show wpAny _ _ (Builtin.Tuple.tupleItemsOf (.ref t) >>= _) _ _ s
  refine wpAny_bind (tupleItemsOf_ ht ?_)
  refine wpAny_bind (wpAny_typeOf hTs ?_)
  rw [if_pos (by decide)]
  refine wpAny_bind (sliceApplied_gen hs pl pu ?_)
  have hno : ¬ ((((sIx items.size 0 lo : Nat) : Int) == 0 && (1 : Int) == 1 && (sIx items.size items.size hi - sIx items.size 0 lo) == items.size) = true) := by
    intro q
    rw [Bool.and_eq_true, Bool.and_eq_true] at q
    have q1 : ((sIx items.size 0 lo : Nat) : Int) = 0 := eq_of_beq q.1.1
    have q2 : sIx items.size items.size hi - sIx items.size 0 lo = items.size := eq_of_beq q.2
    exact hw ⟨by omega, by omega⟩
  show wpAny _ _ (if (((sIx items.size 0 lo : Nat) : Int) == 0 && (1 : Int) == 1 && (sIx items.size items.size hi - sIx items.size 0 lo) == items.size) = true then _ else _) _ _ s
  rw [if_neg hno, pick_gen]
  first
    | exact wpAny_bind (m := Builtin.Tuple.tupleExact _) (wpAny_newObj_type (wpAny_pure ⟨_, rfl, wpAny_pure h⟩) htake)
    | exact wpAny_bind (m := Builtin.Tuple.tupleExact _) (wpAny_newObj_type (wpAny_bind (wpAny_pure (wpAny_pure ⟨_, rfl, wpAny_pure h⟩))) htake)
    | exact wpAny_bind (wpAny_bind (m := Builtin.Tuple.tupleExact _) (wpAny_newObj_type (wpAny_pure (wpAny_pure ⟨_, rfl, wpAny_pure h⟩)) htake))
    | exact wpAny_bind (wpAny_bind (m := Builtin.Tuple.tupleExact _) (wpAny_newObj_type (wpAny_pure ⟨_, rfl, wpAny_pure h⟩) htake))
end
end HT
namespace L2
open PySem PySem.Spec PyProof.Rows
noncomputable abbrev TO := St → Hp → (Option Int → Hp → Prop) → Prop
noncomputable def PO (X : Cx) (e : Option Expr) (t : TO) : Prop :=
  ∀ (pins : List (Addr × Obj)) (s : Shared) (σ : St) (H : Hp) (Q : Option Int → Hp → Prop), Inv X pins σ H s → t σ H Q →
    wpAny (model X.prog X.w) X.A (evalPart e X.env) (fun u s' => ∃ o H', Inv X pins σ H' s' ∧ IsPart u o ∧ Q o H') X.xe s
noncomputable def tNoPart : TO := fun _ H Q => Q none H
noncomputable def tPart (t : TE) : TO := fun σ H Q => t σ H fun x H1 => ∃ i, x = .int i ∧ Q (some i) H1
theorem intsAre_of {ns : List Int} : ∀ {us : List Value}, Vals (ns.map V.int) us → IntsAre us ns := by
  induction ns with
  | nil => intro us r; rw [List.map_nil] at r; cases r; exact .nil
  | cons n ns ih =>
    intro us r
    rw [List.map_cons] at r
    cases r with
    | cons r1 r2 =>
      obtain ⟨t, e⟩ := r1
      subst e
      exact .cons n t (ih r2)
section
variable {X : Cx} {e : Expr} {te : TE} {lo hi : Option Expr} {tl th : TO} {pos p2 : Pos}
theorem po_none : PO X none tNoPart := by
  intro pins s σ H Q I h
  rw [evalPart_none]
  exact wpAny_pure ⟨none, H, I, .none, h⟩
theorem po_some (h : PE X e te) : PO X (some e) (tPart te) := by
  intro pins s σ H Q I hw
  rw [evalPart_some]
  refine thn (h pins s σ H _ I hw) fun u s1 ⟨x, H1, I1, r1, q1⟩ => ?_
  obtain ⟨i, rfl, q⟩ := q1
  obtain ⟨t, rfl⟩ := r1
  exact ⟨some i, H1, I1, .int i t, q⟩
noncomputable def SlR (X : Cx) (r : V → Option Int → Option Int → Hp → VK → Prop) : Prop :=
  ∀ (pins : List (Addr × Obj)) (s : Shared) (σ : St) (H : Hp) (x : V) (v vl vu : Value) (lo hi : Option Int) (sl : Addr) (Q : VK), Inv X pins σ H s → RelV x v → s.heap.IsSliceOf sl vl vu .none → IsPart vl lo → IsPart vu hi → r x lo hi H Q →
    ∃ T id, typeLookup (.type T) "__getitem__" = pure (some (.builtin id)) ∧ s.TypeIs v T ∧ wpAny (model X.prog X.w) X.A (getItem v (.ref sl)) (EP X pins σ Q) X.xe s
theorem SlR.or {r r' : V → Option Int → Option Int → Hp → VK → Prop} (h : SlR X r) (h' : SlR X r') : SlR X (fun x lo hi H Q => r x lo hi H Q ∨ r' x lo hi H Q) := by
  intro pins s σ H x v vl vu lo hi sl Q I rx hs pl pu q
  rcases q with q | q
  · exact h pins s σ H x v vl vu lo hi sl Q I rx hs pl pu q
  · exact h' pins s σ H x v vl vu lo hi sl Q I rx hs pl pu q
noncomputable def tSl (r : V → Option Int → Option Int → Hp → VK → Prop) (te : TE) (tl th : TO) : TE := fun σ H Q => te σ H fun x H1 => tl σ H1 fun l H2 => th σ H2 fun u H3 => r x l u H3 Q
theorem pe_slice {r : V → Option Int → Option Int → Hp → VK → Prop} (hr : SlR X r) (he : PE X e te) (hl : PO X lo tl) (hu : PO X hi th) : PE X (.Subscript e (.Slice lo hi none p2) pos) (tSl r te tl th) := by
  intro pins s σ H Q I h
  refine Subscript_ (thn (he pins s σ H _ I h) fun v s1 ⟨x, H1, I1, r1, q1⟩ => ?_)
  refine wpAny_Slice (thn (hl pins s1 σ H1 _ I1 q1) fun vl s2 ⟨l, H2, I2, pl, q2⟩ => thn (hu pins s2 σ H2 _ I2 q2) fun vu s3 ⟨u, H3, I3, pu, q3⟩ => ?_)
  rw [evalPart_none]
  refine wpAny_pure ?_
  have I4 : Inv X pins σ H3 { s3 with heap := s3.heap.push { cls := .type "slice", data := .fields #[vl, vu, .none] } } := I3.kept (t' := s3.toks) fun b ob q => Heap.get?_push_of_some _ q
  obtain ⟨T, id, hT, ht, hg⟩ := hr pins { s3 with heap := s3.heap.push { cls := .type "slice", data := .fields #[vl, vu, .none] } } σ H3 x v vl vu l u s3.heap.objs.size Q I4 r1 (Heap.IsSliceOf.new ..) pl pu q3
  show wpAny (model X.prog X.w) X.A (subscriptTail e (.Slice lo hi none p2) v (.ref s3.heap.objs.size)) (EP X pins σ Q) X.xe { s3 with heap := s3.heap.push { cls := .type "slice", data := .fields #[vl, vu, .none] } }
  exact tail_any (ops := [.ref s3.heap.objs.size, v]) ht hT hg (by with_unfolding_all rfl)
noncomputable def cutV (xs : List V) (lo hi : Option Int) : List V := (xs.drop (HT.sIx xs.length 0 lo)).take (HT.sIx xs.length xs.length hi - HT.sIx xs.length 0 lo)
theorem cutV_length (xs : List V) (lo hi : Option Int) : (cutV xs lo hi).length ≤ xs.length := by
  unfold cutV
  rw [List.length_take, List.length_drop]
  omega
noncomputable def rSlT (K : PySem.W.Frag) : V → Option Int → Option Int → Hp → VK → Prop := fun x lo hi H Q => ∃ a xs, x = .ref a ∧ SqT K H a xs ∧
  ¬ (HT.sIx xs.length 0 lo = 0 ∧ HT.sIx xs.length xs.length hi = xs.length) ∧ ∀ p, H p = none → Q (.ref p) (upd H p (.tup (cutV xs lo hi)))
theorem sl_tup : SlR X (rSlT X.K) := by
  intro pins s σ H x v vl vu lo hi sl Q I rx hs pl pu h
  obtain ⟨a, xs, rfl, hx, hw, q⟩ := h
  cases rx
  obtain ⟨its, r, ht, hz⟩ := I.tuple hx
  have hlen : its.toArray.size = xs.length := by rw [List.size_toArray]; exact r.length.symm
  refine ⟨"tuple", _, PyProof.Rows.slot_tuple_getitem.lookup, ht.typeIs, ?_⟩
  refine HT.getItem_tuple_cut ht hs pl pu (by rw [hlen]; exact hw) ?_ (by rw [hlen]; exact hz)
  rw [hlen]
  refine ⟨.ref s.heap.objs.size, _, I.laid (t' := s.toks) (o := .tup (cutV xs lo hi)) (fun b ob q => Heap.get?_push_of_some _ q) (Nat.le_refl _) ?_, rfl, q _ (I.hok.fresh (Nat.le_refl _))⟩
  exact ⟨Nat.le_trans (cutV_length xs lo hi) hz, _, (r.drop (HT.sIx xs.length 0 lo)).take (HT.sIx xs.length xs.length hi - HT.sIx xs.length 0 lo), IsTup.new _ _⟩
noncomputable def rCatT (K : PySem.W.Frag) : R2 := fun x y H Q => ∃ a b xs ys, x = .ref a ∧ y = .ref b ∧ SqT K H a xs ∧ SqT K H b ys ∧ xs ≠ [] ∧ xs.length + ys.length ≤ sizeLine ∧
  (ys = [] → Q (.ref a) H) ∧ (ys ≠ [] → ∀ p, H p = none → Q (.ref p) (upd H p (.tup (xs ++ ys))))
theorem Vals.nil_iff {xs : List V} {us : List Value} (r : Vals xs us) : us = [] ↔ xs = [] := by
  cases r with
  | nil => simp
  | cons _ _ => simp
theorem op_catT : OpR X (binaryOp .Add) (rCatT X.K) := by
  intro pins s σ H x y v u Q I rx ry h
  obtain ⟨a, b, xs, ys, rfl, rfl, ha, hb, hx, hz, q1, q2⟩ := h
  cases rx
  cases ry
  obtain ⟨its, r1, p1, _⟩ := I.tuple ha
  obtain ⟨its2, r2, p2, _⟩ := I.tuple hb
  refine HT.cat_tup p1 p2 (fun z => hx (r1.nil_iff.mp z)) (fun z => ⟨.ref a, H, I, rfl, q1 (r2.nil_iff.mp z)⟩) (fun z => ?_) (by rw [← r1.length, ← r2.length]; exact hz)
  refine ⟨.ref s.heap.objs.size, _, I.laid (t' := s.toks) (o := .tup (xs ++ ys)) (fun b ob q => Heap.get?_push_of_some _ q) (Nat.le_refl _) ?_, rfl, q2 (fun w => z (r2.nil_iff.mpr w)) _ (I.hok.fresh (Nat.le_refl _))⟩
  exact ⟨by rw [List.length_append]; exact hz, _, r1.append r2, IsTup.new _ _⟩
end
end L2
namespace L2
open PySem PySem.Spec PyProof.Rows
noncomputable def ixN (n : Nat) (i : Int) : Option Nat := if 0 ≤ i then (if i < n then some i.toNat else none) else if -(n : Int) ≤ i then some (i + n).toNat else none
noncomputable def atI {α : Type} (xs : List α) (i : Int) : Option α := (ixN xs.length i).bind fun j => xs[j]?
theorem ixN_seq {n : Nat} {i : Int} {j : Nat} (h : ixN n i = some j) : seqIndex? i n = some j ∧ j < n ∧ -(n : Int) ≤ i ∧ i < n := by
  unfold ixN at h
  by_cases h0 : 0 ≤ i
  · rw [if_pos h0] at h
    by_cases h1 : i < n
    · rw [if_pos h1] at h
      have e : i.toNat = j := Option.some.inj h
      exact ⟨by rw [seqIndex_of h0 h1, e], by omega, by omega, h1⟩
    · rw [if_neg h1] at h; cases h
  · rw [if_neg h0] at h
    by_cases h1 : -(n : Int) ≤ i
    · rw [if_pos h1] at h
      have e : (i + n).toNat = j := Option.some.inj h
      exact ⟨by rw [seqIndex_neg (by omega) h1, e], by omega, h1, by omega⟩
    · rw [if_neg h1] at h; cases h
theorem atI_get {α : Type} {xs : List α} {i : Int} {v : α} (h : atI xs i = some v) : ∃ j, seqIndex? i xs.length = some j ∧ xs[j]? = some v ∧ j < xs.length ∧ -(xs.length : Int) ≤ i ∧ i < xs.length := by
  unfold atI at h
  cases e : ixN xs.length i with
  | none => rw [e] at h; cases h
  | some j =>
    rw [e] at h
    obtain ⟨h1, h2, h3, h4⟩ := ixN_seq e
    exact ⟨j, h1, h, h2, h3, h4⟩
theorem atI_nat {α : Type} {xs : List α} {j : Nat} {v : α} (h : xs[j]? = some v) : atI xs (j : Int) = some v := by
  have hj : j < xs.length := (List.getElem?_eq_some_iff.mp h).1
  have e : ixN xs.length (j : Int) = some j := by
    unfold ixN
    rw [if_pos (by omega), if_pos (by omega)]; simp
  unfold atI; rw [e]; exact h
noncomputable def PlainIx (b : Expr) : Prop := ∀ o i, subscripted b false o i = operate [o, i] (getItem o i)
noncomputable def IxR (X : Cx) (r : R2) : Prop :=
  ∀ (value slice : Expr) (pins : List (Addr × Obj)) (s : Shared) (σ : St) (H : Hp) (x y : V) (v u : Value) (Q : VK), Inv X pins σ H s → RelV x v → RelV y u → r x y H Q →
    subscripted slice false v u = operate [v, u] (getItem v u) → wpAny (model X.prog X.w) X.A (subscriptTail value slice v u) (EP X pins σ Q) X.xe s
noncomputable def MtR (X : Cx) (id : String) (r : V → List V → Hp → VK → Prop) : Prop :=
  ∀ (pins : List (Addr × Obj)) (s : Shared) (σ : St) (H : Hp) (x : V) (xs : List V) (v : Value) (us : List Value) (Q : VK), Inv X pins σ H s → RelV x v → Vals xs us → r x xs H Q →
    wpAny (model X.prog X.w) X.A (call (.builtin id) (v :: us)) (EP X pins σ Q) X.xe s
section
variable {X : Cx} {a b : Expr} {ta tb : TE} {pos : Pos}
theorem IxR.or {r r' : R2} (h : IxR X r) (h' : IxR X r') : IxR X (fun x y H Q => r x y H Q ∨ r' x y H Q) := by
  intro value slice pins s σ H x y v u Q I rx ry q hs
  rcases q with q | q
  · exact h value slice pins s σ H x y v u Q I rx ry q hs
  · exact h' value slice pins s σ H x y v u Q I rx ry q hs
theorem pe_ix {r : R2} (hr : IxR X r) (ha : PE X a ta) (hb : PE X b tb) (hs : PlainIx b) : PE X (.Subscript a b pos) (tOp r ta tb) := by
  intro pins s σ H Q I h
  exact Subscript_ (binT ha hb I h fun v u s2 x y H2 I2 rx ry q => hr a b pins s2 σ H2 x y v u Q I2 rx ry q (hs _ _))
noncomputable def rIxL (K : PySem.W.Frag) : R2 := fun x y H Q => ∃ p xs i v, x = .ref p ∧ y = .int i ∧ SqL K H p xs ∧ atI xs i = some v ∧ Q v H
noncomputable def rIxT (K : PySem.W.Frag) : R2 := fun x y H Q => ∃ p xs i v, x = .ref p ∧ y = .int i ∧ SqT K H p xs ∧ atI xs i = some v ∧ Q v H
noncomputable def rIxS : R2 := fun x y H Q => ∃ z i c, x = .str z ∧ y = .int i ∧ z.length ≤ sizeLine ∧ atI z.cps.toList i = some c ∧ Q (.str ⟨#[c]⟩) H
theorem ix_list : IxR X (rIxL X.K) := by
  intro value slice pins s σ H x y v u Q I rx ry h hs
  obtain ⟨p, xs, i, z, rfl, rfl, hq, he, q⟩ := h
  cases rx
  obtain ⟨t, rfl⟩ := ry
  obtain ⟨its, r, pl, hz⟩ := I.list hq
  obtain ⟨j, h1, h2, h3, h4, h5⟩ := atI_get he
  obtain ⟨w, ew, rw'⟩ := r.get h2
  have hl := r.length
  have hn := line63
  have fin : EP X pins σ Q w s := ⟨z, H, I, rw', q⟩
  by_cases h0 : 0 ≤ i
  · have hj : i.toNat = j := by
      rw [seqIndex_of h0 h5] at h1
      exact Option.some.inj h1
    exact item_listR pl.isList h0 (by omega) (by rw [hj]; simpa using ew) fin hs
  · have hj : (i + (its.toArray.size : Int)).toNat = j := by
      rw [seqIndex_neg (by omega) h4] at h1
      rw [List.size_toArray, ← hl]
      exact Option.some.inj h1
    exact subscriptTail_builtinR (x := w) pl.isList.typeIs slot_list_getitem.lookup
      (wpAny_getItem_list_neg (Q := fun r s' => r = w ∧ EP X pins σ Q r s') pl.isList (by omega) (by rw [List.size_toArray] <;> omega) (by omega) (by rw [hj]; simpa using ew) ⟨rfl, fin⟩) hs
theorem ix_tup : IxR X (rIxT X.K) := by
  intro value slice pins s σ H x y v u Q I rx ry h hs
  obtain ⟨p, xs, i, z, rfl, rfl, hq, he, q⟩ := h
  cases rx
  obtain ⟨t, rfl⟩ := ry
  obtain ⟨its, r, pl, hz⟩ := I.tuple hq
  obtain ⟨j, h1, h2, h3, h4, h5⟩ := atI_get he
  obtain ⟨w, ew, rw'⟩ := r.get h2
  have hl := r.length
  have hn := line63
  have fin : EP X pins σ Q w s := ⟨z, H, I, rw', q⟩
  exact subscriptTail_builtinR (x := w) pl.typeIs slot_tuple_getitem.lookup
    (getItem_tuple (j := j) (Q := fun r s' => r = w ∧ EP X pins σ Q r s') pl (by omega) (by omega) (by rw [List.size_toArray, ← hl]; exact h1) (by simpa using ew) ⟨rfl, fin⟩) hs
theorem ix_str : IxR X rIxS := by
  intro value slice pins s σ H x y v u Q I rx ry h hs
  obtain ⟨z, i, c, rfl, rfl, hz, he, q⟩ := h
  obtain ⟨t, rfl⟩ := rx
  obtain ⟨t', rfl⟩ := ry
  obtain ⟨j, h1, h2, h3, h4, h5⟩ := atI_get he
  have hl : z.cps.toList.length = z.length := by simp [Str.length]
  rw [hl] at h1 h4 h5
  have hn := line63
  exact tail_any (typeIs_str s z t) slot_str_getitem.lookup (getItem_str (c := c) (by
    have e1 : decide (i < -(2 ^ 63 : Int)) = false := decide_eq_false (by omega)
    have e2 : decide (i ≥ 2 ^ 63) = false := decide_eq_false (by omega)
    rw [e1, e2, Bool.or_false]) (by rw [h1]; simpa using h2) ⟨.str ⟨#[c]⟩, H, I.tok _, ⟨_, rfl⟩, q⟩) hs
noncomputable def rIx (K : PySem.W.Frag) : R2 := fun x y H Q => rIxL K x y H Q ∨ rIxT K x y H Q ∨ rIxS x y H Q
theorem ix_seq : IxR X (rIx X.K) := ix_list.or (ix_tup.or ix_str)
theorem slice_bounds (lo hi : Option Int) (n : Nat) : (sliceBounds lo hi none n).1 = ((HT.sIx n 0 lo : Nat) : Int) ∧ (sliceBounds lo hi none n).2.1 = ((HT.sIx n n hi : Nat) : Int) ∧ (sliceBounds lo hi none n).2.2 = 1 := by
  refine ⟨?_, ?_, rfl⟩
  · cases lo with
    | none => simp [sliceBounds, HT.sIx]
    | some i =>
      simp only [sliceBounds, HT.sIx, Option.getD_none, show (1 : Int) > 0 by decide, if_true]
      by_cases h : i < 0
      · simp only [h, if_true] <;> omega
      · simp only [h, if_false] <;> omega
  · cases hi with
    | none => simp [sliceBounds, HT.sIx]
    | some i =>
      simp only [sliceBounds, HT.sIx, Option.getD_none, show (1 : Int) > 0 by decide, if_true]
      by_cases h : i < 0
      · simp only [h, if_true] <;> omega
      · simp only [h, if_false] <;> omega
theorem slicePick_cut (its : List Value) (lo hi : Option Int) : slicePick its.toArray lo hi none = ((its.drop (HT.sIx its.length 0 lo)).take (HT.sIx its.length its.length hi - HT.sIx its.length 0 lo)).toArray := by
  obtain ⟨h1, h2, h3⟩ := slice_bounds lo hi its.toArray.size
  unfold slicePick
  rw [h1, h2, h3]
  simp only [sliceRange_one, pick_run, List.size_toArray] <;> rfl
noncomputable def rSlL (K : PySem.W.Frag) : V → Option Int → Option Int → Hp → VK → Prop := fun x lo hi H Q => ∃ a xs, x = .ref a ∧ SqL K H a xs ∧ ∀ p, H p = none → Q (.ref p) (upd H p (.lst (cutV xs lo hi)))
theorem sl_list : SlR X (rSlL X.K) := by
  intro pins s σ H x v vl vu lo hi sl Q I rx hs pl pu h
  obtain ⟨a, xs, rfl, hx, q⟩ := h
  cases rx
  obtain ⟨its, r, ht, hz⟩ := I.list hx
  have hlen := r.length
  refine ⟨"list", _, slot_list_getitem.lookup, ht.isList.typeIs, ?_⟩
  refine wpAny_getItem_list_slice ht.isList hs pl pu .none (by simp) ?_ (by rw [List.size_toArray] <;> omega)
  rw [slicePick_cut, ← hlen]
  refine ⟨.ref s.heap.objs.size, _, I.laid (t' := s.toks) (o := .lst (cutV xs lo hi)) (fun b ob q => Heap.get?_push_of_some _ q) (Nat.le_refl _) ?_, rfl, q _ (I.hok.fresh (Nat.le_refl _))⟩
  exact ⟨Nat.le_trans (cutV_length xs lo hi) hz, _, 0, (r.drop (HT.sIx xs.length 0 lo)).take (HT.sIx xs.length xs.length hi - HT.sIx xs.length 0 lo), Heap.get?_push_size _ rfl⟩
noncomputable def flatV : V → Bool
  | .non => true
  | .bl _ => true
  | .int _ => true
  | .str _ => true
  | _ => false
noncomputable def eqV : V → V → Bool
  | .non, .non => true
  | .bl a, .bl b => a == b
  | .bl a, .int b => (if a then 1 else 0) == b
  | .int a, .bl b => a == (if b then 1 else 0)
  | .int a, .int b => a == b
  | .str a, .str b => a == b
  | _, _ => false
theorem eqAt_V {A : Around} {s : Shared} {y x : V} {u v : Value} (ry : RelV y u) (rx : RelV x v) (fy : flatV y = true) (fx : flatV x = true) : SeqAt.EqAt A s u v (eqV y x) := by
  cases y with
  | non =>
    cases ry
    cases x with
    | non => cases rx; exact SeqAt.EqAt.same _
    | bl b => cases rx; exact SeqAt.EqAt.none_bool b
    | int b => obtain ⟨t, rfl⟩ := rx; exact SeqAt.EqAt.none_int b t
    | str b => obtain ⟨t, rfl⟩ := rx; exact SeqAt.EqAt.none_str b t
    | _ => exact absurd (show false = true from fx) Bool.false_ne_true
  | bl a =>
    cases ry
    cases x with
    | non => cases rx; exact SeqAt.EqAt.bool_none a
    | bl b => cases rx; exact SeqAt.EqAt.bool_bool a b
    | int b => obtain ⟨t, rfl⟩ := rx; exact SeqAt.EqAt.bool_int a b t
    | str b => obtain ⟨t, rfl⟩ := rx; exact SeqAt.EqAt.bool_str a b t
    | _ => exact absurd (show false = true from fx) Bool.false_ne_true
  | int a =>
    obtain ⟨t', rfl⟩ := ry
    cases x with
    | non => cases rx; exact SeqAt.EqAt.int_none a t'
    | bl b => cases rx; exact SeqAt.EqAt.int_bool a t' b
    | int b => obtain ⟨t, rfl⟩ := rx; exact SeqAt.EqAt.int_int a t' b t
    | str b => obtain ⟨t, rfl⟩ := rx; exact SeqAt.EqAt.int_str a t' b t
    | _ => exact absurd (show false = true from fx) Bool.false_ne_true
  | str a =>
    obtain ⟨t', rfl⟩ := ry
    cases x with
    | non => cases rx; exact SeqAt.EqAt.str_none a t'
    | bl b => cases rx; exact SeqAt.EqAt.str_bool a t' b
    | int b => obtain ⟨t, rfl⟩ := rx; exact SeqAt.EqAt.str_int a t' b t
    | str b => obtain ⟨t, rfl⟩ := rx; exact SeqAt.EqAt.str_str a t' b t
    | _ => exact absurd (show false = true from fx) Bool.false_ne_true
  | _ => exact absurd (show false = true from fy) Bool.false_ne_true
noncomputable def eqU (x : V) (u : Value) : Bool := match u with
  | .none => eqV .non x
  | .bool b => eqV (.bl b) x
  | .int i _ => eqV (.int i) x
  | .str z _ => eqV (.str z) x
  | _ => false
theorem eqU_of {x y : V} {u : Value} (r : RelV y u) (f : flatV y = true) : eqU x u = eqV y x := by
  cases y with
  | non => cases r; rfl
  | bl b => cases r; rfl
  | int i => obtain ⟨t, rfl⟩ := r; rfl
  | str z => obtain ⟨t, rfl⟩ := r; rfl
  | _ => exact absurd (show false = true from f) Bool.false_ne_true
theorem any_eqU {x : V} : ∀ {xs : List V} {us : List Value}, Vals xs us → xs.all flatV = true → us.any (eqU x) = xs.any fun y => eqV y x
  | _, _, .nil, _ => rfl
  | y :: xs, u :: us, .cons r t, f => by
    rw [List.all_cons, Bool.and_eq_true] at f
    rw [List.any_cons, List.any_cons, eqU_of r f.1, any_eqU t f.2]
theorem mem_eqAt {A : Around} {s : Shared} {x : V} {v : Value} (rx : RelV x v) (fx : flatV x = true) : ∀ {xs : List V} {us : List Value}, Vals xs us → xs.all flatV = true → ∀ u ∈ us, SeqAt.EqAt A s u v (eqU x u)
  | _, _, .nil, _ => fun u hu => by cases hu
  | y :: xs, u :: us, .cons r t, f => fun u' hu => by
    rw [List.all_cons, Bool.and_eq_true] at f
    rcases List.mem_cons.mp hu with rfl | hu
    · rw [eqU_of r f.1]; exact eqAt_V r rx f.1 fx
    · exact mem_eqAt rx fx t f.2 u' hu
noncomputable def inV (x : V) (xs : List V) : Bool := xs.any fun y => eqV y x
noncomputable def rIn (K : PySem.W.Frag) (neg : Bool) : R2 := fun x y H Q => ∃ p xs, y = .ref p ∧ (SqL K H p xs ∨ SqT K H p xs) ∧ flatV x = true ∧ xs.all flatV = true ∧ Q (.bl (if neg then !inV x xs else inV x xs)) H
theorem op_in_seq : OpR X (compareOp .In) (rIn X.K false) := by
  intro pins s σ H x y v u Q I rx ry h
  obtain ⟨p, xs, rfl, hq, fx, fs, q⟩ := h
  cases ry
  rcases hq with hq | hq
  · obtain ⟨its, r, pl, hz⟩ := I.list hq
    refine SeqAt.in_listAt (eqU x) pl.isList (fun w hw => mem_eqAt rx fx r fs w (by simpa using hw)) ⟨.bl _, H, I, rfl, ?_⟩
    rw [show its.toArray.any (eqU x) = its.any (eqU x) by simp, any_eqU r fs]
    exact q
  · obtain ⟨its, r, pl, hz⟩ := I.tuple hq
    refine SeqAt.in_tupleAt (eqU x) pl (fun w hw => mem_eqAt rx fx r fs w (by simpa using hw)) ⟨.bl _, H, I, rfl, ?_⟩
    rw [show its.toArray.any (eqU x) = its.any (eqU x) by simp, any_eqU r fs]
    exact q
theorem op_notIn_seq : OpR X (compareOp .NotIn) (rIn X.K true) := by
  intro pins s σ H x y v u Q I rx ry h
  obtain ⟨p, xs, rfl, hq, fx, fs, q⟩ := h
  cases ry
  rcases hq with hq | hq
  · obtain ⟨its, r, pl, hz⟩ := I.list hq
    refine SeqAt.notIn_listAt (eqU x) pl.isList (fun w hw => mem_eqAt rx fx r fs w (by simpa using hw)) ⟨.bl _, H, I, rfl, ?_⟩
    rw [show its.toArray.any (eqU x) = its.any (eqU x) by simp, any_eqU r fs]
    exact q
  · obtain ⟨its, r, pl, hz⟩ := I.tuple hq
    refine SeqAt.notIn_tupleAt (eqU x) pl (fun w hw => mem_eqAt rx fx r fs w (by simpa using hw)) ⟨.bl _, H, I, rfl, ?_⟩
    rw [show its.toArray.any (eqU x) = its.any (eqU x) by simp, any_eqU r fs]
    exact q
theorem call_list_of : CallR X (.type "list") (fun xs H Q => ∃ p ys, xs = [.ref p] ∧ (SqL X.K H p ys ∨ SqT X.K H p ys) ∧ ∀ l, H l = none → Q (.ref l) (upd H l (.lst ys))) := by
  intro pins s σ H xs us Q I r h
  obtain ⟨p, ys, rfl, hq, q⟩ := h
  obtain ⟨u, rfl, rx⟩ := vals1 r
  cases rx
  have fin : ∀ (its : List Value), Vals ys its → ys.length ≤ sizeLine → ∀ (h' : Heap) (c' : Nat), (∀ b o', s.heap.get? b = some o' → h'.get? b = some o') →
      h'.get? s.heap.objs.size = some { cls := .type "list", dict := none, data := .seq its.toArray c', slots := #[] } → EP X pins σ Q (.ref s.heap.objs.size) { s with heap := h' } := fun its r' hz h' c' kp e =>
    ⟨.ref s.heap.objs.size, _, I.laid (t' := s.toks) kp (Nat.le_refl _) (show ObjOk X.prog X.w _ h' _ (.lst ys) from ⟨hz, its, c', r', e⟩), rfl, q _ (I.hok.fresh (Nat.le_refl _))⟩
  rcases hq with hq | hq
  · obtain ⟨its, r', pl, hz⟩ := I.list hq
    have hlen := r'.length
    obtain ⟨o, ho, hc, n, hd⟩ := pl.isList
    exact call_list_seq p (.inl rfl) ho hc hd (fun h' c' kp e => fin its r' hz h' c' kp e) (by simp only [List.size_toArray] <;> omega)
  · obtain ⟨its, r', pl, hz⟩ := I.tuple hq
    have hlen := r'.length
    obtain ⟨o, ho, hc, n, hd⟩ := pl
    exact call_list_seq p (.inr rfl) ho hc hd (fun h' c' kp e => fin its r' hz h' c' kp e) (by simp only [List.size_toArray] <;> omega)
theorem call_tuple_of : CallR X (.type "tuple") (fun xs H Q => ∃ p ys, xs = [.ref p] ∧ ((SqL X.K H p ys ∧ ∀ l, H l = none → Q (.ref l) (upd H l (.tup ys))) ∨ (SqT X.K H p ys ∧ Q (.ref p) H))) := by
  intro pins s σ H xs us Q I r h
  obtain ⟨p, ys, rfl, h⟩ := h
  obtain ⟨u, rfl, rx⟩ := vals1 r
  cases rx
  rcases h with ⟨hq, q⟩ | ⟨hq, q⟩
  · obtain ⟨its, r', pl, hz⟩ := I.list hq
    have hlen := r'.length
    refine call_tuple_list pl.isList (fun h' kp => ?_) (by simp only [List.size_toArray] <;> omega)
    have I1 : Inv X pins σ H { s with heap := h' } := I.kept (t' := s.toks) kp
    have I2 : Inv X pins σ (upd H h'.objs.size (.tup ys)) { s with heap := h'.push { cls := .type "tuple", data := .seq its.toArray } } :=
      I1.laid (t' := s.toks) (fun b o e => Heap.get?_push_of_some _ e) (Nat.le_refl _) (show ObjOk X.prog X.w _ _ _ (.tup ys) from ⟨hz, its, r', IsTup.new _ _⟩)
    exact ⟨.ref h'.objs.size, _, I2, rfl, q _ (I1.hok.fresh (Nat.le_refl _))⟩
  · obtain ⟨its, r', pl, hz⟩ := I.tuple hq
    exact call_tuple_same pl ⟨.ref p, H, I, rfl, q⟩
noncomputable def tyV (K : PySem.W.Frag) (T : String) (x : V) (H : Hp) : Prop := match x with
  | .str _ => T = "str"
  | .int _ => T = "int"
  | .ref p => (T = "list" ∧ ∃ xs, SqL K H p xs) ∨ (T = "tuple" ∧ ∃ o, K.lookup p = some o ∧ o.cls = .type "tuple" ∧ o.dict = none) ∨
      (T = "dict" ∧ ((∃ kvs, H p = some (.dK kvs)) ∨ ∃ kvs, H p = some (.dT kvs))) ∨ (T = "set" ∧ ∃ S n, H p = some (.set S n))
  | _ => False
theorem tyV_is {pins : List (Addr × Obj)} {σ : St} {H : Hp} {s : Shared} {T : String} {x : V} {v : Value} (I : Inv X pins σ H s) (r : RelV x v) (ty : tyV X.K T x H) :
    s.TypeIs v T ∧ ∀ a, v = .ref a → ∃ ob, s.heap.get? a = some ob ∧ ob.dict = none := by
  cases x with
  | str z =>
    obtain ⟨t, rfl⟩ := r
    cases (show T = "str" from ty)
    exact ⟨typeIs_str s z t, fun _ e => nomatch e⟩
  | int i =>
    obtain ⟨t, rfl⟩ := r
    cases (show T = "int" from ty)
    exact ⟨typeIs_int s i t, fun _ e => nomatch e⟩
  | ref p =>
    cases r
    rcases ty with ⟨rfl, xs, hq⟩ | ⟨rfl, o, hk, hc, hd⟩ | ⟨rfl, hk⟩ | ⟨rfl, S, n, hk⟩
    · obtain ⟨its, _, pl, _⟩ := I.list hq
      refine ⟨pl.isList.typeIs, fun a e => ?_⟩
      cases e
      obtain ⟨o, n, e, c, hd, _⟩ := pl
      exact ⟨o, e, hd⟩
    · refine ⟨⟨o, I.kIn p o hk, hc⟩, fun a e => ?_⟩
      cases e
      exact ⟨o, I.kIn _ o hk, hd⟩
    · have z : ∃ o, s.heap.get? p = some o ∧ o.ExactDict := by
        rcases hk with ⟨kvs, hk⟩ | ⟨kvs, hk⟩
        · obtain ⟨_, _, _, _, o, _, _, e, ex, _⟩ := I.hok p _ hk
          exact ⟨o, e, ex⟩
        · obtain ⟨_, _, _, _, o, _, _, e, ex, _⟩ := I.hok p _ hk
          exact ⟨o, e, ex⟩
      obtain ⟨o, e, ex⟩ := z
      refine ⟨⟨o, e, ex.1⟩, fun a e2 => ?_⟩
      cases e2
      exact ⟨o, e, ex.2.1⟩
    · obtain ⟨o, _, _, _, e, ex, _⟩ := I.hok p _ hk
      refine ⟨⟨o, e, ex.1⟩, fun a e2 => ?_⟩
      cases e2
      exact ⟨o, e, ex.2.1⟩
  | _ => exact False.elim ty
noncomputable def tBM (K : PySem.W.Frag) (T : String) (r : V → List V → Hp → VK → Prop) (to : TE) (t : TA) : TE := fun σ H Q => to σ H fun x H1 => tyV K T x H1 ∧ t σ H1 fun xs H2 => r x xs H2 Q
variable {o e : Expr} {es : List Expr} {to : TE} {t : TA} {name : Str} {apos cpos : Pos} {T id : String} {r : V → List V → Hp → VK → Prop}
theorem pe_bm (pa : PlainAttrs T) (slot : Slot T name id) (hty : typeOf (.builtin id) = pure (.type "method_descriptor")) (hm : MtR X id r) (ho : PE X o to) (ha : PA X (e :: es) t)
    (hbase : attributeBase o name X.env (eval o X.env) = eval o X.env := by rfl)
    (hfew : ((backTo cpos (starEach (e :: es) X.env)).all (fun x => !x.1) && (backToKw cpos (keywordEach [] X.env)).all (fun x => x.1.isSome)
      && decide ((e :: es).length + ([] : List Keyword).length + (if ([] : List Keyword).isEmpty then 0 else 1) < 30)) = true := by rfl)
    (hline : (apos.endLine == cpos.line) = true := by rfl) (hs : starEach (e :: es) X.env = (false, eval e X.env) :: starEach es X.env := by rfl) (hplain : (backTo cpos (starEach es X.env)).any (·.1) = false := by rfl) :
    PE X (.Call (.Attribute o name apos) (e :: es) [] cpos) (tBM X.K T r to t) := by
  intro pins s σ H Q I h
  refine wpAny_Call_method_late hbase hfew hline rfl (thn (ho pins s σ H _ I h) fun v s1 ⟨x, H1, I1, r1, ty, q1⟩ => ?_)
  obtain ⟨h1, h2⟩ := tyV_is I1 r1 ty
  refine ⟨T, id, pa, slot, hty, h1, h2, ?_⟩
  have hA := ha cpos pins s1 σ H1 _ I1 q1
  rw [hs] at hA ⊢
  refine Calls.callWith_builtin (by show (false || (backTo cpos (starEach es X.env)).any (·.1)) = false; rw [hplain] <;> rfl) (Calls.evalArgs_plain ?_)
  exact thn hA fun us s2 ⟨vs, H2, I2, r2, q2⟩ => hm pins s2 σ H2 x vs v us Q I2 r1 r2 q2
/- xs.append(e), list.index on a module's tuple .. are MtR facts of 06m -/
end
end L2
namespace L2
open PySem PySem.Spec PyProof.Rows
noncomputable def MtM (X : Cx) (id : String) (r : V → List V → Hp → VK → Prop) : Prop :=
  ∀ (pins : List (Addr × Obj)) (s : Shared) (σ : St) (H : Hp) (x : V) (xs : List V) (v : Value) (us : List Value) (Q : VK), Inv X pins σ H s → RelV x v → Vals xs us → r x xs H Q →
    wpAny (model X.prog X.w) X.A (call (.builtin id) (v :: us)) (EP X pins σ Q) X.xe s
theorem Vals.inv {x : V} {xs : List V} {us : List Value} (h : Vals (x :: xs) us) : ∃ u r, us = u :: r ∧ RelV x u ∧ Vals xs r := by
  cases h with
  | cons r t => exact ⟨_, _, rfl, r, t⟩
theorem Vals.one {x : V} {us : List Value} (h : Vals [x] us) : ∃ u, us = [u] ∧ RelV x u := by
  obtain ⟨u, r, rfl, a, b⟩ := Vals.inv h
  cases b
  exact ⟨u, rfl, a⟩
theorem Vals.two {x y : V} {us : List Value} (h : Vals [x, y] us) : ∃ u v, us = [u, v] ∧ RelV x u ∧ RelV y v := by
  obtain ⟨u, r, rfl, a, b⟩ := Vals.inv h
  obtain ⟨v, rfl, c⟩ := Vals.one b
  exact ⟨u, v, rfl, a, c⟩
section
variable {X : Cx} {pins : List (Addr × Obj)} {σ : St} {H : Hp} {s : Shared} {l b : Addr} {xs ys zs : List V}
theorem Inv.lset {its its' : List Value} {n : Nat} {f : Array Value → Array Value} {t' : Nat} (I : Inv X pins σ H s) (hH : H l = some (.lst xs))
    (e : s.heap.get? l = some { cls := .type "list", data := .seq its.toArray n }) (hf : f its.toArray = its'.toArray) (hv : Vals ys its') (hz : ys.length ≤ sizeLine) :
    Inv X pins σ (upd H l (.lst ys)) { s with heap := s.heap.update l (Obj.mapSeq f), toks := t' } := by
  have q := PySem.IsL.update e f
  rw [hf] at q
  refine I.write (x := l) (e := l) (by rw [hH]; exact trivial) (.inl rfl) (fun b' u hb hu => (Heap.get?_update_other s.heap (Obj.mapSeq f) (Ne.symm hb)).trans hu) ⟨_, q⟩ ?_
  exact ⟨hz, its', _, hv, q⟩
theorem Inv.lnew {its : List Value} {t' : Nat} (I : Inv X pins σ H s) (hv : Vals ys its) (hz : ys.length ≤ sizeLine) :
    Inv X pins σ (upd H s.heap.objs.size (.lst ys)) { s with heap := s.heap.push { cls := .type "list", data := .seq its.toArray }, toks := t' } :=
  I.laid (fun _ _ q => Heap.get?_push_of_some _ q) (Nat.le_refl _) ⟨hz, its, 0, hv, Heap.get?_push_size _ rfl⟩
theorem Inv.fresh (I : Inv X pins σ H s) : H s.heap.objs.size = none := I.hok.fresh (Nat.le_refl _)
theorem Inv.lstM (I : Inv X pins σ H s) (hH : H l = some (.lst xs)) : xs.length ≤ sizeLine ∧ ∃ (its : List Value) (n : Nat), Vals xs its ∧ xs.length = its.length ∧ s.heap.get? l = some { cls := .type "list", data := .seq its.toArray n } := by
  obtain ⟨z, its, n, r, e⟩ := I.hok l _ hH
  exact ⟨z, its, n, r, r.length, e⟩
theorem notLongL {n : Nat} (h : n ≤ sizeLine) : Builtin.List.listTooLong n = false := by
  unfold Builtin.List.listTooLong
  exact decide_eq_false (by omega)
end
section
variable {X : Cx}
noncomputable def rAppend : V → List V → Hp → VK → Prop := fun x vs H Q => ∃ l xs y, x = .ref l ∧ vs = [y] ∧ H l = some (.lst xs) ∧ xs.length < sizeLine ∧ Q .non (upd H l (.lst (xs ++ [y])))
theorem mt_append : MtM X "list.append" rAppend := by
  intro pins s σ H x vs v us Q I rx rv h
  obtain ⟨l, xs, y, rfl, rfl, hH, hz, q⟩ := h
  cases rx
  obtain ⟨u, rfl, ru⟩ := rv.one
  obtain ⟨z, its, n, r, hl, e⟩ := I.lstM hH
  refine call_meets F.slot_list_append ⟨_, e, rfl⟩ F.entry_list_append (F.args_list_append_2 _ _) (PySem.list_append l its.toArray n u (by rw [List.size_toArray]; omega)) ⟨e, ?_⟩
  refine ⟨.non, _, I.lset (its' := its ++ [u]) hH e (by simp) (r.append (.cons ru .nil)) ?_, rfl, q⟩
  rw [List.length_append, List.length_singleton]
  omega
noncomputable def rExtend : V → List V → Hp → VK → Prop := fun x vs H Q => ∃ l b xs zs, x = .ref l ∧ vs = [.ref b] ∧ H l = some (.lst xs) ∧ H b = some (.lst zs) ∧ xs.length + zs.length ≤ sizeLine ∧ Q .non (upd H l (.lst (xs ++ zs)))
theorem mt_extend : MtM X "list.extend" rExtend := by
  intro pins s σ H x vs v us Q I rx rv h
  obtain ⟨l, b, xs, zs, rfl, rfl, hH, hB, hz, q⟩ := h
  cases rx
  obtain ⟨u, rfl, ru⟩ := rv.one
  cases ru
  obtain ⟨z, its, n, r, hl, e⟩ := I.lstM hH
  obtain ⟨z2, its2, n2, r2, hl2, e2⟩ := I.lstM hB
  have hsz : its.toArray.size + its2.toArray.size ≤ sizeLine := by rw [List.size_toArray, List.size_toArray]; omega
  have hlong : ¬ (!its.toArray.isEmpty && Builtin.List.listTooLong (its.toArray.size + its2.toArray.size)) = true := by
    rw [notLongL hsz, Bool.and_false]
    exact Bool.false_ne_true
  refine call_meets F.slot_list_extend ⟨_, e, rfl⟩ F.entry_list_extend (F.args_list_extend_2 _ _)
    (AutoSeq1.list_extend_list_list_0 l its.toArray n b its2.toArray n2 hlong (by rw [List.size_toArray]; omega) (by omega)) ⟨e, e2, ?_⟩
  refine ⟨.non, _, I.lset (its' := its ++ its2) hH e (by simp) (r.append r2) ?_, rfl, q⟩
  rw [List.length_append]
  omega
end
section
variable {prog : Program} {w : World} {A : Around} {E : Value → Shared → Prop} {s : Shared}
set_option maxRecDepth 100000 in
end
section
variable {X : Cx}
end
end L2
namespace Att
open PySem PySem.W PySem.Calls PyProof.Rows
theorem ints_of_wellAll {P : Params} {h : Heap} : ∀ (ns : List Int) (vs : List Value), WellAll P h vs (ns.map WData.int) → IntsAre vs ns := by
  intro ns
  induction ns with
  | nil =>
    intro vs w
    rw [List.map_nil] at w
    cases w
    exact .nil
  | cons n ns ih =>
    intro vs w
    rw [List.map_cons] at w
    cases w with
    | cons a b =>
      cases a
      exact .cons _ _ (ih _ b)
theorem script_of {l : OpenLaw} {n : Nat} (hn : l.most = some n) {P : Params} {h : Heap} {args : List WData} {vals : List Value}
    (hpre : l.row.toRowW.claim.pre args = true) (hwl : WellAll P h vals args) :
    ∃ a vs ns, vals = [Value.ref a] ∧ args = [WData.list (ns.map WData.int)] ∧ h.get? a = some { cls := .type "list", data := .seq vs.toArray } ∧ IntsAre vs ns ∧ ns.length ≤ n := by
  have hsh : WShape.hasAll [] args [.list .int] = true := (pre_splitW hpre).1
  have hc : l.pre.holds [] { args := args } = true := (pre_splitW hpre).2
  obtain ⟨d, r, rfl, h1, h2⟩ := hasAllW_cons hsh
  obtain rfl := hasAllW_nil h2
  obtain ⟨xs, rfl, h3⟩ := hasW_list h1
  obtain ⟨ns, rfl⟩ := items_int h3
  have hlen : ns.length ≤ n := by
    unfold OpenLaw.pre at hc
    have h4 : (WTm.not (.lt (.lit (.int (n : Int))) (.len (.arg 0)))).holds [] { args := [.list (ns.map .int)] } = true := by
      have h4 := (holds_andW hc).1
      rw [hn] at h4
      exact h4
    have h5 := condW_of h4 (w_not (w_lt w_lit (w_len_list (w_arg rfl))))
    rw [List.length_map] at h5
    refine Nat.le_of_not_lt fun q => ?_
    have q' : (n : Int) < ((ns.length : Nat) : Int) := by omega
    first
      | (rw [decide_eq_true q'] at h5; exact absurd h5 (by decide))
      | (simp at h5; omega)
  cases hwl with
  | cons w1 w2 =>
    cases w2
    cases w1 with
    | list ho hall => exact ⟨_, _, ns, rfl, rfl, ho, ints_of_wellAll ns _ hall, hlen⟩
theorem post_true (l : OpenLaw) (args : List WData) : l.row.toRowW.claim.post args (.bool true) args = true :=
  postW_of (r := l.row.toRowW) (X := (true == true))
    (show WShape.has [] (.bool true) .bool = true by first | rfl | decide | simp [WShape.has, WShape.arms, WShape.armsAll])
    (show (WTm.eq .res (.lit (.bool true))).value [] { args := args, res := some (.bool true), after := args } = some (.bool (true == true)) from w_eq_bool (w_res rfl) w_lit) rfl
theorem attach_call {l : OpenLaw} {n : Nat} {q : Program} {loose : List Str} {XP : (Str → Option Value) → Heap → Prop} {YP : World → Heap → Prop} {d : DefRec}
    (hn : l.most = some n) (hdf : d.params.defaults = [])
    (call : ∀ (w : World) (s₀ s₁ : Shared) (mg mb : Str → Option Value) (fa : Addr) (o : Obj) (pm cd doc : Value) (a : Addr) (vs : List Value) (ns : List Int),
      Ground q loose [] XP w s₀ mg mb s₁.heap → YP w s₁.heap →
      s₁.heap.get? fa = some o → o.data = .func (docDef d.name d.params d.body d.scope pm cd doc) → s₁.heap.CodeRec cd d.name → mg d.name = some (.ref fa) →
      s₁.heap.get? a = some { cls := .type "list", data := .seq vs.toArray } → IntsAre vs ns → ns.length ≤ n → s₁.gens = #[] →
      codeAny (model l.prog w) callerA (.call (.ref fa) ⟨[.ref a], []⟩) (fun r s' => r = .ok (.ret (.bool true)) ∧ OldK s₁.heap s'.heap ∧ s'.os = s₁.os ∧ AllBare s'.gens) s₁) :
    WalkO q loose XP YP l.row.toRowW d [] (fun f vs => PySem.call f vs) := by
  intro w s₀ s₁ mg mb G Y fa o pm cd doc dV kV ho hd hcd hD hmg hg args vals as hpre hlay hrd hwl hlo
  obtain rfl : dV = .none := Dflts.none hD hdf
  obtain rfl : kV = .none := Dflts.noKw hD
  obtain ⟨a, vs, ns, rfl, rfl, hobj, hints, hlen⟩ := script_of hn hpre hwl
  refine enter_call (codeAny_mono (call w s₀ s₁ mg mb fa o pm cd doc a vs ns G Y ho (fd_plain hd) hcd hmg hobj hints hlen hg) fun r s' hq => ?_)
  obtain ⟨rfl, h2, h3, h4⟩ := hq
  exact ⟨.inl ⟨.bool true, .bool true, [], rfl, fun _ => rfl, .bool true, post_true l _, fun _ => ⟨List.Pairwise.nil, fun _ hm => (nomatch hm)⟩⟩, h2, h3, h4⟩
section
variable {prog : Program} {w : World} {A : Around} {E : Value → Shared → Prop} {s : Shared} {K : Frag}
end
end Att
namespace L2
open PySem PySem.Spec PyProof.Rows
theorem vals_ints : ∀ {vs : List Value} {ns : List Int}, IntsAre vs ns → Vals (ns.map V.int) vs
  | _, _, .nil => .nil
  | _, _, .cons n t h => .cons ⟨t, rfl⟩ (vals_ints h)
noncomputable def Only (H : Hp) : Prop := ∀ b, H b = none ∨ ∃ o xs, H b = some (.frz o (.lst xs))
theorem law_call {P : Program} {w : World} {K : PySem.W.Frag} {mg mb : Str → Option Value} {CX : CXT} {k : Nat} {fa a : Addr} {fd : FuncData} {x : Str} {sp : Sp} {s₁ : Shared} {vs : List Value} {ns : List Int}
    (KX : K.In s₁.heap) (hns : s₁.heap.Ns mainGlobals mg) (hb : s₁.heap.Ns builtinsNs mb) (hbb : ∀ x : Str, x ≠ "__name__" → mb x = bootBuiltins x) (hlim : s₁.heap.NoLimit) (hg : s₁.gens = #[])
    (ha : s₁.heap.get? a = some { cls := .type "list", data := .seq vs.toArray }) (hi : IntsAre vs ns) (hl : ns.length ≤ sizeLine) (hr : Room k callerA)
    (F : ∀ base : Heap, K.In base → base.Ns mainGlobals mg → FnOk P w K mg base CX k fa fd [x] sp) (hbind : ∀ (s : Shared) (u : Value), BindsTo s fd ⟨[u], []⟩ [(x, u)])
    (hsp : ∀ H : Hp, Only H → SqL K H a (ns.map V.int) → sp [.ref a] H (fun v _ => v = .bl true) fun _ _ _ => False)
    (hCX : ∀ H e s', CX [] H s₁ (fun _ _ _ => False) e s' → False) :
    codeAny (model P w) callerA (.call (.ref fa) ⟨[.ref a], []⟩) (fun r s' => r = .ok (.ret (.bool true)) ∧ OldK s₁.heap s'.heap ∧ s'.os = s₁.os ∧ AllBare s'.gens) s₁ := by
  have rv := vals_ints hi
  have lenV := hi.length
  have core : ∀ H : Hp, Only H → SqL K H a (ns.map V.int) → HOk P w H s₁.heap → (∀ b, H b ≠ none → b = a) → (H a ≠ none → K.lookup a = none) →
      codeAny (model P w) callerA (.call (.ref fa) ⟨[.ref a], []⟩) (fun r s' => r = .ok (.ret (.bool true)) ∧ OldK s₁.heap s'.heap ∧ s'.os = s₁.os ∧ AllBare s'.gens) s₁ := by
    intro H hO hS hok hA hK
    have base_of : ∀ {b : Addr} {o : Obj}, s₁.heap.get? b = some o → H b = none → (hidT s₁.heap H).get? b = some o := fun e n => hidT_get e n
    have noA : ∀ {b : Addr} {o : Obj} {es : Array DictEntry} {ep : Nat}, s₁.heap.get? b = some o → o.data = .dict es ep → H b = none := fun {b o es ep} e d => by
      cases q : H b with
      | none => rfl
      | some u =>
        have e' : b = a := hA b (by rw [q]; simp)
        subst e'
        rw [ha] at e; cases e
        have d' : Data.seq vs.toArray _ = Data.dict es ep := d
        cases d'
    have nsK : ∀ {b : Addr} {m : Str → Option Value}, s₁.heap.Ns b m → (hidT s₁.heap H).Ns b m := fun {b m} ⟨o, es, ep, e, d, r⟩ => ⟨o, es, ep, base_of e (noA e d), d, r⟩
    have hKb : K.In (hidT s₁.heap H) := fun b o e => base_of (KX b o e) (by
      cases q : H b with
      | none => rfl
      | some u =>
        have e' : b = a := hA b (by rw [q]; simp)
        subst e'
        rw [hK (by rw [q]; simp)] at e; cases e)
    have hM : Mod K mg (hidT s₁.heap H) := ⟨hKb, nsK hns, ⟨mb, nsK hb, hbb⟩, let ⟨mc, h1, h2⟩ := hlim; ⟨mc, nsK h1, h2⟩⟩
    have e0 : Env0 P w K mg (hidT s₁.heap H) callerA [] s₁ H := ⟨rfl, hM, fun b o e => of_hidT e, Nat.le_of_eq (hidT_size _ _), trivial, fun b hb => absurd (show b ∈ ([] : List Addr) from hb) (by simp), hok, .of_eq hg⟩
    refine codeAny_mono ((F _ hKb (nsK hns)).run callerA [] s₁ H ⟨[.ref a], []⟩ [.ref a] [.ref a] _ _ hr e0 (hbind s₁ (.ref a)) (.cons rfl .nil) (hsp H hO hS)) fun r s' h => ?_
    cases r with
    | error e => exact (hCX H e s' h).elim
    | ok fl =>
      cases fl with
      | next => exact False.elim h
      | brk => exact False.elim h
      | cont => exact False.elim h
      | ret u =>
        obtain ⟨v, H', os, bare, un, hok', r', q⟩ := h
        have q' : v = .bl true := q
        subst q'
        obtain rfl : u = Value.bool true := r'
        refine ⟨rfl, OldK.of_keep fun b o e => ?_, os, bare⟩
        cases q : H b with
        | none => exact un.keep b o e q (by intro z; exact absurd (show b ∈ ([] : List Addr) from z) (by simp)) (by simp)
        | some u =>
          rcases hO b with z | ⟨ob, xs, z⟩
          · rw [q] at z; cases z
          · have z2 := un.frzs b ob _ z
            obtain ⟨e1, _⟩ := hok b _ z
            obtain ⟨e2, _⟩ := hok' b _ z2
            rw [e] at e1; cases e1
            exact e2
  cases hk : K.lookup a with
  | some o =>
    have e := KX a o hk
    rw [ha] at e
    cases e
    refine core (fun _ => none) (fun _ => .inl rfl) (.inr ⟨_, vs.toArray, _, hk, rfl, rfl, rfl, by rw [List.size_toArray, lenV]; exact hl, by simpa using rv⟩) (fun b u z => by have z' : (none : Option HO) = some u := z; cases z') (fun b z => absurd rfl z) fun z => absurd rfl z
  | none =>
    refine core (fun b => if b = a then some (.frz { cls := .type "list", data := .seq vs.toArray } (.lst (ns.map V.int))) else none) (fun b => ?_) (.inl (.inr ⟨{ cls := .type "list", data := .seq vs.toArray }, if_pos rfl⟩)) (fun b u z => ?_) (fun b z => ?_) fun _ => hk
    · by_cases hb : b = a
      · exact .inr ⟨_, _, if_pos hb⟩
      · exact .inl (if_neg hb)
    · by_cases hb : b = a
      · have z' := (if_pos hb).symm.trans z
        cases z'
        subst hb
        exact ⟨ha, by rw [List.length_map]; exact hl, vs, _, rv, ha⟩
      · have z' := (if_neg hb).symm.trans z
        cases z'
    · by_cases hb : b = a
      · exact hb
      · exact absurd (if_neg hb) z
end L2
namespace L2
open PySem PySem.Spec PyProof.Rows
theorem walk_of {l : PySem.W.OpenLaw} {n k : Nat} {q : Program} {loose : List Str} {XP : (Str → Option Value) → Heap → Prop} {YP : World → Heap → Prop} {d : DefRec} {K : Params → PySem.W.Frag} {CX : World → CXT} {sp : World → Sp} {x : Str}
    (hn : l.most = some n) (hn2 : n ≤ sizeLine) (hdf : d.params.defaults = []) (hr : Room k callerA)
    (hY : ∀ (w : World) (h : Heap), YP w h → (K w.params).In h)
    (F : ∀ (w : World) (mg : Str → Option Value) (fa : Addr) (h : Heap), (K w.params).In h → h.Ns mainGlobals mg → mg d.name = some (.ref fa) →
      ∃ fd : FuncData, (∀ (s : Shared) (u : Value), BindsTo s fd ⟨[u], []⟩ [(x, u)]) ∧
        ∀ base : Heap, (K w.params).In base → base.Ns mainGlobals mg → FnOk l.prog w (K w.params) mg base (CX w) k fa fd [x] (sp w))
    (hsp : ∀ (w : World) (H : Hp) (a : Addr) (ns : List Int), ns.length ≤ n → Only H → SqL (K w.params) H a (ns.map V.int) → sp w [.ref a] H (fun v _ => v = .bl true) fun _ _ _ => False)
    (hCX : ∀ (w : World) (H : Hp) (s : Shared) (e : Value) (s' : Shared), CX w [] H s (fun _ _ _ => False) e s' → False) :
    PySem.W.WalkO q loose XP YP l.row.toRowW d [] (fun f vs => PySem.call f vs) := by
  refine Att.attach_call hn hdf fun w s₀ s₁ mg mb fa o pm cd doc a vs ns G Y ho hd hcd hmg hobj hints hlen hg => ?_
  have KX := hY w _ Y
  obtain ⟨fd, hb, hF⟩ := F w mg fa _ KX G.T.g hmg
  exact law_call KX G.T.g G.T.b G.T.builtins G.T.nolimit hg hobj hints (Nat.le_trans hlen hn2) hr hF hb (fun H hO hS => hsp w H a ns hlen hO hS) fun H e s' => hCX w H s₁ e s'
end L2
namespace L2
open PySem PySem.Spec PyProof.Rows
noncomputable def inClass (s : Stmt) (j : Nat) : Stmt := match s with
  | .ClassDef _ _ _ body _ _ _ _ _ _ _ => body.getD j (.Pass ⟨0, 0, 0, 0⟩)
  | _ => .Pass ⟨0, 0, 0, 0⟩
noncomputable def defArgs (s : Stmt) : Arguments := match s with
  | .FunctionDef _ a _ _ _ _ _ _ _ _ => a
  | _ => { posonlyargs := [], args := [], vararg := none, kwonlyargs := [], kw_defaults := [], kwarg := none, defaults := [] }
noncomputable def defBody (s : Stmt) : List Stmt := match s with
  | .FunctionDef _ _ b _ _ _ _ _ _ _ => b
  | _ => []
noncomputable def defScope (s : Stmt) : Scope := match s with
  | .FunctionDef _ _ _ _ _ _ sc _ _ _ => sc
  | _ => { kind := .function, names := [], isGenerator := false, isCoroutine := false }
noncomputable abbrev CX0 : CXT := fun _ _ _ _ _ _ => False
noncomputable abbrev E0 : XK := fun _ _ _ => False
theorem pass0 {X : Cx} : Passes CX0 X E0 := fun _ _ _ _ _ _ _ h => h.elim
structure Fun (K : PySem.W.Frag) (x qual : Str) (st : Stmt) (f : Addr) (fd : FuncData) : Prop where
  ex : ∃ (oc : Value) (od : Option Addr) (kV doc pm : Value) (an : Option Addr) (cdv ct : Value) (osl : Array (Option Value)),
    fd = PySem.W.fnOf x qual (defArgs st) (defBody st) (defScope st) .none kV doc pm an cdv ct ∧ K.lookup f = some ⟨oc, od, .func fd, osl⟩ ∧ PySem.W.codeIn K cdv qual = true
  kp : PySem.W.keepIn K (.ref f) = true
section
variable {P : Program} {w : World} {K : PySem.W.Frag} {mg : Str → Option Value} {base : Heap}
theorem Fun.ok {x qual : Str} {st : Stmt} {f : Addr} {fd : FuncData} {N ps : List Str} {k : Nat} {sp : Sp} (F : Fun K x qual st f fd) (S : FnScope N ps (defScope st)) (len : ∀ vs H Q E, sp vs H Q E → vs.length = ps.length)
    (hbody : ∀ (cdv : Value) (A : Around) (outer : List Env) (s : Shared) (H : Hp) (vs : List V) (Q : VK) (E : XK), Room k (A.deeper (envOfC qual (defScope st) s.heap.objs.size f cdv)) → sp vs H Q E →
      ∃ t, PSs (cxOf CX0 P w K mg base N qual (defScope st) f cdv A outer s H E).nox (defBody st) t ∧ t { nx := fun _ H' => Q .non H', rt := Q } (start N vs) H) : FnOk P w K mg base CX0 (k + 1) f fd ps sp := by
  obtain ⟨oc, od, kV, doc, pm, an, cdv, ct, osl, rfl, lk, hcd⟩ := F.ex
  refine fn_of lk hcd S len fun A outer s H vs Q E hr hsp => ?_
  obtain ⟨t, h, q⟩ := hbody cdv A outer s H vs Q E hr hsp
  exact ⟨t, h.nox, q⟩
theorem Fun.binds {x qual : Str} {st : Stmt} {f : Addr} {fd : FuncData} {ps : List Str} (F : Fun K x qual st f fd)
    (h : ∀ (kV doc pm : Value) (an : Option Addr) (cdv ct : Value) (us : List Value), us.length = ps.length → bindArgs (PySem.W.fnOf x qual (defArgs st) (defBody st) (defScope st) .none kV doc pm an cdv ct) ⟨us, []⟩ = pure (ps.zip us)) : Binds K fd ps [] := by
  obtain ⟨oc, od, kV, doc, pm, an, cdv, ct, osl, rfl, lk, hcd⟩ := F.ex
  exact .all (h kV doc pm an cdv ct)
theorem fun_mk {x qual : Str} {st : Stmt} {f : Addr} {oc : Value} {od an : Option Addr} {osl : Array (Option Value)} {kV doc pm cdv ct : Value} (l : K.lookup f = some ⟨oc, od, .func (PySem.W.fnOf x qual (defArgs st) (defBody st) (defScope st) .none kV doc pm an cdv ct), osl⟩)
    (c : PySem.W.codeIn K cdv qual = true) (k : PySem.W.keepIn K (.ref f) = true) : Fun K x qual st f (PySem.W.fnOf x qual (defArgs st) (defBody st) (defScope st) .none kV doc pm an cdv ct) := ⟨⟨oc, od, kV, doc, pm, an, cdv, ct, osl, rfl, l, c⟩, k⟩
end
theorem hu_of {A : Around} {k : Nat} (hr : Room k A) : A.units + 1 < cLine := Nat.lt_of_le_of_lt (Nat.add_le_add_left (by decide : 1 ≤ 64) _) hr.units
section
variable {X : Cx}
theorem pv (i : Nat) {x : Str} {pos : Pos} (hN : X.N[i]? = some x := by rfl) (hv : Vis X.env.scope x := by first | exact Or.inl rfl | exact Or.inr (Or.inl rfl) | exact Or.inr (Or.inr rfl)) (hd : (x == ("__debug__" : Str)) = false := by decide)
    (hcd : (x == ("__classdict__" : Str)) = false := by decide) : PE X (.Name x pos) (tVar i) := pe_var hN hv hd hcd
end
theorem iteF {A B : Prop} (h : B) : if false = true then A else B := by
  rw [if_neg Bool.false_ne_true]
  exact h
theorem iteT {A B : Prop} (h : A) : if true = true then A else B := by
  rw [if_pos rfl]
  exact h
noncomputable def Same (H H' : Hp) : Prop := ∀ b o, H b = some o → H' b = some o
theorem Same.refl (H : Hp) : Same H H := fun _ _ h => h
theorem Same.trans {H H1 H2 : Hp} (a : Same H H1) (b : Same H1 H2) : Same H H2 := fun c o h => b c o (a c o h)
theorem Same.free {H H' : Hp} (e : Same H H') {l : Addr} (h : H' l = Option.none) : H l = Option.none := by
  cases q : H l with
  | none => rfl
  | some o =>
    rw [e l o q] at h
    cases h
theorem Same.seq {K : PySem.W.Frag} {H H' : Hp} {a : Addr} {xs : List V} (e : Same H H') (h : SqL K H a xs) : SqL K H' a xs := by
  rcases h with (h | ⟨o, h⟩) | h
  · exact .inl (.inl (e _ _ h))
  · exact .inl (.inr ⟨o, e _ _ h⟩)
  · exact .inr h
end L2
namespace L2
open PySem PySem.Spec PyProof.Rows
section
variable {κ : Type} [DecidableEq κ]
noncomputable def valV (kvs : List (κ × V)) (k : κ) : Option V := (kvs.find? fun kv => decide (kv.1 = k)).map (·.2)
noncomputable def putK (kvs : List (κ × V)) (k : κ) (v : V) : List (κ × V) :=
  if (kvs.any fun kv => decide (kv.1 = k)) = true then kvs.map (fun kv => if kv.1 = k then (kv.1, v) else kv) else kvs ++ [(k, v)]
theorem valV_pos {p : κ × V} {r : List (κ × V)} {k : κ} (e : p.1 = k) : valV (p :: r) k = some p.2 := by simp [valV, List.find?_cons, e]
theorem valV_neg {p : κ × V} {r : List (κ × V)} {k : κ} (e : ¬ p.1 = k) : valV (p :: r) k = valV r k := by simp [valV, List.find?_cons, e]
theorem length_putK (kvs : List (κ × V)) (k : κ) (v : V) : (putK kvs k v).length ≤ kvs.length + 1 := by
  unfold putK
  split
  · rw [List.length_map]; omega
  · rw [List.length_append, List.length_cons, List.length_nil]; omega
theorem KV.val {kvs : List (κ × V)} {vs : List (κ × Value)} (r : KV kvs vs) (k : κ) : RelO (valV kvs k) (valueAt vs k) := by
  unfold KV at r
  induction r with
  | nil => exact True.intro
  | @cons p q ps qs h t ih =>
    obtain ⟨h1, h2⟩ := h
    by_cases e : p.1 = k
    · have e' : q.1 = k := h1.symm.trans e
      have b : valueAt (q :: qs) k = some q.2 := by simp [valueAt, List.find?_cons, e']
      rw [valV_pos e, b]; exact h2
    · have e' : ¬ q.1 = k := fun z => e (h1.trans z)
      have b : valueAt (q :: qs) k = valueAt qs k := by simp [valueAt, List.find?_cons, e']
      rw [valV_neg e, b]; exact ih
theorem KV.any {kvs : List (κ × V)} {vs : List (κ × Value)} (r : KV kvs vs) (k : κ) : (kvs.any fun kv => decide (kv.1 = k)) = vs.any fun kv => decide (kv.1 = k) := by
  unfold KV at r
  induction r with
  | nil => rfl
  | cons h t ih => rw [List.any_cons, List.any_cons, ih, h.1]
theorem KV.repl {kvs : List (κ × V)} {vs : List (κ × Value)} (r : KV kvs vs) (k : κ) {y : V} {u : Value} (ry : RelV y u) :
    KV (kvs.map fun kv => if kv.1 = k then (kv.1, y) else kv) (vs.map fun kv => if kv.1 = k then (kv.1, u) else kv) := by
  unfold KV at r ⊢
  induction r with
  | nil => exact .nil
  | @cons p q ps qs h t ih =>
    rw [List.map_cons, List.map_cons]
    refine .cons ?_ ih
    obtain ⟨h1, h2⟩ := h
    by_cases e : p.1 = k
    · rw [if_pos e, if_pos (h1.symm.trans e)]; exact ⟨h1, ry⟩
    · rw [if_neg e, if_neg (fun z => e (h1.trans z))]; exact ⟨h1, h2⟩
theorem KV.put {kvs : List (κ × V)} {vs : List (κ × Value)} (r : KV kvs vs) (k : κ) {y : V} {u : Value} (ry : RelV y u) : KV (putK kvs k y) (stored vs k u) := by
  unfold putK stored
  rw [r.any k]
  by_cases e : (vs.any fun kv => decide (kv.1 = k)) = true
  · rw [if_pos e, if_pos e]; exact r.repl k ry
  · rw [if_neg e, if_neg e]; exact Paired.snoc r ⟨rfl, ry⟩
end
theorem kV_is {P : Program} {w : World} {k : Key} {u : Value} (r : RelV (kV k) u) : (mixKind P w).is k u = true := by
  cases k with
  | inl i => obtain ⟨t, e⟩ := (show ∃ t, u = Value.int i t from r); subst e; exact mixKind_int P w i t
  | inr x => obtain ⟨t, e⟩ := (show ∃ t, u = Value.str x t from r); subst e; exact mixKind_str P w x t
theorem items_are {P : Program} {w : World} : ∀ {ks : List Key} {us : List Value}, Vals (ks.map kV) us → ItemsAre (mixKind P w) ks us
  | [], _, r => by rw [List.map_nil] at r; cases r; exact .nil
  | k :: ks, _, r => by
    rw [List.map_cons] at r
    cases r with
    | cons h t => exact .cons (kV_is h) (items_are t)
noncomputable abbrev KT (H : Hp) : List (List Key × V) → List (List Key × Addr × Value) → Prop := Paired fun p q => p.1 = q.1 ∧ H q.2.1 = some (.tup (p.1.map kV)) ∧ RelV p.2 q.2.2
theorem KT.val {H : Hp} {kvs : List (List Key × V)} {xs : List (List Key × Addr × Value)} (r : KT H kvs xs) (k : List Key) : RelO (valV kvs k) ((atKey xs k).map (·.2)) := by
  induction r with
  | nil => exact True.intro
  | @cons p q ps qs h t ih =>
    obtain ⟨h1, _, h2⟩ := h
    by_cases e : p.1 = k
    · have e' : q.1 = k := h1.symm.trans e
      have b : atKey (q :: qs) k = some q.2 := by simp [atKey, List.find?_cons, e']
      rw [valV_pos e, b]; exact h2
    · have e' : ¬ q.1 = k := fun z => e (h1.trans z)
      have b : atKey (q :: qs) k = atKey qs k := by simp [atKey, List.find?_cons, e']
      rw [valV_neg e, b]; exact ih
section
variable {P : Program} {w : World} {H : Hp} {h : Heap} {a : Addr}
theorem rd_of {u : HO} (ok : HOk P w H h) (e : Rd H a u) : ObjOk P w H h a u := e.ok ok
theorem dk_rd {kvs : List (Key × V)} (ok : HOk P w H h) (e : Rd H a (.dK kvs)) : kvs.length ≤ sizeLine ∧ (a == sysModules) = false ∧ ∃ vs, KV kvs vs ∧ h.DictOf (mixKind P w) a vs :=
  show ObjOk P w H h a (.dK kvs) from rd_of ok e
theorem dk_of {kvs : List (Key × V)} (ok : HOk P w H h) (e : H a = some (.dK kvs)) : kvs.length ≤ sizeLine ∧ (a == sysModules) = false ∧ ∃ vs, KV kvs vs ∧ h.DictOf (mixKind P w) a vs := dk_rd ok (.inl e)
theorem key_of {ks : List Key} (ok : HOk P w H h) (e : H a = some (.tup (ks.map kV))) : (tupleKind (mixKind P w)).is h ks a := by
  obtain ⟨_, its, r, o, h1, h2, n, h3⟩ := (show ObjOk P w H h a (.tup (ks.map kV)) from ok a _ e)
  exact ⟨o, its.toArray, n, h1, h2, h3, by simpa using items_are r⟩
theorem dt_rd {kvs : List (List Key × V)} (ok : HOk P w H h) (e : Rd H a (.dT kvs)) : kvs.length ≤ sizeLine ∧ (a == sysModules) = false ∧
    ∃ xs, KT H kvs xs ∧ h.DictOfH (tupleKind (mixKind P w)) a xs := by
  obtain ⟨z, y, xs, r, o, es, ep, h1, h2, h3, h4, h5⟩ := (show ObjOk P w H h a (.dT kvs) from rd_of ok e)
  refine ⟨z, y, xs, r, o, es, ep, h1, h2, h3, h4, fun x hx => ?_, h5⟩
  have all : ∀ {l : List (List Key × V)} {m : List (List Key × Addr × Value)}, KT H l m → ∀ x ∈ m, (tupleKind (mixKind P w)).is h x.1 x.2.1 := by
    intro l m q
    induction q with
    | nil => intro x hx; exact nomatch hx
    | @cons p q ps qs hq t ih =>
      intro x hx
      rcases List.mem_cons.mp hx with e | hx
      · subst e
        exact key_of ok (by rw [← hq.1]; exact hq.2.1)
      · exact ih x hx
  exact all r x hx
end
noncomputable def DGet (H : Hp) (a : Addr) (y : V) (r : Option V) : Prop :=
  (∃ kvs k, Rd H a (.dK kvs) ∧ y = kV k ∧ r = valV kvs k) ∨ ∃ kvs k b, Rd H a (.dT kvs) ∧ y = .ref b ∧ H b = some (.tup (k.map kV)) ∧ r = valV kvs k
section
variable {X : Cx} {pins : List (Addr × Obj)} {σ : St} {H : Hp} {s : Shared} {a : Addr} {y v : V} {u r : Value} {o : Option V} {A : Around} {E : Value → Shared → Prop}
theorem Inv.big (I : Inv X pins σ H s) : sysModules < s.heap.objs.size := by
  have h : mainGlobals < s.heap.objs.size := (I.mod.glob.keeps I.bk).lt
  exact Nat.lt_trans (by decide) h
theorem d_getItem {Q : Value → Shared → Prop} (hu : A.units + 1 < cLine) (I : Inv X pins σ H s) (g : DGet H a y (some v)) (ry : RelV y u) (h : ∀ w' s', Inv X pins σ H s' → RelV v w' → Q w' s') :
    wpAny (model X.prog X.w) A (getItem (.ref a) u) Q E s := by
  rcases g with ⟨kvs, k, e, ey, l⟩ | ⟨kvs, k, b, e, ey, eb, l⟩
  · subst ey
    obtain ⟨z, hd, vs, rel, dd⟩ := dk_rd I.hok e
    obtain ⟨w', hw, rw'⟩ := RelO.some_of (v := v) (o := valueAt vs k) (by rw [l]; exact rel.val k)
    exact wpAny_getItem_of (kV_is ry) dd.mapOf hw (h w' _ (I.tok _) rw')
  · subst ey
    cases (show u = Value.ref b from ry)
    obtain ⟨z, hd, xs, rel, dd⟩ := dt_rd I.hok e
    obtain ⟨w', hw, rw'⟩ := RelO.some_of (v := v) (o := (atKey xs k).map (·.2)) (by rw [l]; exact rel.val k)
    obtain ⟨p, hp, hp2⟩ := Option.map_eq_some_iff.mp hw
    refine wpAny_getItem_heap (tupleKind_room_in1 hu) (key_of I.hok eb) dd hp ?_
    rw [hp2]
    exact h w' _ (I.tok _) rw'
theorem d_write {h' : Heap} {t' : Nat} {ob : HO} (I : Inv X pins σ H s) (mu : Mut (H a)) (hs : Heap.SameBut a s.heap h') (he : ∃ q, h'.get? a = some q) (new : ObjOk X.prog X.w (upd H a ob) h' a ob) :
    Inv X pins σ (upd H a ob) { s with heap := h', toks := t' } :=
  I.write (x := a) (e := a) mu (.inl rfl) (fun b q hb z => (hs.2 b hb).trans z) he new
theorem dk_new {P : Program} {w : World} {H' : Hp} {h' : Heap} {kvs : List (Key × V)} {vs : List (Key × Value)} (z : kvs.length ≤ sizeLine) (hd : (a == sysModules) = false) (rel : KV kvs vs) (dd : h'.DictOf (mixKind P w) a vs) :
    ObjOk P w H' h' a (.dK kvs) := ⟨z, hd, vs, rel, dd⟩
end
section
variable {X : Cx} {pins : List (Addr × Obj)} {σ : St} {H : Hp} {s : Shared} {a : Addr} {kvs : List (Key × V)} {k : Key} {u : Value} {A : Around} {E : Value → Shared → Prop}
end
noncomputable def NoSl (i : Expr) : Prop := ∀ ov iv, subscripted i false ov iv = operate [ov, iv] (getItem ov iv)
theorem subD_of {prog : Program} {w : World} {A : Around} {E : Value → Shared → Prop} {s : Shared} {env : Env} {value slice : Expr} {pos : Pos} {T id : String} {Q : Value → Shared → Prop}
    (hl : typeLookup (.type T) "__getitem__" = pure (some (.builtin id))) (hs : NoSl slice)
    (h : wpAny (model prog w) A (eval value env) (fun o s₁ => wpAny (model prog w) A (eval slice env) (fun i s₂ => s₂.TypeIs o T ∧ wpAny (model prog w) A (getItem o i) Q E s₂) E s₁) E s) :
    wpAny (model prog w) A (eval (.Subscript value slice pos) env) Q E s := by
  refine Subscript_ (wpAny_mono h (fun o s₁ h₁ => wpAny_mono h₁ (fun i s₂ h₂ => ?_) fun _ _ x => x) fun _ _ x => x)
  obtain ⟨hT, h₂⟩ := h₂
  unfold subscriptTail
  refine wpAny_bind ?_
  rw [getitemInPython_of_ne hT.not_modules]
  refine wpAny_bind (wpAny_specialOf hT hl ?_)
  have fin : wpAny (model prog w) A (subscripted slice false o i) (fun r s₃ => wpAny (model prog w) A (letTemporaryGo value o r >>= fun _ => pure r) Q E s₃) E s₂ := by
    rw [hs o i]
    exact wpAny_operating (wpAny_mono h₂ (fun r s₃ h₃ => wpAny_bind (wpAny_letTemporaryGo (wpAny_pure h₃))) fun _ _ x => x)
  first
    | exact wpAny_pure (wpAny_bind fin)
    | exact wpAny_bind (wpAny_pure (wpAny_bind fin))
    | exact wpAny_bind fin
theorem dict_typeIs {X : Cx} {pins : List (Addr × Obj)} {σ : St} {H : Hp} {s : Shared} {a : Addr} {y : V} {o : Option V} (I : Inv X pins σ H s) (g : DGet H a y o) : s.TypeIs (.ref a) "dict" := by
  rcases g with ⟨kvs, k, e, _, _⟩ | ⟨kvs, k, b, e, _, _, _⟩
  · obtain ⟨_, _, vs, _, dd⟩ := dk_rd I.hok e
    exact dd.typeIs
  · obtain ⟨_, _, xs, _, dd⟩ := dt_rd I.hok e
    exact dd.typeIs
noncomputable def tDGet (td ty : TE) : TE := fun σ H Q => td σ H fun x H1 => ty σ H1 fun y H2 => ∃ a v, x = .ref a ∧ DGet H2 a y (some v) ∧ Q v H2
section
variable {X : Cx} {o i e value : Expr} {pos pos' tpos : Pos} {td ty tv : TE}
theorem pe_dget (hu : X.A.units + 1 < cLine) (ho : PE X o td) (hi : PE X i ty) (hs : NoSl i) : PE X (.Subscript o i pos) (tDGet td ty) := by
  intro pins s σ H Q I h
  refine subD_of PySem.F.slot_dict_getitem.lookup hs (thn (ho pins s σ H _ I h) fun u s1 ⟨x, H1, I1, rx, q1⟩ => thn (hi pins s1 σ H1 _ I1 q1) fun iv s2 ⟨y, H2, I2, ry, a, v, ex, g, q2⟩ => ?_)
  subst ex
  obtain rfl : u = Value.ref a := rx
  exact ⟨dict_typeIs I2 g, d_getItem hu I2 g ry fun w' s3 I3 rw' => ⟨v, H2, I3, rw', q2⟩⟩
end
theorem dk_empty {P : Program} {w : World} {H : Hp} (h : Heap) (hb : sysModules < h.objs.size) : ObjOk P w H (h.push { cls := .type "dict", data := .dict #[] }) h.objs.size (.dK []) :=
  ⟨Nat.zero_le _, beq_eq_false_iff_ne.mpr (Ne.symm (Nat.ne_of_lt hb)), [], .nil, Heap.DictOf.new h⟩
section
variable {X : Cx} {pos : Pos}
end
noncomputable def tPairs : List (TE × TE) → St → Hp → (List (V × V) → Hp → Prop) → Prop
  | [], _, H, Q => Q [] H
  | (tk, tv) :: r, σ, H, Q => tk σ H fun x H1 => tv σ H1 fun y H2 => tPairs r σ H2 fun ps H3 => Q ((x, y) :: ps) H3
noncomputable abbrev VV : List (V × V) → List (Value × Value) → Prop := Paired fun p q => RelV p.1 q.1 ∧ RelV p.2 q.2
noncomputable def PPs (X : Cx) (pos : Pos) (keys : List (Option Expr)) (values : List Expr) (trs : List (TE × TE)) : Prop :=
  ∀ (pins : List (Addr × Obj)) (s : Shared) (σ : St) (H : Hp) (Q : List (V × V) → Hp → Prop), Inv X pins σ H s → tPairs trs σ H Q →
    wpAny (model X.prog X.w) X.A (evalPairs (pairTrees keys values X.env pos)) (fun vs s' => ∃ ps H', Inv X pins σ H' s' ∧ VV ps vs ∧ Q ps H') X.xe s
theorem pps_nil {X : Cx} {pos : Pos} : PPs X pos [] [] [] := fun pins s σ H Q I h => pairTrees_nil_walk ⟨[], H, I, .nil, h⟩
theorem pps_cons {X : Cx} {pos : Pos} {k v : Expr} {ks : List (Option Expr)} {vs : List Expr} {tk tv : TE} {trs : List (TE × TE)} (hk : PE X k tk) (hv : PE X v tv) (hr : PPs X pos ks vs trs) :
    PPs X pos (some k :: ks) (v :: vs) ((tk, tv) :: trs) := fun pins s σ H Q I h =>
  pairTrees_cons_walk (thn (hk pins s σ H _ I h) fun u s1 ⟨x, H1, I1, rx, q1⟩ => thn (hv pins s1 σ H1 _ I1 q1) fun w2 s2 ⟨y, H2, I2, ry, q2⟩ =>
    thn (hr pins s2 σ H2 _ I2 q2) fun ws s3 ⟨ps, H3, I3, rel, q3⟩ => ⟨(x, y) :: ps, H3, I3, .cons ⟨rx, ry⟩ rel, q3⟩)
noncomputable def mergeK (kvs more : List (Key × V)) : List (Key × V) := more.foldl (fun acc kv => putK acc kv.1 kv.2) kvs
theorem KV.merge : ∀ {more : List (Key × V)} {rs : List (Key × Value)} {kvs : List (Key × V)} {vs : List (Key × Value)}, KV more rs → KV kvs vs → KV (mergeK kvs more) (merged vs rs) := by
  intro more rs kvs vs r
  unfold KV at r
  induction r generalizing kvs vs with
  | nil => intro q; exact q
  | @cons p q ps qs h t ih =>
    intro r0
    have e : KV (putK kvs p.1 p.2) (stored vs q.1 q.2) := by
      have := r0.put p.1 h.2
      rw [← h.1]; exact this
    exact ih e
theorem length_mergeK : ∀ (more kvs : List (Key × V)), (mergeK kvs more).length ≤ kvs.length + more.length
  | [], kvs => by show kvs.length ≤ kvs.length + 0; omega
  | p :: r, kvs => by
    have h1 := length_mergeK r (putK kvs p.1 p.2)
    have h2 := length_putK kvs p.1 p.2
    show (mergeK (putK kvs p.1 p.2) r).length ≤ _
    rw [List.length_cons]; omega
theorem carries_of {P : Program} {w : World} : ∀ {kvs : List (Key × V)} {ws : List (Value × Value)}, VV (kvs.map fun kv => (kV kv.1, kv.2)) ws → ∃ rs, Carries (mixKind P w) ws rs ∧ KV kvs rs
  | [], _, r => by rw [List.map_nil] at r; cases r; exact ⟨[], True.intro, .nil⟩
  | p :: kvs, _, r => by
    rw [List.map_cons] at r
    cases r with
    | @cons a b as bs h t =>
      obtain ⟨rs, c, q⟩ := carries_of (P := P) (w := w) t
      obtain ⟨b1, b2⟩ := b
      exact ⟨(p.1, b2) :: rs, ⟨kV_is h.1, rfl, c⟩, .cons ⟨rfl, h.2⟩ q⟩
noncomputable def tDisp (trs : List (TE × TE)) : TE := fun σ H Q => ∀ p, H p = none → tPairs trs σ (upd H p (.dK [])) fun ps H2 => H2 p = some (.dK []) ∧ ∃ kvs : List (Key × V), ps = kvs.map (fun kv => (kV kv.1, kv.2)) ∧ kvs.length ≤ 15 ∧ Q (.ref p) (upd H2 p (.dK (mergeK [] kvs)))
theorem pe_disp {X : Cx} {pos : Pos} {keys : List (Option Expr)} {values : List Expr} {trs : List (TE × TE)} (h : PPs X pos keys values trs) (hall : keys.all (·.isSome) = true) (hl : keys.length = values.length) (h0 : keys ≠ [])
    (h15 : keys.length ≤ 15) : PE X (.Dict keys values pos) (tDisp trs) := by
  intro pins s σ H Q I q
  have hn := I.hok.fresh (Nat.le_refl s.heap.objs.size)
  have I1 := I.laid (a := s.heap.objs.size) (o := .dK []) (h' := s.heap.push { cls := .type "dict", data := .dict #[] }) (t' := s.toks) (fun _ _ q => Heap.get?_push_of_some _ q) (Nat.le_refl _) (dk_empty s.heap I.big)
  refine wpAny_Dict_walk (knd := mixKind X.prog X.w) hall hl h0 h15 (thn (h pins _ σ _ _ I1 (q _ hn)) fun ws s2 ⟨ps, H2, I2, rel, e, kvs, ep, lk, q2⟩ => ?_)
  subst ep
  obtain ⟨rs, c, rk⟩ := carries_of (P := X.prog) (w := X.w) rel
  obtain ⟨z, hd, vs0, r0, dd⟩ := dk_of I2.hok e
  cases r0
  refine ⟨rs, c, dd, fun h' dd' hs => ⟨.ref s.heap.objs.size, _, ?_, rfl, q2⟩⟩
  have hz : (mergeK [] kvs).length ≤ sizeLine := by
    have h1 := length_mergeK kvs []
    rw [List.length_nil] at h1
    rw [sizeLine_eq]; omega
  have he : ∃ q, h'.get? s.heap.objs.size = some q := let ⟨q, _, _, hq, _⟩ := dd'; ⟨q, hq⟩
  exact d_write I2 (by rw [e]; exact True.intro) hs he (dk_new hz hd (rk.merge .nil) dd')
structure M1 (X : Cx) (o : Expr) (m : Str) (apos : Pos) (e : Expr) (cpos : Pos) : Prop where
  base : attributeBase o m X.env (eval o X.env) = eval o X.env
  few : ((backTo cpos (starEach [e] X.env)).all (fun x => !x.1) && (backToKw cpos (keywordEach [] X.env)).all (fun x => x.1.isSome)
    && decide (([e] : List Expr).length + ([] : List Keyword).length + (if ([] : List Keyword).isEmpty then 0 else 1) < 30)) = true
  line : (apos.endLine == cpos.line) = true
  trees : backTo cpos (starEach [e] X.env) = [(false, eval e X.env)]
structure M2 (X : Cx) (o : Expr) (m : Str) (apos : Pos) (e f : Expr) (cpos : Pos) : Prop where
  base : attributeBase o m X.env (eval o X.env) = eval o X.env
  few : ((backTo cpos (starEach [e, f] X.env)).all (fun x => !x.1) && (backToKw cpos (keywordEach [] X.env)).all (fun x => x.1.isSome)
    && decide (([e, f] : List Expr).length + ([] : List Keyword).length + (if ([] : List Keyword).isEmpty then 0 else 1) < 30)) = true
  line : (apos.endLine == cpos.line) = true
  trees : backTo cpos (starEach [e, f] X.env) = [(false, eval e X.env), (false, eval f X.env)]
section
variable {X : Cx} {pins : List (Addr × Obj)} {σ : St} {H : Hp} {s : Shared} {a : Addr} {y d : V} {u r : Value} {o : Option V} {A : Around} {E : Value → Shared → Prop}
end
section
variable {X : Cx} {o e f : Expr} {apos cpos : Pos} {td ty tx : TE}
end
section
variable {X : Cx} {pins : List (Addr × Obj)} {σ : St} {H : Hp} {s : Shared} {a : Addr} {kvs : List (Key × V)} {A : Around} {E : Value → Shared → Prop}
end
section
variable {X : Cx} {pins : List (Addr × Obj)} {σ : St} {H : Hp} {s : Shared} {a : Addr} {y : V} {u : Value} {A : Around} {E : Value → Shared → Prop}
end
end L2
namespace L2
open PySem PySem.Spec PyProof.Rows
section
variable {κ : Type} [DecidableEq κ]
end
end L2
set_option maxHeartbeats 4000000
namespace L2
open PySem PySem.Spec PyProof.Rows
noncomputable def closL (cells : List (Str × Addr)) : List (Str × NameKind) → List (Str × Addr) → List (Str × Addr)
  | [], cs => cs
  | (n, k) :: r, cs => closL cells r (if (k == .free) = true then (match cells.lookup n with | some c => (n, c) :: cs | none => cs) else cs)
theorem closure_go {env : Env} : ∀ (names : List (Str × NameKind)) (cs : List (Str × Addr)), (∀ x ∈ names, x.2 = .free → ∃ c, env.cells.lookup x.1 = some c) →
    (forIn names cs (fun (x : Str × NameKind) (cs : List (Str × Addr)) => (match x with
      | (name, kind) => if (kind == .free) = true then (do let a ← cellOf env name; pure (ForInStep.yield ((name, a) :: cs))) else pure (ForInStep.yield cs) : Sem (ForInStep (List (Str × Addr)))))
      : Sem (List (Str × Addr))) = pure (closL env.cells names cs)
  | [], cs, _ => rfl
  | (n, k) :: r, cs, h => by
    rw [List.forIn_cons]
    have ih := fun cs => closure_go r cs fun x hx => h x (List.mem_cons_of_mem _ hx)
    by_cases e : (k == NameKind.free) = true
    · obtain ⟨c, hc⟩ := h (n, k) List.mem_cons_self (by simpa using e)
      have hc' : env.cells.lookup n = some c := hc
      simp only [e, if_true, closL, cellOf, hc']
      exact ih _
    · have e' : (k == NameKind.free) = false := by simpa using e
      simp only [e', closL]
      exact ih _
theorem closure_eq {scope : Scope} {env : Env} (h : ∀ x ∈ scope.names, x.2 = .free → ∃ c, env.cells.lookup x.1 = some c) : closureFor scope env = pure (closL env.cells scope.names []) := by
  unfold closureFor
  have q := closure_go scope.names [] h
  show (forIn scope.names [] _ >>= _) = _
  rw [show (forIn scope.names [] _ : Sem (List (Str × Addr))) = _ from q]
  rfl
theorem closL_sub {cells : List (Str × Addr)} : ∀ (names : List (Str × NameKind)) (cs : List (Str × Addr)), (∀ x c, cs.lookup x = some c → cells.lookup x = some c) → ∀ x c, (closL cells names cs).lookup x = some c → cells.lookup x = some c
  | [], _, h => h
  | (n, k) :: r, cs, h => by
    unfold closL
    refine closL_sub r _ fun x c e => ?_
    split at e
    · split at e
      · rename_i c' hc'
        rw [List.lookup_cons] at e
        split at e
        · rename_i hx
          cases e
          rw [eq_of_beq hx]; exact hc'
        · exact h x c e
      · exact h x c e
    · exact h x c e
theorem closL_keep {cells : List (Str × Addr)} {x : Str} {c : Addr} (hc : cells.lookup x = some c) : ∀ (names : List (Str × NameKind)) (cs : List (Str × Addr)), cs.lookup x = some c → (closL cells names cs).lookup x = some c
  | [], _, h => h
  | (n, k) :: r, cs, h => by
    unfold closL
    refine closL_keep hc r _ ?_
    split
    · split
      · rename_i c' hc'
        rw [List.lookup_cons]
        split
        · rename_i hx
          rw [eq_of_beq hx] at hc; rw [hc] at hc'; exact hc'.symm
        · exact h
      · exact h
    · exact h
theorem closL_has {cells : List (Str × Addr)} {x : Str} {c : Addr} (hc : cells.lookup x = some c) : ∀ (names : List (Str × NameKind)) (cs : List (Str × Addr)), (x, NameKind.free) ∈ names → (closL cells names cs).lookup x = some c
  | [], _, h => nomatch h
  | (n, k) :: r, cs, h => by
    rcases List.mem_cons.mp h with e | e
    · cases e
      unfold closL
      refine closL_keep hc r _ ?_
      simp only [beq_self_eq_true, if_true, hc, List.lookup_cons]
    · unfold closL
      exact closL_has hc r _ e
theorem cellsFrom_app : ∀ (names : List (Str × NameKind)) (n : Nat) (acc : List (Str × Addr)), cellsFrom n names acc = cellsFrom n names [] ++ acc
  | [], _, _ => rfl
  | (x, k) :: r, n, acc => by
    unfold cellsFrom
    split
    · rw [cellsFrom_app r (n + 1) ((x, n) :: acc), cellsFrom_app r (n + 1) [(x, n)], List.append_assoc]; rfl
    · exact cellsFrom_app r n acc
theorem lookup_two {α : Type} {x : Str} : ∀ {a b : List (Str × α)}, (a ++ b).lookup x = ((a.lookup x).or (b.lookup x))
  | [], b => rfl
  | (y, v) :: r, b => by
    rw [List.cons_append, List.lookup_cons, List.lookup_cons]
    cases h : x == y with
    | true => rfl
    | false => exact lookup_two
theorem cellsFrom_none {x : Str} : ∀ (names : List (Str × NameKind)) (n : Nat) (acc : List (Str × Addr)), (∀ y ∈ names, y.2 = .cell → y.1 ≠ x) → acc.lookup x = none → (cellsFrom n names acc).lookup x = none
  | [], _, _, _, h => h
  | (y, k) :: r, n, acc, hn, h => by
    unfold cellsFrom
    split
    · rename_i hk
      have hy : y ≠ x := hn (y, k) List.mem_cons_self (eq_of_beq hk)
      refine cellsFrom_none r (n + 1) _ (fun z hz => hn z (List.mem_cons_of_mem _ hz)) ?_
      rw [List.lookup_cons, show (x == y) = false from beq_eq_false_iff_ne.mpr fun e => hy e.symm]
      exact h
    · exact cellsFrom_none r n acc (fun z hz => hn z (List.mem_cons_of_mem _ hz)) h
theorem wpAny_newEnv_block {M : Model} {A : Around} {E : Value → Shared → Prop} {s : Shared} {scope : Scope} {globals : Addr} {closure : List (Str × Addr)} {qual : Str} {outer : Env} {Q : Env → Shared → Prop}
    (hQ : Q (newEnv scope s.heap.objs.size globals (cellsFrom (s.heap.objs.size + 1) scope.names closure) qual none .none (some outer) builtinsNs) { s with heap := pushCells (s.heap.push { cls := .type "dict", data := .dict #[] }) scope.names }) :
    wpAny M A (newFunctionEnv scope globals closure [] qual none .none (some outer)) Q E s := by
  simp only [newFunctionEnv, Option.isSome_some, if_true]
  refine wpAny_bind (wpAny_alloc ?_)
  refine wpAny_bind (wpAny_layCells _ (fun name kind cells => by cases hkc : kind == NameKind.cell <;> simp [hkc]) _ _ _ _ ?_)
  rw [show ({ s with heap := s.heap.push { cls := .type "dict", data := .dict #[] } } : Shared).heap.objs.size = s.heap.objs.size + 1 from Heap.size_push ..]
  rw [List.forIn_nil]
  exact wpAny_bind (wpAny_pure (wpAny_pure hQ))
noncomputable abbrev lcCells (X : Cx) (sc : Scope) (C : Addr) : List (Str × Addr) := cellsFrom (C + 1) sc.names (closL X.env.cells sc.names [])
noncomputable abbrev lcCx (X : Cx) (N : List Str) (sc : Scope) (C : Addr) (s3 : Shared) (H3 : Hp) (fp : List Addr) (pins : List (Addr × Obj)) : Cx :=
  { X with N := N, s₀ := s3, H₀ := H3, env := compEnvC sc (lcCells X sc C) C X.env, outer := X.stack, stack := X.stack, ex := fp, fn := fun x => sc.names.lookup x == some .cell, pn := X.pn ++ pins, xe := fun _ _ => False }
structure LcScope (X : Cx) (N : List Str) (sc : Scope) (mp : List (Option Nat)) : Prop where
  kind : sc.kind = .function
  nd : N.Nodup
  len : mp.length = N.length
  loc : ∀ y ∈ sc.names, y.2 = .local → sc.names.lookup y.1 = some .local
  freeIn : ∀ y ∈ sc.names, y.2 = .free → X.env.kindOf y.1 = some .cell ∨ X.env.kindOf y.1 = some .free
  seen : ∀ y, (relabel sc X.env).names.lookup y = some .cell ∨ (relabel sc X.env).names.lookup y = some .free → (y, NameKind.free) ∈ sc.names ∨ sc.names.lookup y = some .cell
  take : ∀ (i j : Nat) (x : Str), mp[i]? = some (some j) → N[i]? = some x → X.N[j]? = some x ∧ (X.env.kindOf x = some .cell ∨ X.env.kindOf x = some .free) ∧ Vis X.env.scope x ∧ (x, NameKind.free) ∈ sc.names ∧
    ((relabel sc X.env).names.lookup x = some .cell ∨ (relabel sc X.env).names.lookup x = some .free) ∧ ∀ y ∈ sc.names, y.2 = .cell → y.1 ≠ x
noncomputable def relab (sc esc : Scope) : List (Str × NameKind) := sc.names.map fun (n, k) => if (k == .free && esc.kind == .function && esc.names.lookup n == some .cell) then (n, .cell) else (n, k)
noncomputable def cf (o : Option NameKind) : Bool := o == some .cell || o == some .free
noncomputable def lcOk (esc : Scope) (NX N : List Str) (sc : Scope) (mp : List (Option Nat)) : Bool :=
  sc.kind == .function && decide N.Nodup && mp.length == N.length && sc.names.all (fun y => y.2 != .local || sc.names.lookup y.1 == some .local) &&
  sc.names.all (fun y => y.2 != .free || cf (esc.names.lookup y.1)) && (mp.zip N).all (fun p => match p.1 with
    | none => true
    | some j => NX[j]? == some p.2 && cf (esc.names.lookup p.2) && sc.names.contains (p.2, .free) && cf ((relab sc esc).lookup p.2) && sc.names.all (fun y => y.2 != .cell || y.1 != p.2))
theorem cf_or {o : Option NameKind} (h : cf o = true) : o = some .cell ∨ o = some .free := by
  unfold cf at h
  rw [Bool.or_eq_true] at h
  rcases h with h | h
  · exact .inl (eq_of_beq h)
  · exact .inr (eq_of_beq h)
theorem relab_seen {esc : Scope} {y : Str} : ∀ {names : List (Str × NameKind)},
    (names.map fun (n, k) => if (k == NameKind.free && esc.kind == .function && esc.names.lookup n == some .cell) then (n, NameKind.cell) else (n, k)).lookup y = some .cell ∨
    (names.map fun (n, k) => if (k == NameKind.free && esc.kind == .function && esc.names.lookup n == some .cell) then (n, NameKind.cell) else (n, k)).lookup y = some .free → (y, NameKind.free) ∈ names ∨ names.lookup y = some .cell
  | [], h => by simp at h
  | (n, k) :: r, h => by
    have ih := @relab_seen esc y r
    rw [List.map_cons] at h
    by_cases hy : (y == n) = true
    · have hyn := eq_of_beq hy
      by_cases e : (k == NameKind.free && esc.kind == .function && esc.names.lookup n == some .cell) = true
      · have ek : k = .free := by
          rw [Bool.and_eq_true, Bool.and_eq_true] at e
          exact eq_of_beq e.1.1
        rw [hyn, ek]; exact .inl List.mem_cons_self
      · simp only [if_neg e] at h
        rw [List.lookup_cons] at h
        simp only [hy] at h
        rcases h with h | h
        · right; rw [List.lookup_cons]; simp only [hy]; exact h
        · left; rw [hyn, Option.some.inj h]; exact List.mem_cons_self
    · have hy' : (y == n) = false := by simpa using hy
      have step : (r.map fun (n, k) => if (k == NameKind.free && esc.kind == .function && esc.names.lookup n == some .cell) then (n, NameKind.cell) else (n, k)).lookup y = some .cell ∨
          (r.map fun (n, k) => if (k == NameKind.free && esc.kind == .function && esc.names.lookup n == some .cell) then (n, NameKind.cell) else (n, k)).lookup y = some .free := by
        by_cases e : (k == NameKind.free && esc.kind == .function && esc.names.lookup n == some .cell) = true
        · simp only [e, if_true] at h
          rw [List.lookup_cons] at h
          simp only [hy'] at h
          exact h
        · simp only [if_neg e] at h
          rw [List.lookup_cons] at h
          simp only [hy'] at h
          exact h
      rcases ih step with z | z
      · exact .inl (List.mem_cons_of_mem _ z)
      · right; rw [List.lookup_cons]; simp only [hy']; exact z
theorem lcs {X : Cx} {N : List Str} {sc : Scope} {mp : List (Option Nat)} (h : lcOk X.env.scope X.N N sc mp = true) : LcScope X N sc mp := by
  unfold lcOk at h
  simp only [Bool.and_eq_true, List.all_eq_true] at h
  obtain ⟨⟨⟨⟨⟨h1, h2⟩, h3⟩, h5⟩, h6⟩, h7⟩ := h
  refine ⟨eq_of_beq h1, of_decide_eq_true h2, eq_of_beq h3, fun y hy e => ?_, fun y hy e => ?_, fun y hy => relab_seen hy, fun i j x e1 e2 => ?_⟩
  · have := h5 y hy
    rw [e, Bool.or_eq_true] at this
    rcases this with z | z
    · cases z
    · exact eq_of_beq z
  · have := h6 y hy
    rw [e, Bool.or_eq_true] at this
    rcases this with z | z
    · cases z
    · exact cf_or z
  · have hm : (some j, x) ∈ mp.zip N := by
      have q : (mp.zip N)[i]? = some (some j, x) := by rw [List.getElem?_zip_eq_some]; exact ⟨e1, e2⟩
      exact List.mem_of_getElem? q
    have := h7 _ hm
    simp only [Bool.and_eq_true] at this
    obtain ⟨⟨⟨⟨a1, a2⟩, a3⟩, a4⟩, a5⟩ := this
    have a2' := cf_or a2
    refine ⟨eq_of_beq a1, a2', ?_, ?_, cf_or a4, fun y hy e1 e2 => ?_⟩
    · rcases a2' with z | z
      · exact .inr (.inl z)
      · exact .inr (.inr z)
    · simpa using a3
    · have := List.all_eq_true.mp a5 y hy
      rw [e1, e2] at this
      simp at this
noncomputable def lcStart (mp : List (Option Nat)) (σ : St) : St := mp.map fun o => o.bind fun j => (σ[j]?).join
noncomputable def PIfs (Y : Cx) (ifs : List Expr) (tc : TT) : Prop :=
  ∀ (pins : List (Addr × Obj)) (s : Shared) (σ : St) (H : Hp) (Q : Bool → Hp → Prop), Inv Y pins σ H s → tc σ H Q →
    wpAny (model Y.prog Y.w) Y.A (forIn ifs true fun c r => if r = true then do let ok ← isTrue c Y.env (eval c Y.env); pure (ForInStep.yield ok) else pure (ForInStep.yield r)) (TP Y pins σ Q) Y.xe s
noncomputable def tAll : TT := fun _ H Q => Q true H
theorem pifs_nil {Y : Cx} : PIfs Y [] tAll := fun _ _ _ H _ I h => wpAny_tests_nil ⟨H, I, h⟩
theorem pifs_one {Y : Cx} {c : Expr} {tc : TT} (h : PT Y c tc) : PIfs Y [c] tc := fun pins s σ H Q I q => wpAny_tests_one (h pins s σ H Q I q)
noncomputable def tLCb (mp : List (Option Nat)) (J : It) (g : TG) (tc : TT) (te : TE) (Q : VK) (σ : St) (H : Hp) : Prop :=
  ∀ l, H l = none → ∃ W : Nat → Nat → List V → St → Hp → Prop, (∃ m, W 0 m [] (lcStart mp σ) (upd H l (.lst []))) ∧ ∀ i m ys σ1 H2, W i m ys σ1 H2 → H2 l = some (.lst ys) ∧
    ((J.stop i H2 ∧ Q (.ref l) H2) ∨ (J.go i H2 ∧ ∀ x H3, J.yld i H2 x H3 → g x σ1 H3 fun σ2 H4 => tc σ2 H4 fun b H5 =>
      if b = true then te σ2 H5 fun y H6 => H6 l = some (.lst ys) ∧ ys.length < sizeLine ∧ ∃ m', m' < m ∧ W (i + 1) m' (ys ++ [y]) σ2 (upd H6 l (.lst (ys ++ [y])))
      else ∃ m', m' < m ∧ W (i + 1) m' ys σ2 H5))
section
variable {prog : Program} {w : World} {A : Around} {R : Result → Shared → Prop} {s : Shared}
theorem lc_loop {elt target iter : Expr} {ifs : List Expr} {scope : Scope} {pos : Pos} {it acc : Value} {env : Env} (I : Nat → Shared → Prop)
    (turn : ∀ n s, I n s → wpAny (model prog w) A (pyNext it) (fun r s₁ => match r with
      | none => R (.ok .next) s₁
      | some v => wpAny (model prog w) A (letOwnedTupleGo target it v) (fun _ s₁' => wpAny (model prog w) A (assign target env v) (fun _ s₂ =>
          wpAny (model prog w) A (forIn ifs true fun c r => if r = true then do let ok ← isTrue c env (eval c env); pure (ForInStep.yield ok) else pure (ForInStep.yield r)) (fun ok s₃ =>
            if ok = true then wpAny (model prog w) A (eval elt env) (fun x s₄ =>
              wpAny (model prog w) A (call (.builtin "list.append") [acc, x]) (fun _ s₅ => ∃ m, m < n ∧ I m s₅) (fun _ _ => False) s₄) (fun _ _ => False) s₃
            else ∃ m, m < n ∧ I m s₃) (fun _ _ => False) s₂) (fun _ _ => False) s₁') (fun _ _ => False) s₁) (fun _ _ => False) s)
    (n : Nat) (h : I n s) : codeAny (model prog w) A (.compLoop (.ListComp elt [⟨target, iter, ifs, 0⟩] scope pos) 0 it acc env) R s := by
  refine codeAny_loop rfl I (fun n s hI => ?_) n h
  show wpAny _ A ((compTurn (.ListComp elt [⟨target, iter, ifs, 0⟩] scope pos) 0 it acc env).onRaise (fun x => do noteFrame x env; theTreesLotGoes x)) _ _ s
  refine wpAny_noted ?_
  rw [compTurn_list]
  refine wpAny_bind (wpAny_standAt (wpAny_bind ?_))
  refine wpAny_mono (turn n s hI) (fun r s₁ h₁ => ?_) fun _ _ f => f.elim
  cases r with
  | none => exact wpAny_pure h₁
  | some v =>
    refine wpAny_bind (wpAny_mono h₁ (fun _ s₁' h₁' => ?_) fun _ _ f => f.elim)
    refine wpAny_bind (wpAny_mono h₁' (fun _ s₂ h₂ => ?_) fun _ _ f => f.elim)
    refine wpAny_bind (wpAny_mono h₂ (fun ok s₃ h₃ => ?_) fun _ _ f => f.elim)
    cases ok with
    | false => exact wpAny_pure ⟨rfl, h₃⟩
    | true =>
      refine wpAny_bind (wpAny_bind (wpAny_mono h₃ (fun x s₄ h₄ => ?_) fun _ _ f => f.elim))
      exact wpAny_bind (wpAny_mono h₄ (fun _ s₅ h₅ => wpAny_pure (wpAny_pure ⟨rfl, h₅⟩)) fun _ _ f => f.elim)
end
section
variable {X : Cx} {N : List Str} {sc : Scope} {mp : List (Option Nat)} {tg iter elt : Expr} {ifs : List Expr} {pos : Pos} {g : TG} {tc : TT} {te : TE}
theorem lc_block (hc : X.calm = true) (S : LcScope X N sc mp)
    (hg : ∀ C s3 H3 fp pins, PG (lcCx X N sc C s3 H3 fp pins) tg g) (hi : ∀ C s3 H3 fp pins, PIfs (lcCx X N sc C s3 H3 fp pins) ifs tc) (he : ∀ C s3 H3 fp pins, PE (lcCx X N sc C s3 H3 fp pins) elt te)
    {pins : List (Addr × Obj)} {σ : St} {H : Hp} {s : Shared} {it : Addr} {fp : List Addr} {tn : Nat → Heap → Prop} {J : It} {Q : VK} (I : Inv X pins σ H s) (T : Turn X.prog X.w X.K tg J fp it tn) (st : tn 0 s.heap) (f : ∀ b ∈ fp, FpOk X pins H b)
    (h : tLCb mp J g tc te Q σ H) {E : Value → Shared → Prop} {RR : Value → Addr → Result → Shared → Prop}
    (hRR : ∀ l C o m H' s', s'.heap.get? C = some o → s'.heap.Ns C m → Inv X (pins ++ [(C, o)]) σ H' s' → FpOk X pins H' C → Q (.ref l) H' → RR (.ref l) C (.ok .next) s') :
    wpAny (model X.prog X.w) X.A (newList []) (fun acc s₃ => wpAny (model X.prog X.w) X.A (newFunctionEnv sc X.env.globals (closL X.env.cells sc.names []) [] X.env.qual none .none (some X.env)) (fun cenv s₄ =>
      codeAny (model X.prog X.w) X.A (.compStart (.ListComp elt [⟨tg, iter, ifs, 0⟩] sc pos) 0 (.ref it) acc { cenv with scope := relabel sc X.env }) (RR acc cenv.locals) s₄) E s₃) E s := by
  have I3 : Inv X pins σ (upd H s.heap.objs.size (.lst [])) { s with heap := s.heap.push { cls := .type "list", dict := none, data := .seq ([] : List Value).toArray } } :=
    I.lnew (ys := []) (its := []) (t' := s.toks) .nil (Nat.zero_le _)
  refine wpAny_newObj_type (wpAny_newEnv_block ?_)
  dsimp only
  obtain ⟨W, ⟨m0, w0⟩, turn⟩ := h s.heap.objs.size I.fresh
  generalize hl : s.heap.objs.size = l at I3 w0 turn ⊢
  generalize hs3 : ({ s with heap := s.heap.push { cls := .type "list", dict := none, data := .seq ([] : List Value).toArray } } : Shared) = s3 at I3
  have eh3 : s.heap.push { cls := .type "list", dict := none, data := .seq ([] : List Value).toArray } = s3.heap := by rw [← hs3]
  rw [eh3]
  have hns : (pushCells (s3.heap.push { cls := .type "dict", data := .dict #[] }) sc.names).Ns s3.heap.objs.size fun _ => none := (Heap.Ns.new s3.heap (.type "dict")).keeps (pushCells_keeps _ _)
  have old : ∀ b o, s3.heap.get? b = some o → (pushCells (s3.heap.push { cls := .type "dict", data := .dict #[] }) sc.names).get? b = some o := fun b o e => pushCells_keeps _ _ b o (Heap.get?_push_of_some _ e)
  have newc := cellsFrom_ok sc.names (s3.heap.push { cls := .type "dict", data := .dict #[] }) (s3.heap.objs.size + 1) [] ⟨fun _ _ hm => (nomatch hm), List.Pairwise.nil⟩ (by rw [Heap.size_push]; exact Nat.le_refl _)
  rw [Heap.size_push] at newc
  generalize pushCells (s3.heap.push { cls := .type "dict", data := .dict #[] }) sc.names = h₁ at hns old newc ⊢
  generalize hH3 : upd H l (.lst []) = H3 at I3 w0
  have old3 : ∀ b o, s.heap.get? b = some o → s3.heap.get? b = some o := fun b o e => by rw [← eh3]; exact Heap.get?_push_of_some _ e
  have hsz3 : s.heap.objs.size ≤ s3.heap.objs.size := by rw [← eh3, Heap.size_push]; exact Nat.le_succ _
  have fpC : ∀ b ∈ fp, b < s3.heap.objs.size := fun b hb => by
    obtain ⟨o, e, _⟩ := T.obj 0 _ st b hb
    exact Nat.lt_of_lt_of_le (Heap.lt_size e) hsz3
  have sub := closL_sub (cells := X.env.cells) sc.names [] (fun x c e => by simp at e)
  have cab : ∀ x c, X.env.cells.lookup x = some c → c < s3.heap.objs.size := fun x c e => by obtain ⟨v, q⟩ := I3.cell x c e; exact q.lt
  have two : ∀ x c, (lcCells X sc s3.heap.objs.size).lookup x = some c → (x, c) ∈ cellsFrom (s3.heap.objs.size + 1) sc.names [] ∨ X.env.cells.lookup x = some c := fun x c e => by
    unfold lcCells at e
    rw [cellsFrom_app, lookup_two] at e
    cases q : (cellsFrom (s3.heap.objs.size + 1) sc.names []).lookup x with
    | some c' => rw [q] at e; cases e; exact .inl (PySem.mem_of_lookup q)
    | none => rw [q] at e; exact .inr (sub x c e)
  have newlt : ∀ x c, (x, c) ∈ cellsFrom (s3.heap.objs.size + 1) sc.names [] → s3.heap.objs.size < c := fun x c e => (newc.empty x c e).2
  have okY : (lcCx X N sc s3.heap.objs.size s3 H3 fp pins).Ok := by
    refine ⟨I3.ok.mod, S.kind, I3.ok.glob, I3.ok.blt, Nat.le_refl _, fun x y c e1 e2 => ?_, fun x hx => ?_, fun x c z e => ?_, I3.ok.hd, I3.ok.frames, .inl rfl, fun b hb => ⟨Nat.ne_of_lt (fpC b hb), fun x c e => ?_⟩, I3.bs,
      Nat.le_trans I3.ok.bsz I3.sz, fun b o e hb => ?_, fun b hb hf => ?_, I3.stack, I3.stkFree⟩
    · rcases two x c e1 with z1 | z1 <;> rcases two y c e2 with z2 | z2
      · exact name_of_addr newc.apart z1 z2
      · exact absurd (Nat.lt_trans (cab y c z2) (newlt x c z1)) (Nat.lt_irrefl _)
      · exact absurd (Nat.lt_trans (cab x c z1) (newlt y c z2)) (Nat.lt_irrefl _)
      · exact I3.ok.inj x y c z1 z2
    · show ∃ c, (lcCells X sc s3.heap.objs.size).lookup x = some c
      refine Option.isSome_iff_exists.mp (PySem.W.cellsFrom_some _ _ _ ?_)
      rcases S.seen x hx with hm | hm
      · obtain ⟨c, hc⟩ := I3.ok.has x (S.freeIn _ hm rfl)
        right; rw [closL_has hc _ _ hm]; rfl
      · exact .inl hm
    · have z' : sc.names.lookup x = some .cell := eq_of_beq z
      have q := PySem.W.cellsFrom_some sc.names (s3.heap.objs.size + 1) [] (.inl z')
      obtain ⟨c', q⟩ := Option.isSome_iff_exists.mp q
      have e' : (lcCells X sc s3.heap.objs.size).lookup x = some c := e
      unfold lcCells at e'
      rw [cellsFrom_app, lookup_two, q] at e'
      cases e'
      exact Nat.le_of_lt (newlt x _ (PySem.mem_of_lookup q))
    · rcases two x c e with z | z
      · exact fun q => Nat.lt_irrefl _ (Nat.lt_trans (newlt x c z) (q ▸ fpC b hb))
      · exact (f b hb).2.2.2.2.1 x c z
    · rcases (f b hb).2.2.2.1 with z | z
      · exact I3.ok.noex b o e z
      · exact absurd (Nat.lt_of_lt_of_le (Heap.lt_size (I3.ok.bs b o e).1) z) (Nat.lt_irrefl _)
    · rcases List.mem_cons.mp (I3.stkSub b hf) with z | z
      · exact (f b hb).2.1 z
      · exact (f b hb).2.2.1 z
  have I4 : ∀ tk, Inv (lcCx X N sc s3.heap.objs.size s3 H3 fp pins) [] (lcStart mp σ) H3 { s3 with heap := h₁, toks := tk } := fun tk => by
    refine ⟨okY, rfl, I3.bare, Un.kept old, ⟨_, hns, fun i x v e1 e2 e3 => ?_⟩, fun x c e => ?_, I3.hok.fresh (Nat.le_refl _), fun x c e => ?_, fun p hp => ?_, I3.hok.kept old, ?_⟩
    · have e2' : (mp.map fun o => o.bind fun j => (σ[j]?).join)[i]? = some (some v) := e2
      rw [List.getElem?_map] at e2'
      cases em : mp[i]? with
      | none => rw [em] at e2'; cases e2'
      | some o =>
        rw [em] at e2'
        cases o with
        | none => cases e2'
        | some j =>
          have ej : (σ[j]?).join = some v := Option.some.inj e2'
          have ej' : σ[j]? = some (some v) := by
            cases q : σ[j]? with
            | none => rw [q] at ej; cases ej
            | some y => rw [q] at ej; cases y with
              | none => cases ej
              | some y => cases ej; rfl
          obtain ⟨t1, t2, t3, t4, t5, t6⟩ := S.take i j x em e1
          obtain ⟨m, hn, hlk⟩ := I3.loc
          obtain ⟨u, r, lk⟩ := hlk j x v t1 ej' t3
          refine ⟨u, r, .inr ⟨t5, ?_⟩⟩
          rcases lk with ⟨k, _⟩ | ⟨_, c, ec, o, ho, hd⟩
          · rcases t2 with z | z
            · rw [k] at z; cases z
            · rw [k] at z; cases z
          · refine ⟨c, ?_, o, old c o ho, hd⟩
            show (lcCells X sc s3.heap.objs.size).lookup x = some c
            unfold lcCells
            rw [cellsFrom_app, lookup_two, cellsFrom_none sc.names _ [] t6 rfl, closL_has ec _ _ t4]; rfl
    · rcases two x c e with z | z
      · exact ⟨none, (newc.empty x c z).1⟩
      · obtain ⟨v, o, ho, hd⟩ := I3.cell x c z
        exact ⟨v, o, old c o ho, hd⟩
    · rcases two x c e with z | z
      · exact I3.hok.fresh (Nat.le_of_lt (newlt x c z))
      · exact I3.freeC x c z
    · rw [List.append_nil] at hp
      obtain ⟨e, n, ne, nf, d⟩ := I3.pin p hp
      refine ⟨old _ _ e, n, Nat.ne_of_lt (Heap.lt_size e), fun z => ?_, d⟩
      rcases List.mem_cons.mp (I3.stkSub p.1 z) with q | q
      · exact ne q
      · exact nf q
    · show (mp.map _).length = N.length
      rw [List.length_map]; exact S.len
  have I3f : ∀ b ∈ fp, H3 b = none := fun b hb => by
    obtain ⟨o, e, _⟩ := T.obj 0 _ st b hb
    rw [← hH3, upd_ne (by rw [← hl]; exact Nat.ne_of_lt (Heap.lt_size e))]
    exact (f b hb).1
  have fY : ∀ {H' : Hp}, (∀ b ∈ fp, H' b = none) → ∀ b ∈ fp, FpOk (lcCx X N sc s3.heap.objs.size s3 H3 fp pins) [] H' b := fun hn b hb => by
    refine ⟨hn b hb, Nat.ne_of_lt (fpC b hb), fun hf => ?_, .inl hb, fun x c e => okY.exf b hb |>.2 x c e, fun p hp => ?_⟩
    · rcases List.mem_cons.mp (I3.stkSub b hf) with z | z
      · exact (f b hb).2.1 z
      · exact (f b hb).2.2.1 z
    · rw [List.append_nil] at hp
      exact (f b hb).2.2.2.2.2 p hp
  have st4 : tn 0 h₁ := T.keep 0 _ _ st fun b _ o e => old b o (old3 b o e)
  have loop : ∀ s₄ : Shared, (∃ tk, s₄ = { s3 with heap := h₁, toks := tk }) →
      codeAny (model X.prog X.w) X.A (.compLoop (.ListComp elt [⟨tg, iter, ifs, 0⟩] sc pos) 0 (.ref it) (.ref l) (compEnvC sc (lcCells X sc s3.heap.objs.size) s3.heap.objs.size X.env)) (RR (.ref l) s3.heap.objs.size) s₄ := by
    rintro s₄ ⟨tk, rfl⟩
    refine lc_loop (fun n s' => ∃ i ys σ1 H1, Inv (lcCx X N sc s3.heap.objs.size s3 H3 fp pins) [] σ1 H1 s' ∧ tn i s'.heap ∧ (∀ b ∈ fp, H1 b = none) ∧ W i n ys σ1 H1) ?_ m0 ⟨0, [], lcStart mp σ, H3, I4 tk, st4, I3f, w0⟩
    rintro n s5 ⟨i, ys, σ5, H5, I5, st5, fr5, w5⟩
    obtain ⟨hl5, q5⟩ := turn i n ys σ5 H5 w5
    rcases q5 with ⟨stop, q⟩ | ⟨go, step⟩
    · refine thn (T.done (lcCx X N sc s3.heap.objs.size s3 H3 fp pins) rfl rfl rfl hc i [] s5 σ5 H5 (fun _ _ => False) I5 (fY fr5) st5 stop) fun r s6 ⟨hr, I6⟩ => ?_
      subst hr
      have I7 : Inv X pins σ H5 s6 := I3.call' I6.os I6.base I6.hok I6.bare fun b hb => ⟨(f b hb).2.2.2.1, (f b hb).2.1, (f b hb).2.2.2.2.1, (f b hb).2.2.2.2.2⟩
      obtain ⟨m, hn, _⟩ := I6.loc
      obtain ⟨o, es, ep, ho, hd, hrest⟩ := id hn
      have fC : FpOk X pins H5 s3.heap.objs.size := I3.fpOk (Nat.le_refl _) I6.free
      refine hRR l _ o m H5 s6 ho hn (I7.pins_of fun p hp => ?_) fC q
      rcases List.mem_append.mp hp with z | z
      · exact I7.pin p (List.mem_append_right _ z)
      · have e : p = (s3.heap.objs.size, o) := by simpa using z
        subst e
        exact ⟨ho, fC.1, fC.2.1, fC.2.2.1, fun v e => by rw [hd] at e; cases e⟩
    · refine thn (T.item (lcCx X N sc s3.heap.objs.size s3 H3 fp pins) rfl rfl rfl hc i [] s5 σ5 H5 (fun _ _ => False) I5 (fY fr5) st5 go) fun r s6 ⟨u, hr, h6⟩ => ?_
      subst hr
      refine thn h6 fun _ s7 ⟨x, H7, I7, r7, y7, st7, fr7⟩ => ?_
      have I7' := I7.pinned (fY fr7) (T.obj _ _ st7)
      refine thn (hg _ _ _ _ _ _ s7 σ5 H7 x u _ I7' r7 (step x H7 y7)) fun _ s8 ⟨σ8, H8, I8, q8⟩ => ?_
      refine thn (hi _ _ _ _ _ _ s8 σ8 H8 _ I8 q8) fun b s9 ⟨H9, I9, q9⟩ => ?_
      have back : ∀ {σa : St} {Ha : Hp} {sa : Shared}, Inv (lcCx X N sc s3.heap.objs.size s3 H3 fp pins) ([] ++ pinsAt fp s7.heap) σa Ha sa → Inv (lcCx X N sc s3.heap.objs.size s3 H3 fp pins) [] σa Ha sa ∧ tn (i + 1) sa.heap ∧ ∀ b ∈ fp, Ha b = none := fun {σa Ha sa} Ia => by
        refine ⟨Ia.unpinned, T.keep _ _ _ st7 fun b hb o e => (Ia.pin (b, o) (List.mem_append_right _ (List.mem_append_right _ (mem_pinsAt hb e)))).1, fun b hb => ?_⟩
        obtain ⟨o, e, d⟩ := T.obj _ _ st7 b hb
        exact (Ia.pin (b, o) (List.mem_append_right _ (List.mem_append_right _ (mem_pinsAt hb e)))).2.1
      cases b with
      | false =>
        rw [if_neg Bool.false_ne_true] at q9 ⊢
        obtain ⟨m', hm, w9⟩ := q9
        obtain ⟨b1, b2, b3⟩ := back I9
        exact ⟨m', hm, i + 1, ys, σ8, H9, b1, b2, b3, w9⟩
      | true =>
        rw [if_pos rfl] at q9 ⊢
        refine thn (he _ _ _ _ _ _ s9 σ8 H9 _ I9 q9) fun v sa ⟨y, Ha, Ia, ra, hla, hz, m', hm, wa⟩ => ?_
        refine thn (mt_append _ sa σ8 Ha (.ref l) [y] (.ref l) [v] (fun _ H' => ∃ m', m' < n ∧ W (i + 1) m' (ys ++ [y]) σ8 H') Ia rfl (.cons ra .nil) ⟨l, ys, y, rfl, rfl, hla, hz, m', hm, wa⟩) fun _ sb ⟨_, Hb, Ib, _, m'', hm'', wb⟩ => ?_
        obtain ⟨b1, b2, b3⟩ := back Ib
        exact ⟨m'', hm'', i + 1, ys ++ [y], σ8, Hb, b1, b2, b3, wb⟩
  have l0 := loop { s3 with heap := h₁, toks := s.toks } ⟨_, rfl⟩
  have es : ({ s with heap := h₁, toks := s.toks } : Shared) = { s3 with heap := h₁, toks := s.toks } := by rw [← hs3]
  rw [← es] at l0
  exact codeAny_compStart_list l0 (T.self _ 0 _ _ _ st4 l0)
noncomputable def tLC (mp : List (Option Nat)) (wi : TI) (g : TG) (tc : TT) (te : TE) : TE := fun σ H Q => wi σ H fun J H1 => tLCb mp J g tc te Q σ H1
theorem pe_lc {wi : TI} (hc : X.calm = true) (S : LcScope X N sc mp) (hw : PI X tg iter wi)
    (hg : ∀ C s3 H3 fp pins, PG (lcCx X N sc C s3 H3 fp pins) tg g) (hi : ∀ C s3 H3 fp pins, PIfs (lcCx X N sc C s3 H3 fp pins) ifs tc) (he : ∀ C s3 H3 fp pins, PE (lcCx X N sc C s3 H3 fp pins) elt te)
    (hs : ∀ x, foldedSetIterable iter X.env x = pure x := by intro _; rfl) : PE X (.ListComp elt [⟨tg, iter, ifs, 0⟩] sc pos) (tLC mp wi g tc te) := by
  intro pins s σ H Q I h
  rw [eval_ListComp]
  refine wpAny_comprehension_free (use := none) rfl hs (closure_eq fun y hy e => I.ok.has _ (S.freeIn y hy e)) S.kind S.loc (thn (hw pins s σ H _ I h) fun v s1 h1 => thn h1 fun itv s2 h2 => ?_)
  obtain ⟨it, fp, tn, J, H2, e, I2, T, st2, f2, q2⟩ := h2
  subst e
  refine lc_block (RR := fun acc C => compPost (model X.prog X.w) X.A X.xe none (EP X pins σ Q) acc C) hc S hg hi he I2 T st2 f2 q2 ?_
  intro l C o m H' s' ho hn I' fC q
  refine ⟨m, hn, fun h'' hs'' => ⟨.ref l, H', ?_, rfl, q⟩⟩
  exact I'.unpinned.turned (t' := s'.toks) (fun b o hb e => hs''.extBut b o hb e) fC.1 fC.2.1 fC.2.2.2.1 fC.2.2.2.2.1 fC.2.2.2.2.2
end
theorem pg_pair {X : Cx} {i j : Nat} {x y : Str} {px py pos : Pos} {k : Nat} (hc : X.calm = true) (hN : X.N.Nodup) (hi : X.N[i]? = some x) (hj : X.N[j]? = some y) (hx : Loc X.env.scope x) (hy : Loc X.env.scope y)
    (fx : X.fn x = true ∨ X.env.scope.names.lookup x = some .local := by first | exact .inl rfl | exact .inr rfl) (fy : X.fn y = true ∨ X.env.scope.names.lookup y = some .local := by first | exact .inl rfl | exact .inr rfl) :
    PG X (.Tuple [.Name x px, .Name y py] k pos) (gTup X.K 2 (gCons (gName i) (gCons (gName j) gNil))) :=
  pg_tup hc (pgs_cons (pg_name hN hi hx fx) (pgs_cons (pg_name hN hj hy fy) pgs_nil))
end L2
set_option maxHeartbeats 4000000
namespace L2
open PySem PySem.Spec PyProof.Rows
section
variable {X : Cx}
noncomputable def rSum (K : PySem.W.Frag) : List V → Hp → VK → Prop := fun vs H Q => ∃ (p : Addr) (ns : List Int), vs = [.ref p] ∧ SqL K H p (ns.map V.int) ∧ ns.length ≤ 1000 ∧ (∀ n ∈ ns, 0 ≤ n ∧ n ≤ 1000) ∧ Q (.int ns.sum) H
theorem preSum_take (ns : List Int) : ∀ j, j ≤ ns.length → preSum (fun i => ns.getD i 0) j = (ns.take j).sum
  | 0, _ => by simp [preSum]
  | j + 1, h => by
    rw [preSum, preSum_take ns j (by omega), List.take_add_one, List.sum_append]
    have e : ns[j]? = some (ns.getD j 0) := by rw [List.getD_eq_getElem?_getD, List.getElem?_eq_getElem (by omega)]; rfl
    rw [e]
    simp
theorem small_sum {ns : List Int} (h : ∀ n ∈ ns, 0 ≤ n ∧ n ≤ 1000) : 0 ≤ ns.sum ∧ ns.sum ≤ 1000 * (ns.length : Int) := by
  induction ns with
  | nil => simp
  | cons a r ih =>
    have h1 := h a List.mem_cons_self
    have h2 := ih fun n hn => h n (List.mem_cons_of_mem _ hn)
    rw [List.sum_cons, List.length_cons]
    omega
theorem call_sum (hc : X.calm = true) : CallR X (.builtin "sum") (rSum X.K) := by
  intro pins s σ H vs us Q I rv h
  obtain ⟨p, ns, rfl, hq, hl, hb, q⟩ := h
  obtain ⟨u, rfl, ru⟩ := rv.one
  cases ru
  obtain ⟨its, r, pl, hz⟩ := I.list hq
  have hi : IntsAre its ns := intsAre_of r
  have hlen : its.length = ns.length := by rw [← r.length, List.length_map]
  have hp : p < s.heap.objs.size := by obtain ⟨o, e, _⟩ := pl.isList; exact Heap.lt_size e
  refine call_sum_walk (wpAny_pyIter_list pl.isList ?_)
  refine ⟨s.heap.objs.size, _, _, its.toArray.size, _, _, fun i => ns.getD i 0, rfl, Walks.list (A := X.A.in1) (show X.A.in1.handled = none from I.ok.hd hc) s.heap.objs.size p (Nat.ne_of_lt hp) its.toArray, ⟨⟨_, Heap.get?_push_size _ rfl, rfl, rfl⟩, pl.isList.push _⟩, fun b hb => ?_, fun i v e => ?_, fun j hj => ?_, fun h' tk t' hk => ?_⟩
  · rw [Heap.size_push]
    have e : b = s.heap.objs.size ∨ b = p := by simpa using hb
    rcases e with e | e
    · rw [e]; exact Nat.lt_succ_self _
    · rw [e]; exact Nat.lt_succ_of_lt hp
  · have e' : its[i]? = some v := by simpa using e
    obtain ⟨x, hx, rx⟩ : ∃ x, (ns.map V.int)[i]? = some x ∧ RelV x v := by
      cases q : (ns.map V.int)[i]? with
      | none => rw [r.none_of q] at e'; cases e'
      | some x =>
        obtain ⟨u, hu, ru⟩ := r.get q
        rw [e'] at hu; cases hu
        exact ⟨x, rfl, ru⟩
    rw [List.getElem?_map] at hx
    cases q : ns[i]? with
    | none => rw [q] at hx; cases hx
    | some k =>
      rw [q] at hx; cases hx
      obtain ⟨t, rfl⟩ := rx
      exact ⟨t, by show _ = Value.int (ns.getD i 0) t; rw [List.getD_eq_getElem?_getD, q]; rfl⟩
  · have hj' : j < ns.length := by rw [← hlen]; simpa using hj
    have hm : ns.getD j 0 ∈ ns := by
      rw [List.getD_eq_getElem?_getD, List.getElem?_eq_getElem hj']
      exact List.getElem_mem _
    have h1 := hb _ hm
    show InLong (ns.getD j 0) ∧ _
    refine ⟨⟨by omega, by omega⟩, ?_⟩
    rw [preSum_take ns (j + 1) (by omega)]
    have h2 := small_sum (ns := ns.take (j + 1)) fun n hn => hb n (List.mem_of_mem_take hn)
    have h3 : (ns.take (j + 1)).length ≤ 1000 := by rw [List.length_take]; omega
    exact ⟨by omega, by omega⟩
  · have e : preSum (fun i => ns.getD i 0) its.toArray.size = ns.sum := by
      rw [List.size_toArray, hlen, preSum_take ns ns.length (Nat.le_refl _), List.take_length]
    rw [e]
    refine ⟨.int ns.sum, H, I.kept fun b o e => hk b o (by simp; exact Nat.ne_of_lt (Heap.lt_size e)) (Heap.get?_push_of_some _ e), ⟨t', rfl⟩, q⟩
theorem vals_at {xs : List V} {its : List Value} (r : Vals xs its) {i : Nat} {v : Value} (e : its[i]? = some v) : ∃ x, xs[i]? = some x ∧ RelV x v := by
  cases q : xs[i]? with
  | none => rw [r.none_of q] at e; cases e
  | some x =>
    obtain ⟨u, hu, ru⟩ := r.get q
    rw [e] at hu; cases hu
    exact ⟨x, rfl, ru⟩
noncomputable def rCount (K : PySem.W.Frag) : V → List V → Hp → VK → Prop := fun x vs H Q => ∃ (p : Addr) (bs : List Bool) (b : Bool), x = .ref p ∧ vs = [.bl b] ∧ SqL K H p (bs.map V.bl) ∧ Q (.int (bs.count b : Nat)) H
theorem countP_bools {b : Bool} : ∀ {bs : List Bool} {its : List Value}, Vals (bs.map V.bl) its → its.countP (fun u => u == Value.bool b) = bs.count b
  | [], _, .nil => rfl
  | c :: bs, _, .cons r t => by
    cases r
    rw [List.countP_cons, countP_bools (bs := bs) t, List.count_cons]
    have e : (Value.bool c == Value.bool b) = (c == b) := by
      cases c <;> cases b <;> decide
    rw [e]
theorem mt_count : MtM X "list.count" (rCount X.K) := by
  intro pins s σ H x vs v us Q I rx rv h
  obtain ⟨p, bs, b, rfl, rfl, hq, q⟩ := h
  cases rx
  obtain ⟨u, rfl, ru⟩ := rv.one
  cases ru
  obtain ⟨its, r, pl, hz⟩ := I.list hq
  obtain ⟨⟨cls, dd, data, sl⟩, ho, hcl, n, hd⟩ := pl.isList
  simp only at hcl hd
  subst hcl hd
  refine call_meets F.slot_list_count ⟨_, ho, rfl⟩ F.entry_list_count (F.args_list_count_2 _ _) (SeqAt.list_countAt p its.toArray n dd sl (.bool b) (fun u => u == Value.bool b)) ⟨ho, fun y hy => ?_, ?_⟩
  · have hy' : y ∈ its := by simpa using hy
    obtain ⟨i, hi, rfl⟩ := List.mem_iff_getElem.mp hy'
    obtain ⟨x, hx, rx⟩ := vals_at r (List.getElem?_eq_getElem hi)
    rw [List.getElem?_map] at hx
    cases q : bs[i]? with
    | none => rw [q] at hx; cases hx
    | some c =>
      rw [q] at hx; cases hx
      rw [show its[i] = Value.bool c from rx]
      have e : (Value.bool c == Value.bool b) = (c == b) := by cases c <;> cases b <;> decide
      show SeqAt.EqAt _ _ _ _ (Value.bool c == Value.bool b)
      rw [e]
      exact SeqAt.EqAt.bool_bool c b
  · refine ⟨.int (bs.count b : Nat), H, I.tok _, ⟨s.toks, ?_⟩, q⟩
    rw [show its.toArray.toList = its by simp, countP_bools (b := b) r]
end
end L2
set_option maxHeartbeats 4000000
namespace L2
open PySem PySem.Spec PyProof.Rows
structure Nx (prog : Program) (w : World) (i l : Addr) (items : Array Value) (St : Nat → Heap → Prop) : Prop where
  obj : ∀ k h, St k h → ∃ o, h.get? i = some o ∧ ∀ v, o.data ≠ .cell v
  keep : ∀ k h h', St k h → (∀ o, h.get? i = some o → h'.get? i = some o) → (∀ o, h.get? l = some o → h'.get? l = some o) → St k h'
  item : ∀ (A : Around) (k : Nat) (s : Shared) (x : Value) (Q : Value → Shared → Prop) (E : Value → Shared → Prop), St k s.heap → items[k]? = some x →
    (∀ h', St (k + 1) h' → Heap.SameBut i s.heap h' → Q x { s with heap := h' }) → wpAny (model prog w) A (Builtin.SmallTypes.nextOf (.ref i)) Q E s
  stop : ∀ (A : Around) (k : Nat) (s : Shared) (Q : Value → Shared → Prop) (E : Value → Shared → Prop), A.handled = none → St k s.heap → items[k]? = none →
    (∀ h' e, Heap.ExtBut i s.heap h' → (∃ o, h'.get? e = some o ∧ o.cls = .type "StopIteration") → E (.ref e) { s with heap := h' }) → wpAny (model prog w) A (Builtin.SmallTypes.nextOf (.ref i)) Q E s
theorem nx_list {prog : Program} {w : World} (i l : Addr) (hne : l ≠ i) (items : Array Value) : Nx prog w i l items (fun k h => h.IsListIter i l k ∧ h.IsList l items) where
  obj := fun k h st => let ⟨o, e, _, d⟩ := st.1; ⟨o, e, fun v z => by rw [d] at z; cases z⟩
  keep := fun k h h' st k1 k2 => ⟨st.1.at k1, st.2.at k2⟩
  item := fun A k s x Q E st hx hQ => wpAny_nextOf_list_item st.1 st.2 hx fun h' hit hs => hQ h' ⟨hit, st.2.extBut hs.extBut hne⟩ hs
  stop := fun A k s Q E hh st hx hE => wpAny_nextOf_list_end hh st.1 st.2 hx hE
section
variable {prog : Program} {w : World} {A : Around} {E : Value → Shared → Prop} {s : Shared}
theorem next_tup_item {it l : Addr} {i : Nat} {items : Array Value} {x : Value} {Q : Value → Shared → Prop} (hit : s.heap.IsTupleIter it l i) (hl : s.heap.IsTuple l items) (hx : items[i]? = some x)
    (hQ : ∀ h', h'.IsTupleIter it l (i + 1) → Heap.SameBut it s.heap h' → Q x { s with heap := h' }) : wpAny (model prog w) A (Builtin.SmallTypes.nextOf (.ref it)) Q E s := by
  obtain ⟨oi, hoi, hci, hdi⟩ := id hit
  obtain ⟨ot, hot, _, nt, hdt⟩ := hl
  unfold Builtin.SmallTypes.nextOf
  have hty := hit.typeIs
  refine wpAny_bind (wpAny_callSpecial?_slot (name := Str.ofString "__next__") hty F.slot_tuple_iterator_next (wpAny_call_entry F.slot_tuple_iterator_next hty F.entry_tuple_iterator_next ?_ (F.args_tuple_iterator_next_1 _)))
  have fin : ∀ {R : Fin → Shared → Prop}, (∀ h', h'.IsTupleIter it l (i + 1) → Heap.SameBut it s.heap h' → R (.done (.ret x)) { s with heap := h' }) → wpAny (model prog w) A.in1 (Builtin.«tuple_iterator.__next__» ⟨[.ref it], []⟩) R E s := fun {R} hR => by
    show wpAny _ _ (field (.ref it) 0 >>= fun _ => _) _ _ s
    refine wpAny_bind (wpAny_field hoi hdi (x := .ref l) rfl ?_)
    show wpAny _ _ (if (Value.ref l == Value.none) = true then _ else (field (.ref it) 1 >>= fun _ => _)) _ _ s
    rw [if_neg (by intro z; cases z)]
    refine wpAny_bind (wpAny_field hoi hdi (x := .int i 0) rfl ?_)
    show wpAny _ _ (seqItems? (.ref l) >>= fun _ => _) _ _ s
    refine wpAny_bind (wpAny_seqItems hot hdt ?_)
    simp only [Int.toNat_natCast, hx]
    refine wpAny_bind (wpAny_setField hoi hdi (by simp) (wpAny_pure (hR _ ?_ (Heap.SameBut.update ..))))
    refine ⟨_, Heap.get?_update_self _ hoi (Obj.isFreed_of_fields (Obj.data_mapFields hdi _)), (Obj.cls_mapFields ..).trans hci, ?_⟩
    rw [Obj.data_mapFields hdi]
    simp [rawInt]
  exact fin fun h' a b => ⟨x, rfl, wpAny_pure (hQ h' a b)⟩
theorem next_tup_end {it l : Addr} {i : Nat} {items : Array Value} {Q : Value → Shared → Prop} (hh : A.handled = none) (hit : s.heap.IsTupleIter it l i) (hl : s.heap.IsTuple l items) (hx : items[i]? = none)
    (hE : ∀ h' e, Heap.ExtBut it s.heap h' → (∃ o, h'.get? e = some o ∧ o.cls = .type "StopIteration") → E (.ref e) { s with heap := h' }) : wpAny (model prog w) A (Builtin.SmallTypes.nextOf (.ref it)) Q E s := by
  obtain ⟨oi, hoi, hci, hdi⟩ := id hit
  obtain ⟨ot, hot, _, nt, hdt⟩ := hl
  unfold Builtin.SmallTypes.nextOf
  have hty := hit.typeIs
  refine wpAny_bind (wpAny_callSpecial?_slot (name := Str.ofString "__next__") hty F.slot_tuple_iterator_next (wpAny_call_entry F.slot_tuple_iterator_next hty F.entry_tuple_iterator_next ?_ (F.args_tuple_iterator_next_1 _)))
  show wpAny _ _ (field (.ref it) 0 >>= fun _ => _) _ _ s
  refine wpAny_bind (wpAny_field hoi hdi (x := .ref l) rfl ?_)
  show wpAny _ _ (if (Value.ref l == Value.none) = true then _ else (field (.ref it) 1 >>= fun _ => _)) _ _ s
  rw [if_neg (by intro z; cases z)]
  refine wpAny_bind (wpAny_field hoi hdi (x := .int i 0) rfl ?_)
  show wpAny _ _ (seqItems? (.ref l) >>= fun _ => _) _ _ s
  refine wpAny_bind (wpAny_seqItems hot hdt ?_)
  simp only [Int.toNat_natCast, hx]
  refine wpAny_bind (wpAny_rule (wpAny_bind (wpAny_setField hoi hdi (by simp) ?_)))
  show wpAny _ _ (newExc (.type "StopIteration") [] >>= fun _ => _) _ _ _
  refine wpAny_bind ?_
  unfold newExc newTuple
  refine wpAny_bind (wpAny_newObj_type ?_ (by size_fits)); refine wpAny_bind (m := firstArgMember _ _) (wpAny_of_eq (a := Value.none) (by first | rfl | (simp only [firstArgMember]; rfl)) ?_)
  refine wpAny_newObj_type ?_ (by size_fits); unfold raiseNew
  refine wpAny_bind (wpAny_handled ?_); first | rw [show A.in1.handled = none from hh] | rw [hh]
  refine wpAny_bind (wpAny_pure (wpAny_throw (hE _ _ (((Heap.SameBut.update ..).extBut.push _).push _) ⟨_, Heap.get?_push_size _ rfl, rfl⟩)))
end
theorem nx_tup {prog : Program} {w : World} (i l : Addr) (hne : l ≠ i) (items : Array Value) : Nx prog w i l items (fun k h => h.IsTupleIter i l k ∧ h.IsTuple l items) where
  obj := fun k h st => let ⟨o, e, _, d⟩ := st.1; ⟨o, e, fun v z => by rw [d] at z; cases z⟩
  keep := fun k h h' st k1 k2 => ⟨st.1.at k1, st.2.at k2⟩
  item := fun A k s x Q E st hx hQ => next_tup_item st.1 st.2 hx fun h' hit hs => hQ h' ⟨hit, st.2.extBut hs.extBut hne⟩ hs
  stop := fun A k s Q E hh st hx hE => next_tup_end hh st.1 st.2 hx hE
structure ZAp (z TI TO i1 i2 l1 l2 : Addr) : Prop where
  TIz : TI ≠ z
  TOz : TO ≠ z
  i1z : i1 ≠ z
  i2z : i2 ≠ z
  TITO : TI ≠ TO
  TIi1 : TI ≠ i1
  TIi2 : TI ≠ i2
  TOi1 : TO ≠ i1
  TOi2 : TO ≠ i2
  i12 : i1 ≠ i2
  l1z : l1 ≠ z
  l1TO : l1 ≠ TO
  l1i1 : l1 ≠ i1
  l1i2 : l1 ≠ i2
  l2z : l2 ≠ z
  l2TO : l2 ≠ TO
  l2i1 : l2 ≠ i1
  l2i2 : l2 ≠ i2
section
variable {prog : Program} {w : World} {A : Around} {E : Value → Shared → Prop} {s : Shared} {z TI TO i1 i2 l1 l2 : Addr} {k : Nat} {xs ys : Array Value} {S1 S2 : Nat → Heap → Prop}
theorem zip2_item {x y a b : Value} {Q : Value → Shared → Prop} (D : ZAp z TI TO i1 i2 l1 l2) (N1 : Nx prog w i1 l1 xs S1) (N2 : Nx prog w i2 l2 ys S2)
    (hz : IsZip s.heap z TI TO .none) (hTI : IsPair s.heap TI (.ref i1) (.ref i2)) (hTO : IsPair s.heap TO a b) (h1 : S1 k s.heap) (h2 : S2 k s.heap) (hx : xs[k]? = some x) (hy : ys[k]? = some y)
    (hQ : ∀ h', IsZip h' z TI TO (rawInt s.heap.objs.size) → IsPair h' TO x y → S1 (k + 1) h' → S2 (k + 1) h' → IsPair h' s.heap.objs.size x y → h'.objs.size = s.heap.objs.size + 1 →
      (∀ c o, c ≠ z → c ≠ TO → c ≠ i1 → c ≠ i2 → s.heap.get? c = some o → h'.get? c = some o) → Q (.ref s.heap.objs.size) { s with heap := h' }) :
    wpAny (model prog w) A (Builtin.«zip.__next__» ⟨[.ref z], []⟩) (fun fin s' => ∃ v, fin = .done (.ret v) ∧ Q v s') E s := by
  show wpAny _ _ (field (.ref z) 2 >>= fun _ => _) _ _ _
  refine wpAny_bind (wpAny_field hz rfl (x := .bool false) rfl ?_)
  show wpAny _ _ (field (.ref z) 3 >>= fun _ => _) _ _ _
  refine wpAny_bind (wpAny_field hz rfl (x := .ref TI) rfl ?_)
  refine wpAny_bind (wpAny_seqItems hTI rfl ?_)
  show wpAny _ _ (Builtin.SmallTypes.ownedTupleIsFree (.ref z) >>= fun _ => _) _ _ _
  refine wpAny_bind ?_
  unfold Builtin.SmallTypes.ownedTupleIsFree
  refine wpAny_bind (wpAny_field hz rfl (x := .none) rfl (wpAny_pure ?_))
  simp only [if_true]
  refine wpAny_bind (wpAny_rule (wpAny_bind (wpAny_field hz rfl (x := .ref TO) rfl ?_)))
  refine wpAny_bind (wpAny_setField_rec hz (by simp) fun ha hza hsa => ?_)
  have hz1 : IsZip ha z TI TO .ellipsis := hza
  refine wpAny_bind ?_
  simp only [List.zipIdx_cons, List.zipIdx_nil, List.forIn_cons, List.forIn_nil]
  refine wpAny_bind (wpAny_bind (wpAny_onRaise ?_))
  show wpAny _ _ (Builtin.SmallTypes.nextOf (.ref i1) >>= fun _ => _) _ _ _
  refine wpAny_bind (N1.item _ k _ x _ _ (N1.keep _ _ _ h1 (fun o e => hsa.extBut _ _ D.i1z e) fun o e => hsa.extBut _ _ D.l1z e) hx fun hb h1b hsb => wpAny_pure ?_)
  have hTOb : IsPair hb TO a b := hsb.extBut _ _ D.TOi1 (hsa.extBut _ _ D.TOz hTO)
  refine wpAny_bind (wpAny_seqItems hTOb rfl (wpAny_bind (wpAny_updateSeq_pair hTOb fun hc hTOc hsc => ?_)))
  have hTOc' : IsPair hc TO x b := hTOc
  refine wpAny_bind (wpAny_letGo (wpAny_pure (wpAny_bind (wpAny_bind (wpAny_onRaise ?_)))))
  show wpAny _ _ (Builtin.SmallTypes.nextOf (.ref i2) >>= fun _ => _) _ _ _
  refine wpAny_bind (N2.item _ k _ y _ _ (N2.keep _ _ _ h2 (fun o e => hsc.extBut _ _ D.TOi2.symm (hsb.extBut _ _ D.i12.symm (hsa.extBut _ _ D.i2z e))) fun o e => hsc.extBut _ _ D.l2TO (hsb.extBut _ _ D.l2i1 (hsa.extBut _ _ D.l2z e))) hy fun hd h2d hsd => wpAny_pure ?_)
  have hTOd : IsPair hd TO x b := hsd.extBut _ _ D.TOi2 hTOc'
  refine wpAny_bind (wpAny_seqItems hTOd rfl (wpAny_bind (wpAny_updateSeq_pair hTOd fun he hTOe hse => ?_)))
  have hTOe' : IsPair he TO x y := hTOe
  refine wpAny_bind (wpAny_letGo (wpAny_pure (wpAny_pure ?_)))
  refine wpAny_bind (wpAny_seqItems hTOe' rfl (wpAny_bind (wpAny_newTuple ?_)))
  have hsz : he.objs.size = s.heap.objs.size := by rw [hse.1, hsd.1, hsc.1, hsb.1, hsa.1]
  have hze : IsZip he z TI TO .ellipsis := hse.extBut _ _ D.TOz.symm (hsd.extBut _ _ D.i2z.symm (hsc.extBut _ _ D.TOz.symm (hsb.extBut _ _ D.i1z.symm hz1)))
  have hke : ∀ c o, c ≠ z → c ≠ TO → c ≠ i1 → c ≠ i2 → s.heap.get? c = some o → he.get? c = some o := fun c o c1 c2 c3 c4 e =>
    hse.extBut _ _ c2 (hsd.extBut _ _ c4 (hsc.extBut _ _ c2 (hsb.extBut _ _ c3 (hsa.extBut _ _ c1 e))))
  have up1 : ∀ c o, c ≠ TO → c ≠ i2 → hb.get? c = some o → he.get? c = some o := fun c o c1 c2 e => hse.extBut _ _ c1 (hsd.extBut _ _ c2 (hsc.extBut _ _ c1 e))
  have h1e : S1 (k + 1) he := N1.keep _ _ _ h1b (fun o e => up1 _ o D.TOi1.symm D.i12 e) fun o e => up1 _ o D.l1TO D.l1i2 e
  have h2e : S2 (k + 1) he := N2.keep _ _ _ h2d (fun o e => hse.extBut _ _ D.TOi2.symm e) fun o e => hse.extBut _ _ D.l2TO e
  have hzlt : z < he.objs.size := Heap.lt_size hze
  show wpAny _ _ (Builtin.SmallTypes.ownedTupleHandOut (.ref z) (.ref he.objs.size) >>= fun _ => _) _ _ _
  refine wpAny_bind ?_
  unfold Builtin.SmallTypes.ownedTupleHandOut
  have hzf : IsZip (he.push { cls := .type "tuple", data := .seq #[x, y] }) z TI TO .ellipsis := Heap.get?_push_of_some _ hze
  refine wpAny_bind (wpAny_setField_rec hzf (by simp) fun hg hzg hsg => ?_)
  have hzg' : IsZip hg z TI TO (rawInt he.objs.size) := hzg
  refine wpAny_setField_rec hzg' (by simp) fun hh hzh hsh => ?_
  have hzh' : IsZip hh z TI TO (rawInt he.objs.size) := hzh
  have up : ∀ c o, c ≠ z → he.get? c = some o → hh.get? c = some o := fun c o c1 e => hsh.extBut _ _ c1 (hsg.extBut _ _ c1 (Heap.get?_push_of_some _ e))
  have hT : IsPair hh he.objs.size x y := hsh.extBut _ _ (Nat.ne_of_gt hzlt) (hsg.extBut _ _ (Nat.ne_of_gt hzlt) (Heap.get?_push_size _ rfl))
  have hz8 : hh.objs.size = he.objs.size + 1 := by rw [hsh.1, hsg.1, Heap.size_push]
  rw [hsz] at hzh' hT hz8
  refine wpAny_pure ⟨_, rfl, ?_⟩
  show Q (.ref he.objs.size) _
  rw [hsz]
  exact hQ hh hzh' (up _ _ D.TOz hTOe') (N1.keep _ _ _ h1e (fun o e => up _ o D.i1z e) fun o e => up _ o D.l1z e) (N2.keep _ _ _ h2e (fun o e => up _ o D.i2z e) fun o e => up _ o D.l2z e) hT hz8 fun c o c1 c2 c3 c4 e => up c o c1 (hke c o c1 c2 c3 c4 e)
theorem zip2_end {a b : Value} {Q : Fin → Shared → Prop} (hh : A.handled = none) (D : ZAp z TI TO i1 i2 l1 l2) (N1 : Nx prog w i1 l1 xs S1) (N2 : Nx prog w i2 l2 ys S2)
    (hz : IsZip s.heap z TI TO .none) (hTI : IsPair s.heap TI (.ref i1) (.ref i2)) (hTO : IsPair s.heap TO a b) (h1 : S1 k s.heap) (h2 : S2 k s.heap) (hend : xs[k]? = none ∨ ys[k]? = none)
    (hE : ∀ h' e, (∀ c o, c ≠ z → c ≠ TO → c ≠ i1 → c ≠ i2 → s.heap.get? c = some o → h'.get? c = some o) → (∃ o, h'.get? e = some o ∧ o.cls = .type "StopIteration") → E (.ref e) { s with heap := h' }) :
    wpAny (model prog w) A (Builtin.«zip.__next__» ⟨[.ref z], []⟩) Q E s := by
  show wpAny _ _ (field (.ref z) 2 >>= fun _ => _) _ _ _
  refine wpAny_bind (wpAny_field hz rfl (x := .bool false) rfl ?_)
  show wpAny _ _ (field (.ref z) 3 >>= fun _ => _) _ _ _
  refine wpAny_bind (wpAny_field hz rfl (x := .ref TI) rfl ?_)
  refine wpAny_bind (wpAny_seqItems hTI rfl ?_)
  show wpAny _ _ (Builtin.SmallTypes.ownedTupleIsFree (.ref z) >>= fun _ => _) _ _ _
  refine wpAny_bind ?_
  unfold Builtin.SmallTypes.ownedTupleIsFree
  refine wpAny_bind (wpAny_field hz rfl (x := .none) rfl (wpAny_pure ?_))
  simp only [if_true]
  refine wpAny_bind (wpAny_rule (wpAny_bind (wpAny_field hz rfl (x := .ref TO) rfl ?_)))
  refine wpAny_bind (wpAny_setField_rec hz (by simp) fun ha hza hsa => ?_)
  have hz1 : IsZip ha z TI TO .ellipsis := hza
  refine wpAny_bind ?_
  simp only [List.zipIdx_cons, List.zipIdx_nil, List.forIn_cons, List.forIn_nil]
  refine wpAny_bind (wpAny_bind (wpAny_onRaise ?_))
  show wpAny _ _ (Builtin.SmallTypes.nextOf (.ref i1) >>= fun _ => _) _ _ _
  have h1a : S1 k ha := N1.keep _ _ _ h1 (fun o e => hsa.extBut _ _ D.i1z e) fun o e => hsa.extBut _ _ D.l1z e
  cases hx : xs[k]? with
  | none =>
    refine wpAny_bind (N1.stop _ k _ _ _ hh h1a hx fun hb e hsb he => ?_)
    obtain ⟨oe, hoe, hce⟩ := he
    have hzb : IsZip hb z TI TO .ellipsis := hsb _ _ D.i1z.symm hz1
    have hez : e ≠ z := fun q => by subst q; rw [hzb] at hoe; cases hoe; simp at hce
    exact wpAny_setField_rec hzb (by simp) fun hc _ hsc => hE hc e (fun c o c1 _ c3 _ q => hsc.extBut _ _ c1 (hsb _ _ c3 (hsa.extBut _ _ c1 q))) ⟨oe, hsc.extBut _ _ hez hoe, hce⟩
  | some x =>
    have hy : ys[k]? = none := by
      rcases hend with h | h
      · rw [hx] at h; cases h
      · exact h
    refine wpAny_bind (N1.item _ k _ x _ _ h1a hx fun hb h1b hsb => wpAny_pure ?_)
    have hTOb : IsPair hb TO a b := hsb.extBut _ _ D.TOi1 (hsa.extBut _ _ D.TOz hTO)
    refine wpAny_bind (wpAny_seqItems hTOb rfl (wpAny_bind (wpAny_updateSeq_pair hTOb fun hc hTOc hsc => ?_)))
    refine wpAny_bind (wpAny_letGo (wpAny_pure (wpAny_bind (wpAny_bind (wpAny_onRaise ?_)))))
    show wpAny _ _ (Builtin.SmallTypes.nextOf (.ref i2) >>= fun _ => _) _ _ _
    refine wpAny_bind (N2.stop _ k _ _ _ hh (N2.keep _ _ _ h2 (fun o e => hsc.extBut _ _ D.TOi2.symm (hsb.extBut _ _ D.i12.symm (hsa.extBut _ _ D.i2z e))) fun o e => hsc.extBut _ _ D.l2TO (hsb.extBut _ _ D.l2i1 (hsa.extBut _ _ D.l2z e))) hy fun hd e hsd he => ?_)
    obtain ⟨oe, hoe, hce⟩ := he
    have hzd : IsZip hd z TI TO .ellipsis := hsd _ _ D.i2z.symm (hsc.extBut _ _ D.TOz.symm (hsb.extBut _ _ D.i1z.symm hz1))
    have hez : e ≠ z := fun q => by subst q; rw [hzd] at hoe; cases hoe; simp at hce
    exact wpAny_setField_rec hzd (by simp) fun hf _ hsf => hE hf e (fun c o c1 c2 c3 c4 q => hsf.extBut _ _ c1 (hsd _ _ c4 (hsc.extBut _ _ c2 (hsb.extBut _ _ c3 (hsa.extBut _ _ c1 q))))) ⟨oe, hsf.extBut _ _ hez hoe, hce⟩
end
end L2
set_option maxHeartbeats 4000000
namespace L2
open PySem PySem.Spec PyProof.Rows
section
variable {X : Cx} {pins : List (Addr × Obj)} {σ : St} {H : Hp} {s : Shared} {h' : Heap}
theorem Inv.turnedLaid {ch : List Addr} {T : Addr} {o : HO} {t' : Nat} (I : Inv X pins σ H s) (k : ∀ b ob, b ∉ ch → s.heap.get? b = some ob → h'.get? b = some ob) (hf : ∀ b ∈ ch, FpOk X pins H b) (hT : s.heap.objs.size ≤ T)
    (new : ObjOk X.prog X.w (upd H T o) h' T o) : Inv X pins σ (upd H T o) { s with heap := h', toks := t' } := by
  have hn : H T = none := I.hok.fresh hT
  have neT : ∀ b ob, s.heap.get? b = some ob → b ≠ T := fun b ob e => Nat.ne_of_lt (Nat.lt_of_lt_of_le (Heap.lt_size e) hT)
  have nch : ∀ b u, H b = some u → b ∉ ch := fun b u e z => by rw [(hf b z).1] at e; cases e
  refine I.step (g' := s.gens) (d' := s.drawn) (ch := ch) (fun b hb => ⟨(hf b hb).2.2.2.1, (hf b hb).2.1, (hf b hb).2.2.2.2.1, (hf b hb).2.2.2.2.2⟩) (fun b ob _ _ hc e _ => k b ob hc e) (fun b ob _ _ hc e _ => ⟨ob.slots, k b ob hc e⟩)
    (fun b ob _ e n => by rw [upd_ne (neT b ob e)]; exact n) (fun b ob hc e => ⟨ob, k b ob hc e⟩) (fun b xs e => by rw [upd_ne (ne_of_none e hn)]; exact e) (fun b ob u e => by rw [upd_ne (ne_of_none e hn)]; exact e)
    (fun b ps e => ⟨#[], by rw [upd_ne (ne_of_none e hn), e]; simp⟩) (fun m hm => ?_) (fun b u e => ?_) I.bare
  · obtain ⟨ob, es, ep, ho, r⟩ := hm
    exact ⟨ob, es, ep, k _ ob (fun z => (hf _ z).2.1 rfl) ho, r⟩
  · by_cases hb : b = T
    · subst hb; rw [upd_same] at e; cases e; exact new
    · rw [upd_ne hb] at e
      refine (I.hok b u e).stay (fun c v hc q => k c v ?_ q) (fun c q => by rw [upd_ne (ne_of_none q hn)]; exact q) fun c xs q => by rw [upd_ne (ne_of_none q hn)]; exact q
      rcases hc with z | z
      · rw [z]; exact nch b u e
      · exact nch c _ z
theorem Inv.turnedAll {ch : List Addr} {t' : Nat} (I : Inv X pins σ H s) (k : ∀ b ob, b ∉ ch → s.heap.get? b = some ob → h'.get? b = some ob) (hf : ∀ b ∈ ch, FpOk X pins H b) : Inv X pins σ H { s with heap := h', toks := t' } := by
  have nch : ∀ b u, H b = some u → b ∉ ch := fun b u e z => by rw [(hf b z).1] at e; cases e
  refine I.step (g' := s.gens) (d' := s.drawn) (ch := ch) (fun b hb => ⟨(hf b hb).2.2.2.1, (hf b hb).2.1, (hf b hb).2.2.2.2.1, (hf b hb).2.2.2.2.2⟩) (fun b ob _ _ hc e _ => k b ob hc e) (fun b ob _ _ hc e _ => ⟨ob.slots, k b ob hc e⟩)
    (fun b ob _ e n => n) (fun b ob hc e => ⟨ob, k b ob hc e⟩) (fun b xs e => e) (fun b ob u e => e) (fun b ps e => ⟨#[], by rw [e]; simp⟩) (fun m hm => ?_) (fun b u e => ?_) I.bare
  · obtain ⟨ob, es, ep, ho, r⟩ := hm
    exact ⟨ob, es, ep, k _ ob (fun z => (hf _ z).2.1 rfl) ho, r⟩
  · refine (I.hok b u e).stay (fun c v hc q => k c v ?_ q) (fun c q => q) fun c xs q => q
    rcases hc with z | z
    · rw [z]; exact nch b u e
    · exact nch c _ z
end
noncomputable abbrev zA (h : Heap) (o1 : Obj) : Heap := h.push o1
noncomputable abbrev zB (h : Heap) (o1 o2 : Obj) : Heap := (zA h o1).push o2
noncomputable abbrev zC (h : Heap) (o1 o2 : Obj) : Heap := (zB h o1 o2).push { cls := .type "tuple", data := .seq #[.ref h.objs.size, .ref (zA h o1).objs.size] }
noncomputable abbrev zD (h : Heap) (o1 o2 : Obj) : Heap := (zC h o1 o2).push { cls := .type "tuple", data := .seq #[.none, .none] }
noncomputable abbrev zE (h : Heap) (o1 o2 : Obj) : Heap := (zD h o1 o2).push { cls := .type "zip", data := .fields #[.none, .bool false, .bool false, .ref (zB h o1 o2).objs.size, .ref (zC h o1 o2).objs.size] }
noncomputable abbrev itT (l : Addr) : Obj := { cls := .type "tuple_iterator", data := .fields #[.ref l, .int 0 0] }
noncomputable abbrev itL (l : Addr) : Obj := { cls := .type "list_iterator", data := .fields #[.ref l, .int 0 0] }
theorem zip_new_tl (l1 l2 : Addr) (xs ys : Array Value) : Meets (Builtin.«zip.__new__» ⟨[.type "zip", .ref l1, .ref l2], []⟩) (fun _ R s => s.heap.IsTuple l1 xs ∧ s.heap.IsList l2 ys ∧
      R (.ok (.ret (.ref (zD s.heap (itT l1) (itL l2)).objs.size))) { s with heap := zE s.heap (itT l1) (itL l2) }) :=
  .of_wp fun prog w A R s h => by
    obtain ⟨hp, g, d, tk, os⟩ := s; obtain ⟨hl1, hl2, h⟩ := h
    have hsub := sub_zip
    have hL1 : Heap.IsTuple (Shared.heap ⟨hp, g, d, tk, os⟩) l1 xs := hl1
    have hL2 : Heap.IsList (Shared.heap ⟨hp.push (itT l1), g, d, tk, os⟩) l2 ys := Heap.IsList.push hl2 _
    wp_walk using wpAny_pyIter_tuple hL1, wpAny_pyIter_list hL2
    exact ⟨_, rfl, h⟩
section
variable {prog : Program} {w : World} {A : Around} {E : Value → Shared → Prop} {s : Shared}
theorem call_zip_tl {l1 l2 : Addr} {xs ys : Array Value} {Q : Value → Shared → Prop} (hl1 : s.heap.IsTuple l1 xs) (hl2 : s.heap.IsList l2 ys)
    (h : ∀ h', IsZip h' (s.heap.objs.size + 4) (s.heap.objs.size + 2) (s.heap.objs.size + 3) .none → IsPair h' (s.heap.objs.size + 2) (.ref s.heap.objs.size) (.ref (s.heap.objs.size + 1)) → IsPair h' (s.heap.objs.size + 3) .none .none →
      h'.IsTupleIter s.heap.objs.size l1 0 → h'.IsListIter (s.heap.objs.size + 1) l2 0 → (∀ c o, s.heap.get? c = some o → h'.get? c = some o) → Q (.ref (s.heap.objs.size + 4)) { s with heap := h' }) :
    wpAny (model prog w) A (call (.type "zip") [.ref l1, .ref l2]) Q E s := by
  refine callType_new F.called_zip (by decide) (F.typeCall_zip_2 _ _) (F.newCall_zip_2 _ _) (fun obj => F.args_object_init_3 obj _ _) F.entry_zip_new (zip_new_tl l1 l2 xs ys) ⟨hl1, hl2, ?_⟩
  have z1 : (zA s.heap (itT l1)).objs.size = s.heap.objs.size + 1 := Heap.size_push ..
  have z2 : (zB s.heap (itT l1) (itL l2)).objs.size = s.heap.objs.size + 2 := by rw [Heap.size_push, z1]
  have z3 : (zC s.heap (itT l1) (itL l2)).objs.size = s.heap.objs.size + 3 := by rw [Heap.size_push, z2]
  have z4 : (zD s.heap (itT l1) (itL l2)).objs.size = s.heap.objs.size + 4 := by rw [Heap.size_push, z3]
  have g5 : (zE s.heap (itT l1) (itL l2)).get? (zD s.heap (itT l1) (itL l2)).objs.size = some _ := Heap.get?_push_size _ rfl
  have g4 : (zE s.heap (itT l1) (itL l2)).get? (zC s.heap (itT l1) (itL l2)).objs.size = some _ := Heap.get?_push_of_some _ (Heap.get?_push_size _ rfl)
  have g3 : (zE s.heap (itT l1) (itL l2)).get? (zB s.heap (itT l1) (itL l2)).objs.size = some _ := Heap.get?_push_of_some _ (Heap.get?_push_of_some _ (Heap.get?_push_size _ rfl))
  have g2 : (zE s.heap (itT l1) (itL l2)).get? (zA s.heap (itT l1)).objs.size = some _ := Heap.get?_push_of_some _ (Heap.get?_push_of_some _ (Heap.get?_push_of_some _ (Heap.get?_push_size _ rfl)))
  have g1 : (zE s.heap (itT l1) (itL l2)).get? s.heap.objs.size = some _ := Heap.get?_push_of_some _ (Heap.get?_push_of_some _ (Heap.get?_push_of_some _ (Heap.get?_push_of_some _ (Heap.get?_push_size _ rfl))))
  show _ ∧ _
  rw [z2, z3, z4] at g5
  rw [z1, z2] at g3
  rw [z3] at g4
  rw [z1] at g2
  rw [z4]
  refine ⟨⟨_, g5, rfl⟩, h _ g5 g3 g4 ⟨_, g1, rfl, rfl⟩ ⟨_, g2, rfl, rfl⟩ fun c o x => ?_⟩
  exact Heap.get?_push_of_some _ (Heap.get?_push_of_some _ (Heap.get?_push_of_some _ (Heap.get?_push_of_some _ (Heap.get?_push_of_some _ x))))
end
theorem zap_mk (n a b : Nat) (ha : a < n) (hb : b < n) : ZAp (n + 4) (n + 2) (n + 3) n (n + 1) a b := by
  constructor <;> (show @Ne Nat _ _; omega)
noncomputable def Itz (K : PySem.W.Frag) (a b : Addr) (us vs : List V) : It :=
  ⟨fun i H => SqT K H a us ∧ SqL K H b vs ∧ i < us.length ∧ i < vs.length, fun i H x H' => ∃ t u v, H t = none ∧ x = .ref t ∧ H' = upd H t (.tup [u, v]) ∧ us[i]? = some u ∧ vs[i]? = some v,
    fun i H => SqT K H a us ∧ SqL K H b vs ∧ (us.length ≤ i ∨ vs.length ≤ i)⟩
theorem turn_zip {P : Program} {w : World} {K : PySem.W.Frag} {elts : List Expr} {ek : Nat} {pos : Pos} {z TI TO i1 i2 a b : Addr} (D : ZAp z TI TO i1 i2 a b) (us vs : List V) :
    Turn P w K (.Tuple elts ek pos) (Itz K a b us vs) [z, TI, TO, i1, i2] z (fun i h => IsZip h z TI TO .none ∧ IsPair h TI (.ref i1) (.ref i2) ∧ (∃ x y, IsPair h TO x y) ∧ h.IsTupleIter i1 a i ∧ h.IsListIter i2 b i) where
  mem := by simp
  obj := fun i h st c hc => by
    obtain ⟨hz, hTI, ⟨x, y, hTO⟩, ⟨o1, e1, c1, d1⟩, o2, e2, c2, d2⟩ := st
    have hc' : c = z ∨ c = TI ∨ c = TO ∨ c = i1 ∨ c = i2 := by simpa using hc
    rcases hc' with rfl | rfl | rfl | rfl | rfl
    · exact ⟨_, hz, fun v q => by cases q⟩
    · exact ⟨_, hTI, fun v q => by cases q⟩
    · exact ⟨_, hTO, fun v q => by cases q⟩
    · exact ⟨_, e1, fun v q => by rw [d1] at q; cases q⟩
    · exact ⟨_, e2, fun v q => by rw [d2] at q; cases q⟩
  keep := fun i h h' st k => by
    obtain ⟨hz, hTI, ⟨x, y, hTO⟩, h1, h2⟩ := st
    exact ⟨k z (by simp) _ hz, k TI (by simp) _ hTI, ⟨x, y, k TO (by simp) _ hTO⟩, h1.at fun o e => k i1 (by simp) o e, h2.at fun o e => k i2 (by simp) o e⟩
  item := by
    intro X hP hw hK hc i pins s σ H E I hf st hg
    subst hP hw hK
    obtain ⟨hz, hTI, ⟨x0, y0, hTO⟩, h1, h2⟩ := st
    obtain ⟨hqt, hql, hlt1, hlt2⟩ := hg
    obtain ⟨its1, r1, ht1, _⟩ := I.tuple hqt
    obtain ⟨its2, r2, pl2, _⟩ := I.list hql
    obtain ⟨u, hu, ru⟩ := r1.get (List.getElem?_eq_getElem hlt1)
    obtain ⟨v, hv, rv⟩ := r2.get (List.getElem?_eq_getElem hlt2)
    have hty : s.TypeIs (.ref z) "zip" := ⟨_, hz, rfl⟩
    have N1 := nx_tup (prog := X.prog) (w := X.w) i1 a D.l1i1 its1.toArray
    have N2 := nx_list (prog := X.prog) (w := X.w) i2 b D.l2i2 its2.toArray
    have ht1' : s.heap.IsTuple a its1.toArray := ht1
    unfold pyNext
    refine wpAny_bind (wpAny_attempt (wpAny_callSpecial?_slot (name := Str.ofString "__next__") hty F.slot_zip_next (wpAny_call_entry F.slot_zip_next hty F.entry_zip_next
      (zip2_item D N1 N2 hz hTI hTO ⟨h1, ht1'⟩ ⟨h2, pl2.isList⟩ (by simpa using hu) (by simpa using hv) fun h' a1 a2 a3 a4 a5 a6 a7 => wpAny_pure ?_) (F.args_zip_next_1 _))))
    refine ⟨_, rfl, wpAny_letOwnedTupleGo_zip a1 fun h'' hz'' hs'' => ?_⟩
    have hzT : s.heap.objs.size ≠ z := Nat.ne_of_gt (Heap.lt_size hz)
    have hT'' : IsPair h'' s.heap.objs.size u v := hs''.extBut _ _ hzT a5
    have kk : ∀ c ob, c ∉ [z, TI, TO, i1, i2] → s.heap.get? c = some ob → h''.get? c = some ob := fun c ob hc e => by
      have hc' : ¬ (c = z ∨ c = TI ∨ c = TO ∨ c = i1 ∨ c = i2) := by simpa using hc
      exact hs''.extBut _ _ (fun q => hc' (.inl q)) (a7 c ob (fun q => hc' (.inl q)) (fun q => hc' (.inr (.inr (.inl q)))) (fun q => hc' (.inr (.inr (.inr (.inl q))))) (fun q => hc' (.inr (.inr (.inr (.inr q))))) e)
    have I2 : Inv X pins σ (upd H s.heap.objs.size (.tup [us[i], vs[i]])) { s with heap := h'', toks := s.toks } :=
      I.turnedLaid kk hf (Nat.le_refl _) ⟨(show 2 ≤ sizeLine by decide), [u, v], .cons ru (.cons rv .nil), ⟨_, hT'', rfl, _, rfl⟩⟩
    refine ⟨.ref s.heap.objs.size, _, I2, rfl, ⟨_, _, _, I.fresh, rfl, rfl, List.getElem?_eq_getElem hlt1, List.getElem?_eq_getElem hlt2⟩, ⟨hz'', hs''.extBut _ _ D.TIz (a7 _ _ D.TIz D.TITO D.TIi1 D.TIi2 hTI), ⟨_, _, hs''.extBut _ _ D.TOz a2⟩, a3.1.extBut hs''.extBut D.i1z, a4.1.extBut hs''.extBut D.i2z⟩, fun c hc => ?_⟩
    rw [upd_ne (fun q => ?_)]
    · exact (hf c hc).1
    · have hc' : c = z ∨ c = TI ∨ c = TO ∨ c = i1 ∨ c = i2 := by simpa using hc
      obtain ⟨o1, e1, _⟩ := h1
      obtain ⟨o2, e2, _⟩ := h2
      have lt : c < s.heap.objs.size := by
        rcases hc' with rfl | rfl | rfl | rfl | rfl
        · exact Heap.lt_size hz
        · exact Heap.lt_size hTI
        · exact Heap.lt_size hTO
        · exact Heap.lt_size e1
        · exact Heap.lt_size e2
      exact Nat.ne_of_lt lt q
  done := by
    intro X hP hw hK hc i pins s σ H E I hf st hg
    subst hP hw hK
    obtain ⟨hz, hTI, ⟨x0, y0, hTO⟩, h1, h2⟩ := st
    obtain ⟨hqt, hql, hend⟩ := hg
    obtain ⟨its1, r1, ht1, _⟩ := I.tuple hqt
    obtain ⟨its2, r2, pl2, _⟩ := I.list hql
    have hl1 := r1.length
    have hl2 := r2.length
    have hty : s.TypeIs (.ref z) "zip" := ⟨_, hz, rfl⟩
    have N1 := nx_tup (prog := X.prog) (w := X.w) i1 a D.l1i1 its1.toArray
    have N2 := nx_list (prog := X.prog) (w := X.w) i2 b D.l2i2 its2.toArray
    have ht1' : s.heap.IsTuple a its1.toArray := ht1
    have hend' : its1.toArray[i]? = none ∨ its2.toArray[i]? = none := by
      rcases hend with q | q
      · exact .inl (by simp; omega)
      · exact .inr (by simp; omega)
    unfold pyNext
    refine wpAny_bind (wpAny_attempt (wpAny_callSpecial?_slot (name := Str.ofString "__next__") hty F.slot_zip_next (wpAny_call_entry F.slot_zip_next hty F.entry_zip_next
      (zip2_end (I.ok.hd hc) D N1 N2 hz hTI hTO ⟨h1, ht1'⟩ ⟨h2, pl2.isList⟩ hend' fun h' e kk he => ?_) (F.args_zip_next_1 _))))
    obtain ⟨o, ho, hco⟩ := he
    refine wpAny_bind (wpAny_isInstance (T := "StopIteration") (b := true) ⟨o, ho, hco⟩ isSubtype_stop (wpAny_pure ⟨rfl, I.turnedAll (t' := s.toks) (fun c ob hc e => ?_) hf⟩))
    have hc' : ¬ (c = z ∨ c = TI ∨ c = TO ∨ c = i1 ∨ c = i2) := by simpa using hc
    exact kk c ob (fun q => hc' (.inl q)) (fun q => hc' (.inr (.inr (.inl q)))) (fun q => hc' (.inr (.inr (.inr (.inl q))))) (fun q => hc' (.inr (.inr (.inr (.inr q))))) e
  self := fun _ _ _ _ _ st h => wpAny_pyIter_zip st.1 h
noncomputable def iZip (K : PySem.W.Frag) (ta : TA) : TI := fun σ H R => ta σ H fun ws H1 => ∃ a b us vs, ws = [.ref a, .ref b] ∧ SqT K H1 a us ∧ SqL K H1 b vs ∧ R (Itz K a b us vs) H1
theorem boot_zip : bootBuiltins "zip" = some (.type "zip") := by decide +kernel
theorem pi_zip {X : Cx} {elts : List Expr} {ek : Nat} {tpos : Pos} {e1 e2 : Expr} {ta : TA} {p pos : Pos} (hg : Gl X "zip") (hm : X.mg "zip" = none) (ha : PA X [e1, e2] ta)
    (hs : starEach [e1, e2] X.env = [(false, eval e1 X.env), (false, eval e2 X.env)] := by rfl) (hs2 : starEach [e2] X.env = [(false, eval e2 X.env)] := by rfl) : PI X (.Tuple elts ek tpos) (.Call (.Name "zip" p) [e1, e2] [] pos) (iZip X.K ta) := by
  intro pins s σ H R I h
  refine Call_ (ld_blt I hg hm boot_zip (PyProof.Rows.callWith_type1 (thn (ha pos pins s σ H _ I h) fun us0 s1 ⟨vs0, H1, I1, r1, q1⟩ => ?_) (by rw [hs, hs2]) (by rw [hs2]; rfl)))
  obtain ⟨a, b, us, vs, e, hqt, hql, q⟩ := q1
  subst e
  obtain ⟨u, v, rfl, ru, rv⟩ := r1.two
  cases ru
  cases rv
  obtain ⟨its1, rr1, ht1, _⟩ := I1.tuple hqt
  obtain ⟨its2, rr2, pl2, _⟩ := I1.list hql
  have ht1' : s1.heap.IsTuple a its1.toArray := ht1
  have la : a < s1.heap.objs.size := by obtain ⟨o, e, _⟩ := ht1'; exact Heap.lt_size e
  have lb : b < s1.heap.objs.size := by obtain ⟨o, e, _⟩ := pl2.isList; exact Heap.lt_size e
  refine call_zip_tl ht1' pl2.isList fun h' hz hTI hTO hi1 hi2 kk => ?_
  generalize hn : s1.heap.objs.size = n at *
  have D : ZAp (n + 4) (n + 2) (n + 3) n (n + 1) a b := zap_mk n a b la lb
  have I2 : Inv X pins σ H1 { s1 with heap := h', toks := s1.toks } := I1.kept kk
  refine wpAny_pyIter_zip (s := { s1 with heap := h' }) hz ?_
  refine ⟨n + 4, [n + 4, n + 2, n + 3, n, n + 1], _, _, H1, rfl, I2, turn_zip D us vs, ⟨hz, hTI, ⟨_, _, hTO⟩, hi1, hi2⟩, fun c hc => ?_, q⟩
  have hc' : n ≤ c := by
    have q : c = n + 4 ∨ c = n + 2 ∨ c = n + 3 ∨ c = n ∨ c = n + 1 := by simpa using hc
    rcases q with rfl | rfl | rfl | rfl | rfl <;> omega
  rw [← hn] at hc'
  exact I1.fpOk hc' (I1.hok.fresh hc')
end L2
set_option maxHeartbeats 4000000
namespace L2
open PySem PySem.Spec PyProof.Rows
inductive D where
  | non | bl (b : Bool) | int (i : Int) | str (x : Str) | lst (ds : List D) | tup (ds : List D)
  deriving Inhabited
mutual
noncomputable def deq : D → D → Bool
  | .non, y => (match y with | .non => true | _ => false)
  | .bl a, y => (match y with | .bl b => a == b | .int b => (if a then (1 : Int) else 0) == b | _ => false)
  | .int a, y => (match y with | .int b => a == b | .bl b => a == (if b then (1 : Int) else 0) | _ => false)
  | .str a, y => (match y with | .str b => a == b | _ => false)
  | .lst a, y => (match y with | .lst b => deqs a b | _ => false)
  | .tup a, y => (match y with | .tup b => deqs a b | _ => false)
noncomputable def deqs : List D → List D → Bool
  | [], [] => true
  | x :: xs, y :: ys => deq x y && deqs xs ys
  | _, _ => false
end
mutual
noncomputable def dep : D → Nat
  | .lst ds => deps ds + 1
  | .tup ds => deps ds + 1
  | _ => 1
noncomputable def deps : List D → Nat
  | [] => 1
  | d :: r => max (dep d) (deps r)
end
mutual
theorem deq_refl : ∀ d : D, deq d d = true
  | .non => by simp [deq]
  | .bl b => by simp [deq]
  | .int i => by simp [deq]
  | .str x => by simp [deq]
  | .lst ds => by simp only [deq]; exact deqs_refl ds
  | .tup ds => by simp only [deq]; exact deqs_refl ds
theorem deqs_refl : ∀ ds : List D, deqs ds ds = true
  | [] => by simp [deqs]
  | d :: r => by simp only [deqs, Bool.and_eq_true]; exact ⟨deq_refl d, deqs_refl r⟩
end
mutual
noncomputable def DR (K : PySem.W.Frag) (H : Hp) : V → D → Prop
  | x, .non => x = .non
  | x, .bl b => x = .bl b
  | x, .int i => x = .int i
  | x, .str t => x = .str t
  | x, .lst ds => ∃ a xs, x = .ref a ∧ SqL K H a xs ∧ DRs K H xs ds
  | x, .tup ds => ∃ a xs, x = .ref a ∧ SqT K H a xs ∧ DRs K H xs ds
noncomputable def DRs (K : PySem.W.Frag) (H : Hp) : List V → List D → Prop
  | [], [] => True
  | x :: xs, d :: ds => DR K H x d ∧ DRs K H xs ds
  | _, _ => False
end
theorem DRs.length {K : PySem.W.Frag} {H : Hp} : ∀ {xs : List V} {ds : List D}, DRs K H xs ds → xs.length = ds.length
  | [], [], _ => rfl
  | _ :: xs, _ :: ds, h => by rw [List.length_cons, List.length_cons, DRs.length (xs := xs) (ds := ds) (by simp only [DRs] at h; exact h.2)]
  | [], _ :: _, h => by simp [DRs] at h
  | _ :: _, [], h => by simp [DRs] at h
theorem DRs.get {K : PySem.W.Frag} {H : Hp} : ∀ {xs : List V} {ds : List D} {i : Nat} {x : V}, DRs K H xs ds → xs[i]? = some x → ∃ d, ds[i]? = some d ∧ DR K H x d
  | [], [], _, _, _, e => by simp at e
  | x :: xs, d :: ds, 0, _, h, e => by
    simp only [DRs] at h
    simp at e; subst e
    exact ⟨d, rfl, h.1⟩
  | x :: xs, d :: ds, i + 1, y, h, e => by
    simp only [DRs] at h
    obtain ⟨d', h1, h2⟩ := DRs.get (i := i) (x := y) h.2 (by simpa using e)
    exact ⟨d', by simpa using h1, h2⟩
  | [], _ :: _, _, _, h, _ => by simp [DRs] at h
  | _ :: _, [], _, _, h, _ => by simp [DRs] at h
theorem DRs.get' {K : PySem.W.Frag} {H : Hp} {xs : List V} {ds : List D} {i : Nat} {d : D} (h : DRs K H xs ds) (e : ds[i]? = some d) : ∃ x, xs[i]? = some x ∧ DR K H x d := by
  have hl := h.length
  obtain ⟨hi, _⟩ := List.getElem?_eq_some_iff.mp e
  have hx := List.getElem?_eq_getElem (l := xs) (i := i) (by omega)
  obtain ⟨d', h1, h2⟩ := h.get hx
  rw [e] at h1; cases h1
  exact ⟨_, hx, h2⟩
theorem Same.seqT {K : PySem.W.Frag} {H H' : Hp} {a : Addr} {xs : List V} (e : Same H H') (h : SqT K H a xs) : SqT K H' a xs := by
  rcases h with (h | ⟨o, h⟩) | h
  · exact .inl (.inl (e _ _ h))
  · exact .inl (.inr ⟨o, e _ _ h⟩)
  · exact .inr h
section
variable {X : Cx} {pins : List (Addr × Obj)} {σ : St} {H : Hp} {s : Shared}
theorem Inv.not_both (I : Inv X pins σ H s) {a : Addr} {xs ys : List V} (h : SqL X.K H a xs) (h' : SqT X.K H a ys) : False := by
  obtain ⟨_, _, p, _⟩ := I.list h
  obtain ⟨_, _, q, _⟩ := I.tuple h'
  exact SeqAt.ne_of_list_tuple p.isList (show s.heap.IsTuple a _ from q) rfl
mutual
theorem dr_inj (I : Inv X pins σ H s) : ∀ {d e : D} {x : V}, DR X.K H x d → DR X.K H x e → d = e
  | d, e, x, h, h' => by
    cases d with
    | non => simp only [DR] at h; subst h; cases e <;> simp [DR] at h'; rfl
    | bl b => simp only [DR] at h; subst h; cases e <;> simp [DR] at h'; rw [h']
    | int b => simp only [DR] at h; subst h; cases e <;> simp [DR] at h'; rw [h']
    | str b => simp only [DR] at h; subst h; cases e <;> simp [DR] at h'; rw [h']
    | lst ds =>
      simp only [DR] at h
      obtain ⟨a, xs, rfl, hq, r⟩ := h
      cases e with
      | lst es =>
        simp only [DR] at h'
        obtain ⟨a', xs', e1, hq', r'⟩ := h'
        cases e1
        have e2 := I.list_inj hq hq'
        subst e2
        rw [drs_inj I r r']
      | tup es =>
        simp only [DR] at h'
        obtain ⟨a', xs', e1, hq', r'⟩ := h'
        cases e1
        exact (I.not_both hq hq').elim
      | _ => simp [DR] at h'
    | tup ds =>
      simp only [DR] at h
      obtain ⟨a, xs, rfl, hq, r⟩ := h
      cases e with
      | tup es =>
        simp only [DR] at h'
        obtain ⟨a', xs', e1, hq', r'⟩ := h'
        cases e1
        have e2 := I.tuple_inj hq hq'
        subst e2
        rw [drs_inj I r r']
      | lst es =>
        simp only [DR] at h'
        obtain ⟨a', xs', e1, hq', r'⟩ := h'
        cases e1
        exact (I.not_both hq' hq).elim
      | _ => simp [DR] at h'
theorem drs_inj (I : Inv X pins σ H s) : ∀ {ds es : List D} {xs : List V}, DRs X.K H xs ds → DRs X.K H xs es → ds = es
  | [], [], _, _, _ => rfl
  | d :: ds, e :: es, x :: xs, h, h' => by
    simp only [DRs] at h h'
    rw [dr_inj I h.1 h'.1, drs_inj I h.2 h'.2]
  | [], _ :: _, [], _, h' => by simp [DRs] at h'
  | [], _ :: _, _ :: _, h, _ => by simp [DRs] at h
  | _ :: _, _, [], h, _ => by simp [DRs] at h
  | _ :: _, [], _ :: _, _, h' => by simp [DRs] at h'
end
theorem deqs_range : ∀ (ds es : List D), ds.length = es.length → (List.range ds.length).all (fun j => deq (ds.getD j .non) (es.getD j .non)) = deqs ds es
  | [], [], _ => by simp [deqs]
  | d :: ds, e :: es, h => by
    rw [List.length_cons, List.range_succ_eq_map, List.all_cons, List.all_map]
    have ih := deqs_range ds es (by simpa using h)
    simp only [deqs]
    rw [← ih]
    rfl
  | [], _ :: _, h => by simp at h
  | _ :: _, [], h => by simp at h
theorem deqs_len : ∀ (ds es : List D), ds.length ≠ es.length → deqs ds es = false
  | [], [], h => absurd rfl h
  | d :: ds, e :: es, h => by
    simp only [deqs]
    rw [deqs_len ds es (by simpa using h), Bool.and_false]
  | [], _ :: _, _ => by simp [deqs]
  | _ :: _, [], _ => by simp [deqs]
theorem eq_tups (ds es : List D) (n m : Nat) (h1 : n = ds.length) (h2 : m = es.length) : ((List.range (min n m)).all (fun j => deq (ds.getD j .non) (es.getD j .non)) && n == m) = deqs ds es := by
  subst h1 h2
  by_cases h : ds.length = es.length
  · rw [← h, Nat.min_self, deqs_range ds es h]; simp
  · rw [deqs_len ds es h]; simp [h]
mutual
theorem eqD (I : Inv X pins σ H s) : ∀ {d e : D} {A : Around} {x y : V} {u v : Value}, A.units + dep d < cLine → DR X.K H x d → DR X.K H y e → RelV x u → RelV y v → SeqAt.EqAt A s u v (deq d e)
  | d, e, A, x, y, u, v, hu, h, h', rx, ry => by
    have hu0 : A.units < cLine := by omega
    cases d with
    | non =>
      simp only [DR] at h; subst h; cases rx
      cases e with
      | non => simp only [DR] at h'; subst h'; cases ry; simp only [deq]; exact SeqAt.EqAt.same _
      | bl b => simp only [DR] at h'; subst h'; cases ry; simp only [deq]; exact SeqAt.EqAt.none_bool b
      | int b => simp only [DR] at h'; subst h'; obtain ⟨t, rfl⟩ := ry; simp only [deq]; exact SeqAt.EqAt.none_int b t
      | str b => simp only [DR] at h'; subst h'; obtain ⟨t, rfl⟩ := ry; simp only [deq]; exact SeqAt.EqAt.none_str b t
      | lst es => simp only [DR] at h'; obtain ⟨b, ys, rfl, hq, _⟩ := h'; cases ry; obtain ⟨_, _, p, _⟩ := I.list hq; simp only [deq]; exact SeqAt.EqAt.none_list p.isList hu0
      | tup es => simp only [DR] at h'; obtain ⟨b, ys, rfl, hq, _⟩ := h'; cases ry; obtain ⟨_, _, p, _⟩ := I.tuple hq; simp only [deq]; exact SeqAt.EqAt.none_tuple (show s.heap.IsTuple b _ from p) hu0
    | bl a =>
      simp only [DR] at h; subst h; cases rx
      cases e with
      | non => simp only [DR] at h'; subst h'; cases ry; simp only [deq]; exact SeqAt.EqAt.bool_none a
      | bl b => simp only [DR] at h'; subst h'; cases ry; simp only [deq]; exact SeqAt.EqAt.bool_bool a b
      | int b => simp only [DR] at h'; subst h'; obtain ⟨t, rfl⟩ := ry; simp only [deq]; exact SeqAt.EqAt.bool_int a b t
      | str b => simp only [DR] at h'; subst h'; obtain ⟨t, rfl⟩ := ry; simp only [deq]; exact SeqAt.EqAt.bool_str a b t
      | lst es => simp only [DR] at h'; obtain ⟨b, ys, rfl, hq, _⟩ := h'; cases ry; obtain ⟨_, _, p, _⟩ := I.list hq; simp only [deq]; exact SeqAt.EqAt.bool_list a p.isList hu0
      | tup es => simp only [DR] at h'; obtain ⟨b, ys, rfl, hq, _⟩ := h'; cases ry; obtain ⟨_, _, p, _⟩ := I.tuple hq; simp only [deq]; exact SeqAt.EqAt.bool_tuple a (show s.heap.IsTuple b _ from p) hu0
    | int a =>
      simp only [DR] at h; subst h; obtain ⟨t0, rfl⟩ := rx
      cases e with
      | non => simp only [DR] at h'; subst h'; cases ry; simp only [deq]; exact SeqAt.EqAt.int_none a t0
      | bl b => simp only [DR] at h'; subst h'; cases ry; simp only [deq]; exact SeqAt.EqAt.int_bool a t0 b
      | int b => simp only [DR] at h'; subst h'; obtain ⟨t, rfl⟩ := ry; simp only [deq]; exact SeqAt.EqAt.int_int a t0 b t
      | str b => simp only [DR] at h'; subst h'; obtain ⟨t, rfl⟩ := ry; simp only [deq]; exact SeqAt.EqAt.int_str a t0 b t
      | lst es => simp only [DR] at h'; obtain ⟨b, ys, rfl, hq, _⟩ := h'; cases ry; obtain ⟨_, _, p, _⟩ := I.list hq; simp only [deq]; exact SeqAt.EqAt.int_list a t0 p.isList hu0
      | tup es => simp only [DR] at h'; obtain ⟨b, ys, rfl, hq, _⟩ := h'; cases ry; obtain ⟨_, _, p, _⟩ := I.tuple hq; simp only [deq]; exact SeqAt.EqAt.int_tuple a t0 (show s.heap.IsTuple b _ from p) hu0
    | str a =>
      simp only [DR] at h; subst h; obtain ⟨t0, rfl⟩ := rx
      cases e with
      | non => simp only [DR] at h'; subst h'; cases ry; simp only [deq]; exact SeqAt.EqAt.str_none a t0
      | bl b => simp only [DR] at h'; subst h'; cases ry; simp only [deq]; exact SeqAt.EqAt.str_bool a t0 b
      | int b => simp only [DR] at h'; subst h'; obtain ⟨t, rfl⟩ := ry; simp only [deq]; exact SeqAt.EqAt.str_int a t0 b t
      | str b => simp only [DR] at h'; subst h'; obtain ⟨t, rfl⟩ := ry; simp only [deq]; exact SeqAt.EqAt.str_str a t0 b t
      | lst es => simp only [DR] at h'; obtain ⟨b, ys, rfl, hq, _⟩ := h'; cases ry; obtain ⟨_, _, p, _⟩ := I.list hq; simp only [deq]; exact SeqAt.EqAt.str_list a t0 p.isList hu0
      | tup es => simp only [DR] at h'; obtain ⟨b, ys, rfl, hq, _⟩ := h'; cases ry; obtain ⟨_, _, p, _⟩ := I.tuple hq; simp only [deq]; exact SeqAt.EqAt.str_tuple a t0 (show s.heap.IsTuple b _ from p) hu0
    | lst ds =>
      have hdep : A.units + (deps ds + 1) < cLine := by simpa only [dep] using hu
      have h0 := h
      simp only [DR] at h; obtain ⟨a, xs, rfl, hqa, ra⟩ := h; cases rx
      obtain ⟨ia, va, pa, _⟩ := I.list hqa
      cases e with
      | non => simp only [DR] at h'; subst h'; cases ry; simp only [deq]; exact SeqAt.EqAt.list_none pa.isList hu0
      | bl b => simp only [DR] at h'; subst h'; cases ry; simp only [deq]; exact SeqAt.EqAt.list_bool b pa.isList hu0
      | int b => simp only [DR] at h'; subst h'; obtain ⟨t, rfl⟩ := ry; simp only [deq]; exact SeqAt.EqAt.list_int b t pa.isList hu0
      | str b => simp only [DR] at h'; subst h'; obtain ⟨t, rfl⟩ := ry; simp only [deq]; exact SeqAt.EqAt.list_str b t pa.isList hu0
      | tup es => simp only [DR] at h'; obtain ⟨b, ys, rfl, hq, _⟩ := h'; cases ry; obtain ⟨_, _, p, _⟩ := I.tuple hq; simp only [deq]; exact SeqAt.EqAt.list_tuple pa.isList (show s.heap.IsTuple b _ from p) hu0
      | lst es =>
        have h1 := h'
        simp only [DR] at h'; obtain ⟨b, ys, rfl, hqb, rb⟩ := h'; cases ry
        by_cases hab : a = b
        · subst hab
          have e2 : D.lst ds = D.lst es := dr_inj I h0 h1
          rw [← e2, deq_refl]
          exact SeqAt.EqAt.same _
        · obtain ⟨ib, vb, pb, _⟩ := I.list hqb
          have la := va.length
          have lb := vb.length
          have lda := ra.length
          have ldb := rb.length
          simp only [deq]
          refine SeqAt.EqAt.of_refs hab ?_
          by_cases hl : ds.length = es.length
          · have q := SeqAt.RcAt.lists (e := fun j => deq (ds.getD j .non) (es.getD j .non)) pa.isList pb.isList (by simp; omega) hu0 (fun j h1 h2 => by
              simpa using eqDs I (by show A.units + 1 + deps ds < cLine; omega) ra rb va vb j (by simpa using h1) (by simpa using h2))
            rw [List.size_toArray, show ia.length = ds.length by omega, deqs_range ds es hl] at q
            exact q
          · rw [deqs_len ds es hl]
            exact SeqAt.RcAt.lists_lengths pa.isList pb.isList (by simp; omega) hu0
    | tup ds =>
      have hdep : A.units + (deps ds + 1) < cLine := by simpa only [dep] using hu
      have h0 := h
      simp only [DR] at h; obtain ⟨a, xs, rfl, hqa, ra⟩ := h; cases rx
      obtain ⟨ia, va, pa, _⟩ := I.tuple hqa
      have pa' : s.heap.IsTuple a ia.toArray := pa
      cases e with
      | non => simp only [DR] at h'; subst h'; cases ry; simp only [deq]; exact SeqAt.EqAt.tuple_none pa' hu0
      | bl b => simp only [DR] at h'; subst h'; cases ry; simp only [deq]; exact SeqAt.EqAt.tuple_bool b pa' hu0
      | int b => simp only [DR] at h'; subst h'; obtain ⟨t, rfl⟩ := ry; simp only [deq]; exact SeqAt.EqAt.tuple_int b t pa' hu0
      | str b => simp only [DR] at h'; subst h'; obtain ⟨t, rfl⟩ := ry; simp only [deq]; exact SeqAt.EqAt.tuple_str b t pa' hu0
      | lst es => simp only [DR] at h'; obtain ⟨b, ys, rfl, hq, _⟩ := h'; cases ry; obtain ⟨_, _, p, _⟩ := I.list hq; simp only [deq]; exact SeqAt.EqAt.tuple_list pa' p.isList hu0
      | tup es =>
        have h1 := h'
        simp only [DR] at h'; obtain ⟨b, ys, rfl, hqb, rb⟩ := h'; cases ry
        by_cases hab : a = b
        · subst hab
          have e2 : D.tup ds = D.tup es := dr_inj I h0 h1
          rw [← e2, deq_refl]
          exact SeqAt.EqAt.same _
        · obtain ⟨ib, vb, pb, _⟩ := I.tuple hqb
          have pb' : s.heap.IsTuple b ib.toArray := pb
          have la := va.length
          have lb := vb.length
          have lda := ra.length
          have ldb := rb.length
          simp only [deq]
          refine SeqAt.EqAt.of_refs hab ?_
          have q := SeqAt.RcAt.tuples (e := fun j => deq (ds.getD j .non) (es.getD j .non)) pa' pb' hu0 (fun j h1 h2 => by
              simpa using eqDs I (by show A.units + 1 + deps ds < cLine; omega) ra rb va vb j (by simpa using h1) (by simpa using h2))
          rw [eq_tups ds es _ _ (by simp; omega) (by simp; omega)] at q
          exact q
theorem eqDs (I : Inv X pins σ H s) : ∀ {ds es : List D} {A : Around} {xs ys : List V} {us vs : List Value}, A.units + deps ds < cLine → DRs X.K H xs ds → DRs X.K H ys es → Vals xs us → Vals ys vs →
    ∀ (j : Nat) (h1 : j < us.length) (h2 : j < vs.length), SeqAt.EqAt A s us[j] vs[j] (deq (ds.getD j .non) (es.getD j .non))
  | [], _, A, xs, ys, us, vs, _, r, _, w, _ => fun j h1 h2 => by
    have h3 := r.length
    have h4 := Vals.length w
    rw [List.length_nil] at h3
    omega
  | _ :: _, [], A, xs, ys, us, vs, _, _, r, _, w => fun j h1 h2 => by
    have h3 := r.length
    have h4 := Vals.length w
    rw [List.length_nil] at h3
    omega
  | d :: ds, e :: es, A, x :: xs, y :: ys, u :: us, v :: vs, hu, r, r', .cons w ws, .cons w' ws' => fun j h1 h2 => by
    have hu' : A.units + dep d < cLine ∧ A.units + deps ds < cLine := by
      simp only [deps] at hu
      omega
    simp only [DRs] at r r'
    cases j with
    | zero => exact eqD I hu'.1 r.1 r'.1 w w'
    | succ j =>
      have q := eqDs I hu'.2 r.2 r'.2 ws ws' j (by simpa using h1) (by simpa using h2)
      simpa using q
  | _ :: _, _ :: _, _, [], _, _, _, _, r, _, _, _ => by simp [DRs] at r
  | _ :: _, _ :: _, _, _ :: _, [], _, _, _, _, r, _, _ => by simp [DRs] at r
end
end
noncomputable def rEqD (K : PySem.W.Frag) : R2 := fun x y H Q => ∃ a b d e, x = .ref a ∧ y = .ref b ∧ DR K H x d ∧ DR K H y e ∧ dep d ≤ 60 ∧ Q (.bl (deq d e)) H
noncomputable def rNeD (K : PySem.W.Frag) : R2 := fun x y H Q => ∃ a b d e, x = .ref a ∧ y = .ref b ∧ DR K H x d ∧ DR K H y e ∧ dep d ≤ 60 ∧ Q (.bl (!deq d e)) H
theorem op_eqD {X : Cx} (hu : X.A.units + 64 < cLine) : OpR X (compareOp .Eq) (rEqD X.K) := by
  intro pins s σ H x y u v Q I rx ry h
  obtain ⟨a, b, d, e, rfl, rfl, h, h', hd, q⟩ := h
  cases rx
  cases ry
  have hu0 : X.A.units < cLine := by omega
  have fin : ∀ {k : Bool}, SeqAt.RcAt X.A s (.ref a) (.ref b) k → k = deq d e → wpAny (model X.prog X.w) X.A (compareOp .Eq (.ref a) (.ref b)) (EP X pins σ Q) X.xe s := fun {k} r ek => r X.prog X.w X.xe _ ⟨.bl k, H, I, rfl, by rw [ek]; exact q⟩
  cases d with
  | lst ds =>
    simp only [DR] at h; obtain ⟨a', xs, e1, hqa, ra⟩ := h; cases e1
    obtain ⟨ia, va, pa, _⟩ := I.list hqa
    have la := va.length
    have lda := ra.length
    simp only [dep] at hd
    cases e with
    | lst es =>
      simp only [DR] at h'; obtain ⟨b', ys, e1, hqb, rb⟩ := h'; cases e1
      obtain ⟨ib, vb, pb, _⟩ := I.list hqb
      have lb := vb.length
      have ldb := rb.length
      by_cases hl : ds.length = es.length
      · refine fin (SeqAt.RcAt.lists (e := fun j => deq (ds.getD j .non) (es.getD j .non)) pa.isList pb.isList (by simp; omega) hu0 (fun j h1 h2 => by
          simpa using eqDs I (by show X.A.units + 1 + deps ds < cLine; omega) ra rb va vb j (by simpa using h1) (by simpa using h2))) ?_
        rw [List.size_toArray, show ia.length = ds.length by omega, deqs_range ds es hl]
        simp only [deq]
      · exact fin (SeqAt.RcAt.lists_lengths pa.isList pb.isList (by simp; omega) hu0) (by simp only [deq]; rw [deqs_len ds es hl])
    | tup es =>
      simp only [DR] at h'; obtain ⟨b', ys, e1, hqb, rb⟩ := h'; cases e1
      obtain ⟨ib, vb, pb, _⟩ := I.tuple hqb
      exact fin (SeqAt.RcAt.list_tuple pa.isList (show s.heap.IsTuple b _ from pb) hu0) (by simp only [deq])
    | _ => simp [DR] at h'
  | tup ds =>
    simp only [DR] at h; obtain ⟨a', xs, e1, hqa, ra⟩ := h; cases e1
    obtain ⟨ia, va, pa, _⟩ := I.tuple hqa
    have pa' : s.heap.IsTuple a ia.toArray := pa
    have la := va.length
    have lda := ra.length
    simp only [dep] at hd
    cases e with
    | tup es =>
      simp only [DR] at h'; obtain ⟨b', ys, e1, hqb, rb⟩ := h'; cases e1
      obtain ⟨ib, vb, pb, _⟩ := I.tuple hqb
      have lb := vb.length
      have ldb := rb.length
      refine fin (SeqAt.RcAt.tuples (e := fun j => deq (ds.getD j .non) (es.getD j .non)) pa' (show s.heap.IsTuple b ib.toArray from pb) hu0 (fun j h1 h2 => by
          simpa using eqDs I (by show X.A.units + 1 + deps ds < cLine; omega) ra rb va vb j (by simpa using h1) (by simpa using h2))) ?_
      rw [eq_tups ds es _ _ (by simp; omega) (by simp; omega)]
      simp only [deq]
    | lst es =>
      simp only [DR] at h'; obtain ⟨b', ys, e1, hqb, rb⟩ := h'; cases e1
      obtain ⟨ib, vb, pb, _⟩ := I.list hqb
      exact fin (SeqAt.RcAt.tuple_list pa' pb.isList hu0) (by simp only [deq])
    | _ => simp [DR] at h'
  | _ => simp [DR] at h
theorem op_neD {X : Cx} (hu : X.A.units + 64 < cLine) : OpR X (compareOp .NotEq) (rNeD X.K) := by
  intro pins s σ H x y u v Q I rx ry h
  obtain ⟨a, b, d, e, rfl, rfl, h, h', hd, q⟩ := h
  cases rx
  cases ry
  have hu0 : X.A.units < cLine := by omega
  have fin : ∀ {k : Bool}, SeqAt.RcNeAt X.A s (.ref a) (.ref b) k → k = !deq d e → wpAny (model X.prog X.w) X.A (compareOp .NotEq (.ref a) (.ref b)) (EP X pins σ Q) X.xe s := fun {k} r ek => r X.prog X.w X.xe _ ⟨.bl k, H, I, rfl, by rw [ek]; exact q⟩
  cases d with
  | lst ds =>
    simp only [DR] at h; obtain ⟨a', xs, e1, hqa, ra⟩ := h; cases e1
    obtain ⟨ia, va, pa, _⟩ := I.list hqa
    have la := va.length
    have lda := ra.length
    simp only [dep] at hd
    cases e with
    | lst es =>
      simp only [DR] at h'; obtain ⟨b', ys, e1, hqb, rb⟩ := h'; cases e1
      obtain ⟨ib, vb, pb, _⟩ := I.list hqb
      have lb := vb.length
      have ldb := rb.length
      by_cases hl : ds.length = es.length
      · refine fin (SeqAt.RcNeAt.lists (e := fun j => deq (ds.getD j .non) (es.getD j .non)) pa.isList pb.isList (by simp; omega) hu0 (fun j h1 h2 => by
          simpa using eqDs I (by show X.A.units + 1 + deps ds < cLine; omega) ra rb va vb j (by simpa using h1) (by simpa using h2))) ?_
        rw [List.size_toArray, show ia.length = ds.length by omega, deqs_range ds es hl]
        simp only [deq]
      · exact fin (SeqAt.RcNeAt.lists_lengths pa.isList pb.isList (by simp; omega) hu0) (by simp only [deq]; rw [deqs_len ds es hl]; rfl)
    | tup es =>
      simp only [DR] at h'; obtain ⟨b', ys, e1, hqb, rb⟩ := h'; cases e1
      obtain ⟨ib, vb, pb, _⟩ := I.tuple hqb
      exact fin (SeqAt.RcNeAt.list_tuple pa.isList (show s.heap.IsTuple b _ from pb) hu0) (by simp only [deq]; rfl)
    | _ => simp [DR] at h'
  | tup ds =>
    simp only [DR] at h; obtain ⟨a', xs, e1, hqa, ra⟩ := h; cases e1
    obtain ⟨ia, va, pa, _⟩ := I.tuple hqa
    have pa' : s.heap.IsTuple a ia.toArray := pa
    have la := va.length
    have lda := ra.length
    simp only [dep] at hd
    cases e with
    | tup es =>
      simp only [DR] at h'; obtain ⟨b', ys, e1, hqb, rb⟩ := h'; cases e1
      obtain ⟨ib, vb, pb, _⟩ := I.tuple hqb
      have lb := vb.length
      have ldb := rb.length
      refine fin (SeqAt.RcNeAt.tuples (e := fun j => deq (ds.getD j .non) (es.getD j .non)) pa' (show s.heap.IsTuple b ib.toArray from pb) hu0 (fun j h1 h2 => by
          simpa using eqDs I (by show X.A.units + 1 + deps ds < cLine; omega) ra rb va vb j (by simpa using h1) (by simpa using h2))) ?_
      rw [eq_tups ds es _ _ (by simp; omega) (by simp; omega)]
      simp only [deq]
    | lst es =>
      simp only [DR] at h'; obtain ⟨b', ys, e1, hqb, rb⟩ := h'; cases e1
      obtain ⟨ib, vb, pb, _⟩ := I.list hqb
      exact fin (SeqAt.RcNeAt.tuple_list pa' pb.isList hu0) (by simp only [deq]; rfl)
    | _ => simp [DR] at h'
  | _ => simp [DR] at h
end L2
set_option maxHeartbeats 4000000
namespace L2
open PySem PySem.Spec PyProof.Rows
theorem same_upd {H : Hp} {p : Addr} (h : H p = none) (o : HO) : Same H (upd H p o) := fun b u q => by rw [upd_ne (ne_of_none q h)]; exact q
theorem Same.upd_l {H H' : Hp} {l : Addr} (g : Same H H') (h : H l = none) (o : HO) : Same H (upd H' l o) := fun b u q => by rw [upd_ne (ne_of_none q h)]; exact g b u q
mutual
noncomputable def DRl (K : PySem.W.Frag) (H : Hp) (l : Addr) : V → D → Prop
  | x, .non => x = .non
  | x, .bl b => x = .bl b
  | x, .int i => x = .int i
  | x, .str t => x = .str t
  | x, .lst ds => ∃ a xs, x = .ref a ∧ a ≠ l ∧ SqL K H a xs ∧ DRsl K H l xs ds
  | x, .tup ds => ∃ a xs, x = .ref a ∧ a ≠ l ∧ SqT K H a xs ∧ DRsl K H l xs ds
noncomputable def DRsl (K : PySem.W.Frag) (H : Hp) (l : Addr) : List V → List D → Prop
  | [], [] => True
  | x :: xs, d :: ds => DRl K H l x d ∧ DRsl K H l xs ds
  | _, _ => False
end
noncomputable def Off (l : Addr) (H H' : Hp) : Prop := ∀ b o, b ≠ l → H b = some o → H' b = some o
theorem Same.off {H H' : Hp} {l : Addr} (g : Same H H') : Off l H H' := fun b o _ e => g b o e
theorem Off.upd {H : Hp} {l : Addr} (o : HO) : Off l H (upd H l o) := fun b u hb e => by rw [upd_ne hb]; exact e
end L2
set_option maxHeartbeats 4000000
namespace L2
open PySem PySem.Spec PyProof.Rows
noncomputable def L248 (n : Nat) : Prop := n = 2 ∨ n = 4 ∨ n = 8
theorem L248.le {n : Nat} (h : L248 n) : 2 ≤ n ∧ n ≤ 8 := by unfold L248 at h; omega
noncomputable def wideN (n : Nat) : Nat := if n = 2 then 1 else if n = 4 then 2 else 3
theorem wide_ok {n : Nat} (h : L248 n) : 1 ≤ wideN n ∧ wideN n ≤ 3 ∧ 2 ^ wideN n = n := by
  rcases h with e | e | e <;> rw [e] <;> decide
theorem deps_map_bl : ∀ bs : List Bool, deps (bs.map D.bl) = 1
  | [] => by simp [deps]
  | b :: r => by simp only [List.map_cons, deps, dep, deps_map_bl r]; rfl
end L2
set_option maxHeartbeats 4000000
namespace L2
open PySem PySem.Spec PyProof.Rows
noncomputable def lim : Nat := 1000000
theorem lim_eq : lim = 1000000 := by unfold lim; rfl
theorem lim_lt : lim < sizeLine := by rw [lim_eq]; decide
theorem lim_ge {k : Nat} (h : Nat.ble k 1000 = true) : k ≤ lim := by
  have := Nat.le_of_ble_eq_true h
  rw [lim_eq]; omega
theorem lim_1000 {k : Nat} (h : k ≤ 1000) : k ≤ lim := by rw [lim_eq]; omega
theorem lim_1000' {k : Nat} (h : k ≤ 1000) : k < lim := by rw [lim_eq]; omega
theorem lim_le {n : Nat} (h : n ≤ lim) : n ≤ sizeLine := Nat.le_of_lt (Nat.lt_of_le_of_lt h lim_lt)
theorem lim_lt' {n : Nat} (h : n < lim) : n < sizeLine := Nat.lt_trans h lim_lt
noncomputable def KL (K : PySem.W.Frag) (a : Addr) (xs : List V) : Prop := ∃ (o : Obj) (its : Array Value) (n : Nat), K.lookup a = some o ∧ o.cls = .type "list" ∧ o.dict = none ∧ o.data = .seq its n ∧ its.size ≤ sizeLine ∧ Vals xs its.toList
noncomputable def SqW (K : PySem.W.Frag) (H : Hp) (W : List Addr) (a : Addr) (xs : List V) : Prop := (a ∉ W ∧ Rd H a (.lst xs)) ∨ KL K a xs
theorem SqW.sq {K : PySem.W.Frag} {H : Hp} {W : List Addr} {a : Addr} {xs : List V} (h : SqW K H W a xs) : SqL K H a xs := by
  rcases h with h | h
  · exact .inl h.2
  · exact .inr h
theorem SqW.map {K : PySem.W.Frag} {H H' : Hp} {W W' : List Addr} (hl : ∀ a xs, a ∉ W → Rd H a (.lst xs) → a ∉ W' ∧ Rd H' a (.lst xs)) {a : Addr} {xs : List V} (h : SqW K H W a xs) : SqW K H' W' a xs := by
  rcases h with h | h
  · exact .inl (hl a xs h.1 h.2)
  · exact .inr h
mutual
noncomputable def DW (K : PySem.W.Frag) (H : Hp) (W : List Addr) : V → D → Prop
  | x, .non => x = .non
  | x, .bl b => x = .bl b
  | x, .int i => x = .int i
  | x, .str t => x = .str t
  | x, .lst ds => ∃ a xs, x = .ref a ∧ SqW K H W a xs ∧ DWs K H W xs ds
  | x, .tup ds => ∃ a xs, x = .ref a ∧ SqT K H a xs ∧ DWs K H W xs ds
noncomputable def DWs (K : PySem.W.Frag) (H : Hp) (W : List Addr) : List V → List D → Prop
  | [], [] => True
  | x :: xs, d :: ds => DW K H W x d ∧ DWs K H W xs ds
  | _, _ => False
end
noncomputable def DWr (K : PySem.W.Frag) (H : Hp) (W : List Addr) (x : V) : D → Prop
  | .lst ds => ∃ a xs, x = .ref a ∧ SqL K H a xs ∧ DWs K H W xs ds
  | .non => DW K H W x .non
  | .bl b => DW K H W x (.bl b)
  | .int i => DW K H W x (.int i)
  | .str t => DW K H W x (.str t)
  | .tup ds => DW K H W x (.tup ds)
section
variable {K : PySem.W.Frag} {H H' : Hp} {W W' : List Addr}
mutual
theorem DW.map (hl : ∀ a xs, a ∉ W → Rd H a (.lst xs) → a ∉ W' ∧ Rd H' a (.lst xs)) (ht : ∀ a xs, SqT K H a xs → SqT K H' a xs) : ∀ {d : D} {x : V}, DW K H W x d → DW K H' W' x d
  | .non, _, h => by simp only [DW] at h ⊢; exact h
  | .bl _, _, h => by simp only [DW] at h ⊢; exact h
  | .int _, _, h => by simp only [DW] at h ⊢; exact h
  | .str _, _, h => by simp only [DW] at h ⊢; exact h
  | .lst ds, _, h => by
    simp only [DW] at h ⊢
    obtain ⟨a, xs, e, r, q⟩ := h
    exact ⟨a, xs, e, r.map hl, DWs.map hl ht q⟩
  | .tup ds, _, h => by
    simp only [DW] at h ⊢
    obtain ⟨a, xs, e, r, q⟩ := h
    exact ⟨a, xs, e, ht a xs r, DWs.map hl ht q⟩
theorem DWs.map (hl : ∀ a xs, a ∉ W → Rd H a (.lst xs) → a ∉ W' ∧ Rd H' a (.lst xs)) (ht : ∀ a xs, SqT K H a xs → SqT K H' a xs) : ∀ {ds : List D} {xs : List V}, DWs K H W xs ds → DWs K H' W' xs ds
  | [], [], _ => by simp [DWs]
  | d :: ds, x :: xs, h => by
    simp only [DWs] at h ⊢
    exact ⟨DW.map hl ht h.1, DWs.map hl ht h.2⟩
  | [], _ :: _, h => by simp [DWs] at h
  | _ :: _, [], h => by simp [DWs] at h
end
mutual
theorem DW.dr : ∀ {d : D} {x : V}, DW K H W x d → DR K H x d
  | .non, _, h => by simp only [DW, DR] at h ⊢; exact h
  | .bl _, _, h => by simp only [DW, DR] at h ⊢; exact h
  | .int _, _, h => by simp only [DW, DR] at h ⊢; exact h
  | .str _, _, h => by simp only [DW, DR] at h ⊢; exact h
  | .lst ds, _, h => by
    simp only [DW, DR] at h ⊢
    obtain ⟨a, xs, e, r, q⟩ := h
    exact ⟨a, xs, e, r.sq, DWs.drs q⟩
  | .tup ds, _, h => by
    simp only [DW, DR] at h ⊢
    obtain ⟨a, xs, e, r, q⟩ := h
    exact ⟨a, xs, e, r, DWs.drs q⟩
theorem DWs.drs : ∀ {ds : List D} {xs : List V}, DWs K H W xs ds → DRs K H xs ds
  | [], [], _ => by simp [DRs]
  | d :: ds, x :: xs, h => by
    simp only [DWs, DRs] at h ⊢
    exact ⟨DW.dr h.1, DWs.drs h.2⟩
  | [], _ :: _, h => by simp [DWs] at h
  | _ :: _, [], h => by simp [DWs] at h
end
theorem Rd.same {a : Addr} {u : HO} (g : Same H H') (r : Rd H a u) : Rd H' a u := by
  rcases r with r | ⟨o, r⟩
  · exact .inl (g _ _ r)
  · exact .inr ⟨o, g _ _ r⟩
theorem Rd.some {a : Addr} {u : HO} (r : Rd H a u) : ∃ o, H a = some o := by
  rcases r with r | ⟨o, r⟩
  · exact ⟨_, r⟩
  · exact ⟨_, r⟩
theorem Rd.off {a l : Addr} {u o : HO} (n : a ≠ l) (r : Rd H a u) : Rd (upd H l o) a u := by
  rcases r with r | ⟨o', r⟩
  · exact .inl (by rw [upd_ne n]; exact r)
  · exact .inr ⟨o', by rw [upd_ne n]; exact r⟩
theorem SqT.off {a l : Addr} {xs ys : List V} {o : HO} (hl : H l = some (.lst ys)) (r : SqT K H a xs) : SqT K (upd H l o) a xs := by
  rcases r with (r | ⟨o', r⟩) | r
  · exact .inl (.inl (by rw [upd_ne (ne_of r hl (by intro z; cases z))]; exact r))
  · exact .inl (.inr ⟨o', by rw [upd_ne (ne_of r hl (by intro z; cases z))]; exact r⟩)
  · exact .inr r
theorem DW.same (g : Same H H') {d : D} {x : V} : DW K H W x d → DW K H' W x d := DW.map (fun _ _ n r => ⟨n, r.same g⟩) (fun _ _ h => g.seqT h)
theorem DWs.same (g : Same H H') {d : List D} {x : List V} : DWs K H W x d → DWs K H' W x d := DWs.map (fun _ _ n r => ⟨n, r.same g⟩) (fun _ _ h => g.seqT h)
theorem DW.sub (s : ∀ a ∈ W', a ∈ W) {d : D} {x : V} : DW K H W x d → DW K H W' x d := DW.map (fun a _ n r => ⟨fun z => n (s a z), r⟩) (fun _ _ h => h)
theorem DWs.sub (s : ∀ a ∈ W', a ∈ W) {d : List D} {x : List V} : DWs K H W x d → DWs K H W' x d := DWs.map (fun a _ n r => ⟨fun z => n (s a z), r⟩) (fun _ _ h => h)
theorem fresh_off {a b : Addr} {xs : List V} (h : H a = none) (n : b ∉ W) (r : Rd H b (.lst xs)) : b ∉ a :: W ∧ Rd H b (.lst xs) := by
  refine ⟨fun z => ?_, r⟩
  rcases List.mem_cons.mp z with e | e
  · obtain ⟨o, q⟩ := r.some
    rw [e, h] at q; cases q
  · exact n e
theorem DW.fresh {a : Addr} (h : H a = none) {d : D} {x : V} : DW K H W x d → DW K H (a :: W) x d := DW.map (fun _ _ n r => fresh_off h n r) (fun _ _ h => h)
theorem DWs.fresh {a : Addr} (h : H a = none) {d : List D} {x : List V} : DWs K H W x d → DWs K H (a :: W) x d := DWs.map (fun _ _ n r => fresh_off h n r) (fun _ _ h => h)
theorem DW.upd {l : Addr} {ys : List V} {o : HO} (hl : l ∈ W) (hH : H l = some (.lst ys)) {d : D} {x : V} : DW K H W x d → DW K (upd H l o) W x d :=
  DW.map (fun _ _ n r => ⟨n, r.off fun e => n (e ▸ hl)⟩) (fun _ _ h => h.off hH)
theorem DWs.upd {l : Addr} {ys : List V} {o : HO} (hl : l ∈ W) (hH : H l = some (.lst ys)) {d : List D} {x : List V} : DWs K H W x d → DWs K (L2.upd H l o) W x d :=
  DWs.map (fun _ _ n r => ⟨n, r.off fun e => n (e ▸ hl)⟩) (fun _ _ h => h.off hH)
theorem DWs.length : ∀ {ds : List D} {xs : List V}, DWs K H W xs ds → xs.length = ds.length
  | [], [], _ => rfl
  | d :: ds, x :: xs, h => by
    simp only [DWs] at h
    rw [List.length_cons, List.length_cons, DWs.length h.2]
  | [], _ :: _, h => by simp [DWs] at h
  | _ :: _, [], h => by simp [DWs] at h
theorem DWs.get : ∀ {ds : List D} {xs : List V} {i : Nat} {d : D}, DWs K H W xs ds → ds[i]? = some d → ∃ x, xs[i]? = some x ∧ DW K H W x d
  | [], [], _, _, _, e => by simp at e
  | d :: ds, x :: xs, 0, _, h, e => by
    simp only [DWs] at h
    simp at e; subst e
    exact ⟨x, rfl, h.1⟩
  | d :: ds, x :: xs, i + 1, d', h, e => by
    simp only [DWs] at h
    obtain ⟨y, h1, h2⟩ := DWs.get (i := i) h.2 (by simpa using e)
    exact ⟨y, by simpa using h1, h2⟩
  | [], _ :: _, _, _, h, _ => by simp [DWs] at h
  | _ :: _, [], _, _, h, _ => by simp [DWs] at h
theorem DWs.app : ∀ {ds es : List D} {xs ys : List V}, DWs K H W xs ds → DWs K H W ys es → DWs K H W (xs ++ ys) (ds ++ es)
  | [], _, [], _, _, h => h
  | d :: ds, es, x :: xs, ys, h, h' => by
    simp only [DWs] at h
    simp only [List.cons_append, DWs]
    exact ⟨h.1, DWs.app h.2 h'⟩
  | [], _, _ :: _, _, h, _ => by simp [DWs] at h
  | _ :: _, _, [], _, h, _ => by simp [DWs] at h
theorem DWs.one {x : V} {d : D} (h : DW K H W x d) : DWs K H W [x] [d] := by simp only [DWs]; exact ⟨h, trivial⟩
theorem DWs.take : ∀ (n : Nat) {ds : List D} {xs : List V}, DWs K H W xs ds → DWs K H W (xs.take n) (ds.take n)
  | 0, _, _, _ => by simp [DWs]
  | n + 1, [], [], _ => by simp [DWs]
  | n + 1, d :: ds, x :: xs, h => by
    simp only [DWs] at h
    simp only [List.take_succ_cons, DWs]
    exact ⟨h.1, DWs.take n h.2⟩
  | _ + 1, [], _ :: _, h => by simp [DWs] at h
  | _ + 1, _ :: _, [], h => by simp [DWs] at h
theorem DWs.drop : ∀ (n : Nat) {ds : List D} {xs : List V}, DWs K H W xs ds → DWs K H W (xs.drop n) (ds.drop n)
  | 0, _, _, h => h
  | n + 1, [], [], _ => by simp [DWs]
  | n + 1, d :: ds, x :: xs, h => by
    simp only [DWs] at h
    exact DWs.drop n h.2
  | _ + 1, [], _ :: _, h => by simp [DWs] at h
  | _ + 1, _ :: _, [], h => by simp [DWs] at h
theorem DW.r {x : V} {d : D} (h : DW K H W x d) : DWr K H W x d := by
  cases d with
  | lst ds =>
    simp only [DW] at h
    obtain ⟨a, xs, e, r, q⟩ := h
    exact ⟨a, xs, e, r.sq, q⟩
  | _ => exact h
theorem DWr.dr {x : V} {d : D} (h : DWr K H W x d) : DR K H x d := by
  cases d with
  | lst ds =>
    obtain ⟨a, xs, e, r, q⟩ := h
    simp only [DR]
    exact ⟨a, xs, e, r, q.drs⟩
  | _ => exact DW.dr (W := W) h
theorem DWr.same (g : Same H H') {d : D} {x : V} (h : DWr K H W x d) : DWr K H' W x d := by
  cases d with
  | lst ds =>
    obtain ⟨a, xs, e, r, q⟩ := h
    exact ⟨a, xs, e, g.seq r, q.same g⟩
  | _ => exact DW.same (W := W) g h
theorem DW.laid {a : Addr} {xs : List V} {ds : List D} (hW : ∀ b ∈ W, ∃ o, H b = some o) (h : H a = none) (q : DWs K H' W xs ds) (e : H' a = some (.lst xs)) : DW K H' W (.ref a) (.lst ds) := by
  simp only [DW]
  exact ⟨a, xs, rfl, .inl ⟨fun z => (by obtain ⟨o, w⟩ := hW a z; rw [h] at w; cases w), .inl e⟩, q⟩
theorem dw_ints : ∀ (bs : List Int), DWs K H W (bs.map V.int) (bs.map D.int)
  | [] => by simp [DWs]
  | b :: r => by simp only [List.map_cons, DWs, DW]; exact ⟨trivial, dw_ints r⟩
end
noncomputable abbrev DEnv := List (Option D)
noncomputable def Stab (K : PySem.W.Frag) (P : Hp → List Addr → Prop) : Prop := ∀ H H' W W', (∀ a xs, a ∉ W → Rd H a (.lst xs) → a ∉ W' ∧ Rd H' a (.lst xs)) → (∀ a xs, SqT K H a xs → SqT K H' a xs) → P H W → P H' W'
noncomputable abbrev EF := Hp → List Addr → Prop
structure RR (K : PySem.W.Frag) (n : Nat) (H₀ H : Hp) (U : List Addr) (O : List Nat) (E : EF) (rt : Nat → Addr) (env : DEnv) (σ : St) : Prop where
  same : Same H₀ H
  out : ∀ a ∈ U, ∃ o, H a = some o
  outO : ∀ i ∈ O, rt i ∉ U
  lenS : σ.length = n
  lenE : env.length = n
  own : ∀ i ∈ O, i < n ∧ H₀ (rt i) = none ∧ σ[i]? = some (some (.ref (rt i))) ∧ ∃ xs ds, env[i]? = some (some (.lst ds)) ∧ H (rt i) = some (.lst xs) ∧ DWs K H (O.map rt ++ U) xs ds
  inj : ∀ i ∈ O, ∀ j ∈ O, rt i = rt j → i = j
  val : ∀ i d, i ∉ O → env[i]? = some (some d) → ∃ v, σ[i]? = some (some v) ∧ DW K H (O.map rt ++ U) v d
  est : Stab K E
  ext : E H (O.map rt ++ U)
section
variable {K : PySem.W.Frag} {n : Nat} {H₀ H H' : Hp} {U : List Addr} {O O' : List Nat} {E E' : EF} {rt : Nat → Addr} {env : DEnv} {σ : St}
theorem RR.alloc (r : RR K n H₀ H U O E rt env σ) : ∀ a ∈ O.map rt ++ U, ∃ o, H a = some o := fun a ha => by
  rcases List.mem_append.mp ha with h | h
  · obtain ⟨i, hi, rfl⟩ := List.mem_map.mp h
    obtain ⟨_, _, _, xs, ds, _, e, _⟩ := r.own i hi
    exact ⟨_, e⟩
  · exact r.out a h
theorem RR.grow (g : Same H H') (r : RR K n H₀ H U O E rt env σ) : RR K n H₀ H' U O E rt env σ where
  same := r.same.trans g
  out := fun a ha => by obtain ⟨o, e⟩ := r.out a ha; exact ⟨o, g _ _ e⟩
  outO := r.outO
  lenS := r.lenS
  lenE := r.lenE
  own := fun i hi => by
    obtain ⟨h0, h1, h2, xs, ds, h3, h4, h5⟩ := r.own i hi
    exact ⟨h0, h1, h2, xs, ds, h3, g _ _ h4, h5.same g⟩
  inj := r.inj
  val := fun i d hi e => by
    obtain ⟨v, h1, h2⟩ := r.val i d hi e
    exact ⟨v, h1, h2.same g⟩
  est := r.est
  ext := r.est _ _ _ _ (fun _ _ n z => ⟨n, z.same g⟩) (fun _ _ h => g.seqT h) r.ext
theorem RR.weak (s : ∀ i ∈ O', i ∈ O) (r : RR K n H₀ H U O E rt env σ) : RR K n H₀ H U O' E rt env σ := by
  have hs : ∀ a ∈ O'.map rt ++ U, a ∈ O.map rt ++ U := fun a ha => by
    rcases List.mem_append.mp ha with h | h
    · obtain ⟨i, hi, rfl⟩ := List.mem_map.mp h
      exact List.mem_append_left _ (List.mem_map.mpr ⟨i, s i hi, rfl⟩)
    · exact List.mem_append_right _ h
  refine ⟨r.same, r.out, fun i hi => r.outO i (s i hi), r.lenS, r.lenE, fun i hi => ?_, fun i hi j hj => r.inj i (s i hi) j (s j hj), fun i d hi e => ?_, r.est, r.est _ _ _ _ (fun a _ n z => ⟨fun w => n (hs a w), z⟩) (fun _ _ h => h) r.ext⟩
  · obtain ⟨h0, h1, h2, xs, ds, h3, h4, h5⟩ := r.own i (s i hi)
    exact ⟨h0, h1, h2, xs, ds, h3, h4, h5.sub hs⟩
  · by_cases ho : i ∈ O
    · obtain ⟨h0, h1, h2, xs, ds, h3, h4, h5⟩ := r.own i ho
      rw [e] at h3
      cases h3
      refine ⟨_, h2, ?_⟩
      simp only [DW]
      refine ⟨_, xs, rfl, .inl ⟨fun z => ?_, .inl h4⟩, h5.sub hs⟩
      rcases List.mem_append.mp z with z | z
      · obtain ⟨j, hj, ej⟩ := List.mem_map.mp z
        have := r.inj j (s j hj) i ho ej
        exact hi (this ▸ hj)
      · exact r.outO i ho z
    · obtain ⟨v, h1, h2⟩ := r.val i d ho e
      exact ⟨v, h1, h2.sub hs⟩
theorem RR.exts (hs : Stab K E') (s : ∀ H W, E H W → E' H W) (r : RR K n H₀ H U O E rt env σ) : RR K n H₀ H U O E' rt env σ :=
  ⟨r.same, r.out, r.outO, r.lenS, r.lenE, r.own, r.inj, r.val, hs, s _ _ r.ext⟩
theorem Stab.and (h : Stab K E) (h' : Stab K E') : Stab K (fun H W => E H W ∧ E' H W) := fun H H' W W' a b c => ⟨h _ _ _ _ a b c.1, h' _ _ _ _ a b c.2⟩
theorem RR.more (hs : Stab K E') (h : E' H (O.map rt ++ U)) (r : RR K n H₀ H U O E rt env σ) : RR K n H₀ H U O (fun H W => E' H W ∧ E H W) rt env σ :=
  ⟨r.same, r.out, r.outO, r.lenS, r.lenE, r.own, r.inj, r.val, hs.and r.est, h, r.ext⟩
theorem RR.forget {env' : DEnv} (hl : env'.length = env.length) (h : ∀ (i : Nat) (d : D), env'[i]? = some (some d) → env[i]? = some (some d)) (r : RR K n H₀ H U [] E rt env σ) : RR K n H₀ H U [] E rt env' σ :=
  ⟨r.same, r.out, r.outO, r.lenS, by rw [hl]; exact r.lenE, fun i hi => absurd hi (by simp), r.inj, fun i d hi e => r.val i d hi (h i d e), r.est, r.ext⟩
theorem RR.set {i : Nat} {v : V} {d : D} (hi : i ∉ O) (w : DW K H (O.map rt ++ U) v d) (r : RR K n H₀ H U O E rt env σ) : RR K n H₀ H U O E rt (env.set i (some d)) (σ.set i (some v)) := by
  refine ⟨r.same, r.out, r.outO, by rw [List.length_set]; exact r.lenS, by rw [List.length_set]; exact r.lenE, fun j hj => ?_, r.inj, fun j e hj ej => ?_, r.est, r.ext⟩
  · obtain ⟨h0, h1, h2, xs, ds, h3, h4, h5⟩ := r.own j hj
    have hij : i ≠ j := fun z => hi (z ▸ hj)
    exact ⟨h0, h1, by rw [List.getElem?_set_ne hij]; exact h2, xs, ds, by rw [List.getElem?_set_ne hij]; exact h3, h4, h5⟩
  · by_cases hij : i = j
    · subst hij
      have hlt : i < env.length := by
        obtain ⟨q, _⟩ := List.getElem?_eq_some_iff.mp ej
        rw [List.length_set] at q
        exact q
      rw [List.getElem?_set_self hlt] at ej
      cases ej
      exact ⟨v, List.getElem?_set_self (by rw [r.lenS, ← r.lenE]; exact hlt), w⟩
    · rw [List.getElem?_set_ne hij] at ej
      obtain ⟨u, h1, h2⟩ := r.val j e hj ej
      exact ⟨u, by rw [List.getElem?_set_ne hij]; exact h1, h2⟩
theorem map_if {i : Nat} {a : Addr} (hi : i ∉ O) : (i :: O).map (fun j => if j = i then a else rt j) = a :: O.map rt := by
  rw [List.map_cons, if_pos rfl]
  congr 1
  exact List.map_congr_left fun j hj => if_neg fun (z : j = i) => hi (z ▸ hj)
theorem RR.setOwn {i : Nat} {a : Addr} {xs : List V} {ds : List D} (hi : i ∉ O) (hn : i < n) (g : Same H H') (ha : H a = none) (e : H' a = some (.lst xs)) (w : DWs K H' (a :: (O.map rt ++ U)) xs ds)
    (r : RR K n H₀ H U O E rt env σ) : RR K n H₀ H' U (i :: O) E (fun j => if j = i then a else rt j) (env.set i (some (.lst ds))) (σ.set i (some (.ref a))) := by
  have hm := map_if (O := O) (rt := rt) (a := a) hi
  have hnew : ∀ j ∈ O, rt j ≠ a := fun j hj z => by
    obtain ⟨_, _, _, _, _, _, h4, _⟩ := r.own j hj
    rw [z, ha] at h4; cases h4
  have haU : a ∉ U := fun z => by obtain ⟨o, q⟩ := r.out a z; rw [ha] at q; cases q
  refine ⟨r.same.trans g, fun b hb => by obtain ⟨o, q⟩ := r.out b hb; exact ⟨o, g _ _ q⟩, fun j hj => ?_, by rw [List.length_set]; exact r.lenS, by rw [List.length_set]; exact r.lenE, fun j hj => ?_, fun j hj k hk => ?_, fun j d hj ej => ?_, r.est, ?_⟩
  · by_cases hij : j = i
    · rw [if_pos hij]; exact haU
    · rw [if_neg hij]
      rcases List.mem_cons.mp hj with z | z
      · exact absurd z hij
      · exact r.outO j z
  · by_cases hij : j = i
    · subst hij
      rw [if_pos rfl, hm]
      exact ⟨hn, r.same.free ha, List.getElem?_set_self (by rw [r.lenS]; exact hn), xs, ds, List.getElem?_set_self (by rw [r.lenE]; exact hn), e, w⟩
    · have hj' : j ∈ O := by
        rcases List.mem_cons.mp hj with z | z
        · exact absurd z hij
        · exact z
      obtain ⟨h0, h1, h2, ys, es, h3, h4, h5⟩ := r.own j hj'
      rw [if_neg hij, hm]
      have hij' : i ≠ j := fun z => hij z.symm
      exact ⟨h0, h1, by rw [List.getElem?_set_ne hij']; exact h2, ys, es, by rw [List.getElem?_set_ne hij']; exact h3, g _ _ h4, (h5.fresh ha).same g⟩
  · intro z
    by_cases h1 : j = i <;> by_cases h2 : k = i
    · rw [h1, h2]
    · rw [if_pos h1, if_neg h2] at z
      rcases List.mem_cons.mp hk with q | q
      · exact absurd q h2
      · exact absurd z.symm (hnew k q)
    · rw [if_neg h1, if_pos h2] at z
      rcases List.mem_cons.mp hj with q | q
      · exact absurd q h1
      · exact absurd z (hnew j q)
    · rw [if_neg h1, if_neg h2] at z
      rcases List.mem_cons.mp hj with q | q
      · exact absurd q h1
      · rcases List.mem_cons.mp hk with q' | q'
        · exact absurd q' h2
        · exact r.inj j q k q' z
  · have hij : i ≠ j := fun z => hj (z ▸ List.mem_cons_self)
    rw [List.getElem?_set_ne hij] at ej
    obtain ⟨u, h1, h2⟩ := r.val j d (fun z => hj (List.mem_cons_of_mem _ z)) ej
    rw [hm]
    exact ⟨u, by rw [List.getElem?_set_ne hij]; exact h1, (h2.fresh ha).same g⟩
  · rw [hm]
    exact r.est _ _ _ _ (fun b xs n z => ⟨(fresh_off ha n z).1, z.same g⟩) (fun _ _ h => g.seqT h) r.ext
theorem RR.write {i : Nat} {xs' : List V} {ds' : List D} (hi : i ∈ O) (w : DWs K H (O.map rt ++ U) xs' ds') (r : RR K n H₀ H U O E rt env σ) : RR K n H₀ (upd H (rt i) (.lst xs')) U O E rt (env.set i (some (.lst ds'))) σ := by
  obtain ⟨h0, h1, h2, xs, ds, h3, h4, h5⟩ := r.own i hi
  have hw : rt i ∈ O.map rt ++ U := List.mem_append_left _ (List.mem_map.mpr ⟨i, hi, rfl⟩)
  refine ⟨Same.upd_l r.same h1 _, fun b hb => ?_, r.outO, r.lenS, by rw [List.length_set]; exact r.lenE, fun j hj => ?_, r.inj, fun j d hj ej => ?_, r.est, r.est _ _ _ _ (fun _ _ n z => ⟨n, z.off fun e => n (e ▸ hw)⟩) (fun _ _ h => h.off h4) r.ext⟩
  · obtain ⟨o, q⟩ := r.out b hb
    exact ⟨o, by rw [upd_ne (fun (z : b = rt i) => r.outO i hi (by rw [← z]; exact hb))]; exact q⟩
  · by_cases hij : i = j
    · subst hij
      exact ⟨h0, h1, h2, xs', ds', List.getElem?_set_self (by rw [r.lenE]; exact h0), upd_same, w.upd hw h4⟩
    · obtain ⟨k0, k1, k2, ys, es, k3, k4, k5⟩ := r.own j hj
      refine ⟨k0, k1, k2, ys, es, by rw [List.getElem?_set_ne hij]; exact k3, ?_, k5.upd hw h4⟩
      rw [upd_ne (fun z => hij (r.inj i hi j hj z.symm))]
      exact k4
  · have hij : i ≠ j := fun z => hj (z ▸ hi)
    rw [List.getElem?_set_ne hij] at ej
    obtain ⟨u, q1, q2⟩ := r.val j d hj ej
    exact ⟨u, q1, q2.upd hw h4⟩
end
end L2
set_option maxHeartbeats 4000000
namespace L2
open PySem PySem.Spec PyProof.Rows
noncomputable abbrev DFn := DEnv → Option D
noncomputable def RdE (K : PySem.W.Frag) (O : List Nat) (te : TE) (f : DFn) : Prop :=
  ∀ n H₀ H U E rt env σ d Q, RR K n H₀ H U O E rt env σ → f env = some d → (∀ v H', Same H H' → DW K H' (O.map rt ++ U) v d → Q v H') → te σ H Q
noncomputable def RdR (K : PySem.W.Frag) (O : List Nat) (te : TE) (f : DFn) : Prop :=
  ∀ n H₀ H U E rt env σ d Q, RR K n H₀ H U O E rt env σ → f env = some d → (∀ v H', Same H H' → DWr K H' (O.map rt ++ U) v d → Q v H') → te σ H Q
noncomputable def RdN (K : PySem.W.Frag) (O : List Nat) (te : TE) (f : DFn) : Prop :=
  ∀ n H₀ H U E rt env σ d Q, RR K n H₀ H U O E rt env σ → f env = some d →
    (∀ a H' xs ds, d = .lst ds → Same H H' → H a = none → H' a = some (.lst xs) → DWs K H' (a :: (O.map rt ++ U)) xs ds → Q (.ref a) H') → te σ H Q
noncomputable def RdT (K : PySem.W.Frag) (O : List Nat) (tt : TT) (f : DEnv → Option Bool) : Prop :=
  ∀ n H₀ H U E rt env σ b Q, RR K n H₀ H U O E rt env σ → f env = some b → (∀ H', Same H H' → Q b H') → tt σ H Q
noncomputable def RdA (K : PySem.W.Frag) (O : List Nat) (ta : TA) (f : DEnv → Option (List D)) : Prop :=
  ∀ n H₀ H U E rt env σ ds Q, RR K n H₀ H U O E rt env σ → f env = some ds → (∀ vs H', Same H H' → DWs K H' (O.map rt ++ U) vs ds → Q vs H') → ta σ H Q
noncomputable def DWrs (K : PySem.W.Frag) (H : Hp) (W : List Addr) : List V → List D → Prop
  | [], [] => True
  | x :: xs, d :: ds => DWr K H W x d ∧ DWrs K H W xs ds
  | _, _ => False
noncomputable def RdAr (K : PySem.W.Frag) (O : List Nat) (ta : TA) (f : DEnv → Option (List D)) : Prop :=
  ∀ n H₀ H U E rt env σ ds Q, RR K n H₀ H U O E rt env σ → f env = some ds → (∀ vs H', Same H H' → DWrs K H' (O.map rt ++ U) vs ds → Q vs H') → ta σ H Q
section
variable {K : PySem.W.Frag} {O : List Nat} {ta tb te : TE} {fa fb f : DFn} {tt tu : TT} {ga gb : DEnv → Option Bool}
theorem RdE.r (h : RdE K O te f) : RdR K O te f := fun n H₀ H U E rt env σ d Q r e q => h n H₀ H U E rt env σ d Q r e fun v H' g w => q v H' g w.r
theorem RdN.e (h : RdN K O te f) : RdE K O te f := fun n H₀ H U E rt env σ d Q r e q => h n H₀ H U E rt env σ d Q r e fun a H' xs ds hd g ha e' w => by
  subst hd
  exact q _ _ g (DW.laid (H := H) r.alloc ha (w.sub fun b hb => List.mem_cons_of_mem _ hb) e')
noncomputable def gv (i : Nat) : DFn := fun env => (env[i]?).join
theorem gv_some {i : Nat} {env : DEnv} {d : D} (h : gv i env = some d) : env[i]? = some (some d) := by
  unfold gv at h
  cases e : env[i]? with
  | none => rw [e] at h; cases h
  | some o => rw [e] at h; cases o with
    | none => cases h
    | some x => cases h; rfl
theorem rd_var {i : Nat} (hi : i ∉ O := by decide) : RdE K O (tVar i) (gv i) := fun n H₀ H U E rt env σ d Q r e q => by
  obtain ⟨v, h1, h2⟩ := r.val i d hi (gv_some e)
  exact ⟨v, h1, q v H (Same.refl _) h2⟩
theorem rr_own {i : Nat} (hi : i ∈ O := by decide) : RdR K O (tVar i) (gv i) := fun n H₀ H U E rt env σ d Q r e q => by
  obtain ⟨_, _, h2, xs, ds, h3, h4, h5⟩ := r.own i hi
  rw [gv_some e] at h3
  cases h3
  exact ⟨_, h2, q _ H (Same.refl _) ⟨_, xs, rfl, SqL.of h4, h5⟩⟩
noncomputable def dc (d : D) : DFn := fun _ => some d
theorem rd_int {i : Int} : RdE K O (tC (.int i)) (dc (.int i)) := fun n H₀ H U E rt env σ d Q r e q => by
  cases e; exact q _ H (Same.refl _) (by simp only [DW])
theorem rd_bl {b : Bool} : RdE K O (tC (.bl b)) (dc (.bl b)) := fun n H₀ H U E rt env σ d Q r e q => by
  cases e; exact q _ H (Same.refl _) (by simp only [DW])
theorem rd_str {x : Str} : RdE K O (tC (.str x)) (dc (.str x)) := fun n H₀ H U E rt env σ d Q r e q => by
  cases e; exact q _ H (Same.refl _) (by simp only [DW])
theorem rd_non : RdE K O (tC .non) (dc .non) := fun n H₀ H U E rt env σ d Q r e q => by
  cases e; exact q _ H (Same.refl _) (by simp only [DW])
theorem rd_con {v : V} {d : D} (h : ∀ H W, DW K H W v d) : RdE K O (tC v) (dc d) := fun n H₀ H U E rt env σ d' Q r e q => by
  cases e; exact q _ H (Same.refl _) (h H _)
noncomputable def RdOp (K : PySem.W.Frag) (r : R2) (g : D → D → Option D) : Prop :=
  ∀ H W x y dx dy d Q, (∀ a ∈ W, ∃ o, H a = some o) → DWr K H W x dx → DWr K H W y dy → g dx dy = some d → (∀ v H', Same H H' → DW K H' W v d → Q v H') → r x y H Q
noncomputable def eBin (g : D → D → Option D) (fa fb : DFn) : DFn := fun env => (fa env).bind fun x => (fb env).bind fun y => g x y
theorem rd_op {r : R2} {g : D → D → Option D} (hg : RdOp K r g) (ha : RdR K O ta fa) (hb : RdR K O tb fb) : RdE K O (tOp r ta tb) (eBin g fa fb) := fun n H₀ H U E rt env σ d Q r e q => by
  obtain ⟨x, ex, e⟩ := Option.bind_eq_some_iff.mp e
  obtain ⟨y, ey, e⟩ := Option.bind_eq_some_iff.mp e
  refine ha _ _ _ _ _ _ _ _ x _ r ex fun v H1 g1 w1 => ?_
  refine hb _ _ _ _ _ _ _ _ y _ (r.grow g1) ey fun u H2 g2 w2 => ?_
  exact hg _ _ _ _ x y d Q ((r.grow g1).grow g2).alloc (w1.same g2) w2 e fun z H3 g3 w3 => q z H3 (g1.trans (g2.trans g3)) w3
noncomputable def dI (C : Int → Int → Bool) (g : Int → Int → D) : D → D → Option D
  | .int i, .int j => if C i j = true then some (g i j) else none
  | _, _ => none
theorem rdo_I {C : Int → Int → Prop} {Cb : Int → Int → Bool} {g : Int → Int → Int} (hC : ∀ i j, Cb i j = true → C i j) : RdOp K (rI C fun i j => .int (g i j)) (dI Cb fun i j => .int (g i j)) :=
  fun H W x y dx dy d Q hW w1 w2 e q => by
    cases dx with
    | int i => cases dy with
      | int j =>
        simp only [dI] at e
        by_cases c : Cb i j = true
        · rw [if_pos c] at e; cases e
          simp only [DWr, DW] at w1 w2
          exact ⟨i, j, w1, w2, hC i j c, q _ H (Same.refl _) (by simp only [DW])⟩
        · rw [if_neg c] at e; cases e
      | _ => simp [dI] at e
    | _ => simp [dI] at e
theorem rdo_I0 {g : Int → Int → Int} : RdOp K (rI0 fun i j => .int (g i j)) (dI (fun _ _ => true) fun i j => .int (g i j)) :=
  fun H W x y dx dy d Q hW w1 w2 e q => by
    cases dx with
    | int i => cases dy with
      | int j =>
        simp only [dI, if_true] at e
        cases e
        simp only [DWr, DW] at w1 w2
        exact ⟨i, j, w1, w2, q _ H (Same.refl _) (by simp only [DW])⟩
      | _ => simp [dI] at e
    | _ => simp [dI] at e
theorem rdo_B0 {g : Int → Int → Bool} : RdOp K (rI0 fun i j => .bl (g i j)) (dI (fun _ _ => true) fun i j => .bl (g i j)) :=
  fun H W x y dx dy d Q hW w1 w2 e q => by
    cases dx with
    | int i => cases dy with
      | int j =>
        simp only [dI, if_true] at e
        cases e
        simp only [DWr, DW] at w1 w2
        exact ⟨i, j, w1, w2, q _ H (Same.refl _) (by simp only [DW])⟩
      | _ => simp [dI] at e
    | _ => simp [dI] at e
noncomputable def tBl : D → Option Bool
  | .bl b => some b
  | _ => none
theorem tBl_some {d : D} {b : Bool} (h : tBl d = some b) : d = .bl b := by
  cases d with
  | bl c => simp only [tBl] at h; cases h; rfl
  | _ => simp [tBl] at h
noncomputable def eAnd (fa fb : DFn) : DFn := fun env => ((fa env).bind tBl).bind fun b => if b = true then fb env else some (.bl false)
noncomputable def eNot (fa : DFn) : DFn := fun env => ((fa env).bind tBl).bind fun b => some (.bl (!b))
theorem rd_and (ha : RdR K O ta fa) (hb : RdE K O tb fb) : RdE K O (tAndV ta tb) (eAnd fa fb) := fun n H₀ H U E rt env σ d Q r e q => by
  obtain ⟨b, eb, e⟩ := Option.bind_eq_some_iff.mp e
  obtain ⟨x, ex, eb⟩ := Option.bind_eq_some_iff.mp eb
  have := tBl_some eb; subst this
  refine ha _ _ _ _ _ _ _ _ _ _ r ex fun v H1 g1 w1 => ⟨b, by simpa only [DWr, DW] using w1, ?_⟩
  cases b with
  | true => rw [if_pos rfl] at e ⊢; exact hb _ _ _ _ _ _ _ _ d Q (r.grow g1) e fun v H2 g2 w => q v H2 (g1.trans g2) w
  | false => rw [if_neg Bool.false_ne_true] at e ⊢; cases e; exact q _ H1 g1 (by simp only [DW])
theorem rd_not (ha : RdR K O ta fa) : RdE K O (tNotV ta) (eNot fa) := fun n H₀ H U E rt env σ d Q r e q => by
  obtain ⟨b, eb, e⟩ := Option.bind_eq_some_iff.mp e
  obtain ⟨x, ex, eb⟩ := Option.bind_eq_some_iff.mp eb
  have := tBl_some eb; subst this
  cases e
  exact ha _ _ _ _ _ _ _ _ _ _ r ex fun v H1 g1 w1 => ⟨b, by simpa only [DWr, DW] using w1, q _ H1 g1 (by simp only [DW])⟩
noncomputable def bT (f : DFn) : DEnv → Option Bool := fun env => (f env).bind tBl
theorem rt_cmp (h : RdR K O te f) : RdT K O (tTest te) (bT f) := fun n H₀ H U E rt env σ b Q r e q => by
  obtain ⟨x, ex, eb⟩ := Option.bind_eq_some_iff.mp e
  have := tBl_some eb; subst this
  exact h _ _ _ _ _ _ _ _ _ _ r ex fun v H1 g1 w1 => ⟨b, by simpa only [DWr, DW] using w1, q H1 g1⟩
theorem rt_val (h : RdR K O te f) : RdT K O (tB te) (bT f) := fun n H₀ H U E rt env σ b Q r e q => by
  obtain ⟨x, ex, eb⟩ := Option.bind_eq_some_iff.mp e
  have := tBl_some eb; subst this
  exact h _ _ _ _ _ _ _ _ _ _ r ex fun v H1 g1 w1 => ⟨b, by simpa only [DWr, DW] using w1, q H1 g1⟩
noncomputable def bAnd (a b : DEnv → Option Bool) : DEnv → Option Bool := fun env => (a env).bind fun c => if c = true then b env else some false
noncomputable def bOr (a b : DEnv → Option Bool) : DEnv → Option Bool := fun env => (a env).bind fun c => if c = true then some true else b env
noncomputable def bNot (a : DEnv → Option Bool) : DEnv → Option Bool := fun env => (a env).bind fun c => some (!c)
theorem rt_and (ha : RdT K O tt ga) (hb : RdT K O tu gb) : RdT K O (tAnd tt tu) (bAnd ga gb) := fun n H₀ H U E rt env σ b Q r e q => by
  obtain ⟨c, ec, e⟩ := Option.bind_eq_some_iff.mp e
  refine ha _ _ _ _ _ _ _ _ c _ r ec fun H1 g1 => ?_
  cases c with
  | true => rw [if_pos rfl] at e ⊢; exact hb _ _ _ _ _ _ _ _ b Q (r.grow g1) e fun H2 g2 => q H2 (g1.trans g2)
  | false => rw [if_neg Bool.false_ne_true] at e ⊢; cases e; exact q H1 g1
theorem rt_or (ha : RdT K O tt ga) (hb : RdT K O tu gb) : RdT K O (tOr tt tu) (bOr ga gb) := fun n H₀ H U E rt env σ b Q r e q => by
  obtain ⟨c, ec, e⟩ := Option.bind_eq_some_iff.mp e
  refine ha _ _ _ _ _ _ _ _ c _ r ec fun H1 g1 => ?_
  cases c with
  | true => rw [if_pos rfl] at e ⊢; cases e; exact q H1 g1
  | false => rw [if_neg Bool.false_ne_true] at e ⊢; exact hb _ _ _ _ _ _ _ _ b Q (r.grow g1) e fun H2 g2 => q H2 (g1.trans g2)
theorem rt_not (ha : RdT K O tt ga) : RdT K O (tNot tt) (bNot ga) := fun n H₀ H U E rt env σ b Q r e q => by
  obtain ⟨c, ec, e⟩ := Option.bind_eq_some_iff.mp e
  cases e
  exact ha _ _ _ _ _ _ _ _ c _ r ec fun H1 g1 => q H1 g1
variable {ts : TA} {fs : DEnv → Option (List D)}
noncomputable def aNil : DEnv → Option (List D) := fun _ => some []
noncomputable def aCons (f : DFn) (fs : DEnv → Option (List D)) : DEnv → Option (List D) := fun env => (f env).bind fun x => (fs env).bind fun xs => some (x :: xs)
theorem ra_nil : RdA K O tNil aNil := fun n H₀ H U E rt env σ ds Q r e q => by
  cases e; exact q [] H (Same.refl _) (by simp [DWs])
theorem ra_cons (ha : RdE K O te f) (hs : RdA K O ts fs) : RdA K O (tCons te ts) (aCons f fs) := fun n H₀ H U E rt env σ ds Q r e q => by
  obtain ⟨x, ex, e⟩ := Option.bind_eq_some_iff.mp e
  obtain ⟨xs, exs, e⟩ := Option.bind_eq_some_iff.mp e
  cases e
  refine ha _ _ _ _ _ _ _ _ x _ r ex fun v H1 g1 w1 => ?_
  refine hs _ _ _ _ _ _ _ _ xs _ (r.grow g1) exs fun vs H2 g2 w2 => ?_
  exact q _ H2 (g1.trans g2) (by simp only [DWs]; exact ⟨w1.same g2, w2⟩)
theorem rar_nil : RdAr K O tNil aNil := fun n H₀ H U E rt env σ ds Q r e q => by
  cases e; exact q [] H (Same.refl _) trivial
theorem rar_cons (ha : RdR K O te f) (hs : RdAr K O ts fs) : RdAr K O (tCons te ts) (aCons f fs) := fun n H₀ H U E rt env σ ds Q r e q => by
  obtain ⟨x, ex, e⟩ := Option.bind_eq_some_iff.mp e
  obtain ⟨xs, exs, e⟩ := Option.bind_eq_some_iff.mp e
  cases e
  refine ha _ _ _ _ _ _ _ _ x _ r ex fun v H1 g1 w1 => ?_
  refine hs _ _ _ _ _ _ _ _ xs _ (r.grow g1) exs fun vs H2 g2 w2 => ?_
  exact q _ H2 (g1.trans g2) ⟨w1.same g2, w2⟩
noncomputable def eLst (fs : DEnv → Option (List D)) : DFn := fun env => (fs env).bind fun ds => if ds.length ≤ lim then some (.lst ds) else none
noncomputable def eTup (fs : DEnv → Option (List D)) : DFn := fun env => (fs env).bind fun ds => if ds.length ≤ lim then some (.tup ds) else none
theorem rn_lst (hs : RdA K O ts fs) : RdN K O (tLst ts) (eLst fs) := fun n H₀ H U E rt env σ d Q r e q => by
  obtain ⟨ds, eds, e⟩ := Option.bind_eq_some_iff.mp e
  by_cases c : ds.length ≤ lim
  · rw [if_pos c] at e; cases e
    refine hs _ _ _ _ _ _ _ _ ds _ r eds fun vs H1 g1 w1 => ⟨by rw [w1.length]; exact lim_le c, fun p hp => ?_⟩
    exact q p _ vs ds rfl (g1.trans (same_upd hp _)) (g1.free hp) upd_same ((w1.fresh hp).same (same_upd hp _))
  · rw [if_neg c] at e; cases e
theorem rd_tup (hs : RdA K O ts fs) : RdE K O (tTup ts) (eTup fs) := fun n H₀ H U E rt env σ d Q r e q => by
  obtain ⟨ds, eds, e⟩ := Option.bind_eq_some_iff.mp e
  by_cases c : ds.length ≤ lim
  · rw [if_pos c] at e; cases e
    refine hs _ _ _ _ _ _ _ _ ds _ r eds fun vs H1 g1 w1 => ⟨by rw [w1.length]; exact lim_le c, fun p hp => ?_⟩
    refine q _ _ (g1.trans (same_upd hp _)) ?_
    simp only [DW]
    exact ⟨p, vs, rfl, SqT.of upd_same, w1.same (same_upd hp _)⟩
  · rw [if_neg c] at e; cases e
noncomputable def RdC (K : PySem.W.Frag) (r : List V → Hp → VK → Prop) (g : List D → Option D) : Prop :=
  ∀ H W xs ds d Q, (∀ a ∈ W, ∃ o, H a = some o) → DWrs K H W xs ds → g ds = some d → (∀ v H', Same H H' → DW K H' W v d → Q v H') → r xs H Q
noncomputable def RdCN (K : PySem.W.Frag) (r : List V → Hp → VK → Prop) (g : List D → Option D) : Prop :=
  ∀ H W xs ds d Q, (∀ a ∈ W, ∃ o, H a = some o) → DWrs K H W xs ds → g ds = some d →
    (∀ a H' ys es, d = .lst es → Same H H' → H a = none → H' a = some (.lst ys) → DWs K H' (a :: W) ys es → Q (.ref a) H') → r xs H Q
noncomputable def eCB (g : List D → Option D) (fs : DEnv → Option (List D)) : DFn := fun env => (fs env).bind g
theorem rd_cb {r : List V → Hp → VK → Prop} {g : List D → Option D} (hg : RdC K r g) (hs : RdAr K O ts fs) : RdE K O (tCB r ts) (eCB g fs) := fun n H₀ H U E rt env σ d Q r e q => by
  obtain ⟨ds, eds, e⟩ := Option.bind_eq_some_iff.mp e
  refine hs _ _ _ _ _ _ _ _ ds _ r eds fun vs H1 g1 w1 => ?_
  exact hg _ _ _ _ _ _ (r.grow g1).alloc w1 e fun v H2 g2 w2 => q v H2 (g1.trans g2) w2
theorem rn_cb {r : List V → Hp → VK → Prop} {g : List D → Option D} (hg : RdCN K r g) (hs : RdAr K O ts fs) : RdN K O (tCB r ts) (eCB g fs) := fun n H₀ H U E rt env σ d Q r e q => by
  obtain ⟨ds, eds, e⟩ := Option.bind_eq_some_iff.mp e
  refine hs _ _ _ _ _ _ _ _ ds _ r eds fun vs H1 g1 w1 => ?_
  exact hg _ _ _ _ _ _ (r.grow g1).alloc w1 e fun a H2 ys es hd g2 hn he w2 => q a H2 ys es hd (g1.trans g2) (g1.free hn) he w2
noncomputable def RetOk (K : PySem.W.Frag) (fr : Bool) (H₀ H' : Hp) (U : List Addr) (v : V) (d : D) : Prop :=
  DW K H' U v d ∧ (fr = true → ∃ a xs ds, v = .ref a ∧ d = .lst ds ∧ H₀ a = none ∧ H' a = some (.lst xs) ∧ DWs K H' (a :: U) xs ds)
noncomputable def dsp (K : PySem.W.Frag) (np : Nat) (fr : Bool) (mir : List D → Option D) : Sp := fun vs H Q _ => ∃ U ds d, vs.length = np ∧ (∀ a ∈ U, ∃ o, H a = some o) ∧ DWs K H U vs ds ∧ mir ds = some d ∧
  ∀ v H', Same H H' → RetOk K fr H H' U v d → Q v H'
theorem dsp_len {np : Nat} {fr : Bool} {mir : List D → Option D} {vs : List V} {H : Hp} {Q : VK} {E : XK} (h : dsp K np fr mir vs H Q E) : vs.length = np := by
  obtain ⟨_, _, _, h, _⟩ := h; exact h
noncomputable def eCall (np : Nat) (mir : List D → Option D) (fs : DEnv → Option (List D)) : DFn := fun env => (fs env).bind fun ds => if ds.length = np then mir ds else none
theorem rd_call {np : Nat} {fr : Bool} {mir : List D → Option D} {E' : XK} (hs : RdA K O ts fs) : RdE K O (tCall (dsp K np fr mir) [] E' ts) (eCall np mir fs) := fun n H₀ H U E rt env σ d Q r e q => by
  obtain ⟨ds, eds, e⟩ := Option.bind_eq_some_iff.mp e
  by_cases c : ds.length = np
  · rw [if_pos c] at e
    refine hs _ _ _ _ _ _ _ _ ds _ r eds fun vs H1 g1 w1 => ?_
    rw [List.append_nil]
    exact ⟨O.map rt ++ U, ds, d, by rw [w1.length]; exact c, (r.grow g1).alloc, w1, e, fun v H2 g2 w2 => q v H2 (g1.trans g2) w2.1⟩
  · rw [if_neg c] at e; cases e
theorem rn_call {np : Nat} {mir : List D → Option D} {E' : XK} (hs : RdA K O ts fs) : RdN K O (tCall (dsp K np true mir) [] E' ts) (eCall np mir fs) := fun n H₀ H U E rt env σ d Q r e q => by
  obtain ⟨ds, eds, e⟩ := Option.bind_eq_some_iff.mp e
  by_cases c : ds.length = np
  · rw [if_pos c] at e
    refine hs _ _ _ _ _ _ _ _ ds _ r eds fun vs H1 g1 w1 => ?_
    rw [List.append_nil]
    refine ⟨O.map rt ++ U, ds, d, by rw [w1.length]; exact c, (r.grow g1).alloc, w1, e, fun v H2 g2 w2 => ?_⟩
    obtain ⟨a, xs, es, rfl, hd, hn, he, w⟩ := w2.2 rfl
    exact q a H2 xs es hd (g1.trans g2) (g1.free hn) he w
  · rw [if_neg c] at e; cases e
end
inductive Out where
  | nx (env : DEnv) | rt (d : D) | bk (env : DEnv) | ct (env : DEnv)
noncomputable abbrev DSt := DEnv → Option Out
noncomputable def EndOk (K : PySem.W.Frag) (n : Nat) (fr : Bool) (O1 Ob : List Nat) (H₀ : Hp) (U : List Addr) (E : EF) (D : Ends) : Out → Prop
  | .nx env' => ∀ rt σ' H', RR K n H₀ H' U O1 E rt env' σ' → D.nx σ' H'
  | .bk env' => ∀ rt σ' H', RR K n H₀ H' U Ob E rt env' σ' → D.bk σ' H'
  | .ct env' => ∀ rt σ' H', RR K n H₀ H' U Ob E rt env' σ' → D.ct σ' H'
  | .rt d => ∀ v H', Same H₀ H' → RetOk K fr H₀ H' U v d → D.rt v H'
noncomputable def RdS (K : PySem.W.Frag) (n : Nat) (fr : Bool) (Ob O : List Nat) (ts : TS) (m : DSt) (O1 : List Nat) : Prop :=
  ∀ H₀ H U E rt env σ o D, RR K n H₀ H U O E rt env σ → m env = some o → EndOk K n fr O1 Ob H₀ U E D o → ts D σ H
section
variable {K : PySem.W.Frag} {n : Nat} {fr : Bool} {Ob O O1 O2 : List Nat} {te : TE} {f : DFn} {t u : TS} {m k : DSt} {tt : TT} {c : DEnv → Option Bool}
theorem rs_let (O' : List Nat) (h : RdS K n fr Ob O' t m O1) (s : ∀ i ∈ O', i ∈ O := by decide) : RdS K n fr Ob O t m O1 := fun H₀ H U E rt env σ o D r e q => h _ _ _ _ _ _ _ _ _ (r.weak s) e q
theorem rs_end (O' : List Nat) (h : RdS K n fr Ob O t m O') (s : ∀ i ∈ O1, i ∈ O' := by decide) : RdS K n fr Ob O t m O1 := fun H₀ H U E rt env σ o D r e q => h _ _ _ _ _ _ _ _ _ r e (by
  cases o with
  | nx env' => exact fun rt' σ' H' r' => q rt' σ' H' (r'.weak s)
  | _ => exact q)
noncomputable def sNext : DSt := fun env => some (.nx env)
theorem rs_next : RdS K n fr Ob O tNext sNext O := fun H₀ H U E rt env σ o D r e q => by cases e; exact q rt σ H r
noncomputable def sSeq (m k : DSt) : DSt := fun env => (m env).bind fun o => match o with
  | .nx env' => k env'
  | .rt d => some (.rt d)
  | .bk e => some (.bk e)
  | .ct e => some (.ct e)
theorem rs_seq (h1 : RdS K n fr Ob O t m O1) (h2 : RdS K n fr Ob O1 u k O2) : RdS K n fr Ob O (tSeq t u) (sSeq m k) O2 := fun H₀ H U E rt env σ o D r e q => by
  obtain ⟨o1, e1, e⟩ := Option.bind_eq_some_iff.mp e
  refine h1 _ _ _ _ _ _ _ o1 _ r e1 ?_
  cases o1 with
  | nx env' => exact fun rt' σ' H' r' => h2 _ _ _ _ _ _ _ o D r' e q
  | rt d => cases e; exact q
  | bk e' => cases e; exact q
  | ct e' => cases e; exact q
noncomputable def sNever : DSt := fun _ => none
theorem rs_never : RdS K n fr Ob O tNever sNever O1 := fun H₀ H U E rt env σ o D r e q => by cases e
noncomputable def sDo (f : DFn) : DSt := fun env => (f env).bind fun _ => some (.nx env)
theorem rs_do (h : RdE K O te f) : RdS K n fr Ob O (tDrop te) (sDo f) O := fun H₀ H U E rt env σ o D r e q => by
  obtain ⟨d, ed, e⟩ := Option.bind_eq_some_iff.mp e
  cases e
  exact h _ _ _ _ _ _ _ _ d _ r ed fun v H1 g1 _ => q rt σ H1 (r.grow g1)
noncomputable def sRet (f : DFn) : DSt := fun env => (f env).bind fun d => some (.rt d)
theorem rs_ret (h : RdE K O te f) : RdS K n false Ob O (tRet te) (sRet f) O1 := fun H₀ H U E rt env σ o D r e q => by
  obtain ⟨d, ed, e⟩ := Option.bind_eq_some_iff.mp e
  cases e
  exact h _ _ _ _ _ _ _ _ d _ r ed fun v H1 g1 w => q v H1 (r.same.trans g1) ⟨w.sub fun a ha => List.mem_append_right _ ha, fun z => by cases z⟩
theorem rs_retN (h : RdN K O te f) : RdS K n fr Ob O (tRet te) (sRet f) O1 := fun H₀ H U E rt env σ o D r e q => by
  obtain ⟨d, ed, e⟩ := Option.bind_eq_some_iff.mp e
  cases e
  refine h _ _ _ _ _ _ _ _ d _ r ed fun a H1 xs ds hd g1 hn he w => q _ H1 (r.same.trans g1) ?_
  subst hd
  have w2 : DWs K H1 (a :: U) xs ds := w.sub fun b hb => by
    rcases List.mem_cons.mp hb with z | z
    · rw [z]; exact List.mem_cons_self
    · exact List.mem_cons_of_mem _ (List.mem_append_right _ z)
  have h0 : H₀ a = none := r.same.free hn
  exact ⟨DW.laid (H := H) r.out hn (w2.sub fun b hb => List.mem_cons_of_mem _ hb) he, fun _ => ⟨a, xs, ds, rfl, rfl, h0, he, w2⟩⟩
theorem rs_retO {i : Nat} (hi : i ∈ O := by decide) : RdS K n fr Ob O (tRet (tVar i)) (sRet (gv i)) O1 := fun H₀ H U E rt env σ o D r e q => by
  obtain ⟨d, ed, e⟩ := Option.bind_eq_some_iff.mp e
  cases e
  obtain ⟨h0, h1, h2, xs, ds, h3, h4, h5⟩ := r.own i hi
  rw [gv_some ed] at h3
  cases h3
  refine ⟨_, h2, q _ H r.same ?_⟩
  have w2 : DWs K H (rt i :: U) xs ds := h5.sub fun b hb => by
    rcases List.mem_cons.mp hb with z | z
    · rw [z]; exact List.mem_append_left _ (List.mem_map.mpr ⟨i, hi, rfl⟩)
    · exact List.mem_append_right _ z
  refine ⟨?_, fun _ => ⟨_, xs, ds, rfl, rfl, h1, h4, w2⟩⟩
  simp only [DW]
  exact ⟨_, xs, rfl, .inl ⟨r.outO i hi, .inl h4⟩, w2.sub fun b hb => List.mem_cons_of_mem _ hb⟩
noncomputable def sIf (c : DEnv → Option Bool) (m k : DSt) : DSt := fun env => (c env).bind fun b => if b = true then m env else k env
theorem rs_if (hc : RdT K O tt c) (h1 : RdS K n fr Ob O t m O1) (h2 : RdS K n fr Ob O u k O1) : RdS K n fr Ob O (tIfS tt t u) (sIf c m k) O1 := fun H₀ H U E rt env σ o D r e q => by
  obtain ⟨b, eb, e⟩ := Option.bind_eq_some_iff.mp e
  refine hc _ _ _ _ _ _ _ _ b _ r eb fun H1 g1 => ?_
  cases b with
  | true => rw [if_pos rfl] at e ⊢; exact h1 _ _ _ _ _ _ _ o D (r.grow g1) e q
  | false => rw [if_neg Bool.false_ne_true] at e ⊢; exact h2 _ _ _ _ _ _ _ o D (r.grow g1) e q
noncomputable def sSet (i : Nat) (f : DFn) : DSt := fun env => (f env).bind fun d => some (.nx (env.set i (some d)))
theorem rs_set {i : Nat} (h : RdE K O te f) (hi : i ∉ O := by decide) : RdS K n fr Ob O (tAsg te (gName i)) (sSet i f) O := fun H₀ H U E rt env σ o D r e q => by
  obtain ⟨d, ed, e⟩ := Option.bind_eq_some_iff.mp e
  cases e
  exact h _ _ _ _ _ _ _ _ d _ r ed fun v H1 g1 w => q rt _ H1 ((r.grow g1).set hi w)
theorem rs_setN {i : Nat} (h : RdN K O te f) (hi : i ∉ O := by decide) (hn : i < n := by decide) : RdS K n fr Ob O (tAsg te (gName i)) (sSet i f) (i :: O) := fun H₀ H U E rt env σ o D r e q => by
  obtain ⟨d, ed, e⟩ := Option.bind_eq_some_iff.mp e
  cases e
  refine h _ _ _ _ _ _ _ _ d _ r ed fun a H1 xs ds hd g1 ha he w => ?_
  subst hd
  exact q _ _ H1 (r.setOwn hi hn g1 ha he w)
noncomputable def sApp (i : Nat) (f : DFn) : DSt := fun env => match gv i env with
  | some (.lst ds) => (f env).bind fun d => if ds.length < lim then some (.nx (env.set i (some (.lst (ds ++ [d]))))) else none
  | _ => none
theorem rs_app {i : Nat} (h : RdE K O te f) (hi : i ∈ O := by decide) : RdS K n fr Ob O (tDrop (tBM K "list" rAppend (tVar i) (tCons te tNil))) (sApp i f) O := fun H₀ H U E rt env σ o D r e q => by
  obtain ⟨h0, h1, h2, xs, ds, h3, h4, h5⟩ := r.own i hi
  have eg : gv i env = some (.lst ds) := by unfold gv; rw [h3]; rfl
  unfold sApp at e
  rw [eg] at e
  dsimp only at e
  obtain ⟨d, ed, e⟩ := Option.bind_eq_some_iff.mp e
  by_cases c : ds.length < lim
  · rw [if_pos c] at e; cases e
    refine ⟨_, h2, .inl ⟨rfl, xs, SqL.of h4⟩, ?_⟩
    refine h _ _ _ _ _ _ _ _ d _ r ed fun v H1 g1 w => ⟨_, xs, v, rfl, rfl, g1 _ _ h4, by rw [h5.length]; exact lim_lt' c, ?_⟩
    exact q rt σ _ ((r.grow g1).write hi (DWs.app (h5.same g1) (DWs.one w)))
  · rw [if_neg c] at e; cases e
end
noncomputable def ItOk (K : PySem.W.Frag) (J : It) (H1 : Hp) (W : List Addr) (items : List D) : Prop :=
  ∃ pin : EF, Stab K pin ∧ pin H1 W ∧ ∀ H2 W2, pin H2 W2 →
    (∀ i d, items[i]? = some d → J.go i H2 ∧ ∀ x H3, J.yld i H2 x H3 → Same H2 H3 ∧ DW K H3 W2 x d) ∧ J.stop items.length H2
noncomputable def RdI (K : PySem.W.Frag) (O : List Nat) (wi : TI) (fi : DEnv → Option (List D)) : Prop :=
  ∀ n H₀ H U E rt env σ items R, RR K n H₀ H U O E rt env σ → fi env = some items → (∀ J H1, Same H H1 → ItOk K J H1 (O.map rt ++ U) items → R J H1) → wi σ H R
noncomputable def RdG (K : PySem.W.Frag) (O : List Nat) (tg : TG) (g : D → DEnv → Option DEnv) : Prop :=
  ∀ n H₀ H U E rt env σ v d env' Q, RR K n H₀ H U O E rt env σ → DW K H (O.map rt ++ U) v d → g d env = some env' → (∀ σ', RR K n H₀ H U O E rt env' σ' → Q σ' H) → tg v σ H Q
noncomputable def RdGs (K : PySem.W.Frag) (O : List Nat) (tg : TGs) (g : List D → DEnv → Option DEnv) : Prop :=
  ∀ n H₀ H U E rt env σ vs ds env' Q, RR K n H₀ H U O E rt env σ → DWs K H (O.map rt ++ U) vs ds → g ds env = some env' → (∀ σ', RR K n H₀ H U O E rt env' σ' → Q σ' H) → tg vs σ H Q
section
variable {K : PySem.W.Frag} {n : Nat} {fr : Bool} {Ob O O1 O2 : List Nat} {te : TE} {f : DFn}
noncomputable def dN (i : Nat) : D → DEnv → Option DEnv := fun d env => some (env.set i (some d))
theorem rg_name {i : Nat} (hi : i ∉ O := by decide) : RdG K O (gName i) (dN i) := fun n H₀ H U E rt env σ v d env' Q r w e q => by
  cases e; exact q _ (r.set hi w)
noncomputable def dNil : List D → DEnv → Option DEnv := fun ds env => match ds with
  | [] => some env
  | _ => none
noncomputable def dCons (g : D → DEnv → Option DEnv) (gs : List D → DEnv → Option DEnv) : List D → DEnv → Option DEnv := fun ds env => match ds with
  | d :: r => (g d env).bind fun env' => gs r env'
  | [] => none
theorem rgs_nil : RdGs K O gNil dNil := fun n H₀ H U E rt env σ vs ds env' Q r w e q => by
  cases ds with
  | nil =>
    cases vs with
    | nil => simp only [dNil] at e; cases e; exact ⟨rfl, q σ r⟩
    | cons _ _ => simp [DWs] at w
  | cons _ _ => simp [dNil] at e
theorem rgs_cons {tg : TG} {tgs : TGs} {g : D → DEnv → Option DEnv} {gs : List D → DEnv → Option DEnv} (h : RdG K O tg g) (hs : RdGs K O tgs gs) : RdGs K O (gCons tg tgs) (dCons g gs) := fun n H₀ H U E rt env σ vs ds env' Q r w e q => by
  cases ds with
  | nil => simp [dCons] at e
  | cons d ds =>
    cases vs with
    | nil => simp [DWs] at w
    | cons v vs =>
      simp only [DWs] at w
      simp only [dCons] at e
      obtain ⟨e1, h1, e⟩ := Option.bind_eq_some_iff.mp e
      exact ⟨v, vs, rfl, h _ _ _ _ _ _ _ _ _ _ e1 _ r w.1 h1 fun σ' r' => hs _ _ _ _ _ _ _ _ _ _ env' Q r' w.2 e q⟩
noncomputable def dT (k : Nat) (gs : List D → DEnv → Option DEnv) : D → DEnv → Option DEnv := fun d env => match d with
  | .tup ds => if ds.length = k then gs ds env else none
  | _ => none
theorem rg_tup {k : Nat} {tgs : TGs} {gs : List D → DEnv → Option DEnv} (hs : RdGs K O tgs gs) : RdG K O (gTup K k tgs) (dT k gs) := fun n H₀ H U E rt env σ v d env' Q r w e q => by
  cases d with
  | tup ds =>
    simp only [dT] at e
    by_cases c : ds.length = k
    · rw [if_pos c] at e
      simp only [DW] at w
      obtain ⟨a, xs, ev, hq, ws⟩ := w
      exact ⟨a, xs, ev, hq, by rw [ws.length]; exact c, hs _ _ _ _ _ _ _ _ _ _ env' Q r ws e q⟩
    · rw [if_neg c] at e; cases e
  | _ => simp [dT] at e
noncomputable def forM (g : D → DEnv → Option DEnv) (m : DSt) : List D → DSt
  | [], env => some (.nx env)
  | d :: ds, env => (g d env).bind fun env1 => (m env1).bind fun o => match o with
    | .nx e => forM g m ds e
    | .ct e => forM g m ds e
    | .bk e => some (.nx e)
    | .rt d => some (.rt d)
noncomputable def sFor (fi : DEnv → Option (List D)) (g : D → DEnv → Option DEnv) (m : DSt) : DSt := fun env => (fi env).bind fun items => forM g m items env
theorem rs_for {wi : TI} {fi : DEnv → Option (List D)} {tg : TG} {g : D → DEnv → Option DEnv} {t : TS} {m : DSt} (hi : RdI K O wi fi) (hg : RdG K O tg g) (hb : RdS K n fr O O t m O) : RdS K n fr Ob O (tFor wi tg t) (sFor fi g m) O := fun H₀ H U E rt env σ o D r e q => by
  obtain ⟨items, ei, e⟩ := Option.bind_eq_some_iff.mp e
  refine hi _ _ _ _ _ _ _ _ items _ r ei fun J H1 g1 ok => ?_
  obtain ⟨pin, hst, hp, ok⟩ := ok
  refine ⟨fun i k σ' H' => k = items.length - i ∧ i ≤ items.length ∧ ∃ rt' env', RR K n H₀ H' U O (fun H W => pin H W ∧ E H W) rt' env' σ' ∧ forM g m (items.drop i) env' = some o, ⟨items.length, rfl, Nat.zero_le _, rt, env, (r.grow g1).more hst hp, e⟩, ?_⟩
  rintro i k σ' H' ⟨rfl, hle, rt', env', r', e'⟩
  obtain ⟨go, stop⟩ := ok H' _ r'.ext.1
  have drop : ∀ {rt'' : Nat → Addr} {env'' : DEnv} {σ'' : St} {H'' : Hp}, RR K n H₀ H'' U O (fun H W => pin H W ∧ E H W) rt'' env'' σ'' → RR K n H₀ H'' U O E rt'' env'' σ'' := fun z => z.exts r.est fun _ _ w => w.2
  by_cases hlt : i < items.length
  · have hd : items[i]? = some items[i] := List.getElem?_eq_getElem hlt
    rw [List.drop_eq_getElem_cons hlt] at e'
    simp only [forM] at e'
    obtain ⟨env1, eg, e'⟩ := Option.bind_eq_some_iff.mp e'
    obtain ⟨o1, eo, e'⟩ := Option.bind_eq_some_iff.mp e'
    obtain ⟨hgo, hy⟩ := go i _ hd
    refine .inr ⟨hgo, fun σ2 H2 => ∃ rt2 env2, RR K n H₀ H2 U O (fun H W => pin H W ∧ E H W) rt2 env2 σ2 ∧ forM g m (items.drop (i + 1)) env2 = some o, fun σ2 H2 ⟨rt2, env2, r2, e2⟩ => ⟨items.length - (i + 1), by omega, rfl, hlt, rt2, env2, r2, e2⟩, fun x H3 hx => ?_⟩
    obtain ⟨g3, w3⟩ := hy x H3 hx
    refine hg _ _ _ _ _ _ _ _ _ _ env1 _ (r'.grow g3) w3 eg fun σ2 r2 => ?_
    refine hb _ _ _ _ _ _ _ o1 _ r2 eo ?_
    cases o1 with
    | nx e2 => exact fun rt2 σ3 H4 r4 => ⟨rt2, e2, r4, e'⟩
    | ct e2 => exact fun rt2 σ3 H4 r4 => ⟨rt2, e2, r4, e'⟩
    | bk e2 =>
      cases e'
      exact fun rt2 σ3 H4 r4 => q rt2 σ3 H4 (drop r4)
    | rt d =>
      cases e'
      exact q
  · have hi' : i = items.length := by omega
    subst hi'
    rw [List.drop_length] at e'
    simp only [forM] at e'
    cases e'
    exact .inl ⟨stop, q rt' σ' H' (drop r')⟩
end
noncomputable def fnM (np n : Nat) (fr : Bool) (m : DSt) : List D → Option D := fun ds => if ds.length = np then (m (ds.map some ++ List.replicate (n - np) none)).bind fun o => match o with
  | .rt d => some d
  | .nx _ => if fr = true then none else some .non
  | _ => none else none
theorem fn_read {K : PySem.W.Frag} {np n : Nat} {fr : Bool} {t : TS} {m : DSt} {O1 : List Nat} {N : List Str} {vs : List V} {H : Hp} {Q : VK} {E : XK} (hm : RdS K n fr [] [] t m O1) (h : dsp K np fr (fnM np n fr m) vs H Q E) (hN : N.length = n) (hp : np ≤ n) :
    t { nx := fun _ H' => Q .non H', rt := Q } (start N vs) H := by
  obtain ⟨U, ds, d, hl, hU, w, e, q⟩ := h
  have hds : ds.length = np := by rw [← w.length]; exact hl
  unfold fnM at e
  rw [if_pos hds] at e
  obtain ⟨o, eo, e⟩ := Option.bind_eq_some_iff.mp e
  have r : RR K n H H U [] (fun _ _ => True) (fun _ => 0) (ds.map some ++ List.replicate (n - np) none) (start N vs) := by
    refine ⟨Same.refl _, hU, fun i hi => absurd hi (by simp), ?_, ?_, fun i hi => absurd hi (by simp), fun i hi => absurd hi (by simp), fun i d' _ ei => ?_, fun _ _ _ _ _ _ _ => trivial, trivial⟩
    · unfold start
      rw [List.length_append, List.length_map, List.length_replicate, hl, hN]; omega
    · rw [List.length_append, List.length_map, List.length_replicate, hds]; omega
    · have hi : i < ds.length := by
        by_cases c : i < ds.length
        · exact c
        · rw [List.getElem?_append_right (by rw [List.length_map]; omega), List.getElem?_replicate] at ei
          split at ei
          · cases ei
          · cases ei
      rw [List.getElem?_append_left (by rw [List.length_map]; exact hi), List.getElem?_map] at ei
      obtain ⟨y, ey, eq⟩ := Option.map_eq_some_iff.mp ei
      cases eq
      obtain ⟨v, hv, wv⟩ := w.get ey
      refine ⟨v, ?_, wv⟩
      unfold start
      rw [List.getElem?_append_left (by rw [List.length_map, w.length]; exact hi), List.getElem?_map, hv]; rfl
  refine hm _ _ _ _ _ _ _ o _ r eo ?_
  cases o with
  | rt d' =>
    dsimp only at e
    cases e
    exact fun v H' g w' => q v H' g w'
  | nx env' =>
    dsimp only at e
    cases fr with
    | true => rw [if_pos rfl] at e; cases e
    | false =>
      rw [if_neg Bool.false_ne_true] at e
      cases e
      exact fun rt' σ' H' r' => q .non H' r'.same ⟨by simp only [DW], fun z => by cases z⟩
  | bk _ => simp at e
  | ct _ => simp at e
end L2
set_option maxHeartbeats 4000000
namespace L2
open PySem PySem.Spec PyProof.Rows
noncomputable def gKeep (T : List Nat) (g : D → DEnv → Option DEnv) : Prop := ∀ d env env', g d env = some env' → env'.length = env.length ∧ ∀ i, i ∉ T → env'[i]? = env[i]?
noncomputable def gKeeps (T : List Nat) (g : List D → DEnv → Option DEnv) : Prop := ∀ d env env', g d env = some env' → env'.length = env.length ∧ ∀ i, i ∉ T → env'[i]? = env[i]?
theorem gk_name {i : Nat} : gKeep [i] (dN i) := fun d env env' e => by
  cases e
  exact ⟨List.length_set, fun j hj => List.getElem?_set_ne fun z => hj (by rw [z]; exact List.mem_singleton.mpr rfl)⟩
theorem gks_nil : gKeeps [] dNil := fun d env env' e => by
  cases d with
  | nil => simp only [dNil] at e; cases e; exact ⟨rfl, fun _ _ => rfl⟩
  | cons _ _ => simp [dNil] at e
theorem gks_cons {S T : List Nat} {g : D → DEnv → Option DEnv} {gs : List D → DEnv → Option DEnv} (h : gKeep S g) (hs : gKeeps T gs) : gKeeps (S ++ T) (dCons g gs) := fun d env env' e => by
  cases d with
  | nil => simp [dCons] at e
  | cons d r =>
    simp only [dCons] at e
    obtain ⟨e1, h1, e⟩ := Option.bind_eq_some_iff.mp e
    have a := h _ _ _ h1
    have b := hs _ _ _ e
    exact ⟨b.1.trans a.1, fun i hi => (b.2 i fun z => hi (List.mem_append_right _ z)).trans (a.2 i fun z => hi (List.mem_append_left _ z))⟩
theorem gk_tup {T : List Nat} {k : Nat} {gs : List D → DEnv → Option DEnv} (hs : gKeeps T gs) : gKeep T (dT k gs) := fun d env env' e => by
  cases d with
  | tup ds =>
    simp only [dT] at e
    by_cases c : ds.length = k
    · rw [if_pos c] at e; exact hs _ _ _ e
    · rw [if_neg c] at e; cases e
  | _ => simp [dT] at e
noncomputable def lcEnv (mp : List (Option Nat)) (env : DEnv) : DEnv := mp.map fun o => o.bind fun j => (env[j]?).join
noncomputable def compM (g : D → DEnv → Option DEnv) (c : DEnv → Option Bool) (f : DFn) (env0 : DEnv) : List D → Option (List D)
  | [] => some []
  | d :: ds => (g d env0).bind fun env1 => (c env1).bind fun b => if b = true then (f env1).bind fun y => (compM g c f env0 ds).bind fun r => some (y :: r) else compM g c f env0 ds
noncomputable def eLC (mp : List (Option Nat)) (fi : DEnv → Option (List D)) (g : D → DEnv → Option DEnv) (c : DEnv → Option Bool) (f : DFn) : DFn := fun env =>
  (fi env).bind fun items => if items.length ≤ lim then (compM g c f (lcEnv mp env) items).bind fun ds => some (.lst ds) else none
noncomputable def bAll : DEnv → Option Bool := fun _ => some true
section
variable {K : PySem.W.Frag} {O : List Nat}
theorem rt_all : RdT K O tAll bAll := fun n H₀ H U E rt env σ b Q r e q => by cases e; exact q H (Same.refl _)
theorem RR.updU {n : Nat} {H : Hp} {U : List Addr} {E : EF} {rt : Nat → Addr} {env : DEnv} {σ : St} {l : Addr} {ys : List V} {o : HO} (hl : l ∈ U) (hH : H l = some (.lst ys)) (r : RR K n (fun _ => none) H U [] E rt env σ) :
    RR K n (fun _ => none) (upd H l o) U [] E rt env σ := by
  refine ⟨fun b u z => (nomatch z), fun a ha => ?_, r.outO, r.lenS, r.lenE, fun i hi => absurd hi (by simp), r.inj, fun i d hi e => ?_, r.est, ?_⟩
  · by_cases c : a = l
    · rw [c]; exact ⟨_, upd_same⟩
    · rw [upd_ne c]; exact r.out a ha
  · obtain ⟨v, h1, h2⟩ := r.val i d hi e
    exact ⟨v, h1, h2.upd (show l ∈ ([] : List Nat).map rt ++ U from hl) hH⟩
  · exact r.est _ _ _ _ (fun b _ n z => ⟨n, z.off fun e => n (e ▸ (show l ∈ ([] : List Nat).map rt ++ U from hl))⟩) (fun _ _ h => h.off hH) r.ext
theorem rn_lc {mp : List (Option Nat)} {wi : TI} {fi : DEnv → Option (List D)} {tg : TG} {g : D → DEnv → Option DEnv} {tc : TT} {c : DEnv → Option Bool} {te : TE} {f : DFn} {T : List Nat}
    (hi : RdI K O wi fi) (hg : RdG K [] tg g) (hk : gKeep T g) (hc : RdT K [] tc c) (hf : RdE K [] te f) (hT : ∀ i ∈ T, mp[i]? = some none := by decide) (hO : ∀ j ∈ O, some j ∉ mp := by decide) :
    RdN K O (tLC mp wi tg tc te) (eLC mp fi g c f) := fun n H₀ H U E rt env σ d Q r e q => by
  obtain ⟨items, ei, e⟩ := Option.bind_eq_some_iff.mp e
  by_cases cl : items.length ≤ lim
  rotate_left
  · rw [if_neg cl] at e; cases e
  rw [if_pos cl] at e
  obtain ⟨all, ea, e⟩ := Option.bind_eq_some_iff.mp e
  cases e
  refine hi _ _ _ _ _ _ _ _ items _ r ei fun J H1 g1 ok => ?_
  obtain ⟨pin, hst, hp, ok⟩ := ok
  intro l hl
  have r1 := r.grow g1
  have hlU : ∀ b xs, b ∉ O.map rt ++ U → Rd H1 b (.lst xs) → b ∉ l :: (O.map rt ++ U) ∧ Rd (upd H1 l (.lst [])) b (.lst xs) := fun b xs n z => ⟨(fresh_off hl n z).1, z.same (same_upd hl _)⟩
  have inner : RR K mp.length (fun _ => none) (upd H1 l (.lst [])) (l :: (O.map rt ++ U)) [] pin (fun _ => 0) (lcEnv mp env) (lcStart mp σ) := by
    refine ⟨fun b u z => (nomatch z), fun a ha => ?_, fun i hi => absurd hi (by simp), ?_, ?_, fun i hi => absurd hi (by simp), fun i hi => absurd hi (by simp), fun i d' _ ei' => ?_, hst, ?_⟩
    · rcases List.mem_cons.mp ha with z | z
      · rw [z]; exact ⟨_, upd_same⟩
      · obtain ⟨o, e⟩ := r1.alloc a z
        exact ⟨o, same_upd hl _ _ _ e⟩
    · unfold lcStart; rw [List.length_map]
    · unfold lcEnv; rw [List.length_map]
    · unfold lcEnv at ei'
      rw [List.getElem?_map] at ei'
      obtain ⟨o, em, e2⟩ := Option.map_eq_some_iff.mp ei'
      cases o with
      | none => cases e2
      | some j =>
        have e3 : gv j env = some d' := e2
        have hj : j ∉ O := fun z => hO j z (List.mem_of_getElem? em)
        obtain ⟨v, h1, h2⟩ := r1.val j d' hj (gv_some e3)
        refine ⟨v, ?_, DW.map hlU (fun _ _ h => (same_upd hl _).seqT h) h2⟩
        unfold lcStart
        rw [List.getElem?_map, em]
        show some ((σ[j]?).join) = _
        rw [h1]; rfl
    · exact hst _ _ _ _ hlU (fun _ _ h => (same_upd hl _).seqT h) hp
  refine ⟨fun i m ys σ1 H2 => m = items.length - i ∧ i ≤ items.length ∧ Same H1 H2 ∧ H2 l = some (.lst ys) ∧ RR K mp.length (fun _ => none) H2 (l :: (O.map rt ++ U)) [] pin (fun _ => 0) (lcEnv mp env) σ1 ∧
    ∃ ds1 rest, ds1.length ≤ i ∧ DWs K H2 (l :: (O.map rt ++ U)) ys ds1 ∧ compM g c f (lcEnv mp env) (items.drop i) = some rest ∧ ds1 ++ rest = all,
    ⟨items.length, rfl, Nat.zero_le _, same_upd hl _, upd_same, inner, [], all, Nat.le_refl _, by simp [DWs], ea, rfl⟩, ?_⟩
  rintro i m ys σ1 H2 ⟨rfl, hle, gs, hl2, r2, ds1, rest, hlen, w, ec, eall⟩
  refine ⟨hl2, ?_⟩
  have lm : l ∈ l :: (O.map rt ++ U) := List.mem_cons_self
  obtain ⟨go, stop⟩ := ok H2 (l :: (O.map rt ++ U)) r2.ext
  by_cases hlt : i < items.length
  · have hd : items[i]? = some items[i] := List.getElem?_eq_getElem hlt
    rw [List.drop_eq_getElem_cons hlt] at ec
    simp only [compM] at ec
    obtain ⟨env1, eg, ec⟩ := Option.bind_eq_some_iff.mp ec
    obtain ⟨b, eb, ec⟩ := Option.bind_eq_some_iff.mp ec
    obtain ⟨hgo, hy⟩ := go i _ hd
    refine .inr ⟨hgo, fun x H3 hx => ?_⟩
    obtain ⟨g3, w3⟩ := hy x H3 hx
    refine hg _ _ _ _ _ _ _ _ _ _ env1 _ (r2.grow g3) w3 eg fun σ2 r3 => ?_
    refine hc _ _ _ _ _ _ _ _ b _ r3 eb fun H5 g5 => ?_
    have kk := hk _ _ _ eg
    have old : ∀ j d', (lcEnv mp env)[j]? = some (some d') → env1[j]? = some (some d') := fun j d' ej => by
      by_cases hj : j ∈ T
      · unfold lcEnv at ej
        rw [List.getElem?_map, hT j hj] at ej
        cases ej
      · rw [kk.2 j hj]; exact ej
    have r5 := (r3.grow g5).forget kk.1.symm old
    have g25 : Same H2 H5 := g3.trans g5
    cases b with
    | true =>
      rw [if_pos rfl] at ec ⊢
      obtain ⟨y, ey, ec⟩ := Option.bind_eq_some_iff.mp ec
      obtain ⟨rest', er, ec⟩ := Option.bind_eq_some_iff.mp ec
      cases ec
      refine hf _ _ _ _ _ _ _ _ y _ (r3.grow g5) ey fun v H6 g6 wv => ?_
      have g26 := g25.trans g6
      have hl6 := g26 _ _ hl2
      refine ⟨hl6, by rw [w.length]; exact lim_lt' (by omega), items.length - (i + 1), by omega, rfl, hlt, (gs.trans g26).upd_l hl _, upd_same, (r5.grow g6).updU lm hl6, ds1 ++ [y], rest', ?_, ?_, er, ?_⟩
      · rw [List.length_append, List.length_singleton]; omega
      · exact DWs.upd lm hl6 (DWs.app (w.same g26) (DWs.one wv))
      · rw [List.append_assoc]; exact eall
    | false =>
      rw [if_neg Bool.false_ne_true] at ec ⊢
      exact ⟨items.length - (i + 1), by omega, rfl, hlt, gs.trans g25, g25 _ _ hl2, r5, ds1, rest, by omega, w.same g25, ec, eall⟩
  · have hi' : i = items.length := by omega
    subst hi'
    rw [List.drop_length] at ec
    simp only [compM] at ec
    cases ec
    rw [List.append_nil] at eall
    subst eall
    exact .inl ⟨stop, q l H2 ys ds1 rfl (g1.trans gs) (g1.free hl) hl2 w⟩
variable {tl : TE} {f : DFn} {ta : TA} {fs : DEnv → Option (List D)}
noncomputable def fSeq : D → Option (List D)
  | .lst ds => some ds
  | .tup ds => some ds
  | _ => none
noncomputable def iSeq (f : DFn) : DEnv → Option (List D) := fun env => (f env).bind fSeq
theorem pi_seq {X : Cx} {tg l : Expr} (hl : PE X l tl) : PI X tg l (fun σ H R => iList X.K tl σ H R ∨ iTup X.K tl σ H R) := fun pins s σ H R I h => by
  rcases h with h | h
  · exact pi_list hl pins s σ H R I h
  · exact pi_tup hl pins s σ H R I h
theorem stab_lst {a : Addr} {xs : List V} {ds : List D} : Stab K (fun H W => SqW K H W a xs ∧ DWs K H W xs ds) := fun H H' W W' hl ht h => ⟨h.1.map hl, h.2.map hl ht⟩
theorem stab_tup {a : Addr} {xs : List V} {ds : List D} : Stab K (fun H W => SqT K H a xs ∧ DWs K H W xs ds) := fun H H' W W' hl ht h => ⟨ht a xs h.1, h.2.map hl ht⟩
theorem stab_true : Stab K (fun _ _ => True) := fun _ _ _ _ _ _ _ => trivial
theorem ri_seq (h : RdE K O tl f) : RdI K O (fun σ H R => iList K tl σ H R ∨ iTup K tl σ H R) (iSeq f) := fun n H₀ H U E rt env σ items R r e q => by
  obtain ⟨d, ed, e⟩ := Option.bind_eq_some_iff.mp e
  cases d with
  | lst ds =>
    simp only [fSeq] at e
    cases e
    refine .inl (h _ _ _ _ _ _ _ _ _ _ r ed fun v H1 g1 w => ?_)
    simp only [DW] at w
    obtain ⟨a, xs, rfl, hr, ws⟩ := w
    refine ⟨a, rfl, ⟨xs, hr.sq⟩, q _ H1 g1 ⟨_, stab_lst (a := a) (xs := xs) (ds := items), ⟨hr, ws⟩, fun H2 W2 p => ⟨fun i d ei => ?_, ?_⟩⟩⟩
    · obtain ⟨x, hx, wx⟩ := p.2.get ei
      refine ⟨⟨xs, x, p.1.sq, hx⟩, fun y H3 hy => ?_⟩
      obtain ⟨rfl, hy⟩ := hy
      have := hy xs p.1.sq
      rw [hx] at this; cases this
      exact ⟨Same.refl _, wx⟩
    · exact ⟨xs, p.1.sq, by rw [p.2.length]; exact Nat.le_refl _⟩
  | tup ds =>
    simp only [fSeq] at e
    cases e
    refine .inr (h _ _ _ _ _ _ _ _ _ _ r ed fun v H1 g1 w => ?_)
    simp only [DW] at w
    obtain ⟨a, xs, rfl, hr, ws⟩ := w
    refine ⟨a, rfl, ⟨xs, hr⟩, q _ H1 g1 ⟨_, stab_tup (a := a) (xs := xs) (ds := items), ⟨hr, ws⟩, fun H2 W2 p => ⟨fun i d ei => ?_, ?_⟩⟩⟩
    · obtain ⟨x, hx, wx⟩ := p.2.get ei
      refine ⟨⟨xs, x, p.1, hx⟩, fun y H3 hy => ?_⟩
      obtain ⟨rfl, hy⟩ := hy
      have := hy xs p.1
      rw [hx] at this; cases this
      exact ⟨Same.refl _, wx⟩
    · exact ⟨xs, p.1, by rw [p.2.length]; exact Nat.le_refl _⟩
  | _ => simp [fSeq] at e
noncomputable def in62 (j : Int) : Bool := decide (-4611686018427387904 ≤ j) && decide (j < 4611686018427387904)
theorem in62_ok {j : Int} (h : in62 j = true) : -(2 ^ 62) ≤ j ∧ j < 2 ^ 62 := by
  unfold in62 at h
  rw [Bool.and_eq_true, decide_eq_true_iff, decide_eq_true_iff] at h
  exact ⟨by have := h.1; omega, by have := h.2; omega⟩
noncomputable def rngD (lo : Int) (n : Nat) : List D := (List.range n).map fun (k : Nat) => D.int (lo + (k : Int))
noncomputable def fRng : List D → Option (List D)
  | [.int j] => if in62 j = true then some (rngD 0 j.toNat) else none
  | [.int i, .int j] => if (in62 i && in62 j) = true then some (rngD i (j - i).toNat) else none
  | _ => none
noncomputable def iRng (fs : DEnv → Option (List D)) : DEnv → Option (List D) := fun env => (fs env).bind fRng
theorem rng_ok {lo : Int} {n : Nat} {H1 : Hp} {W : List Addr} : ItOk K (Itr lo n) H1 W (rngD lo n) := by
  refine ⟨fun _ _ => True, stab_true, trivial, fun H2 W2 _ => ⟨fun i d ei => ?_, ?_⟩⟩
  · unfold rngD at ei
    rw [List.getElem?_map] at ei
    obtain ⟨k, ek, e⟩ := Option.map_eq_some_iff.mp ei
    have hk : k < n := by
      have := List.mem_of_getElem? ek
      exact List.mem_range.mp this
    have hik : i = k := by
      have hl : i < (List.range n).length := (List.getElem?_eq_some_iff.mp ek).1
      rw [List.length_range] at hl
      rw [List.getElem?_range hl] at ek
      exact Option.some.inj ek
    subst hik
    cases e
    refine ⟨hk, fun x H3 hy => ?_⟩
    obtain ⟨rfl, rfl⟩ := hy
    exact ⟨Same.refl _, by simp only [DW]⟩
  · unfold rngD
    rw [List.length_map, List.length_range]
    exact Nat.le_refl n
theorem ri_rng1 (h : RdA K O ta fs) (h1 : ∀ env ds, fs env = some ds → ds.length = 1) : RdI K O (iRng1 ta) (iRng fs) := fun n H₀ H U E rt env σ items R r e q => by
  obtain ⟨ds, eds, e⟩ := Option.bind_eq_some_iff.mp e
  have hl := h1 env ds eds
  refine h _ _ _ _ _ _ _ _ ds _ r eds fun vs H1 g1 w => ?_
  match ds, hl, e, w with
  | [.int j], _, e, w =>
    simp only [fRng] at e
    by_cases c : in62 j = true
    · rw [if_pos c] at e
      cases e
      have hv : vs = [.int j] := by
        match vs, w with
        | [v], w => simp only [DWs, DW] at w; rw [w.1]
        | [], w => simp [DWs] at w
        | _ :: _ :: _, w => simp [DWs] at w
      exact ⟨j, hv, (in62_ok c).1, (in62_ok c).2, q _ H1 g1 rng_ok⟩
    · rw [if_neg c] at e; cases e
  | [.non], _, e, w => simp [fRng] at e
  | [.bl _], _, e, w => simp [fRng] at e
  | [.str _], _, e, w => simp [fRng] at e
  | [.lst _], _, e, w => simp [fRng] at e
  | [.tup _], _, e, w => simp [fRng] at e
theorem a_len1 {f : DFn} : ∀ env ds, aCons f aNil env = some ds → ds.length = 1 := fun env ds e => by
  obtain ⟨x, _, e⟩ := Option.bind_eq_some_iff.mp e
  obtain ⟨xs, e2, e⟩ := Option.bind_eq_some_iff.mp e
  cases e2; cases e; rfl
theorem dws_two {H : Hp} {W : List Addr} {vs : List V} {d e : D} (w : DWs K H W vs [d, e]) : ∃ v u, vs = [v, u] ∧ DW K H W v d ∧ DW K H W u e := by
  match vs, w with
  | [v, u], w => simp only [DWs] at w; exact ⟨v, u, rfl, w.1, w.2.1⟩
  | [], w => simp [DWs] at w
  | [_], w => simp [DWs] at w
  | _ :: _ :: _ :: _, w => simp [DWs] at w
noncomputable def fZip : List D → Option (List D)
  | [.tup a, .lst b] => some (List.zipWith (fun x y => .tup [x, y]) a b)
  | _ => none
noncomputable def iZip' (fs : DEnv → Option (List D)) : DEnv → Option (List D) := fun env => (fs env).bind fZip
theorem ri_zip (h : RdA K O ta fs) : RdI K O (iZip K ta) (iZip' fs) := fun n H₀ H U E rt env σ items R r e q => by
  obtain ⟨ds, eds, e⟩ := Option.bind_eq_some_iff.mp e
  refine h _ _ _ _ _ _ _ _ ds _ r eds fun vs H1 g1 w => ?_
  unfold fZip at e
  split at e
  · rename_i us es
    cases e
    obtain ⟨v, u, rfl, w1, w2⟩ := dws_two w
    simp only [DW] at w1 w2
    obtain ⟨a, xs, rfl, hr1, ws1⟩ := w1
    obtain ⟨b, ys, rfl, hr, ws⟩ := w2
    refine ⟨a, b, xs, ys, rfl, hr1, hr.sq, q _ H1 g1 ⟨_, (stab_tup (a := a) (xs := xs) (ds := us)).and (stab_lst (a := b) (xs := ys) (ds := es)), ⟨⟨hr1, ws1⟩, hr, ws⟩, fun H2 W2 p => ⟨fun i d ei => ?_, ?_⟩⟩⟩
    · rw [List.getElem?_zipWith] at ei
      cases e1 : us[i]? with
      | none => rw [e1] at ei; cases ei
      | some d1 => cases e2 : es[i]? with
        | none => rw [e1, e2] at ei; cases ei
        | some d2 =>
          rw [e1, e2] at ei
          cases ei
          obtain ⟨x, hx, wx⟩ := p.1.2.get e1
          obtain ⟨y, hy, wy⟩ := p.2.2.get e2
          refine ⟨⟨p.1.1, p.2.1.sq, (List.getElem?_eq_some_iff.mp hx).1, (List.getElem?_eq_some_iff.mp hy).1⟩, fun z H3 hz => ?_⟩
          obtain ⟨t, u', v', ht, rfl, rfl, hu, hv⟩ := hz
          rw [hx] at hu; cases hu
          rw [hy] at hv; cases hv
          refine ⟨same_upd ht _, ?_⟩
          simp only [DW, DWs]
          exact ⟨t, _, rfl, SqT.of upd_same, by simp only [DWs]; exact ⟨wx.same (same_upd ht _), wy.same (same_upd ht _), trivial⟩⟩
    · refine ⟨p.1.1, p.2.1.sq, ?_⟩
      rw [List.length_zipWith, p.1.2.length, p.2.2.length]
      omega
  · cases e
end
end L2
set_option maxHeartbeats 4000000
namespace L2
open PySem PySem.Spec PyProof.Rows
section
variable {K : PySem.W.Frag} {O : List Nat} {X : Cx}
noncomputable def rCatR (K : PySem.W.Frag) : R2 := fun x y H Q => ∃ l b xs zs, x = .ref l ∧ y = .ref b ∧ SqL K H l xs ∧ SqL K H b zs ∧ xs.length + zs.length ≤ sizeLine ∧ ∀ p, H p = none → Q (.ref p) (upd H p (.lst (xs ++ zs)))
theorem op_catR : OpR X (binaryOp .Add) (rCatR X.K) := by
  intro pins s σ H x y v u Q I rx ry h
  obtain ⟨l, b, xs, zs, rfl, rfl, hH, hB, hz, q⟩ := h
  cases rx
  cases ry
  obtain ⟨its, r, pl, z⟩ := I.list hH
  obtain ⟨its2, r2, pl2, z2⟩ := I.list hB
  have hl := r.length
  have hl2 := r2.length
  obtain ⟨⟨cls, dd, data, sl⟩, ho, hc, n, hd⟩ := pl.isList
  obtain ⟨⟨cls2, dd2, data2, sl2⟩, ho2, hc2, n2, hd2⟩ := pl2.isList
  simp only at hc hd hc2 hd2
  subst hc hd hc2 hd2
  refine concat_meets ⟨_, ho, rfl⟩ ⟨_, ho2, rfl⟩ noFill_list_add seq_list_add PySem.F.slot_list_add PySem.F.entry_list_add (PySem.F.args_list_add_2 _ _) (list_addW l b its.toArray its2.toArray n n2 dd dd2 sl sl2 (by simp; omega)) ⟨ho, ho2, ?_⟩
  have ea : its.toArray ++ its2.toArray = (its ++ its2).toArray := by simp
  rw [ea]
  exact ⟨.ref _, _, I.lnew (t' := s.toks) (r.append r2) (by rw [List.length_append]; omega), rfl, q _ I.fresh⟩
noncomputable def rAddU (K : PySem.W.Frag) : R2 := fun x y H Q => (rI0 fun i j => .int (i + j)) x y H Q ∨ (∃ i j, x = .str i ∧ y = .str j ∧ i.length + j.length ≤ sizeLine ∧ Q (.str (i ++ j)) H) ∨ rCatR K x y H Q ∨ rCatT K x y H Q
theorem op_addU : OpR X (binaryOp .Add) (rAddU X.K) := op_add.or (op_add_str.or (op_catR.or op_catT))
noncomputable def dAdd : D → D → Option D
  | .int i, .int j => some (.int (i + j))
  | .str i, .str j => if i.length + j.length ≤ lim then some (.str (i ++ j)) else none
  | .lst a, .lst b => if a.length + b.length ≤ lim then some (.lst (a ++ b)) else none
  | .tup a, .tup b => if a.length + b.length ≤ lim then (if a.isEmpty = true then none else some (.tup (a ++ b))) else none
  | _, _ => none
theorem ite_some {c : Prop} [Decidable c] {α : Type} {a b : α} (h : (if c then some a else none) = some b) : c ∧ a = b := by
  by_cases e : c
  · rw [if_pos e] at h; exact ⟨e, Option.some.inj h⟩
  · rw [if_neg e] at h; cases h
theorem rdo_add : RdOp K (rAddU K) dAdd := fun H W x y dx dy d Q hW w1 w2 e q => by
  cases dx with
  | int i => cases dy with
    | int j =>
      simp only [dAdd] at e
      cases e
      simp only [DWr, DW] at w1 w2
      exact .inl ⟨i, j, w1, w2, q _ H (Same.refl _) (by simp only [DW])⟩
    | _ => simp [dAdd] at e
  | str i => cases dy with
    | str j =>
      simp only [dAdd] at e
      obtain ⟨c, e⟩ := ite_some e
      cases e
      simp only [DWr, DW] at w1 w2
      exact .inr (.inl ⟨i, j, w1, w2, lim_le c, q _ H (Same.refl _) (by simp only [DW])⟩)
    | _ => simp [dAdd] at e
  | lst as => cases dy with
    | lst bs =>
      simp only [dAdd] at e
      obtain ⟨c, e⟩ := ite_some e
      cases e
      simp only [DWr] at w1 w2
      obtain ⟨a, xs, rfl, hr, ws⟩ := w1
      obtain ⟨b, ys, rfl, hr2, ws2⟩ := w2
      refine .inr (.inr (.inl ⟨a, b, xs, ys, rfl, rfl, hr, hr2, by rw [ws.length, ws2.length]; exact lim_le c, fun p hp => ?_⟩))
      exact q _ _ (same_upd hp _) (DW.laid (H := H) hW hp ((ws.app ws2).same (same_upd hp _)) upd_same)
    | _ => simp [dAdd] at e
  | tup as => cases dy with
    | tup bs =>
      simp only [dAdd] at e
      by_cases c : as.length + bs.length ≤ lim
      rotate_left
      · rw [if_neg c] at e; cases e
      rw [if_pos c] at e
      by_cases c2 : as.isEmpty = true
      · rw [if_pos c2] at e; cases e
      rw [if_neg c2] at e
      cases e
      simp only [DWr, DW] at w1 w2
      obtain ⟨a, xs, rfl, hr, ws⟩ := w1
      obtain ⟨b, ys, rfl, hr2, ws2⟩ := w2
      have hx : xs ≠ [] := fun z => by
        have := ws.length
        rw [z] at this
        exact c2 (by cases as with | nil => rfl | cons _ _ => simp at this)
      refine .inr (.inr (.inr ⟨a, b, xs, ys, rfl, rfl, hr, hr2, hx, by rw [ws.length, ws2.length]; exact lim_le c, fun hy => ?_, fun hy p hp => ?_⟩))
      · have hb : bs = [] := by
          have := ws2.length
          rw [hy] at this
          cases bs with | nil => rfl | cons _ _ => simp at this
        rw [hb, List.append_nil] at q
        exact q _ H (Same.refl _) (by simp only [DW]; exact ⟨a, xs, rfl, hr, ws⟩)
      · exact q _ _ (same_upd hp _) (by simp only [DW]; exact ⟨p, _, rfl, SqT.of upd_same, (ws.app ws2).same (same_upd hp _)⟩)
    | _ => simp [dAdd] at e
  | _ => simp [dAdd] at e
noncomputable def cMul (i j : Int) : Bool := (decide (-18446744073709551616 < i) && decide (i < 18446744073709551616)) || (decide (-18446744073709551616 < j) && decide (j < 18446744073709551616))
theorem cMul_ok : ∀ i j : Int, cMul i j = true → CMul i j := fun i j h => by
  unfold cMul at h
  simp only [Bool.or_eq_true, Bool.and_eq_true, decide_eq_true_iff] at h
  rcases h with h | h
  · exact .inl ⟨by have := h.1; omega, by have := h.2; omega⟩
  · exact .inr ⟨by have := h.1; omega, by have := h.2; omega⟩
noncomputable def cDiv (_ j : Int) : Bool := decide (0 < j) && decide (j < 1073741824)
theorem cDiv_ok : ∀ i j : Int, cDiv i j = true → CDiv i j := fun i j h => by
  unfold cDiv at h
  simp only [Bool.and_eq_true, decide_eq_true_iff] at h
  exact h
noncomputable def cMod (_ j : Int) : Bool := decide (0 < j)
theorem cMod_ok : ∀ i j : Int, cMod i j = true → 0 < j := fun i j h => by
  unfold cMod at h
  exact of_decide_eq_true h
noncomputable def dSub : D → D → Option D := dI (fun _ _ => true) fun i j => .int (i - j)
noncomputable def dMul : D → D → Option D := dI cMul fun i j => .int (i * j)
noncomputable def dDiv : D → D → Option D := dI cDiv fun i j => .int (i / j)
noncomputable def dMod : D → D → Option D := dI cMod fun i j => .int (i % j)
noncomputable def dBAnd : D → D → Option D := dI (fun _ _ => true) fun i j => .int (Builtin.bitAnd i j)
theorem rdo_sub : RdOp K (rI0 fun i j => .int (i - j)) dSub := rdo_I0
theorem rdo_mul : RdOp K (rI CMul fun i j => .int (i * j)) dMul := rdo_I cMul_ok
theorem rdo_div : RdOp K (rI CDiv fun i j => .int (i / j)) dDiv := rdo_I cDiv_ok
theorem rdo_mod : RdOp K (rI (fun _ j => 0 < j) fun i j => .int (i % j)) dMod := rdo_I cMod_ok
theorem rdo_band : RdOp K (rI0 fun i j => .int (Builtin.bitAnd i j)) dBAnd := rdo_I0
noncomputable def dLt : D → D → Option D := dI (fun _ _ => true) fun i j => .bl (decide (i < j))
noncomputable def dLe : D → D → Option D := dI (fun _ _ => true) fun i j => .bl (decide (i ≤ j))
noncomputable def dGt : D → D → Option D := dI (fun _ _ => true) fun i j => .bl (decide (j < i))
theorem rdo_lt : RdOp K (rI0 fun i j => .bl (decide (i < j))) dLt := rdo_B0
theorem rdo_le : RdOp K (rI0 fun i j => .bl (decide (i ≤ j))) dLe := rdo_B0
theorem rdo_gt : RdOp K (rI0 fun i j => .bl (decide (j < i))) dGt := rdo_B0
noncomputable def eNeg (f : DFn) : DFn := fun env => (f env).bind fun d => match d with
  | .int i => some (.int (-i))
  | _ => none
theorem rd_neg {te : TE} {f : DFn} (h : RdE K O te f) : RdE K O (tUn (rU fun i => .int (-i)) te) (eNeg f) := fun n H₀ H U E rt env σ d Q r e q => by
  obtain ⟨x, ex, e⟩ := Option.bind_eq_some_iff.mp e
  cases x with
  | int i =>
    dsimp only at e
    cases e
    exact h _ _ _ _ _ _ _ _ _ _ r ex fun v H1 g1 w => ⟨i, by simpa only [DW] using w, q _ H1 g1 (by simp only [DW])⟩
  | _ => simp at e
noncomputable def dIx : D → D → Option D
  | .lst ds, .int i => atI ds i
  | .tup ds, .int i => atI ds i
  | .str t, .int i => if t.length ≤ lim then (atI t.cps.toList i).bind fun c => some (.str ⟨#[c]⟩) else none
  | _, _ => none
theorem dws_at {H : Hp} {W : List Addr} {xs : List V} {ds : List D} {i : Int} {d : D} (w : DWs K H W xs ds) (e : atI ds i = some d) : ∃ v, atI xs i = some v ∧ DW K H W v d := by
  unfold atI at e ⊢
  rw [w.length]
  obtain ⟨j, ej, e⟩ := Option.bind_eq_some_iff.mp e
  obtain ⟨v, hv, wv⟩ := w.get e
  exact ⟨v, by rw [ej]; exact hv, wv⟩
theorem rdo_ix : RdOp K (rIx K) dIx := fun H W x y dx dy d Q hW w1 w2 e q => by
  cases dy with
  | int i =>
    simp only [DWr, DW] at w2
    cases dx with
    | lst ds =>
      simp only [dIx] at e
      simp only [DWr] at w1
      obtain ⟨a, xs, rfl, hr, ws⟩ := w1
      obtain ⟨v, hv, wv⟩ := dws_at ws e
      exact .inl ⟨a, xs, i, v, rfl, w2, hr, hv, q v H (Same.refl _) wv⟩
    | tup ds =>
      simp only [dIx] at e
      simp only [DWr, DW] at w1
      obtain ⟨a, xs, rfl, hr, ws⟩ := w1
      obtain ⟨v, hv, wv⟩ := dws_at ws e
      exact .inr (.inl ⟨a, xs, i, v, rfl, w2, hr, hv, q v H (Same.refl _) wv⟩)
    | str t =>
      simp only [dIx] at e
      by_cases c : t.length ≤ lim
      · rw [if_pos c] at e
        obtain ⟨cp, ec, e⟩ := Option.bind_eq_some_iff.mp e
        cases e
        simp only [DWr, DW] at w1
        exact .inr (.inr ⟨t, i, cp, w1, w2, lim_le c, ec, q _ H (Same.refl _) (by simp only [DW])⟩)
      · rw [if_neg c] at e; cases e
    | _ => simp [dIx] at e
  | _ => cases dx <;> simp [dIx] at e
noncomputable def dEqB : D → D → Option Bool
  | .lst a, .lst b => if dep (.lst a) ≤ 60 then some (deqs a b) else none
  | .tup a, .tup b => if dep (.tup a) ≤ 60 then some (deqs a b) else none
  | .lst a, .tup b => if dep (.lst a) ≤ 60 then some false else none
  | .tup a, .lst b => if dep (.tup a) ≤ 60 then some false else none
  | .int a, .int b => some (a == b)
  | .bl a, .bl b => some (a == b)
  | .str a, .str b => some (a == b)
  | .non, .non => some true
  | .non, .int _ => some false
  | .int _, .non => some false
  | .non, .bl _ => some false
  | .bl _, .non => some false
  | .non, .str _ => some false
  | .str _, .non => some false
  | .int _, .str _ => some false
  | .str _, .int _ => some false
  | .bl _, .str _ => some false
  | .str _, .bl _ => some false
  | _, _ => none
noncomputable def dEq (a b : D) : Option D := (dEqB a b).bind fun k => some (.bl k)
noncomputable def dNe (a b : D) : Option D := (dEqB a b).bind fun k => some (.bl (!k))
noncomputable def rEqU (K : PySem.W.Frag) : R2 := fun x y H Q => rEq x y H Q ∨ rEqD K x y H Q
noncomputable def rNeU (K : PySem.W.Frag) : R2 := fun x y H Q => rNe x y H Q ∨ rNeD K x y H Q
theorem op_eqU (hu : X.A.units + 64 < cLine) : OpR X (compareOp .Eq) (rEqU X.K) := op_eq.or (op_eqD hu)
theorem op_neU (hu : X.A.units + 64 < cLine) : OpR X (compareOp .NotEq) (rNeU X.K) := op_ne.or (op_neD hu)
theorem eqB_cases {H : Hp} {W : List Addr} {x y : V} {dx dy : D} {k : Bool} (w1 : DWr K H W x dx) (w2 : DWr K H W y dy) (e : dEqB dx dy = some k) :
    (scal x y = true ∧ decide (x = y) = k) ∨ ∃ a b, x = .ref a ∧ y = .ref b ∧ dep dx ≤ 60 ∧ deq dx dy = k := by
  cases dx <;> cases dy <;> (delta dEqB at e; dsimp only at e) <;> first
    | (cases e; done)
    | (simp only [DWr, DW] at w1 w2; subst w1 w2; cases e; left; refine ⟨rfl, ?_⟩; first | exact dec_int | exact dec_bl | exact dec_str | rfl | (exact decide_eq_false (fun z => nomatch z)) | (exact decide_eq_true rfl))
    | (obtain ⟨c, e⟩ := ite_some e; subst e; right
       have h1 := w1.dr
       have h2 := w2.dr
       simp only [DR] at h1 h2
       obtain ⟨a, _, ha, _⟩ := h1
       obtain ⟨b, _, hb, _⟩ := h2
       exact ⟨a, b, ha, hb, c, by simp only [deq]⟩)
theorem rdo_eq : RdOp K (rEqU K) dEq := fun H W x y dx dy d Q hW w1 w2 e q => by
  obtain ⟨k, ek, e⟩ := Option.bind_eq_some_iff.mp e
  cases e
  have fin := q (.bl k) H (Same.refl _) (by simp only [DW])
  rcases eqB_cases w1 w2 ek with ⟨h1, h2⟩ | ⟨a, b, ha, hb, hd, h2⟩
  · exact .inl ⟨h1, by rw [h2]; exact fin⟩
  · exact .inr ⟨a, b, dx, dy, ha, hb, w1.dr, w2.dr, hd, by rw [h2]; exact fin⟩
theorem rdo_ne : RdOp K (rNeU K) dNe := fun H W x y dx dy d Q hW w1 w2 e q => by
  obtain ⟨k, ek, e⟩ := Option.bind_eq_some_iff.mp e
  cases e
  have fin := q (.bl (!k)) H (Same.refl _) (by simp only [DW])
  rcases eqB_cases w1 w2 ek with ⟨h1, h2⟩ | ⟨a, b, ha, hb, hd, h2⟩
  · exact .inl ⟨h1, by rw [h2]; exact fin⟩
  · exact .inr ⟨a, b, dx, dy, ha, hb, w1.dr, w2.dr, hd, by rw [h2]; exact fin⟩
noncomputable def isN : D → Bool
  | .non => true
  | _ => false
noncomputable def dIs : D → D → Option D
  | a, .non => some (.bl (isN a))
  | .bl a, .bl b => some (.bl (a == b))
  | _, _ => none
noncomputable def rIsU : R2 := fun x y H Q => (y = .non ∧ Q (.bl (decide (x = .non))) H) ∨ ∃ a b, x = .bl a ∧ y = .bl b ∧ Q (.bl (a == b)) H
theorem op_isU : OpR X (compareOp .Is) rIsU := op_isN.or (r' := fun x y H Q => ∃ a b, x = .bl a ∧ y = .bl b ∧ Q (.bl (a == b)) H) (by
  intro pins s σ H x y v u Q I rx ry h
  obtain ⟨a, b, rfl, rfl, q⟩ := h
  cases rx
  cases ry
  exact is_bool (fin_bl I q rfl))
theorem isN_ok {H : Hp} {W : List Addr} {x : V} {d : D} (w : DWr K H W x d) : decide (x = .non) = isN d := by
  cases d <;> simp only [DWr, DW] at w <;> first
    | (subst w; first | rfl | exact decide_eq_false (fun z => nomatch z))
    | (obtain ⟨a, xs, rfl, _⟩ := w; exact decide_eq_false (fun z => nomatch z))
theorem rdo_is : RdOp K rIsU dIs := fun H W x y dx dy d Q hW w1 w2 e q => by
  cases dy with
  | non =>
    simp only [DWr, DW] at w2
    have e' : some (D.bl (isN dx)) = some d := by cases dx <;> exact e
    cases e'
    exact .inl ⟨w2, by rw [isN_ok w1]; exact q _ H (Same.refl _) (by simp only [DW])⟩
  | bl b => cases dx with
    | bl a =>
      simp only [dIs] at e
      cases e
      simp only [DWr, DW] at w1 w2
      exact .inr ⟨a, b, w1, w2, q _ H (Same.refl _) (by simp only [DW])⟩
    | _ => simp [dIs] at e
  | _ => cases dx <;> simp [dIs] at e
noncomputable def flatD : D → Bool
  | .lst _ => false
  | .tup _ => false
  | _ => true
noncomputable def eqF : D → D → Bool
  | .non, .non => true
  | .bl a, .bl b => a == b
  | .bl a, .int b => (if a then 1 else 0) == b
  | .int a, .bl b => a == (if b then 1 else 0)
  | .int a, .int b => a == b
  | .str a, .str b => a == b
  | _, _ => false
noncomputable def dInB (x : D) : D → Option Bool
  | .lst ds => if (flatD x && ds.all flatD) = true then some (ds.any fun y => eqF y x) else none
  | .tup ds => if (flatD x && ds.all flatD) = true then some (ds.any fun y => eqF y x) else none
  | _ => none
noncomputable def dIn (a b : D) : Option D := (dInB a b).bind fun k => some (.bl k)
noncomputable def dNotIn (a b : D) : Option D := (dInB a b).bind fun k => some (.bl (!k))
theorem flat_ok {H : Hp} {W : List Addr} {x : V} {d : D} (h : flatD d = true) (w : DW K H W x d) : flatV x = true ∧ ∀ y e, flatD e = true → DW K H W y e → eqV x y = eqF d e := by
  cases d <;> simp only [flatD] at h <;> first
    | (cases h; done)
    | (simp only [DW] at w; subst w; refine ⟨rfl, fun y e he we => ?_⟩; cases e <;> simp only [flatD] at he <;> first | (cases he; done) | (simp only [DW] at we; subst we; rfl))
theorem flats_ok {H : Hp} {W : List Addr} {x : V} {d : D} (h : flatD d = true) (w : DW K H W x d) : ∀ {xs : List V} {ds : List D}, ds.all flatD = true → DWs K H W xs ds → xs.all flatV = true ∧ (xs.any fun y => eqV y x) = ds.any fun y => eqF y d
  | [], [], _, _ => ⟨rfl, rfl⟩
  | y :: xs, e :: ds, ha, ws => by
    simp only [DWs] at ws
    rw [List.all_cons, Bool.and_eq_true] at ha
    have a := flats_ok h w ha.2 ws.2
    have b := flat_ok ha.1 ws.1
    rw [List.all_cons, List.any_cons, List.any_cons, b.1, a.1, a.2, b.2 x d h w]
    exact ⟨rfl, rfl⟩
  | [], _ :: _, _, ws => by simp [DWs] at ws
  | _ :: _, [], _, ws => by simp [DWs] at ws
theorem in_cases {H : Hp} {W : List Addr} {x y : V} {dx dy : D} {k : Bool} (w1 : DWr K H W x dx) (w2 : DWr K H W y dy) (e : dInB dx dy = some k) :
    ∃ p xs, y = .ref p ∧ (SqL K H p xs ∨ SqT K H p xs) ∧ flatV x = true ∧ xs.all flatV = true ∧ inV x xs = k := by
  cases dy with
  | lst ds =>
    simp only [dInB] at e
    obtain ⟨c, e⟩ := ite_some e
    rw [Bool.and_eq_true] at c
    subst e
    simp only [DWr] at w2
    obtain ⟨a, xs, rfl, hr, ws⟩ := w2
    have w1' : DW K H W x dx := by cases dx <;> first | exact w1 | (simp [flatD] at c)
    have b := flats_ok c.1 w1' c.2 ws
    exact ⟨a, xs, rfl, .inl hr, (flat_ok c.1 w1').1, b.1, b.2⟩
  | tup ds =>
    simp only [dInB] at e
    obtain ⟨c, e⟩ := ite_some e
    rw [Bool.and_eq_true] at c
    subst e
    simp only [DWr, DW] at w2
    obtain ⟨a, xs, rfl, hr, ws⟩ := w2
    have w1' : DW K H W x dx := by cases dx <;> first | exact w1 | (simp [flatD] at c)
    have b := flats_ok c.1 w1' c.2 ws
    exact ⟨a, xs, rfl, .inr hr, (flat_ok c.1 w1').1, b.1, b.2⟩
  | _ => simp [dInB] at e
theorem rdo_in : RdOp K (rIn K false) dIn := fun H W x y dx dy d Q hW w1 w2 e q => by
  obtain ⟨k, ek, e⟩ := Option.bind_eq_some_iff.mp e
  cases e
  obtain ⟨p, xs, h1, h2, h3, h4, h5⟩ := in_cases w1 w2 ek
  exact ⟨p, xs, h1, h2, h3, h4, by rw [if_neg Bool.false_ne_true, h5]; exact q _ H (Same.refl _) (by simp only [DW])⟩
theorem rdo_notin : RdOp K (rIn K true) dNotIn := fun H W x y dx dy d Q hW w1 w2 e q => by
  obtain ⟨k, ek, e⟩ := Option.bind_eq_some_iff.mp e
  cases e
  obtain ⟨p, xs, h1, h2, h3, h4, h5⟩ := in_cases w1 w2 ek
  exact ⟨p, xs, h1, h2, h3, h4, by rw [if_pos rfl, h5]; exact q _ H (Same.refl _) (by simp only [DW])⟩
theorem dwrs_one {H : Hp} {W : List Addr} {vs : List V} {d : D} (w : DWrs K H W vs [d]) : ∃ v, vs = [v] ∧ DWr K H W v d := by
  match vs, w with
  | [v], w => exact ⟨v, rfl, w.1⟩
  | [], w => exact w.elim
  | _ :: _ :: _, w => exact w.2.elim
noncomputable def gLen : List D → Option D
  | [.lst ds] => some (.int ds.length)
  | [.tup ds] => some (.int ds.length)
  | [.str t] => if t.length ≤ lim then some (.int t.length) else none
  | _ => none
theorem rc_len : RdC K (fun xs H Q => ∃ x n, xs = [x] ∧ LenV K x H n ∧ Q (.int n) H) gLen := fun H W xs ds d Q hW w e q => by
  unfold gLen at e
  split at e
  · cases e
    obtain ⟨v, rfl, w'⟩ := dwrs_one w
    have w := w'
    simp only [DWr] at w
    obtain ⟨a, ys, rfl, hr, ws⟩ := w
    exact ⟨_, _, rfl, .inl ⟨ys, hr, rfl⟩, q _ H (Same.refl _) (by rw [ws.length]; simp only [DW])⟩
  · cases e
    obtain ⟨v, rfl, w'⟩ := dwrs_one w
    have w := w'
    simp only [DWr, DW] at w
    obtain ⟨a, ys, rfl, hr, ws⟩ := w
    exact ⟨_, _, rfl, .inr ⟨ys, hr, rfl⟩, q _ H (Same.refl _) (by rw [ws.length]; simp only [DW])⟩
  · obtain ⟨c, e⟩ := ite_some e
    cases e
    obtain ⟨v, rfl, w'⟩ := dwrs_one w
    have w := w'
    simp only [DWr, DW] at w
    subst w
    exact ⟨_, _, rfl, ⟨lim_le c, rfl⟩, q _ H (Same.refl _) (by simp only [DW])⟩
  · cases e
noncomputable def gList : List D → Option D
  | [.lst ds] => some (.lst ds)
  | [.tup ds] => some (.lst ds)
  | _ => none
theorem rc_list : RdCN K (fun xs H Q => ∃ p ys, xs = [.ref p] ∧ (SqL K H p ys ∨ SqT K H p ys) ∧ ∀ l, H l = none → Q (.ref l) (upd H l (.lst ys))) gList := fun H W xs ds d Q hW w e q => by
  unfold gList at e
  split at e
  · cases e
    obtain ⟨v, rfl, w'⟩ := dwrs_one w
    have w := w'
    simp only [DWr] at w
    obtain ⟨a, ys, rfl, hr, ws⟩ := w
    exact ⟨a, ys, rfl, .inl hr, fun l hl => q l _ ys _ rfl (same_upd hl _) hl upd_same ((ws.fresh hl).same (same_upd hl _))⟩
  · cases e
    obtain ⟨v, rfl, w'⟩ := dwrs_one w
    have w := w'
    simp only [DWr, DW] at w
    obtain ⟨a, ys, rfl, hr, ws⟩ := w
    exact ⟨a, ys, rfl, .inr hr, fun l hl => q l _ ys _ rfl (same_upd hl _) hl upd_same ((ws.fresh hl).same (same_upd hl _))⟩
  · cases e
noncomputable def gTuple : List D → Option D
  | [.lst ds] => some (.tup ds)
  | [.tup ds] => some (.tup ds)
  | _ => none
theorem rc_tuple : RdC K (fun xs H Q => ∃ p ys, xs = [.ref p] ∧ ((SqL K H p ys ∧ ∀ l, H l = none → Q (.ref l) (upd H l (.tup ys))) ∨ (SqT K H p ys ∧ Q (.ref p) H))) gTuple := fun H W xs ds d Q hW w e q => by
  unfold gTuple at e
  split at e
  · cases e
    obtain ⟨v, rfl, w'⟩ := dwrs_one w
    have w := w'
    simp only [DWr] at w
    obtain ⟨a, ys, rfl, hr, ws⟩ := w
    exact ⟨a, ys, rfl, .inl ⟨hr, fun l hl => q _ _ (same_upd hl _) (by simp only [DW]; exact ⟨l, ys, rfl, SqT.of upd_same, ws.same (same_upd hl _)⟩)⟩⟩
  · cases e
    obtain ⟨v, rfl, w'⟩ := dwrs_one w
    have w := w'
    simp only [DWr, DW] at w
    obtain ⟨a, ys, rfl, hr, ws⟩ := w
    exact ⟨a, ys, rfl, .inr ⟨hr, q _ H (Same.refl _) (by simp only [DW]; exact ⟨a, ys, rfl, hr, ws⟩)⟩⟩
  · cases e
noncomputable def bools : List D → Option (List Bool)
  | [] => some []
  | .bl b :: r => (bools r).bind fun bs => some (b :: bs)
  | _ => none
noncomputable def intl : List D → Option (List Int)
  | [] => some []
  | .int b :: r => (intl r).bind fun bs => some (b :: bs)
  | _ => none
theorem bools_ok {H : Hp} {W : List Addr} : ∀ {ds : List D} {xs : List V} {bs : List Bool}, bools ds = some bs → DWs K H W xs ds → xs = bs.map V.bl
  | [], [], bs, e, _ => by simp only [bools] at e; cases e; rfl
  | d :: ds, x :: xs, bs, e, w => by
    simp only [DWs] at w
    cases d with
    | bl b =>
      simp only [bools] at e
      obtain ⟨r, er, e⟩ := Option.bind_eq_some_iff.mp e
      cases e
      have := bools_ok er w.2
      simp only [DW] at w
      rw [w.1, this]; rfl
    | _ => simp [bools] at e
  | [], _ :: _, _, _, w => by simp [DWs] at w
  | _ :: _, [], _, _, w => by simp [DWs] at w
theorem intl_ok {H : Hp} {W : List Addr} : ∀ {ds : List D} {xs : List V} {bs : List Int}, intl ds = some bs → DWs K H W xs ds → xs = bs.map V.int
  | [], [], bs, e, _ => by simp only [intl] at e; cases e; rfl
  | d :: ds, x :: xs, bs, e, w => by
    simp only [DWs] at w
    cases d with
    | int b =>
      simp only [intl] at e
      obtain ⟨r, er, e⟩ := Option.bind_eq_some_iff.mp e
      cases e
      have := intl_ok er w.2
      simp only [DW] at w
      rw [w.1, this]; rfl
    | _ => simp [intl] at e
  | [], _ :: _, _, _, w => by simp [DWs] at w
  | _ :: _, [], _, _, w => by simp [DWs] at w
noncomputable def gSum : List D → Option D
  | [.lst ds] => (intl ds).bind fun bs => if bs.length ≤ 1000 ∧ (bs.all fun n => decide (0 ≤ n) && decide (n ≤ 1000)) = true then some (.int bs.sum) else none
  | _ => none
theorem rc_sum : RdC K (rSum K) gSum := fun H W xs ds d Q hW w e q => by
  unfold gSum at e
  split at e
  · obtain ⟨bs, eb, e⟩ := Option.bind_eq_some_iff.mp e
    obtain ⟨c, e⟩ := ite_some e
    cases e
    obtain ⟨v, rfl, w'⟩ := dwrs_one w
    have w := w'
    simp only [DWr] at w
    obtain ⟨a, ys, rfl, hr, ws⟩ := w
    have := intl_ok eb ws
    subst this
    refine ⟨a, bs, rfl, hr, c.1, fun n hn => ?_, q _ H (Same.refl _) (by simp only [DW])⟩
    have := List.all_eq_true.mp c.2 n hn
    rw [Bool.and_eq_true, decide_eq_true_iff, decide_eq_true_iff] at this
    exact this
  · cases e
noncomputable def gInt : List D → Option D
  | [.int i] => some (.int i)
  | [.bl b] => some (.int (if b then 1 else 0))
  | _ => none
theorem rc_int : RdC K (fun xs H Q => (∃ i, xs = [.int i] ∧ Q (.int i) H) ∨ ∃ k, xs = [.bl k] ∧ Q (.int (if k then 1 else 0)) H) gInt := fun H W xs ds d Q hW w e q => by
  unfold gInt at e
  split at e
  · cases e
    obtain ⟨v, rfl, w'⟩ := dwrs_one w
    have w := w'
    simp only [DWr, DW] at w
    subst w
    exact .inl ⟨_, rfl, q _ H (Same.refl _) (by simp only [DW])⟩
  · cases e
    obtain ⟨v, rfl, w'⟩ := dwrs_one w
    have w := w'
    simp only [DWr, DW] at w
    subst w
    exact .inr ⟨_, rfl, q _ H (Same.refl _) (by simp only [DW])⟩
  · cases e
noncomputable def tyD : D → String
  | .non => "NoneType"
  | .bl _ => "bool"
  | .int _ => "int"
  | .str _ => "str"
  | .lst _ => "list"
  | .tup _ => "tuple"
noncomputable def rIsiU (K : PySem.W.Frag) : List V → Hp → VK → Prop := fun vs H Q => ∃ (x : V) (T c : String) (b : Bool), vs = [x, .ty c] ∧ (TyOf K H x (.type T) ∨ (T = "tuple" ∧ ∃ a xs, x = .ref a ∧ SqT K H a xs) ∨ (T = "list" ∧ ∃ a xs, x = .ref a ∧ SqL K H a xs)) ∧ PySem.W.kitOne K (.type T) (.type c) = some b ∧ Q (.bl b) H
theorem call_isiU : CallR X (.builtin "isinstance") (rIsiU X.K) := by
  intro pins s σ H vs us Q I rv h
  obtain ⟨x, T, c, b, rfl, ty, e, q⟩ := h
  obtain ⟨u, v, rfl, ru, rc⟩ := rv.two
  cases rc
  rcases ty with ty | ⟨rfl, a, xs, rfl, hs⟩ | ⟨rfl, a, xs, rfl, hs⟩
  · exact isinst_ok I ru ty e fun tk => ⟨.bl b, H, I.tok tk, rfl, q⟩
  · cases ru
    obtain ⟨its, _, p, _⟩ := I.tuple hs
    obtain ⟨o, h1, h2, _⟩ := p
    exact PySem.W.kia_one PySem.W.kitx_tuple I.kIn ⟨o, h1, h2⟩ e (fun z => nomatch z) fun tk => ⟨.bl b, H, I.tok tk, rfl, q⟩
  · cases ru
    obtain ⟨its, _, p, _⟩ := I.list hs
    obtain ⟨o, h1, h2, _⟩ := p.isList
    exact PySem.W.kia_one PySem.W.kitx_list I.kIn ⟨o, h1, h2⟩ e (fun z => nomatch z) fun tk => ⟨.bl b, H, I.tok tk, rfl, q⟩
theorem ty_ok {H : Hp} {W : List Addr} {x : V} {d : D} (w : DWr K H W x d) : TyOf K H x (.type (tyD d)) ∨ (tyD d = "tuple" ∧ ∃ a xs, x = .ref a ∧ SqT K H a xs) ∨ (tyD d = "list" ∧ ∃ a xs, x = .ref a ∧ SqL K H a xs) := by
  cases d <;> simp only [DWr, DW] at w
  · subst w; exact .inl .non
  · subst w; exact .inl (.bl _)
  · subst w; exact .inl (.int _)
  · subst w; exact .inl (.str _)
  · obtain ⟨a, xs, rfl, hr, _⟩ := w
    exact .inr (.inr ⟨rfl, a, xs, rfl, hr⟩)
  · obtain ⟨a, xs, rfl, hr, _⟩ := w
    exact .inr (.inl ⟨rfl, a, xs, rfl, hr⟩)
noncomputable def isi (T c : String) : Bool := T == c || (T == "bool" && c == "int")
noncomputable def eIsi (c : String) (f : DFn) : DFn := fun env => (f env).bind fun d => some (.bl (isi (tyD d) c))
theorem rd_isi {te : TE} {f : DFn} {c : String} (hk : ∀ d : D, PySem.W.kitOne K (.type (tyD d)) (.type c) = some (isi (tyD d) c)) (h : RdR K O te f) : RdE K O (tCB (rIsiU K) (tCons te (tCons (tC (.ty c)) tNil))) (eIsi c f) := fun n H₀ H U E rt env σ d Q r e q => by
  obtain ⟨x, ex, e⟩ := Option.bind_eq_some_iff.mp e
  cases e
  refine h _ _ _ _ _ _ _ _ x _ r ex fun v H1 g1 w => ?_
  exact ⟨v, tyD x, c, _, rfl, ty_ok w, hk x, q _ H1 g1 (by simp only [DW])⟩
noncomputable def eWide (f : DFn) : DFn := fun env => (f env).bind fun d => match d with
  | .int n => if n = 2 then some (.int 1) else if n = 4 then some (.int 2) else if n = 8 then some (.int 3) else none
  | _ => none
theorem rd_wide {te : TE} {f : DFn} (h : RdE K O te f) : RdE K O (tDGet (tDisp [(tC (.int 2), tC (.int 1)), (tC (.int 4), tC (.int 2)), (tC (.int 8), tC (.int 3))]) te) (eWide f) := fun n H₀ H U E rt env σ d Q r e q => by
  obtain ⟨x, ex, e⟩ := Option.bind_eq_some_iff.mp e
  cases x with
  | int k =>
    intro p hp
    refine ⟨upd_same, [(.inl 2, .int 1), (.inl 4, .int 2), (.inl 8, .int 3)], rfl, (by decide), ?_⟩
    have g : Same H (upd (upd H p (.dK [])) p (.dK (mergeK [] [(.inl 2, .int 1), (.inl 4, .int 2), (.inl 8, .int 3)]))) := by rw [upd_upd]; exact same_upd hp _
    refine h _ _ _ _ _ _ _ _ _ _ (r.grow g) ex fun v H2 g2 w => ?_
    have hv : v = .int k := by simpa only [DW] using w
    subst hv
    have hd := g2 _ _ (show (upd (upd H p (.dK [])) p (.dK (mergeK [] [(.inl 2, .int 1), (.inl 4, .int 2), (.inl 8, .int 3)]))) p = some _ from upd_same)
    dsimp only at e
    by_cases k2 : k = 2
    · subst k2; rw [if_pos rfl] at e; cases e
      exact ⟨p, .int 1, rfl, .inl ⟨_, Sum.inl 2, .inl hd, rfl, rfl⟩, q _ H2 (g.trans g2) (by simp only [DW])⟩
    rw [if_neg k2] at e
    by_cases k4 : k = 4
    · subst k4; rw [if_pos rfl] at e; cases e
      exact ⟨p, .int 2, rfl, .inl ⟨_, Sum.inl 4, .inl hd, rfl, rfl⟩, q _ H2 (g.trans g2) (by simp only [DW])⟩
    rw [if_neg k4] at e
    by_cases k8 : k = 8
    · subst k8; rw [if_pos rfl] at e; cases e
      exact ⟨p, .int 3, rfl, .inl ⟨_, Sum.inl 8, .inl hd, rfl, rfl⟩, q _ H2 (g.trans g2) (by simp only [DW])⟩
    rw [if_neg k8] at e
    cases e
  | _ => simp at e
theorem con_tup {H : Hp} {W : List Addr} {a : Addr} {xs : List V} {ds : List D} (h : SqT K H a xs) (w : DWs K H W xs ds) : DW K H W (.ref a) (.tup ds) := by
  simp only [DW]; exact ⟨a, xs, rfl, h, w⟩
theorem law_sp {m : List D → Option D} (ht : ∀ ns : List Int, ns.length ≤ 63 → m [.lst (ns.map D.int)] = some (.bl true)) {vs : List V} {H : Hp} {Q : VK} {E : XK}
    (h : ∃ (a : Addr) (ns : List Int), vs = [.ref a] ∧ SqL K H a (ns.map V.int) ∧ ns.length ≤ 63 ∧ ∀ H', Q (.bl true) H') : dsp K 1 false m vs H Q E := by
  obtain ⟨a, ns, rfl, hS, h63, q⟩ := h
  refine ⟨[], [.lst (ns.map .int)], .bl true, rfl, fun a ha => absurd ha (by simp), ?_, ht ns h63, fun v H' g r => ?_⟩
  · refine DWs.one ?_
    simp only [DW]
    refine ⟨a, _, rfl, ?_, dw_ints ns⟩
    rcases hS with h | h
    · exact .inl ⟨by simp, h⟩
    · exact .inr h
  · have := r.1
    simp only [DW] at this
    subst this
    exact q H'
theorem kit_bool : ∀ d : D, PySem.W.kitOne K (.type (tyD d)) (.type "bool") = some (isi (tyD d) "bool") := fun d => by cases d <;> rfl
theorem kit_int : ∀ d : D, PySem.W.kitOne K (.type (tyD d)) (.type "int") = some (isi (tyD d) "int") := fun d => by cases d <;> rfl
theorem kit_list : ∀ d : D, PySem.W.kitOne K (.type (tyD d)) (.type "list") = some (isi (tyD d) "list") := fun d => by cases d <;> rfl
theorem kit_tuple : ∀ d : D, PySem.W.kitOne K (.type (tyD d)) (.type "tuple") = some (isi (tyD d) "tuple") := fun d => by cases d <;> rfl
end
end L2
set_option maxHeartbeats 4000000
namespace L2
open PySem PySem.Spec PyProof.Rows
section
variable {X : Cx} (K : PySem.W.Frag)
theorem op_addK (hK : X.K = K := by rfl) : OpR X (binaryOp .Add) (rAddU K) := by subst hK; exact op_addU
theorem op_eqK (hu : X.A.units + 64 < cLine) (hK : X.K = K := by rfl) : OpR X (compareOp .Eq) (rEqU K) := by subst hK; exact op_eqU hu
theorem op_neK (hu : X.A.units + 64 < cLine) (hK : X.K = K := by rfl) : OpR X (compareOp .NotEq) (rNeU K) := by subst hK; exact op_neU hu
theorem op_inK (hK : X.K = K := by rfl) : OpR X (compareOp .In) (rIn K false) := by subst hK; exact op_in_seq
theorem op_notInK (hK : X.K = K := by rfl) : OpR X (compareOp .NotIn) (rIn K true) := by subst hK; exact op_notIn_seq
theorem ix_K (hK : X.K = K := by rfl) : IxR X (rIx K) := by subst hK; exact ix_seq
theorem call_lenK (hK : X.K = K := by rfl) : CallR X (.builtin "len") (fun xs H Q => ∃ x n, xs = [x] ∧ LenV K x H n ∧ Q (.int n) H) := by subst hK; exact call_len
theorem call_listK (hK : X.K = K := by rfl) : CallR X (.type "list") (fun xs H Q => ∃ p ys, xs = [.ref p] ∧ (SqL K H p ys ∨ SqT K H p ys) ∧ ∀ l, H l = none → Q (.ref l) (upd H l (.lst ys))) := by subst hK; exact call_list_of
theorem call_tupleK (hK : X.K = K := by rfl) : CallR X (.type "tuple") (fun xs H Q => ∃ p ys, xs = [.ref p] ∧ ((SqL K H p ys ∧ ∀ l, H l = none → Q (.ref l) (upd H l (.tup ys))) ∨ (SqT K H p ys ∧ Q (.ref p) H))) := by subst hK; exact call_tuple_of
theorem call_sumK (hc : X.calm = true) (hK : X.K = K := by rfl) : CallR X (.builtin "sum") (rSum K) := by subst hK; exact call_sum hc
theorem call_isiK (hK : X.K = K := by rfl) : CallR X (.builtin "isinstance") (rIsiU K) := by subst hK; exact call_isiU
theorem mt_countK (hK : X.K = K := by rfl) : MtM X "list.count" (rCount K) := by subst hK; exact mt_count
variable {tl : TE} {ta : TA}
theorem pi_seqK {tg l : Expr} (hl : PE X l tl) (hK : X.K = K := by rfl) : PI X tg l (fun σ H R => iList K tl σ H R ∨ iTup K tl σ H R) := by subst hK; exact pi_seq hl
theorem pi_zipK {elts : List Expr} {ek : Nat} {tpos : Pos} {e1 e2 : Expr} {p pos : Pos} (hg : Gl X "zip") (hm : X.mg "zip" = none) (ha : PA X [e1, e2] ta)
    (hs : starEach [e1, e2] X.env = [(false, eval e1 X.env), (false, eval e2 X.env)] := by rfl) (hs2 : starEach [e2] X.env = [(false, eval e2 X.env)] := by rfl) (hK : X.K = K := by rfl) : PI X (.Tuple elts ek tpos) (.Call (.Name "zip" p) [e1, e2] [] pos) (iZip K ta) := by subst hK; exact pi_zip hg hm ha hs hs2
theorem pg_pairK {i j : Nat} {x y : Str} {px py pos : Pos} {k : Nat} (hc : X.calm = true) (hN : X.N.Nodup) (hi : X.N[i]? = some x) (hj : X.N[j]? = some y) (hx : Loc X.env.scope x) (hy : Loc X.env.scope y)
    (fx : X.fn x = true ∨ X.env.scope.names.lookup x = some .local := by first | exact .inl rfl | exact .inr rfl) (fy : X.fn y = true ∨ X.env.scope.names.lookup y = some .local := by first | exact .inl rfl | exact .inr rfl) (hK : X.K = K := by rfl) :
    PG X (.Tuple [.Name x px, .Name y py] k pos) (gTup K 2 (gCons (gName i) (gCons (gName j) gNil))) := by subst hK; exact pg_pair hc hN hi hj hx hy fx fy
theorem pe_bmK {o e : Expr} {es : List Expr} {to : TE} {t : TA} {name : Str} {apos cpos : Pos} {T id : String} {r : V → List V → Hp → VK → Prop} (pa : PlainAttrs T) (slot : Slot T name id) (hty : typeOf (.builtin id) = pure (.type "method_descriptor")) (hm : MtR X id r) (ho : PE X o to) (ha : PA X (e :: es) t)
    (hbase : attributeBase o name X.env (eval o X.env) = eval o X.env := by rfl)
    (hfew : ((backTo cpos (starEach (e :: es) X.env)).all (fun x => !x.1) && (backToKw cpos (keywordEach [] X.env)).all (fun x => x.1.isSome)
      && decide ((e :: es).length + ([] : List Keyword).length + (if ([] : List Keyword).isEmpty then 0 else 1) < 30)) = true := by rfl)
    (hline : (apos.endLine == cpos.line) = true := by rfl) (hs : starEach (e :: es) X.env = (false, eval e X.env) :: starEach es X.env := by rfl) (hplain : (backTo cpos (starEach es X.env)).any (·.1) = false := by rfl) (hK : X.K = K := by rfl) :
    PE X (.Call (.Attribute o name apos) (e :: es) [] cpos) (tBM K T r to t) := by subst hK; exact pe_bm pa slot hty hm ho ha hbase hfew hline hs hplain
end
end L2
set_option maxHeartbeats 4000000
namespace HT
open PySem PyProof.Rows
section
variable {prog : Program} {w : World} {A : Around} {E : Value → Shared → Prop} {s : Shared}
theorem getItem_tuple_all {t sl : Addr} {items : Array Value} {vl vu : Value} {lo hi : Option Int} {Q : Value → Shared → Prop} (ht : IsTup s.heap t items) (hs : s.heap.IsSliceOf sl vl vu .none) (pl : IsPart vl lo) (pu : IsPart vu hi)
    (hw : sIx items.size 0 lo = 0 ∧ sIx items.size items.size hi = items.size) (h : Q (.ref t) s) : wpAny (model prog w) A (getItem (.ref t) (.ref sl)) Q E s := by
  obtain ⟨os, hos, hcs, hds⟩ := id hs
  have hTs : s.TypeIs (.ref sl) "slice" := ⟨os, hos, hcs⟩
  unfold getItem
  try with_reducible refine wpAny_holding ?_
  first | refine wpAny_bind (wpAny_pure ?_) | skip
  refine wpAny_bind (wpAny_sequenceKey ht.typeIs (by decide) ?_)
  refine wpAny_bind (wpAny_callSpecial?_slot (name := Str.ofString "__getitem__") ht.typeIs PyProof.Rows.slot_tuple_getitem
    (wpAny_call_entry PyProof.Rows.slot_tuple_getitem ht.typeIs entry_tuple_getitem ?_ (args_tuple_getitem _ _)))
  show wpAny _ _ (Builtin.Tuple.tupleItemsOf (.ref t) >>= _) _ _ s
  refine wpAny_bind (tupleItemsOf_ ht ?_)
  refine wpAny_bind (wpAny_typeOf hTs ?_)
  rw [if_pos (by decide)]
  refine wpAny_bind (sliceApplied_gen hs pl pu ?_)
  have hyes : (((sIx items.size 0 lo : Nat) : Int) == 0 && (1 : Int) == 1 && (sIx items.size items.size hi - sIx items.size 0 lo) == items.size) = true := by
    rw [hw.1, hw.2]; simp
  show wpAny _ _ (if (((sIx items.size 0 lo : Nat) : Int) == 0 && (1 : Int) == 1 && (sIx items.size items.size hi - sIx items.size 0 lo) == items.size) = true then _ else _) _ _ s
  rw [if_pos hyes]
  unfold Builtin.Tuple.tupleIsExact
  refine wpAny_bind (wpAny_bind (wpAny_typeOf ht.typeIs (wpAny_pure ?_)))
  rw [if_pos (by decide)]
  first
    | exact wpAny_bind (wpAny_rule (wpAny_pure ⟨_, rfl, wpAny_pure h⟩))
    | exact wpAny_bind (wpAny_rule (wpAny_bind (wpAny_pure (wpAny_pure ⟨_, rfl, wpAny_pure h⟩))))
end
end HT
namespace L2
open PySem PySem.Spec PyProof.Rows
noncomputable def cutS (z : Str) (lo hi : Option Int) : Str := if ((Builtin.Str.strSliceIndices lo hi 1 z.length).length == z.length) = true then z else ⟨((Builtin.Str.strSliceIndices lo hi 1 z.length).filterMap (z.cps[·]?)).toArray⟩
noncomputable def rSlU (K : PySem.W.Frag) : V → Option Int → Option Int → Hp → VK → Prop := fun x lo hi H Q => rSlL K x lo hi H Q ∨ rSlT K x lo hi H Q ∨
  (∃ a xs, x = .ref a ∧ SqT K H a xs ∧ (HT.sIx xs.length 0 lo = 0 ∧ HT.sIx xs.length xs.length hi = xs.length) ∧ Q (.ref a) H) ∨ ∃ z, x = .str z ∧ (cutS z lo hi).length ≤ sizeLine ∧ Q (.str (cutS z lo hi)) H
section
variable {X : Cx}
theorem sl_whole : SlR X (fun x lo hi H Q => ∃ a xs, x = .ref a ∧ SqT X.K H a xs ∧ (HT.sIx xs.length 0 lo = 0 ∧ HT.sIx xs.length xs.length hi = xs.length) ∧ Q (.ref a) H) := by
  intro pins s σ H x v vl vu lo hi sl Q I rx hs pl pu h
  obtain ⟨a, xs, rfl, hx, hw, q⟩ := h
  cases rx
  obtain ⟨its, r, ht, hz⟩ := I.tuple hx
  have hlen : its.toArray.size = xs.length := by rw [List.size_toArray]; exact r.length.symm
  exact ⟨"tuple", _, PyProof.Rows.slot_tuple_getitem.lookup, ht.typeIs, HT.getItem_tuple_all ht hs pl pu (by rw [hlen]; exact hw) ⟨.ref a, H, I, rfl, q⟩⟩
theorem part_of {v : Value} {o : Option Int} (p : IsPart v o) : ∃ q : Option (Int × Tok), v = partValue q ∧ q.map (·.1) = o := by
  cases p with
  | none => exact ⟨none, rfl, rfl⟩
  | int i t => exact ⟨some (i, t), rfl, rfl⟩
theorem sl_str : SlR X (fun x lo hi H Q => ∃ z, x = .str z ∧ (cutS z lo hi).length ≤ sizeLine ∧ Q (.str (cutS z lo hi)) H) := by
  intro pins s σ H x v vl vu lo hi sl Q I rx hs pl pu h
  obtain ⟨z, rfl, hz, q⟩ := h
  obtain ⟨t, rfl⟩ := rx
  obtain ⟨l, rfl, rfl⟩ := part_of pl
  obtain ⟨u, rfl, rfl⟩ := part_of pu
  refine ⟨"str", _, F.slot_str_getitem.lookup, typeIs_str _ _ _, wpAny_getItem_str_slice (l := l) (u := u) (st := none) hs rfl ?_⟩
  unfold cutS at q hz
  unfold sliceMade slicePicked
  by_cases c : ((Builtin.Str.strSliceIndices (l.map (·.1)) (u.map (·.1)) 1 z.length).length == z.length) = true
  · rw [if_pos c] at q
    rw [if_pos (by simpa using c)]
    exact ⟨.str z, H, I, ⟨t, rfl⟩, q⟩
  · rw [if_neg c] at q hz
    rw [if_neg (by simpa using c)]
    exact ⟨hz, .str _, H, I.tok _, ⟨_, rfl⟩, q⟩
theorem sl_U : SlR X (rSlU X.K) := sl_list.or (sl_tup.or (sl_whole.or sl_str))
theorem sl_K (K : PySem.W.Frag) (hK : X.K = K := by rfl) : SlR X (rSlU K) := by subst hK; exact sl_U
end
noncomputable def dCut (ds : List D) (lo hi : Option Int) : List D := (ds.drop (HT.sIx ds.length 0 lo)).take (HT.sIx ds.length ds.length hi - HT.sIx ds.length 0 lo)
noncomputable def dSl (lo hi : Option Int) : D → Option D
  | .lst ds => some (.lst (dCut ds lo hi))
  | .tup ds => some (.tup (dCut ds lo hi))
  | .str z => if (cutS z lo hi).length ≤ lim then some (.str (cutS z lo hi)) else none
  | _ => none
section
variable {K : PySem.W.Frag} {O : List Nat} {te : TE} {f : DFn} {tl th : TO}
noncomputable def RdO (K : PySem.W.Frag) (O : List Nat) (t : TO) (f : DEnv → Option (Option Int)) : Prop :=
  ∀ n H₀ H U E rt env σ o Q, RR K n H₀ H U O E rt env σ → f env = some o → (∀ H', Same H H' → Q o H') → t σ H Q
noncomputable def oNone : DEnv → Option (Option Int) := fun _ => some none
noncomputable def oSome (f : DFn) : DEnv → Option (Option Int) := fun env => (f env).bind fun d => match d with
  | .int i => some (some i)
  | _ => none
theorem ro_none : RdO K O tNoPart oNone := fun n H₀ H U E rt env σ o Q r e q => by cases e; exact q H (Same.refl _)
theorem ro_some (h : RdE K O te f) : RdO K O (tPart te) (oSome f) := fun n H₀ H U E rt env σ o Q r e q => by
  obtain ⟨x, ex, e⟩ := Option.bind_eq_some_iff.mp e
  cases x with
  | int i =>
    dsimp only at e
    cases e
    exact h _ _ _ _ _ _ _ _ _ _ r ex fun v H1 g1 w => ⟨i, by simpa only [DW] using w, q H1 g1⟩
  | _ => simp at e
noncomputable def eSl (f : DFn) (l u : DEnv → Option (Option Int)) : DFn := fun env => (f env).bind fun d => (l env).bind fun lo => (u env).bind fun hi => dSl lo hi d
theorem dws_cut {H : Hp} {W : List Addr} {xs : List V} {ds : List D} (lo hi : Option Int) (w : DWs K H W xs ds) : DWs K H W (cutV xs lo hi) (dCut ds lo hi) := by
  unfold cutV dCut
  rw [w.length]
  exact DWs.take _ (DWs.drop _ w)
theorem rd_sl {l u : DEnv → Option (Option Int)} (h : RdR K O te f) (hl : RdO K O tl l) (hu : RdO K O th u) : RdE K O (tSl (rSlU K) te tl th) (eSl f l u) := fun n H₀ H U E rt env σ d Q r e q => by
  obtain ⟨x, ex, e⟩ := Option.bind_eq_some_iff.mp e
  obtain ⟨lo, el, e⟩ := Option.bind_eq_some_iff.mp e
  obtain ⟨hi, eh, e⟩ := Option.bind_eq_some_iff.mp e
  refine h _ _ _ _ _ _ _ _ x _ r ex fun v H1 g1 w1 => ?_
  refine hl _ _ _ _ _ _ _ _ lo _ (r.grow g1) el fun H2 g2 => ?_
  refine hu _ _ _ _ _ _ _ _ hi _ ((r.grow g1).grow g2) eh fun H3 g3 => ?_
  have g13 := g1.trans (g2.trans g3)
  have w := w1.same (g2.trans g3)
  have r3 := ((r.grow g1).grow g2).grow g3
  cases x with
  | lst ds =>
    simp only [dSl] at e
    cases e
    simp only [DWr] at w
    obtain ⟨a, xs, rfl, hs, ws⟩ := w
    refine .inl ⟨a, xs, rfl, hs, fun p hp => q _ _ (g13.trans (same_upd hp _)) ?_⟩
    exact DW.laid (H := H3) r3.alloc hp ((dws_cut lo hi ws).same (same_upd hp _)) upd_same
  | tup ds =>
    simp only [dSl] at e
    cases e
    simp only [DWr, DW] at w
    obtain ⟨a, xs, rfl, hs, ws⟩ := w
    by_cases c : HT.sIx xs.length 0 lo = 0 ∧ HT.sIx xs.length xs.length hi = xs.length
    · refine .inr (.inr (.inl ⟨a, xs, rfl, hs, c, q _ _ g13 ?_⟩))
      have hc : dCut ds lo hi = ds := by
        unfold dCut
        rw [← ws.length, c.1, c.2, List.drop_zero, Nat.sub_zero, ws.length, List.take_length]
      rw [hc]
      simp only [DW]
      exact ⟨a, xs, rfl, hs, ws⟩
    · refine .inr (.inl ⟨a, xs, rfl, hs, c, fun p hp => q _ _ (g13.trans (same_upd hp _)) ?_⟩)
      simp only [DW]
      exact ⟨p, _, rfl, SqT.of upd_same, (dws_cut lo hi ws).same (same_upd hp _)⟩
  | str z =>
    simp only [dSl] at e
    obtain ⟨c, e⟩ := ite_some e
    cases e
    simp only [DWr, DW] at w
    exact .inr (.inr (.inr ⟨z, w, lim_le c, q _ _ g13 (by simp only [DW])⟩))
  | _ => simp [dSl] at e
end
end L2
set_option maxHeartbeats 4000000
namespace L2
open PySem PySem.Spec PyProof.Rows
theorem fn_zero {P : Program} {w : World} {K : PySem.W.Frag} {mg : Str → Option Value} {base : Heap} {k : Nat} {f : Addr} {fd : FuncData} {ps : List Str} {np : Nat} {fr : Bool} {mir : List D → Option D} (hl : ps.length = np) (no : ∀ ds, mir ds = none) :
    FnOk P w K mg base CX0 k f fd ps (dsp K np fr mir) :=
  ⟨fun vs H Q E h => (dsp_len h).trans hl.symm, fun A outer s H args us vs Q E _ _ _ _ h => by
    obtain ⟨U, ds, d, _, _, _, e, _⟩ := h
    rw [no] at e
    cases e⟩
section
variable {K : PySem.W.Frag} {O : List Nat} {ta tb tc : TE} {fa fb fc : DFn}
noncomputable def eChain (g g' : D → D → Option D) (fa fb fc : DFn) : DFn := fun env => (fa env).bind fun x => (fb env).bind fun y => ((g x y).bind tBl).bind fun k => if k = true then (fc env).bind fun z => g' y z else some (.bl false)
theorem rd_chain {r r' : R2} {g g' : D → D → Option D} (hg : RdOp K r g) (hg' : RdOp K r' g') (ha : RdR K O ta fa) (hb : RdR K O tb fb) (hc : RdR K O tc fc) : RdE K O (tChain r r' ta tb tc) (eChain g g' fa fb fc) := fun n H₀ H U E rt env σ d Q r e q => by
  obtain ⟨x, ex, e⟩ := Option.bind_eq_some_iff.mp e
  obtain ⟨y, ey, e⟩ := Option.bind_eq_some_iff.mp e
  obtain ⟨k, ek, e⟩ := Option.bind_eq_some_iff.mp e
  obtain ⟨z, ez, ek⟩ := Option.bind_eq_some_iff.mp ek
  have := tBl_some ek
  subst this
  refine ha _ _ _ _ _ _ _ _ x _ r ex fun v H1 g1 w1 => ?_
  refine hb _ _ _ _ _ _ _ _ y _ (r.grow g1) ey fun u H2 g2 w2 => ?_
  have r2 := (r.grow g1).grow g2
  refine hg _ _ _ _ x y _ _ r2.alloc (w1.same g2) w2 ez fun b H3 g3 w3 => ⟨k, by simpa only [DW] using w3, ?_⟩
  have r3 := r2.grow g3
  cases k with
  | true =>
    rw [if_pos rfl] at e ⊢
    obtain ⟨c, ec, e⟩ := Option.bind_eq_some_iff.mp e
    refine hc _ _ _ _ _ _ _ _ c _ r3 ec fun t H4 g4 w4 => ?_
    exact hg' _ _ _ _ y c d Q (r3.grow g4).alloc ((w2.same g3).same g4) w4 e fun o H5 g5 w5 => q o H5 (g1.trans (g2.trans (g3.trans (g4.trans g5)))) w5
  | false =>
    rw [if_neg Bool.false_ne_true] at e ⊢
    cases e
    exact q _ H3 (g1.trans (g2.trans g3)) (by simp only [DW])
end
end L2
set_option maxHeartbeats 4000000
namespace L2
open PySem PySem.Spec PyProof.Rows
section
variable {X : Cx} {K : PySem.W.Frag} {O : List Nat}
open Classical in
noncomputable def eqZ (its : List Value) (ds : List D) (d : D) (w : Value) : Bool := decide (∃ i : Nat, ∃ e : D, its[i]? = some w ∧ ds[i]? = some e ∧ deq e d = true)
theorem eqZ_at {pins : List (Addr × Obj)} {σ : St} {H : Hp} {s : Shared} (I : Inv X pins σ H s) {xs : List V} {its : List Value} {ds : List D} {d : D} (r : Vals xs its) (w : DRs X.K H xs ds) {i : Nat} {u : Value} {e : D} (hu : its[i]? = some u) (he : ds[i]? = some e) : eqZ its ds d u = deq e d := by
  unfold eqZ
  cases h : deq e d with
  | true => exact @decide_eq_true _ (Classical.propDecidable _) ⟨i, e, hu, he, h⟩
  | false =>
    refine @decide_eq_false _ (Classical.propDecidable _) fun ⟨j, e', hj, he', h'⟩ => ?_
    obtain ⟨x, hx, dx⟩ := w.get' he
    obtain ⟨y, hy, dy⟩ := w.get' he'
    obtain ⟨u1, q1, r1⟩ := r.get hx
    obtain ⟨u2, q2, r2⟩ := r.get hy
    rw [hu] at q1; cases q1
    rw [hj] at q2; cases q2
    have exy := RelV.inj r1 r2
    subst exy
    rw [dr_inj I dx dy, h'] at h
    cases h
theorem eqZ_any {pins : List (Addr × Obj)} {σ : St} {H : Hp} {s : Shared} (I : Inv X pins σ H s) {xs : List V} {its : List Value} {ds : List D} {d : D} (r : Vals xs its) (w : DRs X.K H xs ds) : its.any (eqZ its ds d) = ds.any fun e => deq e d := by
  have hl : its.length = ds.length := by rw [← r.length, w.length]
  rw [Bool.eq_iff_iff, List.any_eq_true, List.any_eq_true]
  constructor
  · rintro ⟨u, hu, h⟩
    obtain ⟨i, hi, rfl⟩ := List.mem_iff_getElem.mp hu
    have he : ds[i]? = some (ds[i]'(by omega)) := List.getElem?_eq_getElem _
    rw [eqZ_at I r w (List.getElem?_eq_getElem hi) he] at h
    exact ⟨_, List.getElem_mem _, h⟩
  · rintro ⟨e, he, h⟩
    obtain ⟨i, hi, rfl⟩ := List.mem_iff_getElem.mp he
    have hu : its[i]? = some (its[i]'(by omega)) := List.getElem?_eq_getElem _
    exact ⟨_, List.getElem_mem _, by rw [eqZ_at I r w hu (List.getElem?_eq_getElem hi)]; exact h⟩
noncomputable def rInD (K : PySem.W.Frag) (neg : Bool) : R2 := fun x y H Q => ∃ p xs ds d, y = .ref p ∧ (SqL K H p xs ∨ SqT K H p xs) ∧ DRs K H xs ds ∧ DR K H x d ∧ (ds.all fun e => decide (dep e ≤ 60)) = true ∧ Q (.bl (if neg then !(ds.any fun e => deq e d) else ds.any fun e => deq e d)) H
theorem op_inD (hu : X.A.units + 64 < cLine) : OpR X (compareOp .In) (rInD X.K false) := by
  intro pins s σ H x y v u Q I rx ry h
  obtain ⟨p, xs, ds, d, rfl, hq, ws, wd, hdp, q⟩ := h
  cases ry
  have eqs : ∀ {its : List Value} (r : Vals xs its) (A : Around), A.units + 61 < cLine → ∀ w ∈ its, SeqAt.EqAt A s w v (eqZ its ds d w) := fun {its} r A hA w hw => by
    obtain ⟨i, hi, rfl⟩ := List.mem_iff_getElem.mp hw
    have hl : its.length = ds.length := by rw [← r.length, ws.length]
    have he : ds[i]? = some (ds[i]'(by omega)) := List.getElem?_eq_getElem _
    obtain ⟨x', hx', dx'⟩ := ws.get' he
    obtain ⟨u', hu', ru'⟩ := r.get hx'
    rw [List.getElem?_eq_getElem hi] at hu'; cases hu'
    rw [eqZ_at I r ws (List.getElem?_eq_getElem hi) he]
    have := List.all_eq_true.mp hdp _ (List.getElem_mem (l := ds) (n := i) (by omega))
    have := of_decide_eq_true this
    exact eqD I (by omega) dx' wd ru' rx
  rcases hq with hq | hq
  · obtain ⟨its, r, pl, hz⟩ := I.list hq
    refine SeqAt.in_listAt (eqZ its ds d) pl.isList (fun w hw => eqs r _ (by first | omega | (show X.A.units + 1 + 61 < cLine; omega)) w (by simpa using hw)) ⟨.bl _, H, I, rfl, ?_⟩
    rw [show its.toArray.any (eqZ its ds d) = its.any (eqZ its ds d) by simp, eqZ_any I r ws]
    exact q
  · obtain ⟨its, r, pl, hz⟩ := I.tuple hq
    refine SeqAt.in_tupleAt (eqZ its ds d) pl (fun w hw => eqs r _ (by first | omega | (show X.A.units + 1 + 61 < cLine; omega)) w (by simpa using hw)) ⟨.bl _, H, I, rfl, ?_⟩
    rw [show its.toArray.any (eqZ its ds d) = its.any (eqZ its ds d) by simp, eqZ_any I r ws]
    exact q
theorem op_notInD (hu : X.A.units + 64 < cLine) : OpR X (compareOp .NotIn) (rInD X.K true) := by
  intro pins s σ H x y v u Q I rx ry h
  obtain ⟨p, xs, ds, d, rfl, hq, ws, wd, hdp, q⟩ := h
  cases ry
  have eqs : ∀ {its : List Value} (r : Vals xs its) (A : Around), A.units + 61 < cLine → ∀ w ∈ its, SeqAt.EqAt A s w v (eqZ its ds d w) := fun {its} r A hA w hw => by
    obtain ⟨i, hi, rfl⟩ := List.mem_iff_getElem.mp hw
    have hl : its.length = ds.length := by rw [← r.length, ws.length]
    have he : ds[i]? = some (ds[i]'(by omega)) := List.getElem?_eq_getElem _
    obtain ⟨x', hx', dx'⟩ := ws.get' he
    obtain ⟨u', hu', ru'⟩ := r.get hx'
    rw [List.getElem?_eq_getElem hi] at hu'; cases hu'
    rw [eqZ_at I r ws (List.getElem?_eq_getElem hi) he]
    have := List.all_eq_true.mp hdp _ (List.getElem_mem (l := ds) (n := i) (by omega))
    have := of_decide_eq_true this
    exact eqD I (by omega) dx' wd ru' rx
  rcases hq with hq | hq
  · obtain ⟨its, r, pl, hz⟩ := I.list hq
    refine SeqAt.notIn_listAt (eqZ its ds d) pl.isList (fun w hw => eqs r _ (by first | omega | (show X.A.units + 1 + 61 < cLine; omega)) w (by simpa using hw)) ⟨.bl _, H, I, rfl, ?_⟩
    rw [show its.toArray.any (eqZ its ds d) = its.any (eqZ its ds d) by simp, eqZ_any I r ws]
    exact q
  · obtain ⟨its, r, pl, hz⟩ := I.tuple hq
    refine SeqAt.notIn_tupleAt (eqZ its ds d) pl (fun w hw => eqs r _ (by first | omega | (show X.A.units + 1 + 61 < cLine; omega)) w (by simpa using hw)) ⟨.bl _, H, I, rfl, ?_⟩
    rw [show its.toArray.any (eqZ its ds d) = its.any (eqZ its ds d) by simp, eqZ_any I r ws]
    exact q
theorem op_inDK (K : PySem.W.Frag) (hu : X.A.units + 64 < cLine) (hK : X.K = K := by rfl) : OpR X (compareOp .In) (rInD K false) := by subst hK; exact op_inD hu
theorem op_notInDK (K : PySem.W.Frag) (hu : X.A.units + 64 < cLine) (hK : X.K = K := by rfl) : OpR X (compareOp .NotIn) (rInD K true) := by subst hK; exact op_notInD hu
noncomputable def dInBD (x : D) : D → Option Bool
  | .lst ds => if (ds.all fun e => decide (dep e ≤ 60)) = true then some (ds.any fun y => deq y x) else none
  | .tup ds => if (ds.all fun e => decide (dep e ≤ 60)) = true then some (ds.any fun y => deq y x) else none
  | _ => none
noncomputable def dInD (a b : D) : Option D := (dInBD a b).bind fun k => some (.bl k)
noncomputable def dNotInD (a b : D) : Option D := (dInBD a b).bind fun k => some (.bl (!k))
theorem inD_cases {H : Hp} {W : List Addr} {x y : V} {dx dy : D} {k : Bool} (w1 : DWr K H W x dx) (w2 : DWr K H W y dy) (e : dInBD dx dy = some k) :
    ∃ p xs ds, y = .ref p ∧ (SqL K H p xs ∨ SqT K H p xs) ∧ DRs K H xs ds ∧ DR K H x dx ∧ (ds.all fun e => decide (dep e ≤ 60)) = true ∧ (ds.any fun e => deq e dx) = k := by
  cases dy with
  | lst ds =>
    simp only [dInBD] at e
    obtain ⟨c, e⟩ := ite_some e
    simp only [DWr] at w2
    obtain ⟨a, xs, rfl, hr, ws⟩ := w2
    exact ⟨a, xs, ds, rfl, .inl hr, ws.drs, w1.dr, c, e⟩
  | tup ds =>
    simp only [dInBD] at e
    obtain ⟨c, e⟩ := ite_some e
    simp only [DWr, DW] at w2
    obtain ⟨a, xs, rfl, hr, ws⟩ := w2
    exact ⟨a, xs, ds, rfl, .inr hr, ws.drs, w1.dr, c, e⟩
  | _ => simp [dInBD] at e
theorem rdo_inD : RdOp K (rInD K false) dInD := fun H W x y dx dy d Q hW w1 w2 e q => by
  obtain ⟨k, ek, e⟩ := Option.bind_eq_some_iff.mp e
  cases e
  obtain ⟨p, xs, ds, h1, h2, h3, h4, h5, h6⟩ := inD_cases w1 w2 ek
  exact ⟨p, xs, ds, dx, h1, h2, h3, h4, h5, by rw [if_neg Bool.false_ne_true, h6]; exact q _ H (Same.refl _) (by simp only [DW])⟩
theorem rdo_notinD : RdOp K (rInD K true) dNotInD := fun H W x y dx dy d Q hW w1 w2 e q => by
  obtain ⟨k, ek, e⟩ := Option.bind_eq_some_iff.mp e
  cases e
  obtain ⟨p, xs, ds, h1, h2, h3, h4, h5, h6⟩ := inD_cases w1 w2 ek
  exact ⟨p, xs, ds, dx, h1, h2, h3, h4, h5, by rw [if_pos rfl, h6]; exact q _ H (Same.refl _) (by simp only [DW])⟩
end
end L2
set_option maxHeartbeats 4000000
namespace L2
open PySem PySem.Spec PyProof.Rows
section
variable {K : PySem.W.Frag} {O : List Nat}
end
end L2
set_option maxHeartbeats 4000000
namespace L2
open PySem PySem.Spec PyProof.Rows
section
variable {X : Cx}
end
section
variable {K : PySem.W.Frag} {O : List Nat}
end
end L2
set_option maxHeartbeats 4000000
namespace L2
open PySem PySem.Spec PyProof.Rows
noncomputable abbrev enI (h : Heap) (l : Addr) : Heap := h.push { cls := .type "list_iterator", data := .fields #[.ref l, .int 0 0] }
noncomputable abbrev enE (h : Heap) (l : Addr) : Heap := (enI h l).push { cls := .type "enumerate", data := .fields #[.none, .bool false, .ref h.objs.size, rawInt 0, .none, .none] }
theorem enum_new (l : Addr) (items : Array Value) : Meets (Builtin.«enumerate.__new__» ⟨[.type "enumerate", .ref l], []⟩) (fun _ R s => s.heap.IsList l items ∧
      R (.ok (.ret (.ref (enI s.heap l).objs.size))) { s with heap := enE s.heap l }) :=
  .of_wp fun prog w A R s h => by
    obtain ⟨hp, g, d, tk, os⟩ := s; obtain ⟨hl, h⟩ := h
    have hsub := sub_enumerate
    have hL : Heap.IsList (Shared.heap ⟨hp, g, d, tk, os⟩) l items := hl
    wp_walk
    refine wpAny_stack_any fun st => wpAny_pure ?_
    split
    · rename_i c _ _ _ _ _
      cases (c == Value.type "enumerate")
      · wp_walk using wpAny_pyIter_list hL
        exact ⟨_, rfl, h⟩
      · wp_walk using wpAny_pyIter_list hL
        exact ⟨_, rfl, h⟩
    · wp_walk using wpAny_pyIter_list hL
      exact ⟨_, rfl, h⟩
section
variable {prog : Program} {w : World} {A : Around} {E : Value → Shared → Prop} {s : Shared}
theorem call_enum {l : Addr} {items : Array Value} {Q : Value → Shared → Prop} (hl : s.heap.IsList l items)
    (h : ∀ h', IsEnum h' (s.heap.objs.size + 1) s.heap.objs.size 0 .none → h'.IsListIter s.heap.objs.size l 0 → (∀ b o, s.heap.get? b = some o → h'.get? b = some o) → Q (.ref (s.heap.objs.size + 1)) { s with heap := h' }) :
    wpAny (model prog w) A (call (.type "enumerate") [.ref l]) Q E s := by
  refine callType_new F.called_enumerate (by decide) (F.typeCall_enumerate_1 _) (F.newCall_enumerate_1 _) (fun obj => F.args_object_init_2 obj _) F.entry_enumerate_new (enum_new l items) ⟨hl, ?_⟩
  have hz : (enI s.heap l).objs.size = s.heap.objs.size + 1 := Heap.size_push ..
  show _ ∧ _
  rw [hz]
  have he : IsEnum (enE s.heap l) (s.heap.objs.size + 1) s.heap.objs.size 0 .none := by
    have := Heap.get?_push_size (enI s.heap l) (o := { cls := .type "enumerate", data := .fields #[.none, .bool false, .ref s.heap.objs.size, rawInt 0, .none, .none] }) rfl
    rw [hz] at this; exact this
  exact ⟨⟨_, he, rfl⟩, h _ he ⟨_, Heap.get?_push_of_some _ (Heap.get?_push_size _ rfl), rfl, rfl⟩ fun b o x => Heap.get?_push_of_some _ (Heap.get?_push_of_some _ x)⟩
end
noncomputable def Ite (K : PySem.W.Frag) (a : Addr) (us : List V) : It :=
  ⟨fun i H => SqL K H a us ∧ i < us.length, fun i H x H' => ∃ t u, H t = none ∧ x = .ref t ∧ H' = upd H t (.tup [.int (i : Int), u]) ∧ us[i]? = some u, fun i H => SqL K H a us ∧ us.length ≤ i⟩
theorem turn_enum {P : Program} {w : World} {K : PySem.W.Frag} {elts : List Expr} {ek : Nat} {pos : Pos} {e it a : Addr} (hne : e ≠ it) (hae : a ≠ e) (hai : a ≠ it) (us : List V) :
    Turn P w K (.Tuple elts ek pos) (Ite K a us) [e, it] e (fun i h => (∃ old, IsEnum h e it (i : Int) old) ∧ h.IsListIter it a i) where
  mem := by simp
  obj := fun i h st c hc => by
    obtain ⟨⟨old, he⟩, o1, e1, c1, d1⟩ := st
    have hc' : c = e ∨ c = it := by simpa using hc
    rcases hc' with rfl | rfl
    · exact ⟨_, he, fun v q => by cases q⟩
    · exact ⟨_, e1, fun v q => by rw [d1] at q; cases q⟩
  keep := fun i h h' st k => by
    obtain ⟨⟨old, he⟩, h1⟩ := st
    exact ⟨⟨old, k e (by simp) _ he⟩, h1.at fun o q => k it (by simp) o q⟩
  item := by
    intro X hP hw hK hc i pins s σ H E I hf st hg
    subst hP hw hK
    obtain ⟨⟨old, he⟩, h1⟩ := st
    obtain ⟨hql, hlt⟩ := hg
    obtain ⟨its, r, pl, _⟩ := I.list hql
    obtain ⟨u, hu, ru⟩ := r.get (List.getElem?_eq_getElem hlt)
    refine wpAny_pyNext_enum_item he h1 pl.isList (by simpa using hu) hne fun h' a1 a2 a3 a4 a5 => ?_
    refine ⟨_, rfl, wpAny_letOwnedTupleGo_enum a1 fun h'' he'' hs'' => ?_⟩
    have hzT : s.heap.objs.size ≠ e := Nat.ne_of_gt (Heap.lt_size he)
    have hT'' : h''.get? s.heap.objs.size = some { cls := .type "tuple", data := .seq #[.int (i : Int) s.toks, u] } := hs''.extBut _ _ hzT a3
    have kk : ∀ c ob, c ∉ [e, it] → s.heap.get? c = some ob → h''.get? c = some ob := fun c ob hc q => by
      have hc' : ¬ (c = e ∨ c = it) := by simpa using hc
      exact hs''.extBut _ _ (fun q => hc' (.inl q)) (a5 c ob (fun q => hc' (.inl q)) (fun q => hc' (.inr q)) q)
    have I2 : Inv X pins σ (upd H s.heap.objs.size (.tup [.int (i : Int), us[i]])) { s with heap := h'', toks := s.toks + 1 } :=
      I.turnedLaid kk hf (Nat.le_refl _) ⟨(show 2 ≤ sizeLine by decide), [.int (i : Int) s.toks, u], .cons ⟨_, rfl⟩ (.cons ru .nil), ⟨_, hT'', rfl, _, rfl⟩⟩
    refine ⟨.ref s.heap.objs.size, _, I2, rfl, ⟨_, _, I.fresh, rfl, rfl, List.getElem?_eq_getElem hlt⟩, ⟨⟨_, he''⟩, a2.extBut hs''.extBut (Ne.symm hne)⟩, fun c hc => ?_⟩
    rw [upd_ne (fun q => ?_)]
    · exact (hf c hc).1
    · have hc' : c = e ∨ c = it := by simpa using hc
      obtain ⟨o1, e1, _⟩ := h1
      have lt : c < s.heap.objs.size := by
        rcases hc' with rfl | rfl
        · exact Heap.lt_size he
        · exact Heap.lt_size e1
      exact Nat.ne_of_lt lt q
  done := by
    intro X hP hw hK hc i pins s σ H E I hf st hg
    subst hP hw hK
    obtain ⟨⟨old, he⟩, h1⟩ := st
    obtain ⟨hql, hend⟩ := hg
    obtain ⟨its, r, pl, _⟩ := I.list hql
    have hl := r.length
    refine wpAny_pyNext_enum_end (I.ok.hd hc) he h1 pl.isList (by simp; omega) fun h' kk => ⟨rfl, I.turnedAll (t' := s.toks) (fun c ob hc q => ?_) hf⟩
    have hc' : ¬ (c = e ∨ c = it) := by simpa using hc
    exact kk c ob (fun q => hc' (.inr q)) q
  self := fun _ _ _ _ _ st h => by
    obtain ⟨⟨old, he⟩, _⟩ := st
    exact wpAny_pyIter_enum he h
noncomputable def iEnum (K : PySem.W.Frag) (ta : TA) : TI := fun σ H R => ta σ H fun ws H1 => ∃ a us, ws = [.ref a] ∧ SqL K H1 a us ∧ R (Ite K a us) H1
theorem boot_enum : bootBuiltins "enumerate" = some (.type "enumerate") := by decide +kernel
theorem pi_enum {X : Cx} {elts : List Expr} {ek : Nat} {tpos : Pos} {e1 : Expr} {ta : TA} {p pos : Pos} (hg : Gl X "enumerate") (hm : X.mg "enumerate" = none) (ha : PA X [e1] ta)
    (hs : starEach [e1] X.env = [(false, eval e1 X.env)] := by rfl) : PI X (.Tuple elts ek tpos) (.Call (.Name "enumerate" p) [e1] [] pos) (iEnum X.K ta) := by
  intro pins s σ H R I h
  refine Call_ (ld_blt I hg hm boot_enum (PyProof.Rows.callWith_type1 (thn (ha pos pins s σ H _ I h) fun us0 s1 ⟨vs0, H1, I1, r1, q1⟩ => ?_) (by rw [hs]; rfl) (by rfl)))
  obtain ⟨a, us, e, hql, q⟩ := q1
  subst e
  obtain ⟨u, rfl, ru⟩ := vals1 r1
  cases ru
  obtain ⟨its, rr, pl, _⟩ := I1.list hql
  have la : a < s1.heap.objs.size := by obtain ⟨o, e, _⟩ := pl.isList; exact Heap.lt_size e
  refine call_enum pl.isList fun h' he hi kk => ?_
  generalize hn : s1.heap.objs.size = n at *
  have I2 : Inv X pins σ H1 { s1 with heap := h', toks := s1.toks } := I1.kept kk
  refine wpAny_pyIter_enum (s := { s1 with heap := h' }) he ?_
  refine ⟨n + 1, [n + 1, n], _, _, H1, rfl, I2, turn_enum (by show @Ne Nat _ _; omega) (Nat.ne_of_lt (Nat.lt_succ_of_lt la)) (Nat.ne_of_lt la) us, ⟨⟨_, he⟩, hi⟩, fun c hc => ?_, q⟩
  have hc' : n ≤ c := by
    have q : c = n + 1 ∨ c = n := by simpa using hc
    rcases q with rfl | rfl <;> omega
  rw [← hn] at hc'
  exact I1.fpOk hc' (I1.hok.fresh hc')
theorem pi_enumK {X : Cx} (K : PySem.W.Frag) {elts : List Expr} {ek : Nat} {tpos : Pos} {e1 : Expr} {ta : TA} {p pos : Pos} (hg : Gl X "enumerate") (hm : X.mg "enumerate" = none) (ha : PA X [e1] ta) (hK : X.K = K := by rfl)
    (hs : starEach [e1] X.env = [(false, eval e1 X.env)] := by rfl) : PI X (.Tuple elts ek tpos) (.Call (.Name "enumerate" p) [e1] [] pos) (iEnum K ta) := by subst hK; exact pi_enum hg hm ha hs
noncomputable def rCatE (K : PySem.W.Frag) : R2 := fun x y H Q => ∃ a b ys, x = .ref a ∧ y = .ref b ∧ SqT K H a [] ∧ SqT K H b ys ∧ Q (.ref b) H
theorem op_catE {X : Cx} : OpR X (binaryOp .Add) (rCatE X.K) := by
  intro pins s σ H x y v u Q I rx ry h
  obtain ⟨a, b, ys, rfl, rfl, ha, hb, q⟩ := h
  cases rx
  cases ry
  obtain ⟨its, r1, p1, _⟩ := I.tuple ha
  obtain ⟨its2, r2, p2, _⟩ := I.tuple hb
  have e0 : its = [] := by cases r1; rfl
  subst e0
  obtain ⟨⟨cls, dd, data, sl⟩, ho, hc, n, hd⟩ := id p1
  obtain ⟨⟨cls2, dd2, data2, sl2⟩, ho2, hc2, n2, hd2⟩ := id p2
  simp only at hc hd hc2 hd2
  subst hc hd hc2 hd2
  exact concat_meets ⟨_, ho, rfl⟩ ⟨_, ho2, rfl⟩ noFill_tuple_add seq_tuple_add PySem.F.slot_tuple_add PySem.F.entry_tuple_add (PySem.F.args_tuple_add_2 _ _)
      (tuple_addW0 a b #[] its2.toArray n n2 dd dd2 sl sl2 (by simp)) ⟨ho, ho2, ⟨.ref b, H, I, rfl, q⟩⟩
noncomputable def rAddT (K : PySem.W.Frag) : R2 := fun x y H Q => rCatT K x y H Q ∨ rCatE K x y H Q
theorem op_addT {X : Cx} (K : PySem.W.Frag) (hK : X.K = K := by rfl) : OpR X (binaryOp .Add) (rAddT K) := by subst hK; exact op_catT.or op_catE
noncomputable def dAddT : D → D → Option D
  | .tup a, .tup b => if a.length + b.length ≤ lim then some (.tup (a ++ b)) else none
  | _, _ => none
theorem rdo_addT {K : PySem.W.Frag} : RdOp K (rAddT K) dAddT := fun H W x y dx dy d Q hW w1 w2 e q => by
  cases dx with
  | tup a =>
    cases dy with
    | tup b =>
      simp only [dAddT] at e
      obtain ⟨hc, e⟩ := ite_some e
      subst e
      simp only [DWr, DW] at w1 w2
      obtain ⟨p, xs, rfl, s1, v1⟩ := w1
      obtain ⟨p2, ys, rfl, s2, v2⟩ := w2
      cases a with
      | nil =>
        have : xs = [] := by
          have := v1.length
          simpa using this
        subst this
        refine .inr ⟨p, p2, ys, rfl, rfl, s1, s2, q _ H (Same.refl _) ?_⟩
        simp only [DW]
        exact ⟨p2, ys, rfl, s2, by simpa using v2⟩
      | cons z zs =>
        have hx : xs ≠ [] := fun h => by
          subst h
          have := v1.length
          simp at this
        refine .inl ⟨p, p2, xs, ys, rfl, rfl, s1, s2, hx, by rw [v1.length, v2.length]; exact lim_le hc, fun hy => ?_, fun hy l hl => ?_⟩
        · subst hy
          have hb : b = [] := by
            have := v2.length
            simpa using this.symm
          subst hb
          refine q _ H (Same.refl _) ?_
          simp only [DW, List.append_nil]
          exact ⟨p, xs, rfl, s1, v1⟩
        · refine q _ _ (same_upd hl _) ?_
          simp only [DW]
          exact ⟨l, xs ++ ys, rfl, SqT.of upd_same, (DWs.app v1 v2).same (same_upd hl _)⟩
    | _ => simp [dAddT] at e
  | _ => simp [dAddT] at e
noncomputable def sExt (i : Nat) (f : DFn) : DSt := fun env => match gv i env with
  | some (.lst ds) => (f env).bind fun d => match d with
    | .lst es => if ds.length + es.length ≤ lim then some (.nx (env.set i (some (.lst (ds ++ es))))) else none
    | _ => none
  | _ => none
theorem rs_ext {K : PySem.W.Frag} {n : Nat} {fr : Bool} {Ob O : List Nat} {te : TE} {f : DFn} {i : Nat} (h : RdN K O te f) (hi : i ∈ O := by decide) : RdS K n fr Ob O (tDrop (tBM K "list" rExtend (tVar i) (tCons te tNil))) (sExt i f) O := fun H₀ H U E rt env σ o D r e q => by
  obtain ⟨h0, h1, h2, xs, ds, h3, h4, h5⟩ := r.own i hi
  have eg : gv i env = some (.lst ds) := by unfold gv; rw [h3]; rfl
  unfold sExt at e
  rw [eg] at e
  dsimp only at e
  obtain ⟨d, ed, e⟩ := Option.bind_eq_some_iff.mp e
  cases d with
  | lst es =>
    dsimp only at e
    obtain ⟨c, e⟩ := ite_some e
    subst e
    refine ⟨_, h2, .inl ⟨rfl, xs, SqL.of h4⟩, ?_⟩
    refine h _ _ _ _ _ _ _ _ _ _ r ed fun a H1 ys es' hd g1 ha he w => ⟨_, a, xs, ys, rfl, rfl, g1 _ _ h4, he, ?_, ?_⟩
    · cases hd
      have hw := w.length
      rw [h5.length, hw]
      exact lim_le c
    · cases hd
      exact q rt σ _ ((r.grow g1).write hi (DWs.app (h5.same g1) (w.sub fun b hb => List.mem_cons_of_mem _ hb)))
  | _ => simp at e
end L2
set_option maxHeartbeats 4000000
namespace L2
open PySem PySem.Spec PyProof.Rows
noncomputable def kEv {α : Type} (lt : Nat → Nat → Option Bool) : PySem.W.KasT α → Option α
  | .ret a => some a
  | .ask i j k => (lt i j).bind fun b => kEv lt (k b)
theorem kEv_wp {α : Type} {J : Shared → Prop} {cmp : Nat → Nat → (Bool → Shared → Prop) → Shared → Prop} {lt : Nat → Nat → Option Bool} {Q : α → Shared → Prop} (hc : ∀ i j b C s, lt i j = some b → J s → (∀ s', J s' → C b s') → cmp i j C s) :
    ∀ (t : PySem.W.KasT α) (a : α) (s : Shared), kEv lt t = some a → J s → (∀ s', J s' → Q a s') → t.kasWp cmp Q s
  | .ret x, a, s, e, i, q => by cases e; exact q s i
  | .ask i j k, a, s, e, h, q => by
    obtain ⟨b, eb, e⟩ := Option.bind_eq_some_iff.mp e
    exact hc i j b _ s eb h fun s' h' => kEv_wp hc (k b) a s' e h' q
section
variable {prog : Program} {w : World} {A : Around} {E : Value → Shared → Prop} {s : Shared}
theorem b2i_lt (p q : Bool) : decide (b2i p < b2i q) = (!p && q) := by cases p <;> cases q <;> decide
theorem oneLt_bool {p q : Bool} {Q : Bool → Shared → Prop} (h : Q (!p && q) s) : wpAny (model prog w) A (oneLt' true (.bool p) (.bool q)) Q E s := by
  rw [oneLt'_eq]
  simp only [if_true]
  refine wpAny_bind (wpAny_cRoomFor_byValue rfl ?_)
  refine wpAny_bind (wpAny_callSpecialIfBound?_slot (typeIs_bool' s p) F.slot_bool_lt (call_gives F.slot_bool_lt (typeIs_bool' s p) F.entry_int_lt (F.args_int_lt_2 _ _) (gives_int_lt_bools p q) ?_))
  refine wpAny_truthy_bool ?_
  show Q (decide (b2i p < b2i q)) s
  rw [b2i_lt]; exact h
theorem oneLt_boolF {p q : Bool} {Q : Bool → Shared → Prop} (h : Q (!p && q) s) : wpAny (model prog w) A (oneLt' false (.bool p) (.bool q)) Q E s := by
  refine PySem.W.kat_one _ _ (lt_bool ?_)
  show Q _ s
  rw [b2i_lt]; exact h
noncomputable def lexE : List Bool → List Bool → Bool
  | x :: xs, y :: ys => if (x == y) = true then lexE xs ys else (!x && y)
  | _, _ => false
theorem kat_bools {b : Bool} {Q : Bool → Shared → Prop} : ∀ (xs ys : List Bool) (i : Nat), Q (lexE xs ys) s → PySem.W.KatLex prog w A b false Q ((xs.map Value.bool).zip (ys.map Value.bool)) i s
  | [], _, _, h => by simp only [List.map_nil, List.zip_nil_left]; exact PySem.W.kat_nil (by simpa [lexE] using h)
  | _ :: _, [], _, h => by simp only [List.map_nil, List.zip_nil_right]; exact PySem.W.kat_nil (by simpa [lexE] using h)
  | x :: xs, y :: ys, i, h => by
    rw [List.map_cons, List.map_cons, List.zip_cons_cons]
    refine PySem.W.kat_cons (SeqAt.EqAt.bool_bool x y prog w _ _ ?_)
    rw [lexE] at h
    refine PySem.W.kat_go (fun e => ?_) (fun e => ?_)
    · rw [if_pos e] at h
      exact PySem.W.kat_yes (kat_bools xs ys (i + 1) h)
    · rw [if_neg (by rw [e]; exact Bool.false_ne_true)] at h
      refine PySem.W.kat_no ?_
      cases (b && i == 0) with
      | true => exact oneLt_bool h
      | false => exact oneLt_boolF h
end
noncomputable def TupsB (K : PySem.W.Frag) (H : Hp) : List V → List (List Bool) → Prop := Paired fun x bs => ∃ a, x = .ref a ∧ SqT K H a (bs.map V.bl) ∧ bs ≠ []
noncomputable def ltB (bss : List (List Bool)) (i j : Nat) : Option Bool := match bss[i]?, bss[j]? with
  | some x, some y => if x.length = y.length then some (lexE x y) else none
  | _, _ => none
noncomputable def sortL {α : Type} (d : α) (xs : List α) (pm : Array Nat) : List α := pm.toList.map fun i => xs.getD i d
noncomputable def rSortT (K : PySem.W.Frag) : List V → Hp → VK → Prop := fun vs H Q => ∃ (p : Addr) (xs : List V) (bss : List (List Bool)) (pm : Array Nat), vs = [.ref p] ∧ SqL K H p xs ∧ TupsB K H xs bss ∧ 2 ≤ xs.length ∧ xs.length < 64 ∧
  kEv (ltB bss) (PySem.W.kas_sort xs.length) = some pm ∧ pm.size ≤ 64 ∧ ∀ l, H l = none → Q (.ref l) (upd H l (.lst (sortL V.non xs pm)))
theorem bools_of : ∀ {bs : List Bool} {its : List Value}, Vals (bs.map V.bl) its → its = bs.map Value.bool
  | [], _, .nil => rfl
  | b :: bs, _, .cons r t => by
    cases r
    rw [bools_of t]; rfl
theorem ObjOk.some' {P : Program} {w : World} {H : Hp} {h : Heap} {a : Addr} {o : HO} (x : ObjOk P w H h a o) : ∃ u, h.get? a = some u := by
  cases o with
  | lst xs => obtain ⟨_, _, _, _, e⟩ := x; exact ⟨_, e⟩
  | tup xs => obtain ⟨_, _, _, o, e, _⟩ := x; exact ⟨_, e⟩
  | dK kvs => obtain ⟨_, _, _, _, o, _, _, e, _⟩ := x; exact ⟨_, e⟩
  | dT kvs => obtain ⟨_, _, _, _, o, _, _, e, _⟩ := x; exact ⟨_, e⟩
  | set S n => obtain ⟨o, _, _, _, e, _⟩ := x; exact ⟨_, e⟩
  | ins C dx fs => obtain ⟨_, _, _, e, _⟩ := x; exact ⟨_, e⟩
  | own y => obtain ⟨_, e⟩ := x; exact ⟨_, e⟩
  | xd fs => obtain ⟨_, ⟨_, _, _, e, _⟩, _⟩ := x; exact ⟨_, e⟩
  | rng lo hi => obtain ⟨_, _, _, e⟩ := x; exact ⟨_, e⟩
  | frz ob u => obtain ⟨e, _⟩ := x; exact ⟨_, e⟩
  | tbl ps => exact ⟨_, show h.get? a = some _ from x⟩
  | met f y => exact ⟨_, show h.get? a = some _ from x⟩
  | ext φ => obtain ⟨_, ⟨_, e⟩, _⟩ := x; exact ⟨_, e⟩
noncomputable def othersOf (h : Heap) (L : Addr) : List (Addr × Obj) := (List.range h.objs.size).filterMap fun b => if b = L then none else (h.get? b).map fun o => (b, o)
theorem others_in {h : Heap} {L b : Addr} {o : Obj} (e : h.get? b = some o) (n : b ≠ L) : (b, o) ∈ othersOf h L := by
  unfold othersOf
  rw [List.mem_filterMap]
  exact ⟨b, List.mem_range.mpr (Heap.lt_size e), by rw [if_neg n, e]; rfl⟩
theorem others_out {h : Heap} {L : Addr} {p : Addr × Obj} (hp : p ∈ othersOf h L) : h.get? p.1 = some p.2 ∧ p.1 ≠ L := by
  unfold othersOf at hp
  rw [List.mem_filterMap] at hp
  obtain ⟨b, _, e⟩ := hp
  by_cases z : b = L
  · rw [if_pos z] at e; cases e
  · rw [if_neg z] at e
    cases q : h.get? b with
    | none => rw [q] at e; cases e
    | some o => rw [q] at e; cases e; exact ⟨q, z⟩
noncomputable def noHeap : Heap := {}
theorem noHeap_none (b : Addr) : noHeap.get? b = none := by
  unfold Heap.get? noHeap
  simp
section
variable {X : Cx} {pins : List (Addr × Obj)} {σ : St} {H : Hp} {s : Shared}
theorem vals_getD : ∀ {xs : List V} {its : List Value} (i : Nat), Vals xs its → RelV (xs.getD i V.non) (its.getD i Value.none)
  | _, _, _, .nil => by simp only [List.getD_nil]; rfl
  | _, _, 0, .cons r _ => by simp only [List.getD_cons_zero]; exact r
  | _, _, i + 1, .cons _ t => by simp only [List.getD_cons_succ]; exact vals_getD i t
theorem sort_vals {xs : List V} {its : List Value} (r : Vals xs its) : ∀ (l : List Nat), Vals (l.map fun i => xs.getD i V.non) (l.map fun i => its.getD i Value.none)
  | [] => .nil
  | i :: l => .cons (vals_getD i r) (sort_vals r l)
theorem tup_obj {a : Addr} {bs : List Bool} {m : Str → Option Value} (I : Inv X pins σ H s) (hn : s.heap.Ns X.env.locals m) (h : SqT X.K H a (bs.map V.bl)) : ∃ o n, s.heap.get? a = some o ∧ o.cls = .type "tuple" ∧ o.data = .seq (bs.map Value.bool).toArray n ∧ a ≠ X.env.locals := by
  obtain ⟨its, r, ht, _⟩ := I.tuple h
  obtain ⟨o, ho, hc, n, hd⟩ := ht
  rw [bools_of r] at hd
  refine ⟨o, n, ho, hc, hd, fun e => ?_⟩
  obtain ⟨o', es, ep, ho', hd', _⟩ := hn
  rw [← e, ho] at ho'
  cases ho'
  rw [hd] at hd'
  cases hd'
theorem tups_at {K : PySem.W.Frag} : ∀ {xs : List V} {its : List Value} {bss : List (List Bool)} {i : Nat} {bs : List Bool}, TupsB K H xs bss → Vals xs its → bss[i]? = some bs → ∃ a, its.getD i Value.none = .ref a ∧ SqT K H a (bs.map V.bl)
  | _, _, _, _, _, .nil, _, e => by simp at e
  | _, _, _, 0, _, .cons h _, .cons r _, e => by
    obtain ⟨a, rfl, hs, _⟩ := h
    cases r
    simp only [List.getElem?_cons_zero, Option.some.injEq] at e
    subst e
    exact ⟨a, rfl, hs⟩
  | _, _, _, i + 1, _, .cons _ t, .cons _ u, e => by
    simp only [List.getElem?_cons_succ] at e
    obtain ⟨a, h1, h2⟩ := tups_at t u e
    exact ⟨a, by simpa using h1, h2⟩
theorem kat_of {h' : Heap} {m : Str → Option Value} (I : Inv X pins σ H s) (hn : s.heap.Ns X.env.locals m) (old : ∀ b o, s.heap.get? b = some o → b ≠ X.env.locals → h'.get? b = some o)
    {xs : List V} {its : List Value} {bss : List (List Bool)} (h : TupsB X.K H xs bss) (u : Vals xs its) : PySem.W.KatTups h' its (bss.map fun bs => Value.bool (bs.headD false)) := by
  induction h generalizing its with
  | nil => cases u; exact .nil
  | @cons x bs xs bss h t ih =>
    cases u with
    | cons r u =>
      obtain ⟨a, rfl, hs, ne⟩ := h
      cases r
      obtain ⟨o, n, ho, hc, hd, na⟩ := tup_obj I hn hs
      refine .cons (old _ _ ho na) hc hd ?_ (ih u)
      cases bs with
      | nil => exact absurd rfl ne
      | cons b r => rfl
theorem call_sortedT : CallR X (.builtin "sorted") (rSortT X.K) := by
  intro pins s σ H vs us Q I rv h
  obtain ⟨p, xs, bss, pm, rfl, hq, ht, h2, h64, hev, hpm, q⟩ := h
  obtain ⟨u, rfl, ru⟩ := rv.one
  cases ru
  obtain ⟨its, r, pl, hz⟩ := I.list hq
  have hlen : xs.length = its.length := r.length
  obtain ⟨m, hns, _⟩ := I.loc
  have F0 : Fr noHeap X.env.locals s.heap m := ⟨hns, fun b o e => (by rw [noHeap_none] at e; cases e), Nat.zero_le _⟩
  have N0 : News noHeap X.env.locals s.heap (othersOf s.heap X.env.locals) := fun p hp => ⟨(others_out hp).1, (others_out hp).2, noHeap_none _⟩
  refine PySem.W.kat_sorted F0 N0 pl.isList (by omega) (by omega) fun D e1 h' F1 N1 hD => ?_
  have old : ∀ b o, s.heap.get? b = some o → b ≠ X.env.locals → h'.get? b = some o := fun b o e n => (N1 _ (List.mem_cons_of_mem _ (others_in e n))).1
  have hb : 0 < (bss.map fun bs => Value.bool (bs.headD false)).length := by
    rw [List.length_map]
    have := Paired.length ht
    omega
  refine PySem.W.kat_kind (T := .type "bool") (kat_of I hns old ht r) hb (fun v hv => ?_) (by decide) ?_
  · obtain ⟨bs, _, rfl⟩ := List.mem_map.mp hv
    exact PySem.W.Looks.of_pure rfl
  refine kEv_wp (J := fun s' => s' = { s with heap := h' }) (lt := ltB bss) (fun i j b C s' hlt hJ hC => ?_) _ pm _ (by rw [← hlen]; exact hev) rfl fun s' hs' => ?_
  · subst hJ
    unfold ltB at hlt
    cases ei : bss[i]? with
    | none => rw [ei] at hlt; cases hlt
    | some x =>
      cases ej : bss[j]? with
      | none => rw [ei, ej] at hlt; cases hlt
      | some y =>
        rw [ei, ej] at hlt
        obtain ⟨hxy, hlt⟩ := ite_some hlt
        obtain ⟨a, ha, hsa⟩ := tups_at ht r ei
        obtain ⟨c, hc, hsc⟩ := tups_at ht r ej
        obtain ⟨oa, na, ha1, _, ha3, ha4⟩ := tup_obj I hns hsa
        obtain ⟨oc, nc, hc1, _, hc3, hc4⟩ := tup_obj I hns hsc
        unfold PySem.W.kas_ask
        rw [ha, hc]
        refine PySem.W.kat_lt (old _ _ ha1 ha4) ha3 (old _ _ hc1 hc4) hc3 ?_
        rw [show decide ((x.map Value.bool).toArray.size < (y.map Value.bool).toArray.size) = false by simp [hxy]]
        refine kat_bools x y 0 ?_
        rw [hlt]
        exact hC _ rfl
  · subst hs'
    refine PySem.W.KasFin.intro F1 N1 (PySem.W.UpdF.head fun p hp => Nat.ne_of_lt (hD p hp)) fun h2 c F2 N2 => ?_
    have old2 : ∀ b o, s.heap.get? b = some o → b ≠ X.env.locals → h2.get? b = some o := fun b o e n => (N2 _ (List.mem_cons_of_mem _ (others_in e n))).1
    have hDL : D ≠ X.env.locals := (N2 _ List.mem_cons_self).2.1
    have hDn : ∀ o, s.heap.get? D ≠ some o := fun o e => Nat.lt_irrefl _ (hD _ (others_in e hDL))
    have hHD : H D = none := by
      cases e : H D with
      | none => rfl
      | some o =>
        obtain ⟨u, hu⟩ := ObjOk.some' (I.hok D o e)
        exact absurd hu (hDn u)
    have hne : ∀ b o, H b = some o → b ≠ D := fun b o e z => by rw [z, hHD] at e; cases e
    have hLn : H X.env.locals = none := I.free
    have neL : ∀ b o, H b = some o → b ≠ X.env.locals := fun b o e z => by rw [z, hLn] at e; cases e
    have I2 : Inv X pins σ (upd H D (.lst (sortL V.non xs pm))) { s with heap := h2, gens := s.gens, drawn := s.drawn, toks := s.toks } := by
      refine I.step (ch := []) (fun b hb => (nomatch hb)) (fun b o n _ _ e _ => old2 b o e n) (fun b o n _ _ e _ => ⟨o.slots, old2 b o e n⟩) (fun b o _ e n => ?_) (fun b o _ e => ?_) (fun b xs e => ?_) (fun b o u e => ?_) (fun b ps e => ⟨#[], ?_⟩) (fun m' hm' => ?_) (fun b o e => ?_) I.bare
      · have hbD : b ≠ D := fun z => hDn o (by rw [← z]; exact e)
        rw [upd_ne hbD]; exact n
      · by_cases z : b = X.env.locals
        · obtain ⟨o', _, _, ho', _⟩ := F2.ns
          exact ⟨o', z ▸ ho'⟩
        · exact ⟨o, old2 b o e z⟩
      · rw [upd_ne (hne b _ e)]; exact e
      · rw [upd_ne (hne b _ e)]; exact e
      · rw [upd_ne (hne b _ e), e]; simp
      · obtain ⟨o1, es1, ep1, ho1, hd1, _, hf1⟩ := hm'
        obtain ⟨o2, es2, ep2, ho2, hd2, _, hf2⟩ := hns
        rw [ho1] at ho2
        cases ho2
        rw [hd1] at hd2
        cases hd2
        have : m' = m := by funext n; rw [← hf1 n, ← hf2 n]
        rw [this]
        exact F2.ns
      · by_cases z : b = D
        · subst z
          rw [upd_same] at e
          cases e
          refine ⟨?_, _, c, sort_vals r pm.toList, (N2 _ List.mem_cons_self).1⟩
          unfold sortL
          rw [List.length_map]
          have : pm.toList.length ≤ 64 := by simpa using hpm
          exact Nat.le_trans this (by rw [sizeLine_eq]; decide)
        · have e' : H b = some o := by rw [upd_ne z] at e; exact e
          refine (I.hok b o e').stay (fun c' v hc q => old2 c' v q ?_) (fun c' q => ?_) fun c' ys q => ?_
          · rcases hc with y | y
            · rw [y]; exact neL b o e'
            · exact neL c' _ y
          · rw [upd_ne (hne c' _ q)]; exact q
          · rw [upd_ne (hne c' _ q)]; exact q
    exact ⟨.ref D, _, I2, rfl, q D hHD⟩
end
end L2
namespace L2
open PySem PySem.Spec PyProof.Rows
noncomputable def tupl : List D → Option (List (List Bool))
  | [] => some []
  | .tup ds :: r => (bools ds).bind fun bs => if bs ≠ [] then (tupl r).bind fun bss => some (bs :: bss) else none
  | _ => none
section
variable {K : PySem.W.Frag} {H : Hp} {W : List Addr}
theorem tupl_ok : ∀ {ds : List D} {xs : List V} {bss : List (List Bool)}, tupl ds = some bss → DWs K H W xs ds → TupsB K H xs bss
  | [], [], bss, e, _ => by simp only [tupl] at e; cases e; exact .nil
  | d :: ds, x :: xs, bss, e, w => by
    simp only [DWs] at w
    cases d with
    | tup es =>
      simp only [tupl] at e
      obtain ⟨bs, eb, e⟩ := Option.bind_eq_some_iff.mp e
      by_cases hb : bs ≠ []
      · rw [if_pos hb] at e
        obtain ⟨r, er, e⟩ := Option.bind_eq_some_iff.mp e
        cases e
        obtain ⟨w1, w2⟩ := w
        simp only [DW] at w1
        obtain ⟨a, ys, rfl, hs, ws⟩ := w1
        have := bools_ok eb ws
        subst this
        exact .cons ⟨a, rfl, hs, hb⟩ (tupl_ok er w2)
      · rw [if_neg hb] at e; cases e
    | _ => simp [tupl] at e
  | [], _ :: _, _, _, w => by simp [DWs] at w
  | _ :: _, [], _, _, w => by simp [DWs] at w
theorem dws_getD : ∀ {ds : List D} {xs : List V} (i : Nat), DWs K H W xs ds → DW K H W (xs.getD i V.non) (ds.getD i D.non)
  | [], [], i, _ => by simp only [List.getD_nil, DW]
  | d :: ds, x :: xs, 0, w => by simp only [DWs] at w; simp only [List.getD_cons_zero]; exact w.1
  | d :: ds, x :: xs, i + 1, w => by simp only [DWs] at w; simp only [List.getD_cons_succ]; exact dws_getD i w.2
  | [], _ :: _, _, w => by simp [DWs] at w
  | _ :: _, [], _, w => by simp [DWs] at w
theorem dws_sort {ds : List D} {xs : List V} (w : DWs K H W xs ds) : ∀ l : List Nat, DWs K H W (l.map fun i => xs.getD i V.non) (l.map fun i => ds.getD i D.non)
  | [] => by simp only [List.map_nil, DWs]
  | i :: l => by simp only [List.map_cons, DWs]; exact ⟨dws_getD i w, dws_sort w l⟩
noncomputable def gSort : List D → Option D
  | [.lst ds] => (tupl ds).bind fun bss => if 2 ≤ ds.length ∧ ds.length < 64 then (kEv (ltB bss) (PySem.W.kas_sort ds.length)).bind fun pm => if pm.size ≤ 64 then some (.lst (sortL D.non ds pm)) else none else none
  | _ => none
theorem rc_sort : RdCN K (rSortT K) gSort := fun H W xs ds d Q hW w e q => by
  unfold gSort at e
  split at e
  · obtain ⟨bss, eb, e⟩ := Option.bind_eq_some_iff.mp e
    by_cases hc : 2 ≤ (‹List D› : List D).length ∧ (‹List D› : List D).length < 64
    · rw [if_pos hc] at e
      obtain ⟨pm, ep, e⟩ := Option.bind_eq_some_iff.mp e
      obtain ⟨hp, e⟩ := ite_some e
      cases e
      obtain ⟨v, rfl, w'⟩ := dwrs_one w
      simp only [DWr] at w'
      obtain ⟨a, ys, rfl, hr, ws⟩ := w'
      have hl := ws.length
      refine ⟨a, ys, bss, pm, rfl, hr, tupl_ok eb ws, by omega, by omega, by rw [hl]; exact ep, hp, fun l hn => ?_⟩
      exact q l _ _ _ rfl (same_upd hn _) hn upd_same ((DWs.fresh hn (dws_sort ws pm.toList)).same (same_upd hn _))
    · rw [if_neg hc] at e; cases e
  · cases e
end
end L2
set_option maxHeartbeats 4000000
namespace L2
open PySem PySem.Spec PyProof.Rows
section
open AutoSeq1 (wpAny_loadPart')
open MeetsSeq MeetsSeq3
theorem rcLt_bool {A : Around} {s : Shared} {p q : Bool} {prog : Program} {w : World} {E : Value → Shared → Prop} {Q : Value → Shared → Prop} (h : Q (.bool (!p && q)) s) : wpAny (model prog w) A (richCompare .Lt (.bool p) (.bool q)) Q E s := by
  refine (lt_bool ?_ : wpAny (model prog w) A (compareOp .Lt (.bool p) (.bool q)) Q E s)
  rw [b2i_lt]; exact h
theorem lt_loop (l b : Addr) (xs ys : List Bool) (n n2 : Nat) (dd dd2 : Option Addr) (sl sl2 : Array (Option Value)) (hsz : xs.length = ys.length) (k : Nat) :
    ∀ i : Nat, xs.length - i = k → Meets (Builtin.«list.__eq__.loop» ⟨[.ref l, .ref b, rawInt i, rawInt 0], []⟩)
      (fun _ R s => s.heap.get? l = some { cls := .type "list", dict := dd, data := .seq (xs.map Value.bool).toArray n, slots := sl } ∧ s.heap.get? b = some { cls := .type "list", dict := dd2, data := .seq (ys.map Value.bool).toArray n2, slots := sl2 } ∧
        R (.ok (.ret (.bool (lexE (xs.drop i) (ys.drop i))))) s) := by
  induction k with
  | zero =>
    intro i hk prog w A R s h
    obtain ⟨hp, g, d, tk, os⟩ := s; obtain ⟨hl, hb, h⟩ := h
    wp_walk using wpAny_loadPart' hl, wpAny_loadPart' hb
    have hi1 : (xs.map Value.bool).toArray[((i : Nat) : Int).toNat]? = none := by simp; omega
    have hi2 : (ys.map Value.bool).toArray[((i : Nat) : Int).toNat]? = none := by simp; omega
    have hd : xs.drop i = [] := by simp; omega
    rw [hd] at h
    rw [hi1, hi2]
    wp_walk using wpAny_loadPart' hl, wpAny_loadPart' hb
    show R (.ok (.ret (.bool (decide ((xs.map Value.bool).toArray.size < (ys.map Value.bool).toArray.size))))) _
    simp only [List.size_toArray, List.length_map]
    rw [decide_eq_false (by omega)]
    simpa [lexE] using h
  | succ k ih =>
    intro i hk prog w A R s h
    obtain ⟨hp, g, d, tk, os⟩ := s; obtain ⟨hl, hb, h⟩ := h
    wp_walk using wpAny_loadPart' hl, wpAny_loadPart' hb
    have hlt : i < xs.length := by omega
    have hlt2 : i < ys.length := by omega
    have hi1 : (xs.map Value.bool).toArray[((i : Nat) : Int).toNat]? = some (.bool xs[i]) := by simp [hlt]
    have hi2 : (ys.map Value.bool).toArray[((i : Nat) : Int).toNat]? = some (.bool ys[i]) := by simp [hlt2]
    have hc : ((i : Int) + 1) = ((i + 1 : Nat) : Int) := by push_cast; rfl
    rw [List.drop_eq_getElem_cons hlt, List.drop_eq_getElem_cons hlt2, lexE] at h
    rw [hi1, hi2]
    refine wpAny_bind (SeqAt.EqAt.bool_bool xs[i] ys[i] prog w _ _ ?_)
    cases hb' : (xs[i] == ys[i]) with
    | true =>
      rw [hb', if_pos rfl] at h
      wp_walk
      rw [hc]
      exact ⟨plainId_quiet plain_eq_loop _, codeAny_builtin entry_eq_loop (by
        rw [Around.under_plainId plain_eq_loop _]
        exact ih (i + 1) (by omega) prog w A R _ ⟨hl, hb, by simpa using h⟩)⟩
    | false =>
      rw [hb', if_neg Bool.false_ne_true] at h
      wp_walk using wpAny_loadPart' hl, wpAny_loadPart' hb
      rw [hi1, hi2]
      wp_walk using rcLt_bool
      exact h
theorem list_ltB (l b : Addr) (xs ys : List Bool) (n n2 : Nat) (dd dd2 : Option Addr) (sl sl2 : Array (Option Value)) (hsz : xs.length = ys.length) :
    Meets (Builtin.«list.__lt__» ⟨[.ref l, .ref b], []⟩)
      (fun _ R s => s.heap.get? l = some { cls := .type "list", dict := dd, data := .seq (xs.map Value.bool).toArray n, slots := sl } ∧ s.heap.get? b = some { cls := .type "list", dict := dd2, data := .seq (ys.map Value.bool).toArray n2, slots := sl2 } ∧
        R (.ok (.ret (.bool (lexE xs ys)))) s) := by
  intro prog w A R s h
  obtain ⟨hp, g, d, tk, os⟩ := s; obtain ⟨hl, hb, h⟩ := h
  have f3 := AutoSeq1.sub_list_list
  wp_walk using wpAny_loadPart' hl, wpAny_loadPart' hb
  exact ⟨plainId_quiet plain_eq_loop _, codeAny_builtin entry_eq_loop (by
    rw [Around.under_plainId plain_eq_loop _]
    exact lt_loop l b xs ys n n2 dd dd2 sl sl2 hsz _ 0 rfl prog w A R _ ⟨hl, hb, by simpa using h⟩)⟩
end
section
variable {X : Cx} {pins : List (Addr × Obj)} {σ : St} {H : Hp} {s : Shared}
theorem sorted_inv {m : Str → Option Value} {D : Addr} {h2 : Heap} {c : Nat} {ys : List V} {outs : List Value} (I : Inv X pins σ H s) (hns : s.heap.Ns X.env.locals m) (hys : Vals ys outs) (hz : ys.length ≤ sizeLine) (F2 : Fr noHeap X.env.locals h2 m)
    (N2 : News noHeap X.env.locals h2 ((D, PySem.W.listOf outs.toArray c) :: othersOf s.heap X.env.locals)) (hD : ∀ q ∈ othersOf s.heap X.env.locals, q.1 < D) : H D = none ∧ Inv X pins σ (upd H D (.lst ys)) { s with heap := h2, gens := s.gens, drawn := s.drawn, toks := s.toks } := by
  have old2 : ∀ b o, s.heap.get? b = some o → b ≠ X.env.locals → h2.get? b = some o := fun b o e n => (N2 _ (List.mem_cons_of_mem _ (others_in e n))).1
  have hDL : D ≠ X.env.locals := (N2 _ List.mem_cons_self).2.1
  have hDn : ∀ o, s.heap.get? D ≠ some o := fun o e => Nat.lt_irrefl _ (hD _ (others_in e hDL))
  have hHD : H D = none := by
    cases e : H D with
    | none => rfl
    | some o =>
      obtain ⟨u, hu⟩ := ObjOk.some' (I.hok D o e)
      exact absurd hu (hDn u)
  have hne : ∀ b o, H b = some o → b ≠ D := fun b o e z => by rw [z, hHD] at e; cases e
  have hLn : H X.env.locals = none := I.free
  have neL : ∀ b o, H b = some o → b ≠ X.env.locals := fun b o e z => by rw [z, hLn] at e; cases e
  have I2 : Inv X pins σ (upd H D (.lst (ys))) { s with heap := h2, gens := s.gens, drawn := s.drawn, toks := s.toks } := by
    refine I.step (ch := []) (fun b hb => (nomatch hb)) (fun b o n _ _ e _ => old2 b o e n) (fun b o n _ _ e _ => ⟨o.slots, old2 b o e n⟩) (fun b o _ e n => ?_) (fun b o _ e => ?_) (fun b zs e => ?_) (fun b o u e => ?_) (fun b ps e => ⟨#[], ?_⟩) (fun m' hm' => ?_) (fun b o e => ?_) I.bare
    · have hbD : b ≠ D := fun z => hDn o (by rw [← z]; exact e)
      rw [upd_ne hbD]; exact n
    · by_cases z : b = X.env.locals
      · obtain ⟨o', _, _, ho', _⟩ := F2.ns
        exact ⟨o', z ▸ ho'⟩
      · exact ⟨o, old2 b o e z⟩
    · rw [upd_ne (hne b _ e)]; exact e
    · rw [upd_ne (hne b _ e)]; exact e
    · rw [upd_ne (hne b _ e), e]; simp
    · obtain ⟨o1, es1, ep1, ho1, hd1, _, hf1⟩ := hm'
      obtain ⟨o2, es2, ep2, ho2, hd2, _, hf2⟩ := hns
      rw [ho1] at ho2
      cases ho2
      rw [hd1] at hd2
      cases hd2
      have : m' = m := by funext n; rw [← hf1 n, ← hf2 n]
      rw [this]
      exact F2.ns
    · by_cases z : b = D
      · subst z
        rw [upd_same] at e
        cases e
        exact ⟨hz, _, c, hys, (N2 _ List.mem_cons_self).1⟩
      · have e' : H b = some o := by rw [upd_ne z] at e; exact e
        refine (I.hok b o e').stay (fun c' v hc q => old2 c' v q ?_) (fun c' q => ?_) fun c' zs q => ?_
        · rcases hc with y | y
          · rw [y]; exact neL b o e'
          · exact neL c' _ y
        · rw [upd_ne (hne c' _ q)]; exact q
        · rw [upd_ne (hne c' _ q)]; exact q
  exact ⟨hHD, I2⟩
noncomputable def LstsB (K : PySem.W.Frag) (H : Hp) : List V → List (List Bool) → Prop := Paired fun x bs => ∃ a, x = .ref a ∧ SqL K H a (bs.map V.bl)
noncomputable def rSortL (K : PySem.W.Frag) : List V → Hp → VK → Prop := fun vs H Q => ∃ (p : Addr) (xs : List V) (bss : List (List Bool)) (pm : Array Nat), vs = [.ref p] ∧ SqL K H p xs ∧ LstsB K H xs bss ∧ 2 ≤ xs.length ∧ xs.length < 64 ∧
  kEv (ltB bss) (PySem.W.kas_sort xs.length) = some pm ∧ pm.size ≤ 64 ∧ ∀ l, H l = none → Q (.ref l) (upd H l (.lst (sortL V.non xs pm)))
theorem lst_obj {a : Addr} {bs : List Bool} {m : Str → Option Value} (I : Inv X pins σ H s) (hn : s.heap.Ns X.env.locals m) (h : SqL X.K H a (bs.map V.bl)) : ∃ n dd sl, s.heap.get? a = some { cls := .type "list", dict := dd, data := .seq (bs.map Value.bool).toArray n, slots := sl } ∧ a ≠ X.env.locals := by
  obtain ⟨its, r, pl, _⟩ := I.list h
  obtain ⟨⟨cls, dd, data, sl⟩, ho, hcl, n, hd⟩ := pl.isList
  simp only at hcl hd
  subst hcl hd
  rw [bools_of r] at ho
  refine ⟨n, dd, sl, ho, fun e => ?_⟩
  obtain ⟨o', es, ep, ho', hd', _⟩ := hn
  rw [← e, ho] at ho'
  cases ho'
  cases hd'
theorem lsts_at {K : PySem.W.Frag} : ∀ {xs : List V} {its : List Value} {bss : List (List Bool)} {i : Nat} {bs : List Bool}, LstsB K H xs bss → Vals xs its → bss[i]? = some bs → ∃ a, its.getD i Value.none = .ref a ∧ SqL K H a (bs.map V.bl)
  | _, _, _, _, _, .nil, _, e => by simp at e
  | _, _, _, 0, _, .cons h _, .cons r _, e => by
    obtain ⟨a, rfl, hs⟩ := h
    cases r
    simp only [List.getElem?_cons_zero, Option.some.injEq] at e
    subst e
    exact ⟨a, rfl, hs⟩
  | _, _, _, i + 1, _, .cons _ t, .cons _ u, e => by
    simp only [List.getElem?_cons_succ] at e
    obtain ⟨a, h1, h2⟩ := lsts_at t u e
    exact ⟨a, by simpa using h1, h2⟩
theorem lsts_mem {K : PySem.W.Frag} {v : Value} {xs : List V} {its : List Value} {bss : List (List Bool)} (h : LstsB K H xs bss) (u : Vals xs its) (hv : v ∈ its) : ∃ (a : Addr) (bs : List Bool), v = .ref a ∧ SqL K H a (bs.map V.bl) := by
  obtain ⟨i, hi, rfl⟩ := List.getElem_of_mem hv
  have l1 : xs.length = its.length := Paired.length u
  have l2 : xs.length = bss.length := Paired.length h
  obtain ⟨a, ha, hs⟩ := lsts_at (i := i) h u (List.getElem?_eq_getElem (by omega))
  refine ⟨a, _, ?_, hs⟩
  rw [← ha, List.getD_eq_getElem?_getD, List.getElem?_eq_getElem hi]
  rfl
theorem oneLt_lists {prog : Program} {w : World} {A : Around} {E : Value → Shared → Prop} {s : Shared} {Q : Bool → Shared → Prop} {a b : Addr} {xs ys : List Bool} {n n2 : Nat} {dd dd2 : Option Addr} {sl sl2 : Array (Option Value)} (hu : A.units < cLine) (hsz : xs.length = ys.length)
    (ha : s.heap.get? a = some { cls := .type "list", dict := dd, data := .seq (xs.map Value.bool).toArray n, slots := sl }) (hb : s.heap.get? b = some { cls := .type "list", dict := dd2, data := .seq (ys.map Value.bool).toArray n2, slots := sl2 }) (h : Q (lexE xs ys) s) :
    wpAny (model prog w) A (oneLt' true (.ref a) (.ref b)) Q E s := by
  rw [oneLt'_eq]
  simp only [if_true]
  refine wpAny_bind (wpAny_cRoomFor hu ?_)
  refine wpAny_bind (wpAny_callSpecialIfBound?_slot (T := "list") ⟨_, ha, rfl⟩ F.slot_list_lt (call_meets F.slot_list_lt ⟨_, ha, rfl⟩ F.entry_list_lt (F.args_list_lt_2 _ _) (list_ltB a b xs ys n n2 dd dd2 sl sl2 hsz) ⟨ha, hb, ?_⟩))
  exact wpAny_truthy_bool h
theorem call_sortedL (hu : X.A.units + 64 < cLine) : CallR X (.builtin "sorted") (rSortL X.K) := by
  intro pins s σ H vs us Q I rv h
  obtain ⟨p, xs, bss, pm, rfl, hq, ht, h2, h64, hev, hpm, q⟩ := h
  obtain ⟨u, rfl, ru⟩ := rv.one
  cases ru
  obtain ⟨its, r, pl, hz⟩ := I.list hq
  have hlen : xs.length = its.length := r.length
  obtain ⟨m, hns, _⟩ := I.loc
  have F0 : Fr noHeap X.env.locals s.heap m := ⟨hns, fun b o e => (by rw [noHeap_none] at e; cases e), Nat.zero_le _⟩
  have N0 : News noHeap X.env.locals s.heap (othersOf s.heap X.env.locals) := fun p hp => ⟨(others_out hp).1, (others_out hp).2, noHeap_none _⟩
  have hu2 : X.A.in1.in1.units < cLine := by simp only [Around.in1_units]; omega
  refine PySem.W.kas_sorted (T := .type "list") F0 N0 pl.isList (by omega) (by omega) (fun h' F1 N1 v hv => ?_) (by decide) fun D e1 h' F1 N1 hD => ?_
  · obtain ⟨a, bs, rfl, hs⟩ := lsts_mem ht r hv
    obtain ⟨n, dd, sl, ho, na⟩ := lst_obj I hns hs
    intro A Q E s' k hq
    exact wpAny_typeOf_ref (k _ _ (N1 _ (others_in ho na)).1) hq
  have old : ∀ b o, s.heap.get? b = some o → b ≠ X.env.locals → h'.get? b = some o := fun b o e n => (N1 _ (List.mem_cons_of_mem _ (others_in e n))).1
  refine kEv_wp (J := fun s' => s' = { s with heap := h' }) (lt := ltB bss) (fun i j b C s' hlt hJ hC => ?_) _ pm _ (by rw [← hlen]; exact hev) rfl fun s' hs' => ?_
  · subst hJ
    unfold ltB at hlt
    cases ei : bss[i]? with
    | none => rw [ei] at hlt; cases hlt
    | some x =>
      cases ej : bss[j]? with
      | none => rw [ei, ej] at hlt; cases hlt
      | some y =>
        rw [ei, ej] at hlt
        obtain ⟨hxy, hlt⟩ := ite_some hlt
        obtain ⟨a, ha, hsa⟩ := lsts_at ht r ei
        obtain ⟨c, hc, hsc⟩ := lsts_at ht r ej
        obtain ⟨n1, d1, l1, ha1, ha4⟩ := lst_obj I hns hsa
        obtain ⟨n2, d2, l2, hc1, hc4⟩ := lst_obj I hns hsc
        unfold PySem.W.kas_ask
        rw [ha, hc, keyLt'_oneType]
        refine oneLt_lists hu2 hxy (old _ _ ha1 ha4) (old _ _ hc1 hc4) ?_
        rw [hlt]
        exact hC _ rfl
  · subst hs'
    refine PySem.W.KasFin.intro F1 N1 (PySem.W.UpdF.head fun p hp => Nat.ne_of_lt (hD p hp)) fun h2 c F2 N2 => ?_
    obtain ⟨hHD, I2⟩ := sorted_inv I hns (sort_vals r pm.toList) (by
      rw [List.length_map]
      have : pm.toList.length ≤ 64 := by simpa using hpm
      exact Nat.le_trans this (by rw [sizeLine_eq]; decide)) F2 N2 hD
    exact ⟨.ref D, _, I2, rfl, q D hHD⟩
end
end L2
namespace L2
open PySem PySem.Spec PyProof.Rows
noncomputable def lstl : List D → Option (List (List Bool))
  | [] => some []
  | .lst ds :: r => (bools ds).bind fun bs => (lstl r).bind fun bss => some (bs :: bss)
  | _ => none
section
variable {K : PySem.W.Frag} {H : Hp} {W : List Addr}
theorem lstl_ok : ∀ {ds : List D} {xs : List V} {bss : List (List Bool)}, lstl ds = some bss → DWs K H W xs ds → LstsB K H xs bss
  | [], [], bss, e, _ => by simp only [lstl] at e; cases e; exact .nil
  | d :: ds, x :: xs, bss, e, w => by
    simp only [DWs] at w
    cases d with
    | lst es =>
      simp only [lstl] at e
      obtain ⟨bs, eb, e⟩ := Option.bind_eq_some_iff.mp e
      obtain ⟨r, er, e⟩ := Option.bind_eq_some_iff.mp e
      cases e
      obtain ⟨w1, w2⟩ := w
      simp only [DW] at w1
      obtain ⟨a, ys, rfl, hs, ws⟩ := w1
      have := bools_ok eb ws
      subst this
      exact .cons ⟨a, rfl, hs.sq⟩ (lstl_ok er w2)
    | _ => simp [lstl] at e
  | [], _ :: _, _, _, w => by simp [DWs] at w
  | _ :: _, [], _, _, w => by simp [DWs] at w
noncomputable def rSort (K : PySem.W.Frag) : List V → Hp → VK → Prop := fun vs H Q => rSortT K vs H Q ∨ rSortL K vs H Q
theorem call_sort {X : Cx} (K : PySem.W.Frag) (hu : X.A.units + 64 < cLine) (hK : X.K = K := by rfl) : CallR X (.builtin "sorted") (rSort K) := by
  subst hK
  intro pins s σ H vs us Q I rv h
  rcases h with h | h
  · exact call_sortedT pins s σ H vs us Q I rv h
  · exact call_sortedL hu pins s σ H vs us Q I rv h
noncomputable def gSrt : List D → Option D
  | [.lst ds] => match tupl ds with
    | some _ => gSort [.lst ds]
    | none => (lstl ds).bind fun bss => if 2 ≤ ds.length ∧ ds.length < 64 then (kEv (ltB bss) (PySem.W.kas_sort ds.length)).bind fun pm => if pm.size ≤ 64 then some (.lst (sortL D.non ds pm)) else none else none
  | _ => none
theorem rc_srt : RdCN K (rSort K) gSrt := fun H W xs ds d Q hW w e q => by
  unfold gSrt at e
  split at e
  · split at e
    · exact .inl (rc_sort H W xs _ d Q hW w e q)
    · right
      obtain ⟨bss, eb, e⟩ := Option.bind_eq_some_iff.mp e
      obtain ⟨v, rfl, w'⟩ := dwrs_one w
      simp only [DWr] at w'
      obtain ⟨a, ys, rfl, hr, ws⟩ := w'
      have hl := ws.length
      by_cases hc : 2 ≤ ys.length ∧ ys.length < 64
      · rw [if_pos (by omega)] at e
        obtain ⟨pm, ep, e⟩ := Option.bind_eq_some_iff.mp e
        obtain ⟨hp, e⟩ := ite_some e
        cases e
        refine ⟨a, ys, bss, pm, rfl, hr, lstl_ok eb ws, hc.1, hc.2, by rw [hl]; exact ep, hp, fun l hn => ?_⟩
        exact q l _ _ _ rfl (same_upd hn _) hn upd_same ((DWs.fresh hn (dws_sort ws pm.toList)).same (same_upd hn _))
      · rw [if_neg (by omega)] at e; cases e
  · cases e
end
end L2
set_option maxHeartbeats 4000000
namespace L2
open PySem
theorem Option.bind_s {α β : Type} (a : α) (f : α → Option β) : (some a).bind f = f a := rfl
section
variable {m k : DSt} {env e' e1 e2 : DEnv} {d x y : D} {ds items : List D} {c ca cb : DEnv → Option Bool} {f fa fb : DFn} {fs fi : DEnv → Option (List D)} {i np n : Nat} {fr : Bool} {g : D → DEnv → Option DEnv} {h2 : D → D → Option D} {r : Option Out}
theorem st_fn (h : m (ds.map some ++ List.replicate (n - np) none) = some (.rt d)) (hl : ds.length = np) : fnM np n fr m ds = some d := by
  unfold fnM; rw [if_pos hl, h]; rfl
theorem st_fnN (h : m (ds.map some ++ List.replicate (n - np) none) = some (.nx e')) (hl : ds.length = np) : fnM np n false m ds = some .non := by
  unfold fnM; rw [if_pos hl, h]; rfl
theorem st_seq (h : m env = some (.nx e')) (q : k e' = r) : sSeq m k env = r := by unfold sSeq; rw [h]; exact q
theorem st_seqR (h : m env = some (.rt d)) : sSeq m k env = some (.rt d) := by unfold sSeq; rw [h]; rfl
theorem st_ift (h : c env = some true) (q : m env = r) : sIf c m k env = r := by unfold sIf; rw [h]; exact q
theorem st_iff (h : c env = some false) (q : k env = r) : sIf c m k env = r := by unfold sIf; rw [h]; exact q
theorem st_set (h : f env = some d) : sSet i f env = some (.nx (env.set i (some d))) := by unfold sSet; rw [h]; rfl
theorem st_ret (h : f env = some d) : sRet f env = some (.rt d) := by unfold sRet; rw [h]; rfl
theorem st_do (h : f env = some d) : sDo f env = some (.nx env) := by unfold sDo; rw [h]; rfl
theorem st_app (hg : gv i env = some (.lst ds)) (h : f env = some d) (hl : ds.length < lim) : sApp i f env = some (.nx (env.set i (some (.lst (ds ++ [d]))))) := by
  unfold sApp; rw [hg]; dsimp only; rw [h, Option.bind_s, if_pos hl]
theorem st_for (hi : fi env = some items) (q : forM g m items env = r) : sFor fi g m env = r := by unfold sFor; rw [hi]; exact q
theorem st_forC (hg : g d env = some e1) (hm : m e1 = some (.nx e2)) (q : forM g m ds e2 = r) : forM g m (d :: ds) env = r := by simp only [forM]; rw [hg, Option.bind_s, hm]; exact q
theorem ex_bin (ha : fa env = some x) (hb : fb env = some y) (h : h2 x y = some d) : eBin h2 fa fb env = some d := by unfold eBin; rw [ha, Option.bind_s, hb]; exact h
theorem ex_call {mir : List D → Option D} (hs : fs env = some ds) (hl : ds.length = np) (h : mir ds = some d) : eCall np mir fs env = some d := by unfold eCall; rw [hs, Option.bind_s, if_pos hl]; exact h
theorem ex_cb {g : List D → Option D} (hs : fs env = some ds) (h : g ds = some d) : eCB g fs env = some d := by unfold eCB; rw [hs]; exact h
theorem ax_cons (h : f env = some d) (hs : fs env = some ds) : aCons f fs env = some (d :: ds) := by unfold aCons; rw [h, Option.bind_s, hs]; rfl
theorem bt_of {b : Bool} (h : f env = some (.bl b)) : bT f env = some b := by unfold bT; rw [h]; rfl
theorem bt_not {b : Bool} (h : ca env = some b) : bNot ca env = some (!b) := by unfold bNot; rw [h]; rfl
theorem bt_orF (h : ca env = some false) {b : Bool} (q : cb env = some b) : bOr ca cb env = some b := by unfold bOr; rw [h]; exact q
theorem bt_andF (h : ca env = some false) : bAnd ca cb env = some false := by unfold bAnd; rw [h]; rfl
end
theorem comp_bl {g : D → DEnv → Option DEnv} {c : DEnv → Option Bool} {f : DFn} {env0 : DEnv} : ∀ {items : List D}, (∀ d ∈ items, ∃ env1 b, g d env0 = some env1 ∧ c env1 = some true ∧ f env1 = some (.bl b)) →
    ∃ bs : List Bool, bs.length = items.length ∧ compM g c f env0 items = some (bs.map D.bl)
  | [], _ => ⟨[], rfl, rfl⟩
  | d :: ds, h => by
    obtain ⟨e1, b, h1, h2, h3⟩ := h d List.mem_cons_self
    obtain ⟨bs, hl, hb⟩ := comp_bl fun x hx => h x (List.mem_cons_of_mem _ hx)
    refine ⟨b :: bs, by rw [List.length_cons, List.length_cons, hl], ?_⟩
    simp only [compM, h1, h2, h3, hb, Option.bind_s, if_true, List.map_cons]
theorem comp_map {g : D → DEnv → Option DEnv} {c : DEnv → Option Bool} {f : DFn} {env0 : DEnv} (v : D → D) : ∀ {items : List D}, (∀ d ∈ items, ∃ env1, g d env0 = some env1 ∧ c env1 = some true ∧ f env1 = some (v d)) →
    compM g c f env0 items = some (items.map v)
  | [], _ => rfl
  | d :: ds, h => by
    obtain ⟨e1, h1, h2, h3⟩ := h d List.mem_cons_self
    have hb := comp_map v (fun x hx => h x (List.mem_cons_of_mem _ hx))
    simp only [compM, h1, h2, h3, hb, Option.bind_s, if_true, List.map_cons]
theorem rngD_mem {lo : Int} {n : Nat} {d : D} (h : d ∈ rngD lo n) : ∃ k : Nat, k < n ∧ d = .int (lo + k) := by
  unfold rngD at h
  obtain ⟨k, hk, rfl⟩ := List.mem_map.mp h
  exact ⟨k, List.mem_range.mp hk, rfl⟩
theorem rngD_len {lo : Int} {n : Nat} : (rngD lo n).length = n := by unfold rngD; rw [List.length_map, List.length_range]
theorem dat_nat {ds : List D} {k : Nat} {d : D} (h : ds[k]? = some d) : atI ds (k : Int) = some d := atI_nat h
noncomputable def allB : Nat → List (List Bool)
  | 0 => [[]]
  | n + 1 => (allB n).flatMap fun bs => [false :: bs, true :: bs]
theorem mem_allB : ∀ (bs : List Bool), bs ∈ allB bs.length
  | [] => by simp [allB]
  | b :: r => by
    have ih := mem_allB r
    simp only [List.length_cons, allB, List.mem_flatMap]
    refine ⟨r, ih, ?_⟩
    cases b <;> simp
noncomputable def gD (bs : List Bool) : D := .lst (bs.map D.bl)
end L2
set_option maxHeartbeats 4000000
namespace L2
open PySem PySem.Spec PyProof.Rows
section
variable {P : Program} {w : World} {H H' : Hp} {h h' h0 B : Heap} {fs : List Addr}
theorem ObjOk.there {a : Addr} {o : HO} (x : ObjOk P w H h a o) : ∃ u, h.get? a = some u := by
  cases o with
  | lst xs => obtain ⟨_, _, _, _, e⟩ := x; exact ⟨_, e⟩
  | tup xs => obtain ⟨_, _, _, ob, e, _⟩ := x; exact ⟨_, e⟩
  | dK kvs => obtain ⟨_, _, _, _, o, _, _, e, _⟩ := x; exact ⟨_, e⟩
  | dT kvs => obtain ⟨_, _, _, _, o, _, _, e, _⟩ := x; exact ⟨_, e⟩
  | set S n => obtain ⟨o, _, _, _, e, _⟩ := x; exact ⟨_, e⟩
  | ins C dx fs => obtain ⟨_, _, _, e, _⟩ := x; exact ⟨_, e⟩
  | own y => obtain ⟨_, e⟩ := x; exact ⟨_, e⟩
  | xd fs => obtain ⟨_, ⟨_, _, _, e, _⟩, _⟩ := x; exact ⟨_, e⟩
  | rng lo hi => obtain ⟨_, _, _, e⟩ := x; exact ⟨_, e⟩
  | frz ob u => obtain ⟨e, _⟩ := x; exact ⟨_, e⟩
  | tbl ps => exact ⟨_, show h.get? a = some _ from x⟩
  | met f y => exact ⟨_, show h.get? a = some _ from x⟩
  | ext φ => obtain ⟨_, e, _⟩ := x; exact e
theorem un_fly (u : Un fs [] H H' h0 h) (D1 : ∀ b o, h0.get? b = some o → b ∉ fs → ∃ o', B.get? b = some o') (kB : ∀ b o, B.get? b = some o → h.get? b = some o) (kB' : ∀ b o, B.get? b = some o → h'.get? b = some o)
    (sl : ∀ b ∈ fs, ∀ o, h.get? b = some o → ∃ sl, h'.get? b = some { o with slots := sl }) : Un fs [] H H' h0 h' where
  keep := fun b o q n hb hx => by
    have e1 := u.keep b o q n hb hx
    obtain ⟨o', e2⟩ := D1 b o q hb
    rw [kB b o' e2] at e1
    cases e1
    exact kB' b _ e2
  slot := fun b o q n hb hx => by
    obtain ⟨s1, e1⟩ := u.slot b o q n hb hx
    obtain ⟨s2, e2⟩ := sl b hb _ e1
    exact ⟨s2, e2⟩
  free := u.free
  there := fun b o q hx => by
    by_cases hb : b ∈ fs
    · obtain ⟨o1, e1⟩ := u.there b o q hx
      obtain ⟨s2, e2⟩ := sl b hb _ e1
      exact ⟨_, e2⟩
    · obtain ⟨o', e2⟩ := D1 b o q hb
      exact ⟨_, kB' b _ e2⟩
  tups := u.tups
  frzs := u.frzs
  tbls := u.tbls
theorem hok_fly (ok : HOk P w H h) (D2 : ∀ b o, H b = some o → ∃ o', B.get? b = some o') (kB : ∀ b o, B.get? b = some o → h.get? b = some o) (kB' : ∀ b o, B.get? b = some o → h'.get? b = some o) : HOk P w H h' := fun a o e =>
  (ok a o e).stay (fun c v hc q => by
    have : ∃ o', B.get? c = some o' := by
      rcases hc with z | z
      · rw [z]; exact D2 a o e
      · exact D2 c _ z
    obtain ⟨o', e2⟩ := this
    rw [kB c o' e2] at q
    cases q
    exact kB' c _ e2) (fun _ q => q) fun _ _ q => q
end
noncomputable def CXe (P : Program) (w : World) : CXT := fun outer H s E e s' =>
  ∃ (ea C : Addr) (H' : Hp) (B : Heap) (a0 : Value), e = .ref ea ∧ s'.os = s.os ∧ AllBare s'.gens ∧ Un (frs outer) [] H H' s.heap s'.heap ∧ HOk P w H' s'.heap ∧
    Heap.FlyingW B outer ea (.ref C) a0 s'.heap ∧ (∀ b o, s.heap.get? b = some o → b ∉ frs outer → ∃ o', B.get? b = some o') ∧ (∀ b o, H' b = some o → ∃ o', B.get? b = some o') ∧ E (.ref C) none H'
noncomputable def Fly (X : Cx) (E : XK) (e : Value) (s' : Shared) : Prop :=
  (∃ (ea C : Addr) (H' : Hp) (pins : List (Addr × Obj)) (σ : St) (h : Heap) (vs : List Value), e = .ref ea ∧ Inv X pins σ H' { s' with heap := h } ∧ Heap.MadeExcOf h s'.heap ea (.ref C) vs ∧ E (.ref C) none H') ∨
  (∃ (pins : List (Addr × Obj)) (σ : St) (Hc : Hp) (sc : Shared), Inv X pins σ Hc sc ∧ CXe X.prog X.w X.stack Hc sc E e s')
theorem fly_leaves {P : Program} {w : World} {K : PySem.W.Frag} {mg : Str → Option Value} {base : Heap} {N : List Str} {qual : Str} {scope : Scope} {f : Addr} {cd : Value} {A : Around} {outer : List Env} {s : Shared} {H : Hp} {E : XK} {e : Value} {s' : Shared}
    (h : Fly (cxOf (CXe P w) P w K mg base N qual scope f cd A outer s H E) E e s') : (cxOf (CXe P w) P w K mg base N qual scope f cd A outer s H E).xe e s' := by
  have hst : ∀ b ∈ frs outer, b ∈ frs (envOfC qual scope s.heap.objs.size f cd :: outer) := fun b hb => List.mem_cons_of_mem _ hb
  have hnL : ∀ b o, s.heap.get? b = some o → b ∉ frs outer → b ∉ frs (envOfC qual scope s.heap.objs.size f cd :: outer) := fun b o q hb z => by
    rcases List.mem_cons.mp (show b ∈ s.heap.objs.size :: frs outer from z) with z | z
    · exact absurd (Heap.lt_size q) (by rw [z]; exact Nat.lt_irrefl _)
    · exact hb z
  rcases h with ⟨ea, C, H', pins, σ, h, vs, rfl, I, hx, hE⟩ | ⟨pins, σ, Hc, sc, Ic, ea, C, H', B, a0, rfl, os, bare, un, hok, fl, d1, d2, hE⟩
  · have kB : ∀ b o, (PySem.W.hideAll h (frs (envOfC qual scope s.heap.objs.size f cd :: outer))).get? b = some o → h.get? b = some o := fun b o q => PySem.W.of_hideAll _ q
    have fr := PySem.W.funFrames_hide (as := frs (envOfC qual scope s.heap.objs.size f cd :: outer)) I.stack fun env he a ha => List.mem_filterMap.mpr ⟨env, he, ha⟩
    refine wpAny_leaves_madeW (base := PySem.W.hideAll h (frs (envOfC qual scope s.heap.objs.size f cd :: outer))) (h := h) (L := s.heap.objs.size) I.ok.frames rfl kB fr hx fun h' t f1 f2 f3 f4 => ?_
    have d1 : ∀ b o, s.heap.get? b = some o → b ∉ frs outer → ∃ o', (PySem.W.hideAll h (frs (envOfC qual scope s.heap.objs.size f cd :: outer))).get? b = some o' := fun b o q hb => by
      obtain ⟨o1, e1⟩ := I.base.there b o q (by show b ∉ []; simp)
      exact ⟨o1, PySem.W.hideAll_get _ e1 (hnL b o q hb)⟩
    have d2 : ∀ b o, H' b = some o → ∃ o', (PySem.W.hideAll h (frs (envOfC qual scope s.heap.objs.size f cd :: outer))).get? b = some o' := fun b o q => by
      obtain ⟨u, e1⟩ := (I.hok b o q).there
      exact ⟨u, PySem.W.hideAll_get _ e1 fun z => by
        have := I.stkFree b z
        rw [q] at this; cases this⟩
    refine ⟨ea, C, H', _, _, rfl, I.os, I.bare, un_fly I.base d1 kB f1.1 fun b hb o q => ?_, hok_fly I.hok d2 kB f1.1, f1, d1, d2, hE⟩
    obtain ⟨_, o1, e1, nf⟩ := fr.mem (hst b hb)
    have e1 : h.get? b = some o1 := e1
    have q : h.get? b = some o := q
    rw [q] at e1
    cases e1
    exact f4 b o (hx.keeps b o q) nf
  · have I := Ic.call' (ch := []) os un hok bare fun b z => absurd z (by simp)
    have d1' : ∀ b o, s.heap.get? b = some o → b ∉ frs outer → ∃ o', B.get? b = some o' := fun b o q hb => by
      obtain ⟨o1, e1⟩ := Ic.base.there b o q (by show b ∉ []; simp)
      exact d1 b o1 e1 (hnL b o q hb)
    refine wpAny_leaves_onW (L := s.heap.objs.size) I.ok.frames rfl fl fun h' f1 f4 => ?_
    refine ⟨ea, C, H', B, a0, rfl, I.os, I.bare, un_fly I.base d1' fl.1 f1.1 fun b hb o q => ?_, hok_fly I.hok d2 fl.1 f1.1, f1, d1', d2, hE⟩
    obtain ⟨_, o1, e1, nf⟩ := fl.2.2.1.mem (hst b hb)
    rw [q] at e1
    cases e1
    exact f4 b o q nf
structure Exc (K : PySem.W.Frag) (C : Addr) : Prop where
  ok : PySem.W.excIn K C [.type "ValueError", .type "Exception", .type "BaseException", .type "object"] "ValueError.__new__" = true
noncomputable def tRaise (C : Addr) (E : XK) : TS := fun _ _ H => E (.ref C) none H
theorem Exc.cls {K : PySem.W.Frag} {C : Addr} {h : Heap} (q : Exc K C) (X : K.In h) : ∃ bm N nm qn bs hdct sn sub ab col dd k0 k1 k2 k3 k5 mN, h.get? C = some (excClassObj nm qn C N bs bm hdct sn sub ab col dd k0 k1 k2 k3 k5 "ValueError.__new__") ∧ h.Ns N mN ∧ mN "__init__" = none ∧ OwnTail h [.type "ValueError", .type "Exception", .type "BaseException", .type "object"] bm := by
  have q := q.ok
  unfold PySem.W.excIn at q
  split at q
  · rename_i dd cd sl ho
    split at q
    · rename_i C' bm k0 k1 k2 k3 n k5 hm hs
      simp only [Bool.and_eq_true, beq_iff_eq, Bool.not_eq_true'] at q
      obtain ⟨⟨⟨⟨⟨rfl, rfl⟩, hdel⟩, ht⟩, hok⟩, hni⟩ := q
      obtain ⟨nm, bs, mro, ns, qn, hd, sn, sub, ab, col, del⟩ := cd
      dsimp only at hm hdel hok hni
      subst hm hdel
      have hsl : sl = #[k0, k1, k2, k3, some (.builtin "ValueError.__new__"), k5] := by
        obtain ⟨l⟩ := sl
        simp only at hs
        rw [hs]
      subst hsl
      exact ⟨bm, ns, nm, qn, bs, hd, sn, sub, ab, col, dd, k0, k1, k2, k3, k5, _, X _ _ ho, .of_isNs (PySem.W.isNs_of_in X hok), PySem.W.nsMap_none_of_in X hok hni, PySem.W.tail_of_in X ht⟩
    · cases q
  · cases q
theorem ps_raise {X : Cx} {E : XK} {C : Addr} {x : Str} {t : Str} {k : Nat} {p1 np cpos pos : Pos} (hC : Exc X.K C) (hg : Gl X x) (hm : X.mg x = some (.ref C)) (hc : X.calm = true := by rfl) (hdb : (x == ("__debug__" : Str)) = false := by decide) :
    PS (X.wish (Fly X E)) (.Raise (some (.Call (.Name x np) [.Constant (.str t) k p1] [] cpos)) none pos) (tRaise C E) := fun pins s σ H D I h => by
  obtain ⟨bm, Nn, nm, qn, bs, hdct, sn, sub, ab, col, dd, k0, k1, k2, k3, k5, mN, hob, hN, hni, T⟩ := hC.cls I.ok.mod.kin
  refine wpAny_Raise_call_subT (C := C) (nm := nm) (q := qn) (N := Nn) (bs := bs) (bm := bm) (hdct := hdct) (sn := sn) (sub := sub) (ab := ab) (col := col) (dd := dd) (k0 := k0) (k1 := k1) (k2 := k2) (k3 := k3) (k5 := k5) (mN := mN)
    F.excBase_ValueError (T.hasType F.excBase_ValueError.hasBase) (I.ok.hd hc) rfl hni (ld_glob I hg hm ⟨rfl, ?_⟩ hdb)
  refine Calls.evalArgs_plain (wpAny_mono ((pa_cons pe_str pa_nil : PA (X.wish (Fly X E)) [.Constant (.str t) k p1] (tCons (tC (.str t)) tNil)) cpos pins s σ H (fun vs H' => vs.length = 1 ∧ H' = H) I ⟨rfl, rfl⟩) (fun us s2 q => ?_) fun _ _ z => z)
  obtain ⟨vs, H', I2, rv, hl, rfl⟩ := q
  exact ⟨rfl, by rw [← rv.length, hl]; exact Nat.le_trans (by decide) (Nat.le_of_lt lim_lt), I2.bk _ _ hob, hN.keeps I2.bk, T.keeps I2.bk, fun h' e hx => .inl ⟨e, C, H', pins, σ, s2.heap, us, rfl, I2.unwish, hx, h⟩⟩
end L2
set_option maxHeartbeats 4000000
namespace L2
open PySem PySem.Spec PyProof.Rows
noncomputable def ClsAt (K : PySem.W.Frag) (c : Str) (C : Addr) : Prop := PySem.W.nsIn K mainGlobals c = some (some (.ref C))
noncomputable def Ew (K : PySem.W.Frag) (E : XK) (c : Str) (H : Hp) : Prop := ∀ C, ClsAt K c C → E (.ref C) none H
noncomputable def dspx (K : PySem.W.Frag) (np : Nat) (fr : Bool) (mir : List D → Option D) (xm : List D → Option Str) : Sp := fun vs H Q E => dsp K np fr mir vs H Q E ∨
  ∃ U ds c, vs.length = np ∧ (∀ a ∈ U, ∃ o, H a = some o) ∧ DWs K H U vs ds ∧ xm ds = some c ∧ ∀ H', Same H H' → Ew K E c H'
noncomputable abbrev DXn := DEnv → Option Str
noncomputable def RdEx (K : PySem.W.Frag) (O : List Nat) (E : XK) (te : TE) (g : DXn) : Prop :=
  ∀ n H₀ H U F rt env σ c Q, RR K n H₀ H U O F rt env σ → g env = some c → (∀ H', Same H₀ H' → Ew K E c H') → te σ H Q
noncomputable def RdSx (K : PySem.W.Frag) (n : Nat) (O : List Nat) (E : XK) (ts : TS) (g : DXn) : Prop :=
  ∀ H₀ H U F rt env σ c D, RR K n H₀ H U O F rt env σ → g env = some c → (∀ H', Same H₀ H' → Ew K E c H') → ts D σ H
section
variable {K : PySem.W.Frag} {n : Nat} {fr : Bool} {Ob O O1 O2 : List Nat} {E : XK} {te : TE} {f : DFn} {t u : TS} {m k : DSt} {g gx gy : DXn} {tt : TT} {c : DEnv → Option Bool} {ts : TA} {fs : DEnv → Option (List D)}
theorem dspx_len {np : Nat} {mir : List D → Option D} {xm : List D → Option Str} {vs : List V} {H : Hp} {Q : VK} (h : dspx K np fr mir xm vs H Q E) : vs.length = np := by
  rcases h with h | ⟨_, _, _, h, _⟩
  · exact dsp_len (E := E) h
  · exact h
theorem rd_callx {np : Nat} {mir : List D → Option D} {xm : List D → Option Str} (hs : RdA K O ts fs) : RdE K O (tCall (dspx K np fr mir xm) [] E ts) (eCall np mir fs) := fun n H₀ H U F rt env σ d Q r e q => by
  obtain ⟨ds, eds, e⟩ := Option.bind_eq_some_iff.mp e
  by_cases c : ds.length = np
  · rw [if_pos c] at e
    refine hs _ _ _ _ _ _ _ _ ds _ r eds fun vs H1 g1 w1 => ?_
    rw [List.append_nil]
    exact .inl ⟨O.map rt ++ U, ds, d, by rw [w1.length]; exact c, (r.grow g1).alloc, w1, e, fun v H2 g2 w2 => q v H2 (g1.trans g2) w2.1⟩
  · rw [if_neg c] at e; cases e
noncomputable def xCall (np : Nat) (xm : List D → Option Str) (fs : DEnv → Option (List D)) : DXn := fun env => (fs env).bind fun ds => if ds.length = np then xm ds else none
theorem xe_call {np : Nat} {mir : List D → Option D} {xm : List D → Option Str} (hs : RdA K O ts fs) : RdEx K O E (tCall (dspx K np fr mir xm) [] E ts) (xCall np xm fs) := fun n H₀ H U F rt env σ c Q r e q => by
  obtain ⟨ds, eds, e⟩ := Option.bind_eq_some_iff.mp e
  by_cases hc : ds.length = np
  · rw [if_pos hc] at e
    refine hs _ _ _ _ _ _ _ _ ds _ r eds fun vs H1 g1 w1 => ?_
    rw [List.append_nil]
    exact .inr ⟨O.map rt ++ U, ds, c, by rw [w1.length]; exact hc, (r.grow g1).alloc, w1, e, fun H2 g2 => q H2 ((r.same.trans g1).trans g2)⟩
  · rw [if_neg hc] at e; cases e
noncomputable def xNo : DXn := fun _ => none
theorem xs_no : RdSx K n O E t xNo := fun H₀ H U F rt env σ c D r e q => nomatch e
noncomputable def xRaise (c : Str) : DXn := fun _ => some c
theorem xs_raise {c : Str} {C : Addr} (hC : ClsAt K c C) : RdSx K n O E (tRaise C E) (xRaise c) := fun H₀ H U F rt env σ c' D r e q => by
  cases e
  exact q H r.same C hC
theorem xs_do (x : RdEx K O E te g) : RdSx K n O E (tDrop te) g := fun H₀ H U F rt env σ c D r e q => x _ _ _ _ _ _ _ _ c _ r e q
noncomputable def xSeq (x : DXn) (m : DSt) (y : DXn) : DXn := fun env => match x env with
  | some c => some c
  | none => match m env with
    | some (.nx e) => y e
    | _ => none
theorem xs_seq (x1 : RdSx K n O E t gx) (h1 : RdS K n fr Ob O t m O1) (x2 : RdSx K n O1 E u gy) : RdSx K n O E (tSeq t u) (xSeq gx m gy) := fun H₀ H U F rt env σ c D r e q => by
  unfold xSeq at e
  split at e
  · rename_i c' e1
    cases e
    exact x1 _ _ _ _ _ _ _ _ _ r e1 q
  · split at e
    · rename_i e' em
      exact h1 _ _ _ _ _ _ _ _ _ r em fun rt' σ' H' r' => x2 _ _ _ _ _ _ _ c D r' e q
    · cases e
noncomputable def xIf (c : DEnv → Option Bool) (x y : DXn) : DXn := fun env => (c env).bind fun b => if b = true then x env else y env
theorem xs_if (hc : RdT K O tt c) (x1 : RdSx K n O E t gx) (x2 : RdSx K n O E u gy) : RdSx K n O E (tIfS tt t u) (xIf c gx gy) := fun H₀ H U F rt env σ z D r e q => by
  obtain ⟨b, eb, e⟩ := Option.bind_eq_some_iff.mp e
  refine hc _ _ _ _ _ _ _ _ b _ r eb fun H1 g1 => ?_
  cases b with
  | true => rw [if_pos rfl] at e ⊢; exact x1 _ _ _ _ _ _ _ z D (r.grow g1) e q
  | false => rw [if_neg Bool.false_ne_true] at e ⊢; exact x2 _ _ _ _ _ _ _ z D (r.grow g1) e q
noncomputable def forX (gg : D → DEnv → Option DEnv) (m : DSt) (x : DXn) : List D → DXn
  | [], _ => none
  | d :: ds, env => (gg d env).bind fun env1 => match x env1 with
    | some c => some c
    | none => match m env1 with
      | some (.nx e) => forX gg m x ds e
      | some (.ct e) => forX gg m x ds e
      | _ => none
noncomputable def xFor (fi : DEnv → Option (List D)) (gg : D → DEnv → Option DEnv) (m : DSt) (x : DXn) : DXn := fun env => (fi env).bind fun items => forX gg m x items env
theorem xs_for {wi : TI} {fi : DEnv → Option (List D)} {tg : TG} {gg : D → DEnv → Option DEnv} {t : TS} {m : DSt} {x : DXn} (hi : RdI K O wi fi) (hg : RdG K O tg gg) (hb : RdS K n fr O O t m O) (xb : RdSx K n O E t x) : RdSx K n O E (tFor wi tg t) (xFor fi gg m x) := fun H₀ H U F rt env σ c D r e q => by
  obtain ⟨items, ei, e⟩ := Option.bind_eq_some_iff.mp e
  refine hi _ _ _ _ _ _ _ _ items _ r ei fun J H1 g1 ok => ?_
  obtain ⟨pin, hst, hp, ok⟩ := ok
  refine ⟨fun i k σ' H' => k = items.length - i ∧ i ≤ items.length ∧ ∃ rt' env', RR K n H₀ H' U O (fun H W => pin H W ∧ F H W) rt' env' σ' ∧ forX gg m x (items.drop i) env' = some c, ⟨items.length, rfl, Nat.zero_le _, rt, env, (r.grow g1).more hst hp, e⟩, ?_⟩
  rintro i k σ' H' ⟨rfl, hle, rt', env', r', e'⟩
  obtain ⟨go, stop⟩ := ok H' _ r'.ext.1
  by_cases hlt : i < items.length
  · have hd : items[i]? = some items[i] := List.getElem?_eq_getElem hlt
    rw [List.drop_eq_getElem_cons hlt] at e'
    simp only [forX] at e'
    obtain ⟨env1, eg, e'⟩ := Option.bind_eq_some_iff.mp e'
    obtain ⟨hgo, hy⟩ := go i _ hd
    refine .inr ⟨hgo, fun σ2 H2 => ∃ rt2 env2, RR K n H₀ H2 U O (fun H W => pin H W ∧ F H W) rt2 env2 σ2 ∧ forX gg m x (items.drop (i + 1)) env2 = some c, fun σ2 H2 ⟨rt2, env2, r2, e2⟩ => ⟨items.length - (i + 1), by omega, rfl, hlt, rt2, env2, r2, e2⟩, fun y H3 hx => ?_⟩
    obtain ⟨g3, w3⟩ := hy y H3 hx
    refine hg _ _ _ _ _ _ _ _ _ _ env1 _ (r'.grow g3) w3 eg fun σ2 r2 => ?_
    split at e'
    · rename_i c' e1
      cases e'
      exact xb _ _ _ _ _ _ _ _ _ r2 e1 q
    · split at e'
      · rename_i e2 em
        exact hb _ _ _ _ _ _ _ _ _ r2 em fun rt2 σ3 H4 r4 => ⟨rt2, e2, r4, e'⟩
      · rename_i e2 em
        exact hb _ _ _ _ _ _ _ _ _ r2 em fun rt2 σ3 H4 r4 => ⟨rt2, e2, r4, e'⟩
      · cases e'
  · have hi' : i = items.length := by omega
    subst hi'
    rw [List.drop_length] at e'
    simp [forX] at e'
end
noncomputable def fnX (np n : Nat) (x : DXn) : List D → Option Str := fun ds => if ds.length = np then x (ds.map some ++ List.replicate (n - np) none) else none
theorem rr_start {K : PySem.W.Frag} {np n : Nat} {N : List Str} {vs : List V} {ds : List D} {H : Hp} {U : List Addr} (hl : vs.length = np) (hU : ∀ a ∈ U, ∃ o, H a = some o) (w : DWs K H U vs ds) (hN : N.length = n) (hp : np ≤ n) :
    RR K n H H U [] (fun _ _ => True) (fun _ => 0) (ds.map some ++ List.replicate (n - np) none) (start N vs) := by
  have hds : ds.length = np := by rw [← w.length]; exact hl
  refine ⟨Same.refl _, hU, fun i hi => absurd hi (by simp), ?_, ?_, fun i hi => absurd hi (by simp), fun i hi => absurd hi (by simp), fun i d' _ ei => ?_, fun _ _ _ _ _ _ _ => trivial, trivial⟩
  · unfold start
    rw [List.length_append, List.length_map, List.length_replicate, hl, hN]; omega
  · rw [List.length_append, List.length_map, List.length_replicate, hds]; omega
  · have hi : i < ds.length := by
      by_cases c : i < ds.length
      · exact c
      · rw [List.getElem?_append_right (by rw [List.length_map]; omega), List.getElem?_replicate] at ei
        split at ei
        · cases ei
        · cases ei
    rw [List.getElem?_append_left (by rw [List.length_map]; exact hi), List.getElem?_map] at ei
    obtain ⟨y, ey, eq⟩ := Option.map_eq_some_iff.mp ei
    cases eq
    obtain ⟨v, hv, wv⟩ := w.get ey
    refine ⟨v, ?_, wv⟩
    unfold start
    rw [List.getElem?_append_left (by rw [List.length_map, w.length]; exact hi), List.getElem?_map, hv]; rfl
theorem fn_readx {K : PySem.W.Frag} {np n : Nat} {fr : Bool} {t : TS} {m : DSt} {x : DXn} {O1 : List Nat} {N : List Str} {vs : List V} {H : Hp} {Q : VK} {E : XK} (hm : RdS K n fr [] [] t m O1) (hx : RdSx K n [] E t x)
    (h : dspx K np fr (fnM np n fr m) (fnX np n x) vs H Q E) (hN : N.length = n) (hp : np ≤ n) : t { nx := fun _ H' => Q .non H', rt := Q } (start N vs) H := by
  rcases h with h | ⟨U, ds, c, hl, hU, w, e, q⟩
  · exact fn_read (E := E) hm h hN hp
  · have hds : ds.length = np := by rw [← w.length]; exact hl
    unfold fnX at e
    rw [if_pos hds] at e
    exact hx _ _ _ _ _ _ _ c _ (rr_start hl hU w hN hp) e q
end L2
set_option maxHeartbeats 4000000
namespace L2
open PySem PySem.W PyProof.Rows
theorem kEv_bind {α β : Type} {lt : Nat → Nat → Option Bool} {f : α → KasT β} : ∀ t : KasT α, kEv lt (t.bind f) = (kEv lt t).bind fun a => kEv lt (f a)
  | .ret a => rfl
  | .ask i j k => by
    show (lt i j).bind (fun b => kEv lt ((k b).bind f)) = ((lt i j).bind fun b => kEv lt (k b)).bind _
    cases lt i j with
    | none => rfl
    | some b => exact kEv_bind (k b)
section
variable {rk : Nat → Nat} {n : Nat} {lt : Nat → Nat → Option Bool}
structure LtOk (lt : Nat → Nat → Option Bool) (rk : Nat → Nat) (n : Nat) : Prop where
  is : ∀ i j, i < n → j < n → lt i j = some (decide (rk i < rk j))
  inj : ∀ i j, i < n → j < n → rk i = rk j → i = j
structure PermN (n : Nat) (p : Array Nat) : Prop where
  size : p.size = n
  perm : p.toList.Perm (List.range n)
theorem PermN.below {p : Array Nat} (P : PermN n p) {k : Nat} (h : k < n) : p.getD k 0 < n := by
  have hk : k < p.size := by rw [P.size]; exact h
  have : p.getD k 0 = p[k] := by simp [Array.getD, hk]
  rw [this]
  have hm : p[k] ∈ p.toList := Array.getElem_mem_toList hk
  exact List.mem_range.mp (P.perm.mem_iff.mp hm)
theorem PermN.inj {p : Array Nat} (P : PermN n p) {i j : Nat} (hi : i < n) (hj : j < n) (e : p.getD i 0 = p.getD j 0) : i = j := by
  have h1 : i < p.size := by rw [P.size]; exact hi
  have h2 : j < p.size := by rw [P.size]; exact hj
  have e1 : p.getD i 0 = p[i] := by simp [Array.getD, h1]
  have e2 : p.getD j 0 = p[j] := by simp [Array.getD, h2]
  rw [e1, e2] at e
  have nd : p.toList.Nodup := P.perm.nodup_iff.mpr List.nodup_range
  have e' : p.toList[i]'(by simpa using h1) = p.toList[j]'(by simpa using h2) := by simpa using e
  have pw := List.pairwise_iff_getElem.mp nd
  rcases Nat.lt_trichotomy i j with q | q | q
  · exact absurd e' (pw i j (by simpa using h1) (by simpa using h2) q)
  · exact q
  · exact absurd e'.symm (pw j i (by simpa using h2) (by simpa using h1) q)
theorem PermN.of {p q : Array Nat} (P : PermN n p) (hs : q.size = p.size) (hp : q.Perm p) : PermN n q := ⟨hs.trans P.size, (Array.perm_iff_toList_perm.mp hp).trans P.perm⟩
noncomputable abbrev rkA (rk : Nat → Nat) (p : Array Nat) (k : Nat) : Nat := rk (p.getD k 0)
noncomputable def Srt (rk : Nat → Nat) (p : Array Nat) (m : Nat) : Prop := ∀ j, 1 ≤ j → j < m → rkA rk p (j - 1) < rkA rk p j
theorem Srt.up {p : Array Nat} {m : Nat} (h : Srt rk p m) : ∀ (d i : Nat), i + d + 1 < m → rkA rk p i < rkA rk p (i + d + 1)
  | 0, i, hm => h (i + 1) (by omega) hm
  | d + 1, i, hm => Nat.lt_trans (Srt.up h d i (by omega)) (h (i + (d + 1) + 1) (by omega) hm)
theorem Srt.le {p : Array Nat} {m i j : Nat} (h : Srt rk p m) (hij : i ≤ j) (hj : j < m) : rkA rk p i ≤ rkA rk p j := by
  by_cases e : i = j
  · rw [e]; exact Nat.le_refl _
  · have := h.up (j - i - 1) i (by omega)
    rw [show i + (j - i - 1) + 1 = j by omega] at this
    exact Nat.le_of_lt this
variable (L : LtOk lt rk n)
include L
theorem ask {p : Array Nat} (P : PermN n p) {i j : Nat} (hi : i < n) (hj : j < n) : lt (p.getD i 0) (p.getD j 0) = some (decide (rkA rk p i < rkA rk p j)) := L.is _ _ (P.below hi) (P.below hj)
theorem apart {p : Array Nat} (P : PermN n p) {i j : Nat} (hi : i < n) (hj : j < n) (h : i ≠ j) (q : ¬ rkA rk p i < rkA rk p j) : rkA rk p j < rkA rk p i := by
  have : rkA rk p i ≠ rkA rk p j := fun e => h (P.inj hi hj (L.inj _ _ (P.below hi) (P.below hj) e))
  omega
theorem asc_ok {p : Array Nat} (P : PermN n p) : ∀ (f k : Nat), 1 ≤ k → k + f ≤ n → ∃ m, kEv lt (kas_asc p f k) = some m ∧ k ≤ m ∧ m ≤ k + f ∧ (∀ j, k ≤ j → j < m → rkA rk p (j - 1) < rkA rk p j) ∧ (m < k + f → rkA rk p m < rkA rk p (m - 1))
  | 0, k, _, _ => ⟨k, rfl, Nat.le_refl _, Nat.le_refl _, fun j h1 h2 => absurd h1 (by omega), fun h => absurd h (by omega)⟩
  | f + 1, k, h1, hn => by
    have ha := ask L P (i := k) (j := k - 1) (by omega) (by omega)
    by_cases c : rkA rk p k < rkA rk p (k - 1)
    · refine ⟨k, ?_, Nat.le_refl _, by omega, fun j a b => absurd a (by omega), fun _ => c⟩
      show (lt (p.getD k 0) (p.getD (k - 1) 0)).bind _ = _
      rw [ha, decide_eq_true c]; rfl
    · obtain ⟨m, e, h2, h3, h4, h5⟩ := asc_ok P f (k + 1) (by omega) (by omega)
      refine ⟨m, ?_, by omega, by omega, fun j a b => ?_, fun h => h5 (by omega)⟩
      · show (lt (p.getD k 0) (p.getD (k - 1) 0)).bind _ = _
        rw [ha, decide_eq_false c]; exact e
      · by_cases hj : j = k
        · rw [hj]; exact apart L P (by omega) (by omega) (by omega) c
        · exact h4 j (by omega) b
theorem desc_ok {p : Array Nat} (P : PermN n p) : ∀ (f k : Nat), 1 ≤ k → k + f ≤ n → ∃ m, kEv lt (kas_desc f p k 0) = some (p, m, 0) ∧ k ≤ m ∧ m ≤ k + f ∧ ∀ j, k ≤ j → j < m → rkA rk p j < rkA rk p (j - 1)
  | 0, k, _, _ => ⟨k, rfl, Nat.le_refl _, Nat.le_refl _, fun j h1 h2 => absurd h1 (by omega)⟩
  | f + 1, k, h1, hn => by
    have ha := ask L P (i := k) (j := k - 1) (by omega) (by omega)
    have hb := ask L P (i := k - 1) (j := k) (by omega) (by omega)
    by_cases c : rkA rk p k < rkA rk p (k - 1)
    · obtain ⟨m, e, h2, h3, h4⟩ := desc_ok P f (k + 1) (by omega) (by omega)
      refine ⟨m, ?_, by omega, by omega, fun j a b => ?_⟩
      · show (lt (p.getD k 0) (p.getD (k - 1) 0)).bind _ = _
        rw [ha, decide_eq_true c]; exact e
      · by_cases hj : j = k
        · rw [hj]; exact c
        · exact h4 j (by omega) b
    · have d := apart L P (by omega) (by omega) (by omega) c
      refine ⟨k, ?_, Nat.le_refl _, by omega, fun j a b => absurd a (by omega)⟩
      show (lt (p.getD k 0) (p.getD (k - 1) 0)).bind _ = _
      rw [ha, decide_eq_false c]
      show (lt (p.getD (k - 1) 0) (p.getD k 0)).bind _ = _
      rw [hb, decide_eq_true d]; rfl
omit L in
theorem rev_get {p : Array Nat} (P : PermN n p) {m k : Nat} (hm : m ≤ n) : (kas_rev p 0 m).getD k 0 = if k < m then p.getD (m - 1 - k) 0 else p.getD k 0 := by
  have := getElem?_mirror_all (xs := p) (i := 0) (j := m) (by rw [P.size]; exact hm) k
  unfold kas_rev
  simp only [Array.getD_eq_getD_getElem?]
  rw [this]
  simp only [Nat.zero_le, true_and]
  split
  · congr 2
    omega
  · rfl
theorem tail_ok {p : Array Nat} (P : PermN n p) {m : Nat} (h1 : 1 ≤ m) (hm : m ≤ n) (hd : ∀ j, 1 ≤ j → j < m → rkA rk p j < rkA rk p (j - 1)) : ∃ m' p', kEv lt (kas_tail3 m n p) = some (m', p') ∧ PermN n p' ∧ 1 ≤ m' ∧ m' ≤ n ∧ Srt rk p' m' := by
  have P' : PermN n (kas_rev p 0 m) := P.of (mirror_size _ _ _ _) (mirror_perm _ _ _ _)
  obtain ⟨m', e, h2, h3, h4, _⟩ := asc_ok L P' (n - m) m h1 (by omega)
  refine ⟨m', kas_rev p 0 m, ?_, P', by omega, by omega, fun j a b => ?_⟩
  · unfold kas_tail3
    rw [kEv_bind, e]; rfl
  · by_cases hj : j < m
    · unfold rkA
      rw [rev_get P hm, rev_get P hm, if_pos (by omega), if_pos hj]
      have := hd (m - 1 - (j - 1)) (by omega) (by omega)
      rw [show m - 1 - (j - 1) - 1 = m - 1 - j by omega] at this
      exact this
    · exact h4 j (by omega) b
theorem count_ok {p : Array Nat} (P : PermN n p) (hn : 2 ≤ n) : ∃ m p', kEv lt (kas_count n p) = some (m, p') ∧ PermN n p' ∧ 1 ≤ m ∧ m ≤ n ∧ Srt rk p' m := by
  obtain ⟨m, e, h2, h3, h4, h5⟩ := asc_ok L P (n - 1) 1 (Nat.le_refl _) (by omega)
  have hs : Srt rk p m := fun j a b => h4 j a b
  unfold kas_count
  rw [kEv_bind, e]
  show ∃ m' p', kEv lt (if (m == n) = true then _ else _) = _ ∧ _
  by_cases c1 : m = n
  · rw [if_pos (by rw [c1]; exact beq_self_eq_true n)]
    exact ⟨m, p, rfl, P, h2, by omega, hs⟩
  · rw [if_neg (by rw [beq_iff_eq]; exact c1)]
    by_cases c2 : m > 1
    · rw [if_pos c2]
      have ha := ask L P (i := 0) (j := m - 1) (by omega) (by omega)
      have hlt := hs.up (m - 2) 0 (by omega)
      rw [show 0 + (m - 2) + 1 = m - 1 by omega] at hlt
      refine ⟨m, p, ?_, P, h2, by omega, hs⟩
      show (lt (p.getD 0 0) (p.getD (m - 1) 0)).bind _ = _
      rw [ha, decide_eq_true hlt]; rfl
    · rw [if_neg c2]
      have hm1 : m = 1 := by omega
      subst hm1
      have hd1 := h5 (by omega)
      obtain ⟨k, e2, g2, g3, g4⟩ := desc_ok L P (n - (1 + 1)) (1 + 1) (by omega) (by omega)
      unfold kas_descPart
      rw [kEv_bind, e2]
      exact tail_ok L P (m := k) (by omega) (by omega) fun j a b => by
        by_cases hj : j = 1
        · rw [hj]; exact hd1
        · exact g4 j (by omega) b
theorem place_ok {p : Array Nat} (P : PermN n p) {k : Nat} (hk : k < n) (hs : Srt rk p k) : ∀ (f l r : Nat), l ≤ r → r ≤ k → r - l ≤ f → (∀ j, j < l → rkA rk p j < rkA rk p k) → (∀ j, r ≤ j → j < k → rkA rk p k < rkA rk p j) →
    ∃ l', kEv lt (kas_place p k f l r) = some l' ∧ l' ≤ k ∧ (∀ j, j < l' → rkA rk p j < rkA rk p k) ∧ ∀ j, l' ≤ j → j < k → rkA rk p k < rkA rk p j
  | 0, l, r, h1, h2, h3, a, b => ⟨l, rfl, by omega, a, fun j c d => b j (by omega) d⟩
  | f + 1, l, r, h1, h2, h3, a, b => by
    by_cases c : l ≥ r
    · refine ⟨l, ?_, by omega, a, fun j x y => b j (by omega) y⟩
      show kEv lt (if l ≥ r then _ else _) = _
      rw [if_pos c]; rfl
    · have hm : (l + r) / 2 < k := by omega
      have ha := ask L P (i := k) (j := (l + r) / 2) hk (by omega)
      by_cases q : rkA rk p k < rkA rk p ((l + r) / 2)
      · obtain ⟨l', e, x⟩ := place_ok P hk hs f l ((l + r) / 2) (by omega) (by omega) (by omega) a fun j g1 g2 => Nat.lt_of_lt_of_le q (hs.le g1 g2)
        refine ⟨l', ?_, x⟩
        show kEv lt (if l ≥ r then _ else _) = _
        rw [if_neg c]
        show (lt (p.getD k 0) (p.getD ((l + r) / 2) 0)).bind _ = _
        rw [ha, decide_eq_true q]; exact e
      · have q' := apart L P hk (by omega) (by omega) q
        obtain ⟨l', e, x⟩ := place_ok P hk hs f ((l + r) / 2 + 1) r (by omega) (by omega) (by omega) (fun j g1 => Nat.lt_of_le_of_lt (hs.le (by omega : j ≤ (l + r) / 2) hm) q') b
        refine ⟨l', ?_, x⟩
        show kEv lt (if l ≥ r then _ else _) = _
        rw [if_neg c]
        show (lt (p.getD k 0) (p.getD ((l + r) / 2) 0)).bind _ = _
        rw [ha, decide_eq_false q]; exact e
omit L in
theorem bub_get {p : Array Nat} (P : PermN n p) {k l j : Nat} (hk : k < n) (hl : l ≤ k) : (bubble p k (k - l)).getD j 0 = if j = l then p.getD k 0 else if l < j ∧ j ≤ k then p.getD (j - 1) 0 else p.getD j 0 := by
  have := getElem?_bubble (xs := p) (src := k) (by rw [P.size]; exact hk) (k - l) (by omega) j
  simp only [Array.getD_eq_getD_getElem?]
  rw [this, show k - (k - l) = l by omega]
  split
  · rfl
  · split <;> rfl
theorem bin_ok : ∀ (f : Nat) {p : Array Nat} (k : Nat), 1 ≤ k → k + f = n → PermN n p → Srt rk p k → ∃ p', kEv lt (kas_bin f p k) = some p' ∧ PermN n p' ∧ Srt rk p' n
  | 0, p, k, _, h, P, s => ⟨p, rfl, P, by rw [show n = k by omega]; exact s⟩
  | f + 1, p, k, h1, h, P, s => by
    obtain ⟨l, e, h2, h3, h4⟩ := place_ok L P (k := k) (by omega) s k 0 k (by omega) (Nat.le_refl _) (by omega) (fun j q => absurd q (by omega)) (fun j q1 q2 => absurd q1 (by omega))
    have P' : PermN n (bubble p k (k - l)) := P.of (bubble_size _ _ _) (bubble_perm _ _ _)
    obtain ⟨p', e', x⟩ := bin_ok f (p := bubble p k (k - l)) (k + 1) (by omega) (by omega) P' fun j a b => by
      unfold rkA
      rw [bub_get P (by omega) h2, bub_get P (by omega) h2]
      by_cases c1 : j < l
      · rw [if_neg (by omega), if_neg (by omega), if_neg (by omega), if_neg (by omega)]
        exact s j a (by omega)
      · by_cases c2 : j = l
        · rw [if_neg (by omega), if_neg (by omega), if_pos c2]
          exact h3 (j - 1) (by omega)
        · by_cases c3 : j - 1 = l
          · rw [if_pos c3, if_neg c2, if_pos (by omega), c3]
            exact h4 l (Nat.le_refl _) (by omega)
          · rw [if_neg c3, if_pos (by omega), if_neg c2, if_pos (by omega)]
            exact s (j - 1) (by omega) (by omega)
    refine ⟨p', ?_, x⟩
    show kEv lt ((kas_place p k k 0 k).bind _) = _
    rw [kEv_bind, e]; exact e'
theorem sort_ok (hn : 2 ≤ n) : ∃ pm, kEv lt (kas_sort n) = some pm ∧ PermN n pm ∧ Srt rk pm n := by
  have P : PermN n (List.toArray (List.range n)) := ⟨by simp, by simp⟩
  obtain ⟨m, p, e, Pp, h1, h2, s⟩ := count_ok L P hn
  unfold kas_sort
  rw [kEv_bind, e]
  show ∃ pm, kEv lt (if m < n then _ else _) = _ ∧ _
  by_cases c : m < n
  · rw [if_pos c, show max m 1 = m by omega]
    exact bin_ok L (n - m) m h1 (by omega) Pp s
  · rw [if_neg c]
    exact ⟨p, rfl, Pp, by rw [show n = m by omega]; exact s⟩
end
end L2
set_option maxHeartbeats 4000000
namespace L2
open PySem PySem.Spec PyProof.Rows
theorem pe_fldK {X : Cx} {e : Expr} {ta : TE} {f : Str} {pos : Pos} (K : PySem.W.Frag) (he : PE X e ta) (hb : attributeBase e f X.env (eval e X.env) = eval e X.env) (hK : X.K = K := by rfl) : PE X (.Attribute e f pos) (tFld K ta f) := by subst hK; exact pe_fld he hb
theorem rr_of {K : PySem.W.Frag} {n : Nat} {H : Hp} {W : List Addr} {env : DEnv} {σ : St} (al : ∀ b ∈ W, ∃ o, H b = some o) (h1 : σ.length = n) (h2 : env.length = n) (h : ∀ (i : Nat) (d : D), env[i]? = some (some d) → ∃ v, σ[i]? = some (some v) ∧ DW K H W v d) :
    RR K n (fun _ => none) H W [] (fun _ _ => True) (fun _ => 0) env σ :=
  ⟨fun b u z => (nomatch z), al, fun i hi => absurd hi (by simp), h1, h2, fun i hi => absurd hi (by simp), fun i hi => absurd hi (by simp), fun i d _ e => h i d e, fun _ _ _ _ _ _ _ => trivial, trivial⟩
noncomputable def Off2 (lt ls : Addr) (H H' : Hp) : Prop := ∀ b o, b ≠ lt → b ≠ ls → H b = some o → H' b = some o
theorem Off2.refl {lt ls : Addr} {H : Hp} : Off2 lt ls H H := fun _ _ _ _ e => e
theorem Off2.trans {lt ls : Addr} {H H1 H2 : Hp} (a : Off2 lt ls H H1) (b : Off2 lt ls H1 H2) : Off2 lt ls H H2 := fun c o h1 h2 e => b c o h1 h2 (a c o h1 h2 e)
theorem Same.off2 {lt ls : Addr} {H H' : Hp} (g : Same H H') : Off2 lt ls H H' := fun b o _ _ e => g b o e
theorem Off2.updT {lt ls : Addr} {H : Hp} {o : HO} : Off2 lt ls H (upd H lt o) := fun b u h1 _ e => by rw [upd_ne h1]; exact e
theorem Off2.updS {lt ls : Addr} {H : Hp} {o : HO} : Off2 lt ls H (upd H ls o) := fun b u _ h1 e => by rw [upd_ne h1]; exact e
noncomputable abbrev mkF (vg : V) (lt ls : Addr) : List (Str × V) := [("gates", vg), ("tables", .ref lt), ("steps", .ref ls)]
structure MkAt (K : PySem.W.Frag) (C : Addr) (U : List Addr) (a dx lt ls : Addr) (vg : V) (gsd : D) (ts ss : List D) (H : Hp) : Prop where
  obj : H a = some (.ins C dx (mkF vg lt ls))
  al : ∀ b ∈ U, ∃ o, H b = some o
  ne : lt ≠ ls
  tab : ∃ xs, H lt = some (.lst xs) ∧ DWs K H (lt :: ls :: U) xs ts
  stp : ∃ xs, H ls = some (.lst xs) ∧ DWs K H (lt :: ls :: U) xs ss
  gts : DW K H (lt :: ls :: U) vg gsd
section
variable {K : PySem.W.Frag} {C : Addr} {U : List Addr} {a dx lt ls : Addr} {vg : V} {gsd : D} {ts ss : List D} {H H' : Hp}
theorem MkAt.alloc (M : MkAt K C U a dx lt ls vg gsd ts ss H) : ∀ b ∈ lt :: ls :: U, ∃ o, H b = some o := fun b hb => by
  obtain ⟨_, h1, _⟩ := M.tab
  obtain ⟨_, h2, _⟩ := M.stp
  rcases List.mem_cons.mp hb with z | z
  · rw [z]; exact ⟨_, h1⟩
  · rcases List.mem_cons.mp z with z | z
    · rw [z]; exact ⟨_, h2⟩
    · exact M.al b z
theorem MkAt.same (M : MkAt K C U a dx lt ls vg gsd ts ss H) (g : Same H H') : MkAt K C U a dx lt ls vg gsd ts ss H' := by
  obtain ⟨xs, h1, w1⟩ := M.tab
  obtain ⟨ys, h2, w2⟩ := M.stp
  exact ⟨g _ _ M.obj, fun b hb => by obtain ⟨o, e⟩ := M.al b hb; exact ⟨o, g _ _ e⟩, M.ne, ⟨xs, g _ _ h1, w1.same g⟩, ⟨ys, g _ _ h2, w2.same g⟩, M.gts.same g⟩
theorem MkAt.appT {xs : List V} {v : V} {d : D} (M : MkAt K C U a dx lt ls vg gsd ts ss H) (h : H lt = some (.lst xs)) (w : DWs K H (lt :: ls :: U) xs ts) (wv : DW K H (lt :: ls :: U) v d) : MkAt K C U a dx lt ls vg gsd (ts ++ [d]) ss (upd H lt (.lst (xs ++ [v]))) := by
  obtain ⟨ys, h2, w2⟩ := M.stp
  have hm : lt ∈ lt :: ls :: U := List.mem_cons_self
  refine ⟨?_, fun b hb => ?_, M.ne, ⟨_, upd_same, DWs.upd hm h (DWs.app w (DWs.one wv))⟩, ⟨ys, ?_, DWs.upd hm h w2⟩, M.gts.upd hm h⟩
  · rw [upd_ne (ne_of M.obj h (by intro z; cases z))]; exact M.obj
  · by_cases e : b = lt
    · rw [e]; exact ⟨_, upd_same⟩
    · rw [upd_ne e]; exact M.al b hb
  · rw [upd_ne (Ne.symm M.ne)]; exact h2
theorem MkAt.appS {xs : List V} {v : V} {d : D} (M : MkAt K C U a dx lt ls vg gsd ts ss H) (h : H ls = some (.lst xs)) (w : DWs K H (lt :: ls :: U) xs ss) (wv : DW K H (lt :: ls :: U) v d) : MkAt K C U a dx lt ls vg gsd ts (ss ++ [d]) (upd H ls (.lst (xs ++ [v]))) := by
  obtain ⟨ys, h2, w2⟩ := M.tab
  have hm : ls ∈ lt :: ls :: U := List.mem_cons_of_mem _ List.mem_cons_self
  refine ⟨?_, fun b hb => ?_, M.ne, ⟨ys, ?_, DWs.upd hm h w2⟩, ⟨_, upd_same, DWs.upd hm h (DWs.app w (DWs.one wv))⟩, M.gts.upd hm h⟩
  · rw [upd_ne (ne_of M.obj h (by intro z; cases z))]; exact M.obj
  · by_cases e : b = ls
    · rw [e]; exact ⟨_, upd_same⟩
    · rw [upd_ne e]; exact M.al b hb
  · rw [upd_ne M.ne]; exact h2
theorem Off2.keeps (o : Off2 lt ls H H') (M : MkAt K C U a dx lt ls vg gsd ts ss H) : (∀ b zs, b ∉ lt :: ls :: U → Rd H b (.lst zs) → b ∉ lt :: ls :: U ∧ Rd H' b (.lst zs)) ∧ ∀ b zs, SqT K H b zs → SqT K H' b zs := by
  obtain ⟨xs, h1, _⟩ := M.tab
  obtain ⟨ys, h2, _⟩ := M.stp
  refine ⟨fun b zs n r => ⟨n, ?_⟩, fun b zs r => ?_⟩
  · have n1 : b ≠ lt := fun e => n (by rw [e]; exact List.mem_cons_self)
    have n2 : b ≠ ls := fun e => n (by rw [e]; exact List.mem_cons_of_mem _ List.mem_cons_self)
    rcases r with r | ⟨ob, r⟩
    · exact .inl (o _ _ n1 n2 r)
    · exact .inr ⟨ob, o _ _ n1 n2 r⟩
  · rcases r with (r | ⟨ob, r⟩) | r
    · exact .inl (.inl (o _ _ (ne_of r h1 (by intro z; cases z)) (ne_of r h2 (by intro z; cases z)) r))
    · exact .inl (.inr ⟨ob, o _ _ (ne_of r h1 (by intro z; cases z)) (ne_of r h2 (by intro z; cases z)) r⟩)
    · exact .inr r
theorem Off2.dws (o : Off2 lt ls H H') (M : MkAt K C U a dx lt ls vg gsd ts ss H) {x : List V} {d : List D} (w : DWs K H (lt :: ls :: U) x d) : DWs K H' (lt :: ls :: U) x d := w.map (o.keeps M).1 (o.keeps M).2
theorem Off2.sqw (o : Off2 lt ls H H') (M : MkAt K C U a dx lt ls vg gsd ts ss H) {b : Addr} {zs : List V} (w : SqW K H (lt :: ls :: U) b zs) : SqW K H' (lt :: ls :: U) b zs := w.map (o.keeps M).1
end
noncomputable def rowsD (ts : List D) : List D → Option (List D)
  | [] => some []
  | i :: r => (dIx (.lst ts) i).bind fun x => (rowsD ts r).bind fun xs => some (x :: xs)
theorem rowsD_get {ts : List D} : ∀ {is rows : List D}, rowsD ts is = some rows → rows.length = is.length ∧ ∀ (j : Nat) (i : D), is[j]? = some i → ∃ x, rows[j]? = some x ∧ dIx (.lst ts) i = some x
  | [], rows, e => by cases e; exact ⟨rfl, fun j i h => by simp at h⟩
  | i :: r, rows, e => by
    simp only [rowsD] at e
    obtain ⟨x, ex, e⟩ := Option.bind_eq_some_iff.mp e
    obtain ⟨xs, exs, e⟩ := Option.bind_eq_some_iff.mp e
    cases e
    obtain ⟨hl, hg⟩ := rowsD_get exs
    refine ⟨by rw [List.length_cons, List.length_cons, hl], fun j i' h => ?_⟩
    cases j with
    | zero => simp at h; subst h; exact ⟨x, rfl, ex⟩
    | succ j =>
      obtain ⟨y, h1, h2⟩ := hg j i' (by simpa using h)
      exact ⟨y, by simpa using h1, h2⟩
theorem lc_fld {K : PySem.W.Frag} {σ : St} {H : Hp} {W : List Addr} {a C dx lt : Addr} {fs : List (Str × V)} {f : Str} {xt : List V} {ts is rows : List D} {k j : Nat} {vp : V} {Q : VK} (al : ∀ b ∈ W, ∃ o, H b = some o)
    (hσ : σ[k]? = some (some (.ref a))) (ho : H a = some (.ins C dx fs)) (c : Cls K C) (n : NoAttr K C f) (hl : fs.lookup f = some (.ref lt)) (ht : H lt = some (.lst xt)) (wt : DWs K H W xt ts)
    (hp : σ[j]? = some (some vp)) (wp : DW K H W vp (.tup is)) (e : rowsD ts is = some rows) (hlen : is.length ≤ lim)
    (q : ∀ p H' ys, Same H H' → H p = none → H' p = some (.lst ys) → DWs K H' (p :: W) ys rows → Q (.ref p) H') :
    tLC [none, some k] (fun σ H R => iList K (tVar j) σ H R ∨ iTup K (tVar j) σ H R) (gName 0) tAll (tOp (rIx K) (tFld K (tVar 1) f) (tVar 0)) σ H Q := by
  simp only [DW] at wp
  obtain ⟨p0, xs0, rfl, hq, ws⟩ := wp
  obtain ⟨hrl, hg⟩ := rowsD_get e
  refine .inr ⟨_, hp, p0, rfl, ⟨xs0, hq⟩, fun l hl0 => ?_⟩
  have al' : ∀ {H2 : Hp}, Same H H2 → ∀ b ∈ W, ∃ o, H2 b = some o := fun g b hb => by obtain ⟨o, e⟩ := al b hb; exact ⟨o, g _ _ e⟩
  have hst : lcStart [none, some k] σ = [none, some (.ref a)] := by
    unfold lcStart
    simp only [List.map_cons, List.map_nil, Option.bind_none, Option.bind_some]
    rw [hσ]; rfl
  refine ⟨fun i m ys σ1 H2 => m = is.length - i ∧ i ≤ is.length ∧ Same H H2 ∧ H2 l = some (.lst ys) ∧ (∃ o, σ1 = [o, some (.ref a)]) ∧ DWs K H2 (l :: W) ys (rows.take i), ⟨is.length, rfl, Nat.zero_le _, same_upd hl0 _, upd_same, ⟨none, hst⟩, by simp [DWs]⟩, ?_⟩
  rintro i m ys σ1 H2 ⟨rfl, hle, g2, hl2, ⟨o, rfl⟩, w2⟩
  refine ⟨hl2, ?_⟩
  by_cases hlt : i < is.length
  · have hi : is[i]? = some is[i] := List.getElem?_eq_getElem hlt
    obtain ⟨x0, hx0, wx0⟩ := ws.get hi
    obtain ⟨y, hy, ey⟩ := hg i _ hi
    refine .inr ⟨⟨xs0, x0, g2.seqT hq, hx0⟩, fun x H3 hx => ?_⟩
    obtain ⟨rfl, hx⟩ := hx
    have hx' := hx xs0 (g2.seqT hq)
    rw [hx0] at hx'
    cases hx'
    simp only [gName, tAll, if_true]
    refine ⟨_, rfl, a, C, dx, fs, .ref lt, rfl, g2 _ _ ho, c, n, hl, x0, rfl, ?_⟩
    refine rdo_ix H3 (l :: W) (.ref lt) x0 (.lst ts) is[i] y _ (fun b hb => ?_) ⟨lt, xt, rfl, SqL.of (g2 _ _ ht), (wt.fresh hl0).same g2⟩ ((wx0.fresh hl0).same g2).r ey fun v H6 g6 wv' => ?_
    · rcases List.mem_cons.mp hb with z | z
      · rw [z]; exact ⟨_, hl2⟩
      · exact al' g2 b z
    have hl6 := g6 _ _ hl2
    have lm : l ∈ l :: W := List.mem_cons_self
    refine ⟨hl6, ?_, is.length - (i + 1), by omega, rfl, hlt, (g2.trans g6).upd_l hl0 _, upd_same, ⟨_, rfl⟩, ?_⟩
    · have := w2.length
      rw [List.length_take] at this
      exact lim_lt' (by omega)
    · rw [List.take_succ, hy]
      exact DWs.upd lm hl6 (DWs.app (w2.same g6) (DWs.one wv'))
  · have hi : i = is.length := by omega
    subst hi
    rw [← hrl, List.take_length] at w2
    exact .inl ⟨⟨xs0, g2.seqT hq, by rw [ws.length]; exact Nat.le_refl _⟩, q l H2 ys g2 hl0 hl2 w2⟩
theorem DW.offI {K : PySem.W.Frag} {H H' : Hp} {W : List Addr} {x C dx : Addr} {fs : List (Str × V)} (o : Off x H H') (hx : H x = some (.ins C dx fs)) {v : V} {d : D} (w : DW K H W v d) : DW K H' W v d := by
  refine w.map (fun b zs n r => ⟨n, ?_⟩) (fun b zs r => ?_)
  · rcases r with r | ⟨ob, r⟩
    · exact .inl (o _ _ (ne_of r hx (by intro z; cases z)) r)
    · exact .inr ⟨ob, o _ _ (ne_of r hx (by intro z; cases z)) r⟩
  · rcases r with (r | ⟨ob, r⟩) | r
    · exact .inl (.inl (o _ _ (ne_of r hx (by intro z; cases z)) r))
    · exact .inl (.inr ⟨ob, o _ _ (ne_of r hx (by intro z; cases z)) r⟩)
    · exact .inr r
theorem DWs.offI {K : PySem.W.Frag} {H H' : Hp} {W : List Addr} {x C dx : Addr} {fs : List (Str × V)} (o : Off x H H') (hx : H x = some (.ins C dx fs)) {v : List V} {d : List D} (w : DWs K H W v d) : DWs K H' W v d := by
  refine w.map (fun b zs n r => ⟨n, ?_⟩) (fun b zs r => ?_)
  · rcases r with r | ⟨ob, r⟩
    · exact .inl (o _ _ (ne_of r hx (by intro z; cases z)) r)
    · exact .inr ⟨ob, o _ _ (ne_of r hx (by intro z; cases z)) r⟩
  · rcases r with (r | ⟨ob, r⟩) | r
    · exact .inl (.inl (o _ _ (ne_of r hx (by intro z; cases z)) r))
    · exact .inl (.inr ⟨ob, o _ _ (ne_of r hx (by intro z; cases z)) r⟩)
    · exact .inr r
theorem Off.trans {l : Addr} {H H1 H2 : Hp} (a : Off l H H1) (b : Off l H1 H2) : Off l H H2 := fun c o h e => b c o h (a c o h e)
end L2
set_option maxHeartbeats 4000000
namespace L2
open PySem PySem.Spec PyProof.Rows
noncomputable def idxD (ds : List D) (d : D) : Option Nat := ds.findIdx? fun e => deq e d
theorem idxD_some {ds : List D} {d : D} {j : Nat} (h : idxD ds d = some j) : ∃ hj : j < ds.length, deq ds[j] d = true ∧ ∀ i (hi : i < ds.length), i < j → deq ds[i] d = false := by
  unfold idxD at h
  rw [List.findIdx?_eq_some_iff_getElem] at h
  obtain ⟨hj, h1, h2⟩ := h
  exact ⟨hj, h1, fun i hi hij => by simpa using h2 i hij⟩
section
variable {X : Cx} {K : PySem.W.Frag} {O : List Nat}
end
end L2
set_option maxHeartbeats 4000000
namespace L2
open PySem PySem.Spec PyProof.Rows
noncomputable abbrev Cx.loud (X : Cx) (e : Value) (E : Value → Shared → Prop) : Cx := { X with A := X.A.mark (some e), calm := false, xe := E }
section
variable {X : Cx} {pins : List (Addr × Obj)} {σ : St} {H : Hp} {s : Shared} {e : Value} {E : Value → Shared → Prop}
theorem Cx.Ok.loud (ok : X.Ok) : (X.loud e E).Ok :=
  ⟨ok.mod, ok.kind, ok.glob, ok.blt, ok.above, ok.inj, ok.has, ok.cab, fun z => (by cases z), ok.frames, ok.stk, ok.exf, ok.bs, ok.bsz, ok.noex, ok.exfs, ok.funs, ok.frf⟩
theorem Inv.loud (I : Inv X pins σ H s) : Inv (X.loud e E) pins σ H s := ⟨I.ok.loud, I.os, I.bare, I.base, I.loc, I.cell, I.free, I.freeC, I.pin, I.hok, I.len⟩
theorem Inv.unloud (ok : X.Ok) (I : Inv (X.loud e E) pins σ H s) : Inv X pins σ H s := ⟨ok, I.os, I.bare, I.base, I.loc, I.cell, I.free, I.freeC, I.pin, I.hok, I.len⟩
end
structure RoomH (k : Nat) (A : Around) : Prop where
  dp : A.depth + 3 * k + 5 < recursionLimit
  un : A.units + 16 * k + 200 < cLine
theorem RoomH.units {k : Nat} {A : Around} (r : RoomH k A) : A.units + 64 < cLine := by have := r.un; omega
theorem RoomH.into {k : Nat} {A : Around} (r : RoomH (k + 1) A) (env : Env) : RoomH k (A.deeper env) :=
  ⟨by have := r.dp; show A.depth + 1 + 3 * k + 5 < _; omega, by have := r.un; show A.units + 3 + 16 * k + 200 < _; omega⟩
theorem Room.loud {k : Nat} {A : Around} {e : Value} (r : Room k A) : RoomH k (A.mark (some e)) := ⟨r.dp, r.un⟩
structure FnOkH (P : Program) (w : World) (K : PySem.W.Frag) (mg : Str → Option Value) (base : Heap) (k : Nat) (f : Addr) (fd : FuncData) (ps : List Str) (sp : Sp) : Prop where
  len : ∀ vs H Q E, sp vs H Q E → vs.length = ps.length
  run : ∀ (A : Around) (outer : List Env) (s : Shared) (H : Hp) (args : Args) (us : List Value) (vs : List V) (Q : VK) (E : XK), RoomH k A → Env0 P w K mg base A outer s H → BindsTo s fd args (ps.zip us) → Vals vs us → sp vs H Q E →
    codeAny (model P w) A (.call (.ref f) args) (CR CX0 outer P w H s Q E) s
section
variable {X : Cx} {k : Nat} {f : Addr} {fd : FuncData} {ps : List Str} {sp : Sp} {x : Str} {p pos : Pos} {e : Expr} {es : List Expr} {t : TA}
theorem pe_callH (F : FnOkH X.prog X.w X.K X.mg X.base k f fd ps sp) (hr : RoomH k X.A) (hg : Gl X x) (hm : X.mg x = some (.ref f)) (hk : PySem.W.keepIn X.K (.ref f) = true) (hb : Binds X.K fd ps [])
    (ha : PA X (e :: es) t) (hdb : (x == ("__debug__" : Str)) = false := by decide) (he : starEach (e :: es) X.env = (false, eval e X.env) :: starEach es X.env := by rfl) (hpl : (backTo pos (starEach es X.env)).any (·.1) = false := by rfl) :
    PE X (.Call (.Name x p) (e :: es) [] pos) (tCall sp [] E0 t) := by
  intro pins s σ H Q I h
  refine wpAny_Call_Name_kw (ld_glob I hg hm ?_ hdb)
  refine PySem.W.callWith_K (h₀ := X.base) I.ok.mod.kin hk (thn (ha pos pins s σ H _ I h) fun us s1 ⟨vs, H1, I1, r, q⟩ => ⟨I1.kIn, ?_⟩) he hpl
  have q : sp (vs ++ []) H1 Q E0 := q
  rw [List.append_nil] at q
  have hl : (us ++ []).length = ps.length := by rw [List.append_nil, ← r.length]; exact F.len _ _ _ _ q
  have hbb := hb s1 us I1.kIn hl
  rw [List.append_nil] at hbb
  refine wpAny_call (codeAny_mono (F.run X.A X.stack s1 H1 ⟨us, []⟩ us vs Q E0 hr I1.env0 hbb r q) fun rr s' hq => ?_)
  cases rr with
  | error e => exact False.elim hq
  | ok fl =>
    cases fl with
    | ret u => exact I1.after hq
    | _ => exact False.elim hq
end
theorem Fun.okH {P : Program} {w : World} {K : PySem.W.Frag} {mg : Str → Option Value} {base : Heap} {x qual : Str} {st : Stmt} {f : Addr} {fd : FuncData} {N ps : List Str} {k : Nat} {sp : Sp} (F : Fun K x qual st f fd) (S : FnScope N ps (defScope st)) (len : ∀ vs H Q E, sp vs H Q E → vs.length = ps.length)
    (hbody : ∀ (cdv : Value) (A : Around) (outer : List Env) (s : Shared) (H : Hp) (vs : List V) (Q : VK) (E : XK), RoomH k (A.deeper (envOfC qual (defScope st) s.heap.objs.size f cdv)) → sp vs H Q E →
      ∃ t, PSs { cxOf CX0 P w K mg base N qual (defScope st) f cdv A outer s H E with calm := false } (defBody st) t ∧ t { nx := fun _ H' => Q .non H', rt := Q } (start N vs) H) : FnOkH P w K mg base (k + 1) f fd ps sp := by
  obtain ⟨oc, od, kV, doc, pm, an, cdv, ct, osl, rfl, lk, hcd⟩ := F.ex
  refine ⟨len, fun A outer s H args us vs Q E hr e0 hb r hsp => ?_⟩
  have hl := len _ _ _ _ hsp
  have KX : K.In s.heap := e0.mod.kin.keeps fun b o e => (e0.bs b o e).1
  have hdep : A.depth < recursionLimit := by have := hr.dp; omega
  refine codeAny_call_function hdep (KX _ _ lk) rfl S.co S.gen rfl (PySem.W.codeRec_of KX hcd) (hb _ _ _ _ ?_)
  refine wpAny_newFunctionEnv_cells S.kind (fun ⟨n, v⟩ hy => ?_) fun env he s1 z => ?_
  · rcases S.par n (List.of_mem_zip hy).1 with q | q
    · exact .inl q
    · exact .inr ⟨q, PySem.W.cellsFrom_some _ _ _ (.inl q)⟩
  subst he
  refine ⟨(e0.mod.nolimit.keeps fun b o e => (e0.bs b o e).1).keeps z.toInCall.keep, codeAny_func ?_⟩
  obtain ⟨t, ht, hq⟩ := hbody cdv A outer s H vs Q E (hr.into _) hsp
  have e0' : Env0 P w K mg base { A with handled := none } outer s H := ⟨e0.frames, e0.mod, e0.bs, e0.bsz, e0.funs, e0.frf, e0.hok, e0.bare⟩
  have I0 : Inv (cxOf CX0 P w K mg base N qual (defScope st) f cdv { A with handled := none } outer s H E) [] (start N vs) H s1 := inv_start S rfl e0' hl r z
  have ok0 := I0.ok
  have I : Inv { cxOf CX0 P w K mg base N qual (defScope st) f cdv A outer s H E with calm := false } [] (start N vs) H s1 :=
    ⟨⟨ok0.mod, ok0.kind, ok0.glob, ok0.blt, ok0.above, ok0.inj, ok0.has, ok0.cab, fun z => (by cases z), Around.frames_deeper e0.frames, ok0.stk, ok0.exf, ok0.bs, ok0.bsz, ok0.noex, ok0.exfs, ok0.funs, ok0.frf⟩, I0.os, I0.bare, I0.base, I0.loc, I0.cell, I0.free, I0.freeC, I0.pin, I0.hok, I0.len⟩
  refine wpAny_mono (ht [] s1 (start N vs) H _ I hq) (fun fl s' hs => ?_) fun e s' hs => hs
  cases fl with
  | ret u =>
    obtain ⟨v, σ', H', J, rv, q⟩ := hs
    exact ⟨v, H', J.os, J.bare, J.base, J.hok, rv, q⟩
  | next =>
    obtain ⟨σ', H', J, q⟩ := hs
    exact ⟨V.non, H', J.os, J.bare, J.base, J.hok, rfl, q⟩
  | brk =>
    obtain ⟨_, _, _, q⟩ := hs
    exact False.elim q
  | cont =>
    obtain ⟨_, _, _, q⟩ := hs
    exact False.elim q
theorem name_gone {X : Cx} {pins : List (Addr × Obj)} {σ : St} {H : Hp} {s : Shared} {M : Model} {A : Around} {E : Value → Shared → Prop} {i : Nat} {x : Str} {pos : Pos} {Q : Unit → Shared → Prop} (I : Inv X pins σ H s) (hN : X.N.Nodup) (hi : X.N[i]? = some x) (hk : X.env.kindOf x = some .local)
    (h : ∀ s', Inv X pins (σ.set i none) H s' → Q () s') : wpAny M A (do bindName X.env x .none; unbindBehindTheSuite X.env x pos) Q E s := by
  obtain ⟨m, hn, hl⟩ := id I.loc
  have hcls : (X.env.scope.kind == .class || (X.env.scope.kind == .module && X.env.locals != X.env.globals)) = false := by rw [I.ok.kind]; rfl
  have cne := I.cne
  obtain ⟨oL, _, _, hoL, _⟩ := id hn
  refine wpAny_nameGoes_keeps hk hn hcls fun h' v hn' hs => ?_
  have old : ∀ {b : Addr} {o : Obj}, X.s₀.heap.get? b = some o → b ≠ X.env.locals := fun e => Nat.ne_of_lt (Nat.lt_of_lt_of_le (Heap.lt_size e) I.ok.above)
  refine h _ ⟨I.ok, I.os, I.bare, ⟨fun b o e n hb hx => ?_, fun b o e n hb hx => ?_, I.base.free, fun b o e hx => ?_, I.base.tups, I.base.frzs, I.base.tbls⟩, ⟨_, hn', fun j y w e1 e2 e3 => ?_⟩, fun y c e => ?_, I.free, I.freeC, fun p hp => ?_, fun b ob e => ?_, by rw [List.length_set]; exact I.len⟩
  · exact (hs.2 b (old e)).trans (I.base.keep b o e n hb hx)
  · obtain ⟨sl, e1⟩ := I.base.slot b o e n hb hx
    exact ⟨sl, (hs.2 b (old e)).trans e1⟩
  · obtain ⟨o', e1⟩ := I.base.there b o e hx
    exact ⟨o', (hs.2 b (old e)).trans e1⟩
  · by_cases hj : j = i
    · subst hj
      have hlt : j < σ.length := by rw [I.len]; exact (List.getElem?_eq_some_iff.mp hi).1
      rw [List.getElem?_set_self hlt] at e2
      cases e2
    · rw [List.getElem?_set_ne (Ne.symm hj)] at e2
      obtain ⟨u', r', q⟩ := hl j y w e1 e2 e3
      refine ⟨u', r', ?_⟩
      rcases q with ⟨k, e⟩ | ⟨k, c, e, z⟩
      · refine .inl ⟨k, ?_⟩
        have : y ≠ x := fun e => hj (nodup_ix hN e1 (e ▸ hi))
        simp [this, e]
      · exact .inr ⟨k, c, e, z.sameBut hs (cne y c e)⟩
  · obtain ⟨w', z⟩ := I.cell y c e
    exact ⟨w', z.sameBut hs (cne y c e)⟩
  · obtain ⟨e, n, ne, nf, d⟩ := I.pin p hp
    exact ⟨(hs.2 p.1 ne).trans e, n, ne, nf, d⟩
  · refine (I.hok b ob e).stay (fun c w' hc q => (hs.2 c ?_).trans q) (fun _ q => q) fun _ _ q => q
    rintro rfl
    rcases hc with rfl | hc
    · rw [I.free] at e; cases e
    · rw [I.free] at hc; cases hc
noncomputable def Fly2 (X : Cx) (E : XK) (e : Value) (s' : Shared) : Prop := ∃ (pins : List (Addr × Obj)) (σ : St) (Hc : Hp) (sc : Shared), Inv X pins σ Hc sc ∧ CXe X.prog X.w X.stack Hc sc E e s'
theorem passE2 {X : Cx} {E : XK} : Passes (CXe X.prog X.w) (X.wish (Fly2 X E)) E := fun pins σ H s e s' I h => ⟨pins, σ, H, s, I.unwish, h⟩
noncomputable def exO (ea C : Addr) : HO := .ext fun h => ∃ o, h.get? ea = some o ∧ o.cls = .ref C ∧ PySem.W.notCls o = true
theorem inv_land {X : Cx} {pins : List (Addr × Obj)} {σ : St} {Hc H' : Hp} {sc s1 : Shared} {ea C : Addr} {B h5 : Heap} {a0 : Value} (hst : X.stack = X.env :: X.outer) (hex : X.ex = []) (Ic : Inv X pins σ Hc sc) (I1 : Inv X pins σ H' s1)
    (fl : Heap.FlyingW B X.stack ea (.ref C) a0 s1.heap) (fl5 : Heap.FlyingW B X.stack ea (.ref C) a0 h5) (up : s1.heap.UpToSlots h5)
    (d1 : ∀ b o, sc.heap.get? b = some o → b ∉ frs X.stack → ∃ o', B.get? b = some o') (d2 : ∀ b o, H' b = some o → ∃ o', B.get? b = some o') : Inv X [] σ H' { s1 with heap := h5 } := by
  have kB : ∀ b o, B.get? b = some o → s1.heap.get? b = some o := fl.1
  have kB' : ∀ b o, B.get? b = some o → h5.get? b = some o := fl5.1
  have same : ∀ b o, sc.heap.get? b = some o → b ∉ frs X.stack → ∀ o1, s1.heap.get? b = some o1 → h5.get? b = some o1 := fun b o e hb o1 e1 => by
    obtain ⟨o', e2⟩ := d1 b o e hb
    rw [kB b o' e2] at e1; cases e1
    exact kB' b _ e2
  obtain ⟨m, hn, hl⟩ := id I1.loc
  have hn5 := up.ns hn
  have cellUp : ∀ c v, s1.heap.IsCell c v → h5.IsCell c v := fun c v ⟨o, e, d⟩ => by
    obtain ⟨sl, e'⟩ := up c o e (fun vs z => by rw [d] at z; cases z)
    exact ⟨_, e', d⟩
  refine ⟨I1.ok, I1.os, I1.bare, ?_, ⟨m, hn5, fun j y v e1 e2 e3 => ?_⟩, fun y c e => ?_, I1.free, I1.freeC, fun p hp => ?_, hok_fly I1.hok d2 kB kB', I1.len⟩
  · have hb := I1.base
    rw [hex] at hb ⊢
    refine un_fly hb (fun b o q hb' => ?_) kB kB' fun b hb' o q => ?_
    · obtain ⟨o1, e1⟩ := Ic.base.there b o q (by rw [hex]; simp)
      refine d1 b o1 e1 fun z => ?_
      rw [hst] at z
      rcases Ic.ok.stk with e | ⟨_, hf⟩
      · rw [hst] at e
        have := congrArg List.length e
        simp at this
      · unfold frs at z
        rw [List.filterMap_cons, hf] at z
        rcases List.mem_cons.mp z with z | z
        · exact absurd (Heap.lt_size q) (by rw [z]; exact Nat.not_lt.mpr Ic.ok.above)
        · exact hb' z
    · obtain ⟨_, o1, e1, nf⟩ := I1.stack.mem (b := b) (by
        rw [hst]
        rcases Ic.ok.stk with e | ⟨_, hf⟩
        · rw [hst] at e
          have := congrArg List.length e
          simp at this
        · rw [List.filterMap_cons, hf]
          exact List.mem_cons_of_mem _ hb')
      rw [q] at e1; cases e1
      exact up b o q nf
  · obtain ⟨u', r', q⟩ := hl j y v e1 e2 e3
    refine ⟨u', r', ?_⟩
    rcases q with ⟨k, e⟩ | ⟨k, c, e, z⟩
    · exact .inl ⟨k, e⟩
    · exact .inr ⟨k, c, e, cellUp c _ z⟩
  · obtain ⟨w', z⟩ := I1.cell y c e
    exact ⟨w', cellUp c _ z⟩
  · obtain ⟨e, n, ne, nf, d⟩ := I1.pin p (by
      rw [List.append_nil] at hp
      exact List.mem_append_left _ hp)
    obtain ⟨ec, _⟩ := Ic.pin p (by
      rw [List.append_nil] at hp
      exact List.mem_append_left _ hp)
    refine ⟨same p.1 _ ec (fun z => ?_) _ e, n, ne, nf, d⟩
    have := Ic.stkSub p.1 z
    rcases List.mem_cons.mp this with z | z
    · exact ne z
    · exact nf z
section
variable {M : Model} {A : Around} {E : Value → Shared → Prop} {nm qn : Str} {G N : Addr} {bs bm : List Value} {hdct : Bool} {sn : List Str} {sub : List Value} {ab : Bool} {col : Option Bool} {dd : Option Addr} {k0 k1 k2 k3 k5 : Option Value} {newId : String}
theorem exc_below {h : Heap} {gg : Array GenState} {dr : Drawn} {tk : Nat} {os : OsState} {e C : Addr} {oe : Obj} {Q : Bool → Shared → Prop}
    (hG : h.get? G = some (excClassObj nm qn G N bs bm hdct sn sub ab col dd k0 k1 k2 k3 k5 newId)) (hB : bm.contains (.type "BaseException") = true) (he : h.get? e = some oe) (hc : oe.cls = .ref C)
    (hs : PySem.W.Looks M h (isSubtype (.ref C) (.ref G)) true) (hq : Q true ⟨h, gg, dr, tk, os⟩) : wpAny M A (excMatches (.ref e) (.ref G)) Q E ⟨h, gg, dr, tk, os⟩ := by
  have hB' : (Value.ref G :: bm).contains (.type "BaseException") = true := by rw [List.contains_cons, hB, Bool.or_true]
  have nt := tc_notTuple
  unfold excMatches
  repeat (first | with_reducible refine hs.at ?_ | (with_reducible refine wpAny_loadPart_at he ?_; rw [hc]) | with_reducible refine wpAny_loadPart_at hG ?_ | (with_reducible refine wpAny_isSubtype_exc hG ?_; rw [hB']) | wp_step)
  exact hq
end
theorem inv_track {X : Cx} {σ : St} {H : Hp} {s : Shared} {ea C : Addr} (I : Inv X [] σ H s) (h0 : H ea = none) (hnew : X.s₀.heap.get? ea = none) (hloc : ea ≠ X.env.locals) (hcell : ∀ x c, X.env.cells.lookup x = some c → c ≠ ea) (hpin : ∀ p ∈ X.pn, p.1 ≠ ea)
    (he : ∃ o, s.heap.get? ea = some o ∧ o.cls = .ref C ∧ PySem.W.notCls o = true) : Inv X [] σ (upd H ea (exO ea C)) s := by
  have keepH : ∀ b u, H b = some u → upd H ea (exO ea C) b = some u := fun b u q => by rw [upd_ne (fun z => by rw [z, h0] at q; cases q)]; exact q
  refine ⟨I.ok, I.os, I.bare, ⟨I.base.keep, I.base.slot, fun b o q n hx => ?_, I.base.there, fun b xs q => keepH _ _ (I.base.tups b xs q), fun b o u q => keepH _ _ (I.base.frzs b o u q), fun b ps q => ?_⟩, I.loc, I.cell, ?_, fun y c q => ?_, fun p hp => ?_, fun b u q => ?_, I.len⟩
  · rw [upd_ne (fun z => by rw [z, hnew] at q; cases q)]
    exact I.base.free b o q n hx
  · obtain ⟨more, e⟩ := I.base.tbls b ps q
    exact ⟨more, keepH _ _ e⟩
  · rw [upd_ne (Ne.symm hloc)]; exact I.free
  · rw [upd_ne (hcell y c q)]; exact I.freeC y c q
  · obtain ⟨e, n, r⟩ := I.pin p hp
    refine ⟨e, ?_, r⟩
    rw [upd_ne (hpin p (by rw [List.append_nil] at hp; exact hp))]; exact n
  · by_cases c : b = ea
    · subst c
      rw [upd_same] at q
      cases q
      obtain ⟨o, e1, e2, e3⟩ := he
      exact ⟨⟨o, e1, e2, e3⟩, ⟨o, e1⟩, fun h1 h2 ⟨o', f1, f2, f3⟩ k => ⟨o', k o' f1, f2, f3⟩⟩
    · rw [upd_ne c] at q
      exact (I.hok b u q).stay (fun _ _ _ z => z) (fun _ z => keepH _ _ z) fun _ _ z => keepH _ _ z
noncomputable def tTry (K : PySem.W.Frag) (G : Addr) (i n : Nat) (tb : XK → TS) (ts : TS) : TS := fun D σ H => tb (fun cv _ H' => ∃ C, cv = .ref C ∧ PySem.W.kitCls K (.ref C) (.ref G) = some true ∧
  ∀ (ea : Addr) (σ' : St), σ'.length = n → H' ea = none → ts { nx := fun _ _ => False, rt := D.rt } (σ'.set i (some (.ref ea))) (upd H' ea (exO ea C))) D σ H
noncomputable abbrev Cx.pnd (X : Cx) (pn : List (Addr × Obj)) : Cx := { X with pn := pn }
theorem Inv.pnd {X : Cx} {pins : List (Addr × Obj)} {σ : St} {H : Hp} {s : Shared} (I : Inv X pins σ H s) : Inv (X.pnd (X.pn ++ pins)) [] σ H s :=
  ⟨⟨I.ok.mod, I.ok.kind, I.ok.glob, I.ok.blt, I.ok.above, I.ok.inj, I.ok.has, I.ok.cab, I.ok.hd, I.ok.frames, I.ok.stk, I.ok.exf, I.ok.bs, I.ok.bsz, I.ok.noex, I.ok.exfs, I.ok.funs, I.ok.frf⟩, I.os, I.bare, I.base, I.loc, I.cell, I.free, I.freeC, fun p hp => I.pin p (by rw [List.append_nil] at hp; exact hp), I.hok, I.len⟩
theorem Inv.unpnd {X : Cx} {pins : List (Addr × Obj)} {σ : St} {H : Hp} {s : Shared} (ok : X.Ok) (I : Inv (X.pnd (X.pn ++ pins)) [] σ H s) : Inv X pins σ H s :=
  ⟨ok, I.os, I.bare, I.base, I.loc, I.cell, I.free, I.freeC, fun p hp => I.pin p (by rw [List.append_nil]; exact hp), I.hok, I.len⟩
theorem SP.unpnd {X : Cx} {pins : List (Addr × Obj)} {D : Ends} {f : Flow} {s : Shared} (ok : X.Ok) (h : SP (X.pnd (X.pn ++ pins)) [] D f s) : SP X pins D f s := by
  cases f with
  | next => obtain ⟨σ', H', I, q⟩ := h; exact ⟨σ', H', I.unpnd ok, q⟩
  | brk => obtain ⟨σ', H', I, q⟩ := h; exact ⟨σ', H', I.unpnd ok, q⟩
  | cont => obtain ⟨σ', H', I, q⟩ := h; exact ⟨σ', H', I.unpnd ok, q⟩
  | ret u => obtain ⟨v, σ', H', I, r, q⟩ := h; exact ⟨v, σ', H', I.unpnd ok, r, q⟩
theorem ps_try {X : Cx} {body : List Stmt} {g n : Str} {np hpos pos : Pos} {b0 : Stmt} {suite : List Stmt} {G : Addr} {i : Nat} {tb : XK → TS} {ts : TS} (K : PySem.W.Frag)
    (hb : ∀ (pn : List (Addr × Obj)) (E : XK), PSs ((X.pnd pn).wish (Fly2 (X.pnd pn) E)) body (tb E)) (hsu : ∀ (pn : List (Addr × Obj)) (ea : Addr), PSs ((X.pnd pn).loud (.ref ea) fun _ _ => False) (b0 :: suite) ts)
    (hG : Exc X.K G) (hg : Gl X g) (hm : X.mg g = some (.ref G)) (hN : X.N.Nodup) (hi : X.N[i]? = some n) (hk : X.env.kindOf n = some .local) (hst : X.stack = X.env :: X.outer := by rfl) (hex : X.ex = [] := by rfl) (hf : X.env.frame = some X.env.locals := by rfl)
    (hdb : (g == ("__debug__" : Str)) = false := by decide) (hK : X.K = K := by rfl) :
    PS X (.Try body [.ExceptHandler (some (.Name g np)) (some n) (b0 :: suite) hpos] [] [] pos) (tTry K G i X.N.length tb ts) := fun pins s σ H D I h => by
  subst hK
  have ok := I.ok
  refine wpAny_Try_except (wpAny_mono (hb (X.pn ++ pins) _ [] s σ H D (I.pnd.wish _) h) (fun f s1 q => ?_) fun e s1 q => ?_)
  · have q := SP.unpnd ok q.unwish
    cases f with
    | next => exact wpAny_execs_nil q
    | _ => exact q
  · obtain ⟨pins', σ', Hc, sc, Ic, ea, C, H', B, a0, rfl, os, bare, un, hok, fl, d1, d2, C', eC, hsub, go⟩ := q
    cases eC
    have I1 : Inv (X.pnd (X.pn ++ pins)) pins' σ' H' s1 := Ic.call' (ch := []) os un hok bare fun b z => absurd z (by simp)
    have hfr : X.A.frames = some (X.env :: X.outer) := by rw [← hst]; exact ok.frames
    have fl0 : Heap.FlyingW B (X.env :: X.outer) ea (.ref C) a0 s1.heap := by rw [← hst]; exact fl
    refine wpAny_looks_onW hfr hf fl0 fun h4 held4 up4 => ?_
    refine wpAny_landsW held4 fun h5 fl5 up5 => ?_
    have fl5' : Heap.FlyingW B X.stack ea (.ref C) a0 h5 := by rw [hst]; exact fl5
    have I5 : Inv (X.pnd (X.pn ++ pins)) [] σ' H' { s1 with heap := h5 } := inv_land (X := X.pnd (X.pn ++ pins)) hst hex Ic I1 fl fl5' (up4.trans up5) d1 d2
    obtain ⟨bm, Nn, nm, qn, bs, hdct, sn, sub, ab, col, dd, k0, k1, k2, k3, k5, mN, hob, _, _, T⟩ := hG.cls I5.kIn
    refine wpAny_handleBy_cons (codeAny_handlers_test ?_) (by intro q; cases q)
    refine ld_glob (X := (X.pnd (X.pn ++ pins)).loud (.ref ea) fun _ _ => False) I5.loud hg hm ?_ hdb
    obtain ⟨oe, he, hc⟩ := fl5.there
    refine exc_below (h := h5) (gg := s1.gens) (dr := s1.drawn) (tk := s1.toks) (os := s1.os) hob (T.hasType F.excBase_ValueError.hasBase) he hc (PySem.W.kit_cls (M := model X.prog X.w) I5.kIn hsub).2.2 ?_
    refine codeAny_handlers_suite_as ?_
    refine lands_againW fl5 fun h6 fl6 up6 => ?_
    have fl6' : Heap.FlyingW B X.stack ea (.ref C) a0 h6 := by rw [hst]; exact fl6
    have I6 : Inv (X.pnd (X.pn ++ pins)) [] σ' H' { s1 with heap := h6 } := inv_land (X := X.pnd (X.pn ++ pins)) hst hex Ic I1 fl fl6' ((up4.trans up5).trans up6) d1 d2
    obtain ⟨o6, ws, e6, c6, f6, _⟩ := fl6.first
    have hB : B.get? ea = none := fl.2.1
    have h0 : H' ea = none := by
      cases z : H' ea with
      | none => rfl
      | some u => obtain ⟨o', q⟩ := d2 ea u z; rw [hB] at q; cases q
    have hfrn : ∀ b ∈ frs X.stack, b ≠ ea := fun b hb z => by
      obtain ⟨_, o1, q1, nf⟩ := fl6'.2.2.1.mem hb
      rw [z, e6] at q1; cases q1
      exact nf ws f6
    have hold : ∀ b o, sc.heap.get? b = some o → b ≠ ea := fun b o q z => by
      by_cases hb : b ∈ frs X.stack
      · exact hfrn b hb z
      · obtain ⟨o', q'⟩ := d1 b o q hb
        rw [z, hB] at q'; cases q'
    have I7 := inv_track (C := C) I6 h0 (by
        cases z : X.s₀.heap.get? ea with
        | none => rfl
        | some o =>
          obtain ⟨o', q'⟩ := Ic.base.there ea o z (by rw [show (X.pnd (X.pn ++ pins)).ex = [] from hex]; simp)
          exact absurd rfl (hold ea o' q'))
      (fun z => hfrn X.env.locals (by rw [hst]; unfold frs; rw [List.filterMap_cons, hf]; exact List.mem_cons_self) z.symm)
      (fun x c q z => by
        obtain ⟨v, o, q1, q2⟩ := Ic.cell x c q
        exact hold c o q1 z)
      (fun p hp => by
        obtain ⟨q1, _⟩ := Ic.pin p (List.mem_append_left _ hp)
        exact hold p.1 _ q1)
      ⟨o6, e6, c6, by unfold PySem.W.notCls; rw [f6]⟩
    refine store_ok (X := X.pnd (X.pn ++ pins)) (v := .ref ea) I7 hN hi (.inl hk) rfl (fun s8 I8 => ?_) (.inr hk)
    refine wpAny_mono (hsu (X.pn ++ pins) ea [] s8 _ _ _ I8.loud (go ea σ' I6.len h0)) (fun f s9 q => ?_) fun _ _ z => z.elim
    cases f with
    | ret u =>
      obtain ⟨v, σ9, H9, J, rv, q⟩ := q
      exact name_gone (X := X.pnd (X.pn ++ pins)) (J.unloud I6.ok) hN hi hk fun s10 I10 => ⟨v, _, _, I10.unpnd ok, rv, q⟩
    | next => obtain ⟨_, _, _, q⟩ := q; exact q.elim
    | brk => obtain ⟨_, _, _, q⟩ := q; exact q.elim
    | cont => obtain ⟨_, _, _, q⟩ := q; exact q.elim
end L2
set_option maxHeartbeats 4000000
namespace L2
open PySem PySem.Spec PySem.Calls PyProof.Rows PySem.W
structure ExcC (K : PySem.W.Frag) (D : Addr) : Prop where
  ga : PySem.W.findIn K (.ref D) "__getattribute__" = some (some (.builtin "BaseException.__getattribute__"))
  gr : PySem.W.findIn K (.ref D) "__getattr__" = some none
  cd : (PySem.W.clsIn K D).isSome = true
  fa : PySem.W.findIn K (.ref D) "__class__" = some (some (.builtin "object.__class__"))
  sg : PySem.W.specialIn K (.builtin "object.__class__") "__get__" = some (some (.builtin "getset_descriptor.__get__"))
  tk : PySem.W.takesIn K (.builtin "object.__class__") = some true
  mo : PySem.W.mroIn K D (.type "object") = some true
  mb : PySem.W.mroIn K D (.type "BaseException") = some true
theorem exc_cls {K : PySem.W.Frag} {C : Addr} {bm : List Value} {n : String} (h : PySem.W.excIn K C bm n = true) : (PySem.W.clsIn K C).isSome = true := by
  unfold PySem.W.excIn at h
  unfold PySem.W.clsIn
  split at h
  · rename_i e
    rw [e]; rfl
  · cases h
theorem kitCls_of {K : PySem.W.Frag} {t c : Value} {b : Bool} (h : PySem.W.kitOne K t c = some b) (hn : (t == c) = false) : PySem.W.kitCls K t c = some b := by
  unfold PySem.W.kitOne at h
  rwa [hn, if_neg Bool.false_ne_true] at h
noncomputable def ExAt (ea C : Addr) (h : Heap) : Prop := ∃ o, h.get? ea = some o ∧ o.cls = .ref C ∧ PySem.W.notCls o = true
section
variable {K : PySem.W.Frag} {ea D : Addr}
theorem ex_type {M : Model} {h : Heap} (p : ExAt ea D h) : Looks M h (typeOf (.ref ea)) (.ref D) := by
  obtain ⟨o, e, c, _⟩ := p
  exact c ▸ (Looks.ld e).andThen .now
theorem ex_isType {M : Model} {h : Heap} (q : ExcC K D) (X : K.In h) : Looks M h (isType (.ref D)) true := by
  obtain ⟨cd, hc⟩ := Option.isSome_iff_exists.mp q.cd
  unfold clsIn at hc
  split at hc
  · rename_i ho
    intro A' Q' E' s' k z
    unfold isType loadHead
    exact wpAny_bind (wpAny_loadPart (k _ _ (X _ _ ho)) (wpAny_pure z))
  · cases hc
open Builtin Builtin.ObjectAttr Builtin.Getset_descriptor in
theorem ex_class {prog : Program} {w : World} {A : Around} {E : Value → Shared → Prop} {Q : Option Value → Shared → Prop} {s : Shared} (q : ExcC K D) (X : K.In s.heap) (p : ExAt ea D s.heap) (hq : Q (some (.ref D)) { s with toks := s.toks + 1 }) :
    wpAny (model prog w) A (getAttr? (.ref ea) "__class__") Q E s := by
  obtain ⟨hh, g, d, t, os⟩ := s
  have Lt := ex_type (M := model prog w) p
  have La := looks_findIn (M := model prog w) X q.ga
  have Lg := looks_findIn (M := model prog w) X q.gr
  have Lc := looks_findIn (M := model prog w) X q.fa
  have Ls := looks_specialIn (M := model prog w) X q.sg
  have Lm := looks_mroIn (M := model prog w) X q.mo
  have Lb := looks_mroIn (M := model prog w) X q.mb
  have Lk := looks_takesIn (M := model prog w) X q.tk
  have Lf : Looks (model prog w) hh (Builtin.ObjectAttr.find (.ref ea) (.ref D) "__class__") (.bind (.builtin "getset_descriptor.__get__") (.builtin "object.__class__")) := by
    unfold Builtin.ObjectAttr.find
    refine Lc.andThen ?_
    have Ls' : Looks (model prog w) hh (Builtin.ObjectAttr.getOf (some (.builtin "object.__class__"))) (some (.builtin "getset_descriptor.__get__")) := Ls
    refine Ls'.andThen ?_
    have Ld : Looks (model prog w) hh (Builtin.ObjectAttr.dataDescriptor? (some (.builtin "object.__class__")) (some (.builtin "getset_descriptor.__get__"))) (some (.builtin "getset_descriptor.__get__", .builtin "object.__class__")) := Lk.andThen .now
    exact Ld.andThen (Looks.tag .now)
  have hx2 : (onTheHeap (Value.ref D) && Value.builtin "BaseException.__getattribute__" == Value.builtin "object.__getattribute__") = false := by
    rw [show (Value.builtin "BaseException.__getattribute__" == Value.builtin "object.__getattribute__") = false by decide +kernel]; rfl
  unfold getAttr? getAttrBy? getAttrBy
  refine wpAny_bind (wpAny_mkText (wpAny_bind (wpAny_attempt (wpAny_holding (wpAny_bind (Lt.at (wpAny_bind (La.at ?_))))))))
  show wpAny _ _ (if (onTheHeap (Value.ref D) && Value.builtin "BaseException.__getattribute__" == Value.builtin "object.__getattribute__") = true then _ else _) _ _ _
  rw [hx2, if_neg Bool.false_ne_true]
  unfold getAttrByItsOwn
  refine wpAny_bind ?_
  show wpAny _ _ (typeLookup (.ref D) "__getattr__") _ _ _
  refine Lg.at ?_
  refine wpAny_bind (wpAny_attempt (wpAny_holding ?_))
  show wpAny _ _ (boundAndCalled _ _ _) _ _ _
  unfold boundAndCalled
  rw [F.excAttr_ValueError.ga.bind (.ref ea)]
  refine wpAny_bind (wpAny_pure ?_)
  show wpAny _ _ (call (.builtin "BaseException.__getattribute__") [.ref ea, _]) _ _ _
  refine wpAny_call ?_
  refine codeAny_call_builtin F.excAttr_ValueError.ga.plain F.entry_bexc_ga ?_
  have hk : builtinKind "BaseException.__getattribute__" = some .slot := by decide +kernel
  have hsplit : splitId "BaseException.__getattribute__" = some ("BaseException", "__getattribute__") := by decide +kernel
  have ha := F.args_bexc_ga (.ref ea) (.str "__class__" t)
  simp only [checkBuiltinCall, hk, hsplit]
  refine wpAny_bind ?_
  unfold isInstance
  repeat ((fail_if_success (with_reducible show wpAny _ _ (call (Value.builtin "getset_descriptor.__get__") _) _ _ _)); lk)
  refine wpAny_call ?_
  refine codeAny_call_builtin KF.slot_gs.plain KF.entry_gs (KF.slot_gs.check _ _ _ _ _ _ _ _ KF.type_class (KF.args_gs _ _ _) ?_)
  unfold Builtin.«getset_descriptor.__get__» descrGet
  rw [dga_obj]
  refine wpAny_bind (wpAny_pure ?_)
  unfold descrGetter descrCheckInstance descrNameAndClass isInstance
  simp only [KF.owner_class]
  repeat lk
  refine ⟨Code.quiet_builtin _ (by decide +kernel), codeAny_builtin KF.entry_class ?_⟩
  unfold Builtin.«object.__class__» shownTypeOf
  repeat lk
  exact hq
theorem kitx_exc (q : ExcC K D) : KitX K (.ref ea) (.ref D) (ExAt ea D) where
  ty := fun _ _ _ p => ex_type p
  it := fun _ _ X _ => ex_isType q X
  ne := fun h tp dd its n sl X htp => by
    obtain ⟨cd, hc⟩ := Option.isSome_iff_exists.mp q.cd
    refine Bool.eq_false_iff.mpr fun z => ?_
    have e : D = tp := Value.ref.inj (beq_iff_eq.mp z)
    subst e
    unfold clsIn at hc
    split at hc
    · rename_i ho
      have z := (X _ _ ho).symm.trans htp
      cases z
    · cases hc
  ca := fun X p k => ex_class q X p k
end
noncomputable def clsV : V → Option Value
  | .ref G => some (.ref G)
  | .ty T => some (.type T)
  | _ => none
noncomputable def rIsX (K : PySem.W.Frag) : List V → Hp → VK → Prop := fun vs H Q => ∃ (ea C : Addr) (c : V) (cu : Value) (b : Bool), vs = [.ref ea, c] ∧ H ea = some (exO ea C) ∧ ExcC K C ∧ clsV c = some cu ∧ PySem.W.kitOne K (.ref C) cu = some b ∧ Q (.bl b) H
theorem call_isX {X : Cx} (K : PySem.W.Frag) (hK : X.K = K := by rfl) : CallR X (.builtin "isinstance") (rIsX K) := by
  subst hK
  intro pins s σ H vs us Q I rv h
  obtain ⟨ea, C, c, cu, b, rfl, hH, hC, hc, e, q⟩ := h
  obtain ⟨u, v, rfl, ru, rc⟩ := rv.two
  cases (show u = Value.ref ea from ru)
  have hv : v = cu := by
    cases c with
    | ref G => cases hc; exact rc
    | ty T => cases hc; exact rc
    | _ => cases hc
  subst hv
  have p : ExAt ea C s.heap := (I.hok ea _ hH).1
  exact PySem.W.kia_one (kitx_exc hC) I.kIn p e (fun z => nomatch z) fun tk => ⟨.bl b, H, I.tok tk, rfl, q⟩
noncomputable def rLix : V → List V → Hp → VK → Prop := fun x vs H Q => ∃ (p : Addr) (bs : List Bool) (j : Nat), x = .ref p ∧ vs = [.bl true] ∧ H p = some (.lst (bs.map V.bl)) ∧ bs[j]? = some true ∧ (∀ i, i < j → bs[i]? = some false) ∧ Q (.int (j : Nat)) H
theorem mt_lix {X : Cx} : MtM X "list.index" rLix := by
  intro pins s σ H x vs v us Q I rx rv h
  obtain ⟨p, bs, j, rfl, rfl, hp, hj, hno, q⟩ := h
  cases rx
  obtain ⟨u, rfl, ru⟩ := rv.one
  cases ru
  obtain ⟨hz, its, n, r, ho⟩ := I.hok p _ hp
  have at' : ∀ (i : Nat) (b : Bool), bs[i]? = some b → its[i]? = some (Value.bool b) := fun i b e => by
    obtain ⟨w, hw, rw'⟩ := r.get (show (bs.map V.bl)[i]? = some (.bl b) by rw [List.getElem?_map, e]; rfl)
    rw [hw, show w = Value.bool b from rw']
  have hjl : j < its.length := (List.getElem?_eq_some_iff.mp (at' j true hj)).1
  have hsm : (j : Int) < 2 ^ 63 - 1 := by
    have h1 : its.length = (bs.map V.bl).length := r.length.symm
    have h2 : (sizeLine : Int) < 2 ^ 63 - 1 := by decide
    omega
  have all : ∀ y, y ∈ its.toArray → ∃ b, y = Value.bool b := fun y hy => by
    have hy : y ∈ its := by simpa using hy
    obtain ⟨i, hi, rfl⟩ := List.mem_iff_getElem.mp hy
    have hi' : i < bs.length := by have := r.length; rw [List.length_map] at this; omega
    have := at' i _ (List.getElem?_eq_getElem hi')
    rw [List.getElem?_eq_getElem hi] at this
    exact ⟨_, Option.some.inj this⟩
  refine call_meets F.slot_list_index ⟨_, ho, rfl⟩ F.entry_list_index (F.args_list_index_2 _ _) (MeetsSeq.list_index p its.toArray n (.bool true) (fun y => y == Value.bool true) (fun y hy => ?_) j (by simpa using hjl) hsm ?_ fun m hm hlt => ?_) ⟨ho, ⟨.int (j : Nat), H, I.tok _, ⟨s.toks, rfl⟩, q⟩⟩
  · obtain ⟨b, rfl⟩ := all y hy
    have e : (Value.bool b == Value.bool true) = (b == true) := by cases b <;> decide
    rw [e]
    exact fun prog w A E s Q h => SeqAt.EqAt.bool_bool b true prog w _ _ h
  · have := at' j true hj
    rw [List.getElem?_eq_getElem hjl] at this
    have := Option.some.inj this
    simp [this]
  · have := at' m false (hno m hlt)
    have hm' : m < its.length := by simpa using hm
    rw [List.getElem?_eq_getElem hm'] at this
    have := Option.some.inj this
    simp [this]
end L2
set_option maxHeartbeats 4000000
namespace L2
open PySem PySem.Spec PyProof.Rows
section
variable {K : PySem.W.Frag} {n : Nat} {Ob O O1 : List Nat}
end
noncomputable def kindS : List Str := ["gate", "class", "inputs", "formula", "table", "made", "note"]
structure KindOf (K : PySem.W.Frag) (cs : List Addr) (C : Addr) (j : Nat) : Prop where
  ex : ExcC K C
  ve : PySem.W.kitOne K (.ref C) (.type "ValueError") = some true
  lt : j < 7
  is : ∀ (i : Nat) (c : Addr), cs[i]? = some c → PySem.W.kitOne K (.ref C) (.ref c) = some (i == j)
noncomputable def spKind (K : PySem.W.Frag) (cs : List Addr) : Sp := fun vs H Q _ => ∃ ea C j, vs = [.ref ea] ∧ H ea = some (exO ea C) ∧ KindOf K cs C j ∧ ∀ H', Same H H' → Q (.str (kindS.getD j "")) H'
theorem kind_count : ∀ j, j < 7 → ([0 == j, 1 == j, 2 == j, 3 == j, 4 == j, 5 == j, 6 == j] : List Bool).count true = 1 := by decide
theorem kind_idx : ∀ j, j < 7 → ([0 == j, 1 == j, 2 == j, 3 == j, 4 == j, 5 == j, 6 == j] : List Bool)[j]? = some true ∧ ∀ i, i < j → ([0 == j, 1 == j, 2 == j, 3 == j, 4 == j, 5 == j, 6 == j] : List Bool)[i]? = some false := by decide
theorem kind_word : ∀ j : Nat, j < 7 → atI (kindS.map V.str) (j : Int) = some (.str (kindS.getD j "")) := by decide +kernel
theorem rs_noneR {K : PySem.W.Frag} {n : Nat} {fr : Bool} {Ob O O1 : List Nat} {t : TS} : RdS K n fr Ob O t sNever O1 := fun H₀ H U E rt env σ o D r e q => by cases e
section
variable {P : Program} {w : World} {K : PySem.W.Frag} {mg : Str → Option Value} {base : Heap} {N : List Str} {qual : Str} {scope : Scope} {f : Addr} {cdv : Value} {A : Around} {outer : List Env} {s : Shared} {H : Hp} {E : XK}
theorem passL : Passes (CXe P w) (cxOf (CXe P w) P w K mg base N qual scope f cdv A outer s H E) E := fun pins σ H1 s1 e s' I h => fly_leaves (.inr ⟨pins, σ, H1, s1, I, h⟩)
theorem ps_raiseL {C : Addr} {x : Str} {t : Str} {k : Nat} {p1 np cpos pos : Pos} (hC : Exc K C) (hg : Gl (cxOf (CXe P w) P w K mg base N qual scope f cdv A outer s H E) x) (hm : mg x = some (.ref C)) (hdb : (x == ("__debug__" : Str)) = false := by decide) :
    PS (cxOf (CXe P w) P w K mg base N qual scope f cdv A outer s H E) (.Raise (some (.Call (.Name x np) [.Constant (.str t) k p1] [] cpos)) none pos) (tRaise C E) := fun pins s1 σ H1 D I h =>
  wpAny_mono (ps_raise (X := cxOf (CXe P w) P w K mg base N qual scope f cdv A outer s H E) (E := E) hC hg hm rfl hdb pins s1 σ H1 D (I.wish _) h) (fun _ _ q => q.unwish) fun _ _ z => fly_leaves z
theorem ownL : PassesOwn (model P w) (cxOf (CXe P w) P w K mg base N qual scope f cdv A outer s H E).A (cxOf (CXe P w) P w K mg base N qual scope f cdv A outer s H E).env (cxOf (CXe P w) P w K mg base N qual scope f cdv A outer s H E).xe := PassesOwn.leaving
end
theorem Fun.okL {P : Program} {w : World} {K : PySem.W.Frag} {mg : Str → Option Value} {base : Heap} {x qual : Str} {st : Stmt} {f : Addr} {fd : FuncData} {N ps : List Str} {k : Nat} {sp : Sp} (F : Fun K x qual st f fd) (S : FnScope N ps (defScope st)) (len : ∀ vs H Q E, sp vs H Q E → vs.length = ps.length)
    (hbody : ∀ (cdv : Value) (A : Around) (outer : List Env) (s : Shared) (H : Hp) (vs : List V) (Q : VK) (E : XK), Room k (A.deeper (envOfC qual (defScope st) s.heap.objs.size f cdv)) → sp vs H Q E →
      ∃ t, PSs (cxOf (CXe P w) P w K mg base N qual (defScope st) f cdv A outer s H E) (defBody st) t ∧ t { nx := fun _ H' => Q .non H', rt := Q } (start N vs) H) : FnOk P w K mg base (CXe P w) (k + 1) f fd ps sp := by
  obtain ⟨oc, od, kV, doc, pm, an, cdv, ct, osl, rfl, lk, hcd⟩ := F.ex
  exact fn_of lk hcd S len fun A outer s H vs Q E hr hsp => hbody cdv A outer s H vs Q E hr hsp
section
variable {X : Cx} {es : List Expr} {t : TA}
theorem pa_int {i : Int} {j : Nat} {p : Pos} (h : PA X es t) : PA X (.Constant (.int i) j p :: es) (tCons (tC (.int i)) t) := pa_cons pe_int h (by rfl)
theorem pa_str {i : Str} {j : Nat} {p : Pos} (h : PA X es t) : PA X (.Constant (.str i) j p :: es) (tCons (tC (.str i)) t) := pa_cons pe_str h (by rfl)
theorem pa_bl {i : Bool} {j : Nat} {p : Pos} (h : PA X es t) : PA X (.Constant (.bool i) j p :: es) (tCons (tC (.bl i)) t) := pa_cons pe_bl h (by rfl)
end
end L2
set_option maxHeartbeats 4000000
namespace L2
open PySem PySem.Spec PyProof.Rows
section
variable {K : PySem.W.Frag} {O : List Nat} {te ta tb tc ti : TE} {f fa fb fc fi : DFn} {tl th : TO}
end
end L2
set_option maxHeartbeats 4000000
namespace L2
open PySem PySem.Spec PyProof.Rows
end L2
set_option maxHeartbeats 4000000
namespace L2
open PySem PySem.Spec PyProof.Rows
section
variable {X : Cx} {K : PySem.W.Frag} {O : List Nat}
noncomputable def rLixD (K : PySem.W.Frag) : V → List V → Hp → VK → Prop := fun x vs H Q => ∃ p xs ds y d j, x = .ref p ∧ vs = [y] ∧ SqL K H p xs ∧ DRs K H xs ds ∧ DR K H y d ∧ (ds.all fun e => decide (dep e ≤ 60)) = true ∧ idxD ds d = some j ∧ Q (.int (j : Nat)) H
theorem mt_lixD (hu : X.A.units + 64 < cLine) : MtM X "list.index" (rLixD X.K) := by
  intro pins s σ H x vs v us Q I rx rv h
  obtain ⟨p, xs, ds, y, d, j, rfl, rfl, hq, ws, wd, hdp, hj, q⟩ := h
  cases rx
  obtain ⟨u, rfl, ru⟩ := rv.one
  obtain ⟨hjl, h1, h2⟩ := idxD_some hj
  have eqs : ∀ {its : List Value} (r : Vals xs its) (A : Around), A.units + 61 < cLine → ∀ w ∈ its, SeqAt.EqAt A s w u (eqZ its ds d w) := fun {its} r A hA w hw => by
    obtain ⟨i, hi, rfl⟩ := List.mem_iff_getElem.mp hw
    have hl : its.length = ds.length := by rw [← r.length, ws.length]
    have he : ds[i]? = some (ds[i]'(by omega)) := List.getElem?_eq_getElem _
    obtain ⟨x', hx', dx'⟩ := ws.get' he
    obtain ⟨u', hu', ru'⟩ := r.get hx'
    rw [List.getElem?_eq_getElem hi] at hu'; cases hu'
    rw [eqZ_at I r ws (List.getElem?_eq_getElem hi) he]
    have := List.all_eq_true.mp hdp _ (List.getElem_mem (l := ds) (n := i) (by omega))
    have := of_decide_eq_true this
    exact eqD I (by omega) dx' wd ru' ru
  obtain ⟨its, r, pl, hz⟩ := I.list hq
  have hl : its.length = ds.length := by rw [← r.length, ws.length]
  obtain ⟨⟨cls, dd, data, sl⟩, n, ho, hcl, hdd, hd⟩ := pl
  simp only at hcl hd hdd
  subst hcl hd
  have hsm : (j : Int) < 2 ^ 63 - 1 := by
    have h1 : its.length = xs.length := r.length.symm
    have h2 : (sizeLine : Int) < 2 ^ 63 - 1 := by decide
    omega
  refine call_meets F.slot_list_index ⟨_, ho, rfl⟩ F.entry_list_index (F.args_list_index_2 _ _) (SeqAt.list_indexAt p its.toArray n dd sl u (eqZ its ds d) j (by simpa [hl] using hjl) hsm ?_ ?_) ⟨ho, fun y hy => eqs r _ (by first | omega | (show X.A.units + 1 + 61 < cLine; omega)) y (by simpa using hy), ⟨.int (j : Nat), H, I.tok _, ⟨s.toks, rfl⟩, q⟩⟩
  · have : eqZ its ds d (its[j]'(by omega)) = deq ds[j] d := eqZ_at I r ws (List.getElem?_eq_getElem _) (List.getElem?_eq_getElem _)
    rw [show its.toArray[j]'(by simpa [hl] using hjl) = its[j]'(by omega) by simp, this, h1]
  · intro i hi hij
    have hi' : i < ds.length := by simpa [hl] using hi
    have : eqZ its ds d (its[i]'(by omega)) = deq ds[i] d := eqZ_at I r ws (List.getElem?_eq_getElem _) (List.getElem?_eq_getElem _)
    rw [show its.toArray[i]'hi = its[i]'(by omega) by simp, this, h2 i hi' hij]
theorem mt_lixDK (K : PySem.W.Frag) (hu : X.A.units + 64 < cLine) (hK : X.K = K := by rfl) : MtM X "list.index" (rLixD K) := by subst hK; exact mt_lixD hu
end
theorem cut_toN {ds : List D} {k : Nat} : dCut ds none (some (k : Int)) = ds.take k := by
  unfold dCut
  rw [HT.sIx_none, HT.sIx_nat, List.drop_zero, Nat.sub_zero]
  by_cases h : k ≤ ds.length
  · rw [Nat.min_eq_left h]
  · rw [Nat.min_eq_right (by omega), List.take_length, List.take_of_length_le (by omega)]
end L2
set_option maxHeartbeats 4000000
namespace L2
open PySem PySem.Spec PyProof.Rows
noncomputable def PairN (K : PySem.W.Frag) (H H' : Hp) (v : V) (d : D) : Prop := ∀ a es, d = .tup [a, .lst es] → ∃ p va l xs, v = .ref p ∧ SqT K H' p [va, .ref l] ∧ H l = none ∧ H' l = some (.lst xs) ∧ xs.length = es.length
noncomputable def RdP (K : PySem.W.Frag) (O : List Nat) (te : TE) (f : DFn) : Prop :=
  ∀ n H₀ H U E rt env σ d Q, RR K n H₀ H U O E rt env σ → f env = some d → (∀ v H', Same H H' → DW K H' (O.map rt ++ U) v d → PairN K H H' v d → Q v H') → te σ H Q
noncomputable def dspP (K : PySem.W.Frag) (np : Nat) (mir : List D → Option D) : Sp := fun vs H Q _ => ∃ U ds d, vs.length = np ∧ (∀ a ∈ U, ∃ o, H a = some o) ∧ DWs K H U vs ds ∧ mir ds = some d ∧
  ∀ v H', Same H H' → DW K H' U v d → PairN K H H' v d → Q v H'
theorem ite_some' {p : Prop} [Decidable p] {α : Type} {x : Option α} {y : α} (h : (if p then x else none) = some y) : p ∧ x = some y := by
  by_cases c : p
  · rw [if_pos c] at h; exact ⟨c, h⟩
  · rw [if_neg c] at h; cases h
theorem kind_suite2 {K : PySem.W.Frag} {cs : List Addr} {i N : Nat} (hi : i < N) {C : Addr} {j : Nat} (hk : KindOf K cs C j) {ea : Addr} {σ' : St} {H' : Hp} {D : Ends} (hl : σ'.length = N) (hq : ∀ v H2, Same (upd H' ea (exO ea C)) H2 → (∀ W, DW K H2 W v (.tup [.str (kindS.getD j ""), .non])) → D.rt v H2) :
    tRet (tTup (tCons (tCall (spKind K cs) [] E0 (tCons (tVar i) tNil)) (tCons (tC .non) tNil))) D (σ'.set i (some (.ref ea))) (upd H' ea (exO ea C)) :=
  ⟨.ref ea, List.getElem?_set_self (by rw [hl]; exact hi), ea, C, j, rfl, upd_same, hk, fun H2 g => ⟨(show 2 ≤ sizeLine by decide), fun p hp => hq _ _ (g.trans (same_upd hp _)) fun W => by
    simp only [DW, DWs]
    exact ⟨p, _, rfl, SqT.of upd_same, rfl, rfl, trivial⟩⟩⟩
section
variable {K : PySem.W.Frag} {O : List Nat}
theorem dspP_len {np : Nat} {mir : List D → Option D} {vs : List V} {H : Hp} {Q : VK} {E : XK} (h : dspP K np mir vs H Q E) : vs.length = np := by
  obtain ⟨_, _, _, h, _⟩ := h; exact h
theorem rp_call {np : Nat} {mir : List D → Option D} {E' : XK} {ts : TA} {fs : DEnv → Option (List D)} (hs : RdA K O ts fs) : RdP K O (tCall (dspP K np mir) [] E' ts) (eCall np mir fs) := fun n H₀ H U E rt env σ d Q r e q => by
  obtain ⟨ds, eds, e⟩ := Option.bind_eq_some_iff.mp e
  by_cases c : ds.length = np
  · rw [if_pos c] at e
    refine hs _ _ _ _ _ _ _ _ ds _ r eds fun vs H1 g1 w1 => ?_
    rw [List.append_nil]
    refine ⟨O.map rt ++ U, ds, d, by rw [w1.length]; exact c, (r.grow g1).alloc, w1, e, fun v H2 g2 w pn => ?_⟩
    refine q v H2 (g1.trans g2) w fun a es hd => ?_
    obtain ⟨p, va, l, xs, e1, e2, e3, e4, e5⟩ := pn a es hd
    exact ⟨p, va, l, xs, e1, e2, g1.free e3, e4, e5⟩
  · rw [if_neg c] at e; cases e
noncomputable def sPoke (i : Nat) (fm : DFn) (c1 c2 c3 c4 : DEnv → Option Bool) : DSt := fun env => (fm env).bind fun d => (c1 (env.set i (some d))).bind fun b1 => if b1 = true then some (.rt (.bl false)) else
  (c2 (env.set i (some d))).bind fun b2 => if b2 = true then (c3 (env.set i (some d))).bind fun b3 => if b3 = true then some (.rt (.bl false)) else some (.nx (env.set i none)) else
    (c4 (env.set i (some d))).bind fun b4 => if b4 = true then some (.rt (.bl false)) else match d with
      | .tup [_, .lst es] => if es.length < lim then some (.nx (env.set i none)) else none
      | _ => none
theorem rs_poke {n : Nat} {Ob : List Nat} {i : Nat} {tm : TE} {fm : DFn} {t1 t2 t3 t4 : TT} {c1 c2 c3 c4 : DEnv → Option Bool} (hm : RdP K [] tm fm) (h1 : RdT K [] t1 c1) (h2 : RdT K [] t2 c2) (h3 : RdT K [] t3 c3) (h4 : RdT K [] t4 c4) (hi : i < n := by decide) :
    RdS K n false Ob [] (tSeq (tAsg tm (gName i)) (tSeq (tIfS t1 (tRet (tC (.bl false))) tNext) (tIfS t2 (tIfS t3 (tRet (tC (.bl false))) tNext) (tIfS t4 (tRet (tC (.bl false))) (tDrop (tBM K "list" rAppend (tOp (rIx K) (tVar i) (tC (.int 1))) (tCons (tC (.str "x")) tNil))))))) (sPoke i fm c1 c2 c3 c4) [] := fun H₀ H U E rt env σ o D r e q => by
  obtain ⟨d, ed, e⟩ := Option.bind_eq_some_iff.mp e
  refine hm _ _ _ _ _ _ _ _ d _ r ed fun v H1 g1 wv pn => ?_
  have r1 := (r.grow g1).set (i := i) (by simp) wv
  obtain ⟨b1, eb1, e⟩ := Option.bind_eq_some_iff.mp e
  refine h1 _ _ _ _ _ _ _ _ b1 _ r1 eb1 fun H2 g2 => ?_
  have r2 := r1.grow g2
  cases b1 with
  | true =>
    rw [if_pos rfl] at e ⊢
    cases e
    exact q _ _ r2.same ⟨by simp only [DW], fun z => by cases z⟩
  | false =>
    rw [if_neg Bool.false_ne_true] at e ⊢
    obtain ⟨b2, eb2, e⟩ := Option.bind_eq_some_iff.mp e
    refine h2 _ _ _ _ _ _ _ _ b2 _ r2 eb2 fun H3 g3 => ?_
    have r3 := r2.grow g3
    have fin : ∀ {H5 : Hp} {v' : V}, Same H H5 → RR K n H₀ H5 U [] E rt (env.set i none) (σ.set i (some v')) := fun {H5 v'} g5 => by
      have r5 := r.grow g5
      refine ⟨r5.same, r5.out, r5.outO, by rw [List.length_set]; exact r5.lenS, by rw [List.length_set]; exact r5.lenE, fun j hj => absurd hj (by simp), r5.inj, fun j dj _ ej => ?_, r5.est, r5.ext⟩
      by_cases hij : i = j
      · subst hij
        rw [List.getElem?_set_self (by rw [r.lenE]; exact hi)] at ej
        cases ej
      · rw [List.getElem?_set_ne hij] at ej
        obtain ⟨v, k1, k2⟩ := r5.val j dj (by simp) ej
        exact ⟨v, by rw [List.getElem?_set_ne hij]; exact k1, k2⟩
    cases b2 with
    | true =>
      rw [if_pos rfl] at e ⊢
      obtain ⟨b3, eb3, e⟩ := Option.bind_eq_some_iff.mp e
      refine h3 _ _ _ _ _ _ _ _ b3 _ r3 eb3 fun H4 g4 => ?_
      cases b3 with
      | true =>
        rw [if_pos rfl] at e ⊢
        cases e
        exact q _ _ (r3.grow g4).same ⟨by simp only [DW], fun z => by cases z⟩
      | false =>
        rw [if_neg Bool.false_ne_true] at e ⊢
        cases e
        exact q rt _ _ (fin (((g1.trans g2).trans g3).trans g4))
    | false =>
      rw [if_neg Bool.false_ne_true] at e ⊢
      obtain ⟨b4, eb4, e⟩ := Option.bind_eq_some_iff.mp e
      refine h4 _ _ _ _ _ _ _ _ b4 _ r3 eb4 fun H4 g4 => ?_
      have g14 : Same H1 H4 := (g2.trans g3).trans g4
      cases b4 with
      | true =>
        rw [if_pos rfl] at e ⊢
        cases e
        exact q _ _ (r3.grow g4).same ⟨by simp only [DW], fun z => by cases z⟩
      | false =>
        rw [if_neg Bool.false_ne_true] at e ⊢
        have hd : ∃ a es, d = .tup [a, .lst es] ∧ (if es.length < lim then some (Out.nx (env.set i none)) else none) = some o := by
          split at e
          · exact ⟨_, _, rfl, e⟩
          · cases e
        · obtain ⟨a, es, hda, e'⟩ := hd
          subst hda
          clear e
          have e := e'
          clear e'
          by_cases cl : es.length < lim
          case neg => rw [if_neg cl] at e; cases e
          rw [if_pos cl] at e
          cases e
          obtain ⟨p, va, l, xs, rfl, hp, hl0, hl1, hlen⟩ := pn a es rfl
          have hsi : (σ.set i (some (V.ref p)))[i]? = some (some (.ref p)) := List.getElem?_set_self (by rw [r.lenS]; exact hi)
          have hp4 := g14.seqT hp
          have hl4 := g14 _ _ hl1
          have at1 : atI [va, V.ref l] 1 = some (.ref l) := rfl
          refine ⟨_, hsi, ?_⟩
          refine .inr (.inl ⟨p, [va, .ref l], 1, .ref l, rfl, rfl, hp4, at1, .inl ⟨rfl, xs, SqL.of hl4⟩, ?_⟩)
          refine ⟨l, xs, .str "x", rfl, rfl, hl4, by rw [hlen]; exact lim_lt' cl, ?_⟩
          have keep : Same H (upd H4 l (.lst (xs ++ [.str "x"]))) := fun b ob hob => by
            rw [upd_ne (fun z => by rw [z, hl0] at hob; cases hob)]
            exact (g1.trans g14) _ _ hob
          exact q rt _ _ (fin keep)
noncomputable def allBl : List D → Bool
  | [] => true
  | .bl _ :: es => allBl es
  | _ :: _ => false
noncomputable def flatB (i : Nat) (env : DEnv) : D → Bool
  | .non => true
  | .lst (.bl _ :: es) => allBl es && (match gv i env with
    | some (.lst []) => true
    | some (.lst (.lst _ :: _)) => true
    | _ => false)
  | _ => false
noncomputable def eFlatB (i : Nat) (f : DFn) : DFn := fun env => (f env).bind fun d => if flatB i env d = true then some d else none
theorem dws_bl {H : Hp} {W W' : List Addr} : ∀ {es : List D} {ys : List V}, allBl es = true → DWs K H W ys es → DWs K H W' ys es
  | [], ys, _, w => by cases ys <;> simp [DWs] at w ⊢
  | e :: es, ys, h, w => by
    cases e with
    | bl b =>
      cases ys with
      | nil => simp [DWs] at w
      | cons y ys =>
        simp only [DWs, DW] at w ⊢
        exact ⟨w.1, dws_bl (by simpa [allBl] using h) w.2⟩
    | _ => simp [allBl] at h
theorem rd_borL {te : TE} {f : DFn} {i : Nat} (h : RdE K [] te f) : RdE K [i] te (eFlatB i f) := fun n H₀ H U E rt env σ d Q r e q => by
  obtain ⟨x, ex, e⟩ := Option.bind_eq_some_iff.mp e
  obtain ⟨c, e⟩ := ite_some e
  subst e
  obtain ⟨h0, h1, h2, xs, ds, h3, h4, h5⟩ := r.own i (by simp)
  refine h _ _ _ _ _ _ _ _ x _ (r.weak (O' := []) (by simp)) ex fun v H1 g1 w => q v H1 g1 ?_
  have eg : gv i env = some (.lst ds) := by unfold gv; rw [h3]; rfl
  unfold flatB at c
  split at c
  · simpa only [DW] using w
  · rename_i b es _
    rw [Bool.and_eq_true] at c
    rw [eg] at c
    simp only [DW] at w ⊢
    obtain ⟨p, ys, rfl, hq, ws⟩ := w
    refine ⟨p, ys, rfl, ?_, dws_bl (es := .bl b :: es) (by simpa [allBl] using c.1) ws⟩
    rcases hq with ⟨hn, hr⟩ | hk
    · refine .inl ⟨fun hm => ?_, hr⟩
      rcases List.mem_append.mp hm with z | z
      · simp only [List.map_cons, List.map_nil, List.mem_singleton] at z
        subst z
        have h6 := g1 _ _ h4
        have hys : ys = xs := by
          rcases hr with hr | ⟨o, hr⟩
          · rw [h6] at hr; cases hr; rfl
          · rw [h6] at hr; cases hr
        subst hys
        cases ys with
        | nil => simp [DWs] at ws
        | cons y ys =>
          cases ds with
          | nil => simp [DWs] at h5
          | cons d0 ds =>
            cases d0 with
            | lst es0 =>
              simp only [DWs, DW] at ws h5
              obtain ⟨⟨p', xs', e1, _⟩, _⟩ := h5
              rw [ws.1] at e1
              cases e1
            | _ => simp at c
      · exact hn (List.mem_append_right _ z)
    · exact .inr hk
  · cases c
end
end L2
set_option maxHeartbeats 4000000
namespace Gw
open PySem L2
noncomputable def kindM : Str → Option Str := fun c => if c = "NoGate" then some (kindS.getD 0 "") else if c = "NoTable" then some (kindS.getD 4 "") else if c = "NotMade" then some (kindS.getD 5 "") else none
noncomputable def con_LENGTHS : D := .tup [(.int 2), (.int 4), (.int 8)]
noncomputable abbrev con_MOST_GATES : D := (.int 5)
noncomputable def con_WEIGHTS : D := .tup [(.int 1), (.int 2), (.int 4)]
noncomputable abbrev con_ROWS : D := (.int 4)
noncomputable def m_check_gate : List D → Option D := fnM 1 1 false (sIf (bT (eBin dNotIn (eCB gLen (aCons (gv 0) aNil)) (dc con_LENGTHS))) sNever sNext)
noncomputable def x_check_gate : List D → Option Str := fnX 1 1 (xIf (bT (eBin dNotIn (eCB gLen (aCons (gv 0) aNil)) (dc con_LENGTHS))) (xRaise "NoGate") xNo)
noncomputable def b_check_gates_1 : DSt := (sFor (iSeq (gv 0)) (dN 1) (sDo (eCall 1 m_check_gate (aCons (gv 1) aNil))))
noncomputable def b_check_gates_0 : DSt := sSeq (sIf (bOr (bT (eBin dLt (eCB gLen (aCons (gv 0) aNil)) (dc (.int 1)))) (bT (eBin dGt (eCB gLen (aCons (gv 0) aNil)) (dc con_MOST_GATES)))) sNever sNext) b_check_gates_1
noncomputable def m_check_gates : List D → Option D := fnM 1 2 false b_check_gates_0
noncomputable def x_check_gates : List D → Option Str := fnX 1 2 (xSeq (xIf (bOr (bT (eBin dLt (eCB gLen (aCons (gv 0) aNil)) (dc (.int 1)))) (bT (eBin dGt (eCB gLen (aCons (gv 0) aNil)) (dc con_MOST_GATES)))) (xRaise "NoGate") xNo) (sIf (bOr (bT (eBin dLt (eCB gLen (aCons (gv 0) aNil)) (dc (.int 1)))) (bT (eBin dGt (eCB gLen (aCons (gv 0) aNil)) (dc con_MOST_GATES)))) sNever sNext) (xFor (iSeq (gv 0)) (dN 1) (sDo (eCall 1 m_check_gate (aCons (gv 1) aNil))) (xCall 1 x_check_gate (aCons (gv 1) aNil))))
noncomputable def m_row_of : List D → Option D := fnM 1 1 false (sRet (eCB gSum (aCons (eLC [none, none] (iZip' (aCons (dc con_WEIGHTS) (aCons (gv 0) aNil))) (dT 2 (dCons (dN 0) (dCons (dN 1) dNil))) (bT (gv 1)) (gv 0)) aNil)))
noncomputable def m_weights_of : List D → Option D := fnM 1 1 true (sRet (eLC [none, some 0] (iSeq (dc con_WEIGHTS)) (dN 0) (bT (eBin dLt (gv 0) (eCB gLen (aCons (gv 1) aNil)))) (gv 0)))
noncomputable def m_inputs_of : List D → Option D := fnM 1 1 false (sRet (eCB gLen (aCons (eCall 1 m_weights_of (aCons (gv 0) aNil)) aNil)))
noncomputable def b_answers_to_2 : DSt := (sRet (gv 2))
noncomputable def b_answers_to_1 : DSt := sSeq (sFor (iRng (aCons (eCB gLen (aCons (eBin dIx (gv 1) (dc (.int 0))) aNil)) aNil)) (dN 3) (sApp 2 (eBin dIx (gv 0) (eCall 1 m_row_of (aCons (eLC [none, some 3] (iSeq (gv 1)) (dN 0) bAll (eBin dIx (gv 0) (gv 1))) aNil))))) b_answers_to_2
noncomputable def b_answers_to_0 : DSt := sSeq (sSet 2 (eLst aNil)) b_answers_to_1
noncomputable def m_answers_to : List D → Option D := fnM 2 4 true b_answers_to_0
noncomputable def m_table_of_input : List D → Option D := fnM 2 2 true (sRet (eLC [none, some 0] (iRng (aCons (eBin dIx (dc con_LENGTHS) (eBin dSub (gv 1) (dc (.int 1)))) aNil)) (dN 0) bAll (eBin dNe (eBin dBAnd (gv 0) (eBin dIx (dc con_WEIGHTS) (gv 1))) (dc (.int 0)))))
noncomputable def m_tables_of_inputs : List D → Option D := fnM 1 1 true (sRet (eLC [none, some 0] (iRng (aCons (gv 0) aNil)) (dN 0) bAll (eCall 2 m_table_of_input (aCons (gv 0) (aCons (gv 1) aNil)))))
noncomputable def m_check_table : List D → Option D := fnM 1 1 false (sIf (bT (eBin dNe (eCB gLen (aCons (gv 0) aNil)) (dc con_ROWS))) sNever sNext)
noncomputable def x_check_table : List D → Option Str := fnX 1 1 (xIf (bT (eBin dNe (eCB gLen (aCons (gv 0) aNil)) (dc con_ROWS))) (xRaise "NoTable") xNo)
noncomputable def b_places_below_3 (rec : List D → Option D) : DSt := (sRet (gv 2))
noncomputable def b_places_below_2 (rec : List D → Option D) : DSt := sSeq (sFor (iSeq (eCall 2 rec (aCons (gv 0) (aCons (eBin dSub (gv 1) (dc (.int 1))) aNil)))) (dN 3) (sExt 2 (eLC [none, some 3] (iRng (aCons (gv 0) aNil)) (dN 0) bAll (eBin dAddT (gv 1) (eTup (aCons (gv 0) aNil)))))) (b_places_below_3 rec)
noncomputable def b_places_below_1 (rec : List D → Option D) : DSt := sSeq (sSet 2 (eLst aNil)) (b_places_below_2 rec)
noncomputable def b_places_below_0 (rec : List D → Option D) : DSt := sSeq (sIf (bT (eBin dEq (gv 1) (dc (.int 0)))) (sRet (eLst (aCons (eTup aNil) aNil))) sNext) (b_places_below_1 rec)
noncomputable def mr_places_below : Nat → List D → Option D
  | 0 => fun _ => none
  | k + 1 => fnM 2 4 true (b_places_below_0 (mr_places_below k))
noncomputable def m_places_below : List D → Option D := mr_places_below 40
noncomputable def m_places_up_to : List D → Option D := fnM 2 2 true (sRet (eLC [none, some 0] (iSeq (eCall 2 m_places_below (aCons (eBin dAdd (gv 0) (dc (.int 1))) (aCons (gv 1) aNil)))) (dN 0) (bT (eBin dInD (gv 1) (gv 0))) (gv 0)))
noncomputable def stepD (gsd : D) (num : Int) (is ts ss : List D) : Option (List D × List D) :=
  if is.length ≤ lim then (dIx gsd (.int num)).bind fun g => (rowsD ts is).bind fun rows => (m_answers_to [g, .lst rows]).bind fun r => match r with
    | .lst bs => (dInBD (.tup bs) (.lst ts)).bind fun b => if b = true then some (ts, ss) else if ts.length < lim ∧ ss.length < lim then some (ts ++ [.tup bs], ss ++ [.tup [.str "gate", .int num, .tup is]]) else none
    | _ => none else none
noncomputable def stepsD (gsd : D) (num : Int) : List D → List D × List D → Option (List D × List D)
  | [], st => some st
  | .tup is :: r, st => (stepD gsd num is st.1 st.2).bind fun st' => stepsD gsd num r st'
  | _ :: _, _ => none
noncomputable def upD (gsd : D) (last : Int) : Nat → List D → List D × List D → Option (List D × List D)
  | _, [], st => some st
  | k, g :: r, st => (m_inputs_of [g]).bind fun n => (m_places_up_to [.int last, n]).bind fun pl => match pl with
    | .lst pls => (stepsD gsd (k : Int) pls st).bind fun st' => upD gsd last (k + 1) r st'
    | _ => none
noncomputable def growD (gds : List D) : Nat → Int → List D × List D → Option (List D × List D)
  | 0, _, _ => none
  | k + 1, last, st => if last < (st.1.length : Int) ∧ (st.1.length : Int) < 16 then (upD (.lst gds) last 0 gds st).bind fun st' => growD gds k (last + 1) st' else some st
noncomputable def ts0 : List D := [.tup [.bl false, .bl true, .bl false, .bl true], .tup [.bl false, .bl false, .bl true, .bl true]]
noncomputable def ss0 : List D := [.tup [.str "in", .int 0], .tup [.str "in", .int 1]]
noncomputable def mksD : D → Option (List D × List D)
  | .lst gds => growD gds 100 0 (ts0, ss0)
  | _ => none
noncomputable def eMkT (f : DFn) : DFn := fun env => (f env).bind fun g => (mksD g).bind fun st => some (.lst st.1)
noncomputable def b_makable_1 : DSt := (sRet (eLC [none] (iSeq (eCB gSrt (aCons (eMkT (gv 0)) aNil))) (dN 0) bAll (eCB gList (aCons (gv 0) aNil))))
noncomputable def b_makable_0 : DSt := sSeq (sDo (eCall 1 m_check_gates (aCons (gv 0) aNil))) b_makable_1
noncomputable def m_makable : List D → Option D := fnM 1 1 true b_makable_0
noncomputable def m_made : List D → Option D
  | [g, .lst bs] => (m_check_gates [g]).bind fun _ => (m_check_table [.lst bs]).bind fun _ => (mksD g).bind fun st => (dInBD (.tup bs) (.lst st.1)).bind fun b => if b = true then (idxD st.1 (.tup bs)).bind fun j => some (.lst (st.2.take (j + 1))) else none
  | _ => none
noncomputable def x_made : List D → Option Str
  | [g, .lst bs] => match x_check_gates [g] with
    | some c => some c
    | none => (m_check_gates [g]).bind fun _ => match x_check_table [.lst bs] with
      | some c => some c
      | none => (m_check_table [.lst bs]).bind fun _ => (mksD g).bind fun st => (dInBD (.tup bs) (.lst st.1)).bind fun b => if b = true then none else some "NotMade"
  | _ => none
noncomputable def b_law_cell_at_1 : DSt := (sRet (dc (.int 0)))
noncomputable def b_law_cell_at_0 : DSt := sSeq (sIf (bT (eBin dLt (gv 1) (eCB gLen (aCons (gv 0) aNil)))) (sRet (eBin dIx (gv 0) (gv 1))) sNext) b_law_cell_at_1
noncomputable def m_law_cell_at : List D → Option D := fnM 2 2 false b_law_cell_at_0
noncomputable def m_law_whole : List D → Option D := fnM 1 1 false (sRet (eAnd (eIsi "int" (gv 0)) (eNot (eIsi "bool" (gv 0)))))
noncomputable def b_law_next_1 : DSt := (sRet (eBin dMod (eBin dAdd (eBin dAdd (eBin dMul (gv 0) (gv 0)) (eBin dMul (dc (.int 48271)) (gv 0))) (dc (.int 12345))) (dc (.int 2147483629))))
noncomputable def b_law_next_0 : DSt := sSeq (sSet 0 (eBin dMod (eBin dAdd (gv 0) (dc (.int 7919))) (dc (.int 2147483647)))) b_law_next_1
noncomputable def m_law_next : List D → Option D := fnM 1 1 false b_law_next_0
noncomputable def b_law_gate_10 : DSt := (sRet (gv 4))
noncomputable def b_law_gate_9 : DSt := sSeq (sFor (iRng (aCons (gv 2) aNil)) (dN 6) (sSeq (sApp 4 (eBin dEq (eBin dMod (gv 5) (dc (.int 2))) (dc (.int 1)))) (sSet 5 (eBin dDiv (gv 5) (dc (.int 2)))))) b_law_gate_10
noncomputable def b_law_gate_8 : DSt := sSeq (sSet 5 (eBin dDiv (gv 0) (dc (.int 126)))) b_law_gate_9
noncomputable def b_law_gate_7 : DSt := sSeq (sSet 4 (eLst aNil)) b_law_gate_8
noncomputable def b_law_gate_6 : DSt := sSeq (sIf (bAnd (bT (eBin dEq (gv 3) (dc (.int 4)))) (bT (eBin dEq (gv 2) (dc (.int 8))))) (sRet (eLC [none] (iRng (aCons (gv 2) aNil)) (dN 0) bAll (eBin dIn (gv 0) (eTup (aCons (dc (.int 3)) (aCons (dc (.int 5)) (aCons (dc (.int 6)) (aCons (dc (.int 7)) aNil)))))))) sNext) b_law_gate_7
noncomputable def b_law_gate_5 : DSt := sSeq (sIf (bT (eBin dEq (gv 3) (dc (.int 3)))) (sRet (eLC [none, some 0] (iRng (aCons (gv 2) aNil)) (dN 0) bAll (eBin dEq (eBin dMod (eBin dAdd (eBin dAdd (gv 0) (eBin dDiv (gv 0) (dc (.int 2)))) (eBin dDiv (gv 0) (dc (.int 4)))) (dc (.int 2))) (eBin dMod (eBin dDiv (gv 1) (dc (.int 126))) (dc (.int 2)))))) sNext) b_law_gate_6
noncomputable def b_law_gate_4 : DSt := sSeq (sIf (bT (eBin dEq (gv 3) (dc (.int 2)))) (sRet (eLC [none] (iRng (aCons (gv 2) aNil)) (dN 0) bAll (eBin dGt (gv 0) (dc (.int 0))))) sNext) b_law_gate_5
noncomputable def b_law_gate_3 : DSt := sSeq (sIf (bT (eBin dEq (gv 3) (dc (.int 1)))) (sRet (eLC [none, some 2] (iRng (aCons (gv 2) aNil)) (dN 0) bAll (eBin dEq (gv 0) (eBin dSub (gv 1) (dc (.int 1)))))) sNext) b_law_gate_4
noncomputable def b_law_gate_2 : DSt := sSeq (sIf (bT (eBin dEq (gv 3) (dc (.int 0)))) (sRet (eLC [none, some 0] (iRng (aCons (gv 2) aNil)) (dN 0) bAll (eBin dEq (eBin dMod (gv 0) (dc (.int 2))) (eBin dMod (eBin dDiv (gv 1) (dc (.int 126))) (dc (.int 2)))))) sNext) b_law_gate_3
noncomputable def b_law_gate_1 : DSt := sSeq (sSet 3 (eBin dMod (eBin dDiv (gv 0) (dc (.int 21))) (dc (.int 6)))) b_law_gate_2
noncomputable def b_law_gate_0 : DSt := sSeq (sSet 2 (eBin dIx (eLst (aCons (dc (.int 2)) (aCons (dc (.int 4)) (aCons (dc (.int 8)) aNil)))) (eBin dMod (eBin dDiv (gv 0) (dc (.int 7))) (gv 1)))) b_law_gate_1
noncomputable def m_law_gate : List D → Option D := fnM 2 7 true b_law_gate_0
noncomputable def b_law_gates_2 : DSt := (sRet (gv 2))
noncomputable def b_law_gates_1 : DSt := sSeq (sFor (iRng (aCons (eBin dAdd (dc (.int 1)) (eBin dMod (eCall 2 m_law_cell_at (aCons (gv 0) (aCons (dc (.int 0)) aNil))) (dc (.int 5)))) aNil)) (dN 3) (sApp 2 (eCall 2 m_law_gate (aCons (eCall 1 m_law_next (aCons (eBin dAdd (eCall 2 m_law_cell_at (aCons (gv 0) (aCons (eBin dAdd (dc (.int 1)) (gv 3)) aNil))) (gv 3)) aNil)) (aCons (gv 1) aNil))))) b_law_gates_2
noncomputable def b_law_gates_0 : DSt := sSeq (sSet 2 (eLst aNil)) b_law_gates_1
noncomputable def m_law_gates : List D → Option D := fnM 2 4 true b_law_gates_0
noncomputable def m_law_wide : List D → Option D := fnM 1 1 false (sRet (eWide (eCB gLen (aCons (gv 0) aNil))))
noncomputable def b_law_answered_2 : DSt := (sRet (gv 2))
noncomputable def b_law_answered_1 : DSt := sSeq (sFor (iRng (aCons (dc (.int 4)) aNil)) (dN 3) (sSeq (sSet 4 (dc (.int 0))) (sSeq (sFor (iRng (aCons (eCB gLen (aCons (gv 1) aNil)) aNil)) (dN 5) (sIf (bT (eBin dIx (eBin dIx (gv 1) (gv 5)) (gv 3))) (sSet 4 (eBin dAdd (gv 4) (eBin dIx (eLst (aCons (dc (.int 1)) (aCons (dc (.int 2)) (aCons (dc (.int 4)) aNil)))) (gv 5)))) sNext)) (sApp 2 (eBin dIx (gv 0) (gv 4)))))) b_law_answered_2
noncomputable def b_law_answered_0 : DSt := sSeq (sSet 2 (eLst aNil)) b_law_answered_1
noncomputable def m_law_answered : List D → Option D := fnM 2 6 true b_law_answered_0
noncomputable def b_law_stepped_5 : DSt := (sRet (eCall 2 m_law_answered (aCons (eBin dIx (gv 0) (eBin dIx (gv 1) (dc (.int 1)))) (aCons (eLC [none, some 2] (iSeq (eBin dIx (gv 1) (dc (.int 2)))) (dN 0) bAll (eBin dIx (gv 1) (gv 0))) aNil))))
noncomputable def b_law_stepped_4 : DSt := sSeq (sFor (iSeq (eBin dIx (gv 1) (dc (.int 2)))) (dN 3) (sIf (bOr (bNot (bT (eCall 1 m_law_whole (aCons (gv 3) aNil)))) (bNot (bT (eChain dLe dLt (dc (.int 0)) (gv 3) (eCB gLen (aCons (gv 2) aNil)))))) (sRet (dc .non)) sNext)) b_law_stepped_5
noncomputable def b_law_stepped_3 : DSt := sSeq (sIf (bOr (bNot (bT (eIsi "tuple" (eBin dIx (gv 1) (dc (.int 2)))))) (bT (eBin dNe (eCB gLen (aCons (eBin dIx (gv 1) (dc (.int 2))) aNil)) (eCall 1 m_law_wide (aCons (eBin dIx (gv 0) (eBin dIx (gv 1) (dc (.int 1)))) aNil))))) (sRet (dc .non)) sNext) b_law_stepped_4
noncomputable def b_law_stepped_2 : DSt := sSeq (sIf (bOr (bT (eBin dNe (eBin dIx (gv 1) (dc (.int 0))) (dc (.str "gate")))) (bOr (bT (eBin dNe (eCB gLen (aCons (gv 1) aNil)) (dc (.int 3)))) (bNot (bT (eChain dLe dLt (dc (.int 0)) (eBin dIx (gv 1) (dc (.int 1))) (eCB gLen (aCons (gv 0) aNil))))))) (sRet (dc .non)) sNext) b_law_stepped_3
noncomputable def b_law_stepped_1 : DSt := sSeq (sIf (bAnd (bT (eBin dEq (eBin dIx (gv 1) (dc (.int 0))) (dc (.str "in")))) (bAnd (bT (eBin dEq (eCB gLen (aCons (gv 1) aNil)) (dc (.int 2)))) (bT (eChain dLe dLt (dc (.int 0)) (eBin dIx (gv 1) (dc (.int 1))) (dc (.int 2)))))) (sRet (eBin dIx (eLst (aCons (eLst (aCons (dc (.bl false)) (aCons (dc (.bl true)) (aCons (dc (.bl false)) (aCons (dc (.bl true)) aNil))))) (aCons (eLst (aCons (dc (.bl false)) (aCons (dc (.bl false)) (aCons (dc (.bl true)) (aCons (dc (.bl true)) aNil))))) aNil))) (eBin dIx (gv 1) (dc (.int 1))))) sNext) b_law_stepped_2
noncomputable def b_law_stepped_0 : DSt := sSeq (sIf (bOr (bNot (bT (eIsi "tuple" (gv 1)))) (bOr (bT (eBin dLt (eCB gLen (aCons (gv 1) aNil)) (dc (.int 2)))) (bNot (bT (eCall 1 m_law_whole (aCons (eBin dIx (gv 1) (dc (.int 1))) aNil)))))) (sRet (dc .non)) sNext) b_law_stepped_1
noncomputable def m_law_stepped : List D → Option D := fnM 3 4 false b_law_stepped_0
noncomputable def b_law_makes_3 : DSt := (sRet (eBin dEq (eBin dIx (gv 3) (eNeg (dc (.int 1)))) (gv 2)))
noncomputable def b_law_makes_2 : DSt := sSeq (sFor (iSeq (gv 1)) (dN 4) (sSeq (sSet 5 (eFlatB 3 (eCall 3 m_law_stepped (aCons (gv 0) (aCons (gv 4) (aCons (gv 3) aNil)))))) (sSeq (sIf (bT (eBin dIs (gv 5) (dc .non))) (sRet (dc (.bl false))) sNext) (sApp 3 (gv 5))))) b_law_makes_3
noncomputable def b_law_makes_1 : DSt := sSeq (sSet 3 (eLst aNil)) b_law_makes_2
noncomputable def b_law_makes_0 : DSt := sSeq (sIf (bOr (bNot (bT (eIsi "list" (gv 1)))) (bNot (bT (eChain dLe dLe (dc (.int 1)) (eCB gLen (aCons (gv 1) aNil)) (dc (.int 16)))))) (sRet (dc (.bl false))) sNext) b_law_makes_1
noncomputable def m_law_makes : List D → Option D := fnM 3 6 false b_law_makes_0
noncomputable def m_law_tried : List D → Option D := fun ds => if ds.length = 2 then (match x_made ds with
    | some c => (kindM c).bind fun z => some (.tup [.str z, .non])
    | none => (m_made ds).bind fun d => some (.tup [.str "told", d])) else none
noncomputable def b_law_11 : DSt := (sRet (eCall 3 m_law_makes (aCons (gv 3) (aCons (eCall 2 m_made (aCons (gv 3) (aCons (eBin dIx (gv 4) (dc (.int 0))) aNil))) (aCons (eBin dIx (gv 4) (dc (.int 0))) aNil)))))
noncomputable def b_law_10 : DSt := sSeq (sFor (iSeq (gv 5)) (dN 7) (sSeq (sSet 9 (eLst (aCons (eLC [none] (iSeq (gv 3)) (dN 0) bAll (eCB gList (aCons (gv 0) aNil))) (aCons (eCB gList (aCons (gv 7) aNil)) aNil)))) (sPoke 10 (eCall 2 m_law_tried (aCons (eBin dIx (gv 9) (dc (.int 0))) (aCons (eBin dIx (gv 9) (dc (.int 1))) aNil))) (bT (eBin dNe (gv 9) (eLst (aCons (gv 3) (aCons (gv 7) aNil))))) (bT (eBin dNotInD (gv 7) (gv 4))) (bT (eBin dNe (eBin dIx (gv 10) (dc (.int 0))) (dc (.str "made")))) (bOr (bT (eBin dNe (eBin dIx (gv 10) (dc (.int 0))) (dc (.str "told")))) (bNot (bT (eCall 3 m_law_makes (aCons (gv 3) (aCons (eBin dIx (gv 10) (dc (.int 1))) (aCons (gv 7) aNil)))))))))) b_law_11
noncomputable def b_law_9 : DSt := sSeq (sIf (bT (gv 1)) (sSet 5 (eSl (gv 5) (oSome (dc (.int 2))) (oSome (dc (.int 4))))) sNext) b_law_10
noncomputable def b_law_8 : DSt := sSeq (sFor (iRng (aCons (dc (.int 4)) aNil)) (dN 6) (sSeq (sSet 8 (eBin dDiv (eCall 1 m_law_next (aCons (eBin dAdd (eCall 2 m_law_cell_at (aCons (gv 0) (aCons (eBin dAdd (dc (.int 7)) (gv 6)) aNil))) (gv 6)) aNil)) (dc (.int 7)))) (sApp 5 (eLst (aCons (eBin dEq (eBin dMod (gv 8) (dc (.int 2))) (dc (.int 1))) (aCons (eBin dEq (eBin dMod (eBin dDiv (gv 8) (dc (.int 2))) (dc (.int 2))) (dc (.int 1))) (aCons (eBin dEq (eBin dMod (eBin dDiv (gv 8) (dc (.int 4))) (dc (.int 2))) (dc (.int 1))) (aCons (eBin dEq (eBin dMod (eBin dDiv (gv 8) (dc (.int 8))) (dc (.int 2))) (dc (.int 1))) aNil)))))))) b_law_9
noncomputable def b_law_7 : DSt := sSeq (sIf (bOr (bNot (bT (eIsi "list" (gv 4)))) (bOr (bT (eBin dNotInD (eBin dIx (gv 5) (dc (.int 0))) (gv 4))) (bT (eBin dNotInD (eBin dIx (gv 5) (dc (.int 1))) (gv 4))))) (sRet (dc (.bl false))) sNext) b_law_8
noncomputable def b_law_6 : DSt := sSeq (sSet 5 (eLst (aCons (eLst (aCons (dc (.bl false)) (aCons (dc (.bl true)) (aCons (dc (.bl false)) (aCons (dc (.bl true)) aNil))))) (aCons (eLst (aCons (dc (.bl false)) (aCons (dc (.bl false)) (aCons (dc (.bl true)) (aCons (dc (.bl true)) aNil))))) aNil)))) b_law_7
noncomputable def b_law_5 : DSt := sSeq (sSet 4 (eCall 1 m_makable (aCons (eLC [none] (iSeq (gv 3)) (dN 0) bAll (eCB gList (aCons (gv 0) aNil))) aNil))) b_law_6
noncomputable def b_law_4 : DSt := sSeq (sIf (bT (gv 1)) (sSet 3 (eSl (gv 3) oNone (oSome (dc (.int 2))))) sNext) b_law_5
noncomputable def b_law_3 : DSt := sSeq (sSet 3 (eSl (eCall 2 m_law_gates (aCons (gv 0) (aCons (eBin dAdd (dc (.int 2)) (eCB gInt (aCons (gv 1) aNil))) aNil))) oNone (oSome (gv 2)))) b_law_4
noncomputable def b_law_2 : DSt := sSeq (sIf (bT (eBin dEq (eBin dMod (eCall 2 m_law_cell_at (aCons (gv 0) (aCons (dc (.int 11)) aNil))) (dc (.int 6))) (dc (.int 1)))) (sSet 2 (dc (.int 5))) sNext) b_law_3
noncomputable def b_law_1 : DSt := sSeq (sSet 2 (dc (.int 3))) b_law_2
noncomputable def b_law_0 : DSt := sSeq (sSet 1 (eBin dEq (eBin dMod (eCall 2 m_law_cell_at (aCons (gv 0) (aCons (dc (.int 6)) aNil))) (dc (.int 6))) (dc (.int 1)))) b_law_1
noncomputable def m_law : List D → Option D := fnM 1 11 false b_law_0
theorem e_cell (ns : List Int) (k : Nat) : m_law_cell_at [.lst (ns.map D.int), .int (k : Int)] = some (.int (ns.getD k 0)) := by
  have hl : (List.map D.int ns).length = ns.length := List.length_map _
  by_cases h : k < ns.length
  · have ha : atI (ns.map D.int) (k : Int) = some (.int (ns.getD k 0)) := dat_nat (by rw [List.getElem?_map, List.getElem?_eq_getElem h, List.getD_eq_getElem?_getD, List.getElem?_eq_getElem h]; rfl)
    have c : ((k : Int) < (ns.length : Int)) := by omega
    simp [m_law_cell_at, b_law_cell_at_0, b_law_cell_at_1, fnM, sSeq, sIf, bT, eBin, gv, eCB, aCons, aNil, gLen, dLt, dI, tBl, sRet, dIx, c, ha, sNext]
  · have c : ¬ ((k : Int) < (ns.length : Int)) := by omega
    have hd : ns.getD k 0 = 0 := by rw [List.getD_eq_getElem?_getD, List.getElem?_eq_none (by omega)]; rfl
    rw [hd]
    simp [m_law_cell_at, b_law_cell_at_0, b_law_cell_at_1, fnM, sSeq, sIf, bT, eBin, gv, eCB, aCons, aNil, gLen, dLt, dI, tBl, sRet, dIx, c, sNext, dc]
noncomputable def nextI (n : Int) : Int := ((n + 7919) % 2147483647 * ((n + 7919) % 2147483647) + 48271 * ((n + 7919) % 2147483647) + 12345) % 2147483629
theorem e_next (n : Int) : m_law_next [.int n] = some (.int (nextI n)) := by
  have h0 : 0 ≤ (n + 7919) % 2147483647 := Int.emod_nonneg _ (by decide)
  have h1 : (n + 7919) % 2147483647 < 2147483647 := Int.emod_lt_of_pos _ (by decide)
  have c1 : cMul ((n + 7919) % 2147483647) ((n + 7919) % 2147483647) = true := by
    unfold cMul
    simp only [Bool.or_eq_true, Bool.and_eq_true, decide_eq_true_iff]
    left; constructor <;> omega
  have c2 : cMul 48271 ((n + 7919) % 2147483647) = true := by
    unfold cMul
    simp only [Bool.or_eq_true, Bool.and_eq_true, decide_eq_true_iff]
    left; constructor <;> omega
  simp [m_law_next, b_law_next_0, b_law_next_1, fnM, sSeq, sSet, eBin, gv, dc, dAdd, dMod, dMul, dI, cMod, sRet, c1, c2, nextI]
theorem size_at' {s most : Int} (hm : most = 1 ∨ most = 2 ∨ most = 3) : ∃ sz : Nat, atI [D.int 2, D.int 4, D.int 8] (s / 7 % most) = some (.int (sz : Int)) ∧ L248 sz ∧ (most = 2 → sz ≤ 4) := by
  have hb : 0 ≤ s / 7 % most ∧ s / 7 % most < most := ⟨Int.emod_nonneg _ (by omega), Int.emod_lt_of_pos _ (by omega)⟩
  have hc : s / 7 % most = 0 ∨ s / 7 % most = 1 ∨ s / 7 % most = 2 := by omega
  rcases hc with e | e | e
  · exact ⟨2, by rw [e]; rfl, .inl rfl, fun _ => by decide⟩
  · exact ⟨4, by rw [e]; rfl, .inr (.inl rfl), fun _ => by decide⟩
  · exact ⟨8, by rw [e]; rfl, .inr (.inr rfl), fun z => by omega⟩
theorem range_for {n : Nat} (h : n ≤ 1000) : in62 (n : Int) = true := by
  unfold in62
  rw [Bool.and_eq_true, decide_eq_true_iff, decide_eq_true_iff]
  omega
theorem lc_rng {mp : List (Option Nat)} {fn : DFn} {f : DFn} {env : DEnv} {n : Nat} (hn : n ≤ 1000) (e : fn env = some (.int (n : Int)))
    (h : ∀ k : Nat, k < n → ∃ b, f ((lcEnv mp env).set 0 (some (.int (k : Int)))) = some (.bl b)) : ∃ bs : List Bool, bs.length = n ∧ eLC mp (iRng (aCons fn aNil)) (dN 0) bAll f env = some (.lst (bs.map D.bl)) := by
  obtain ⟨bs, hl, hb⟩ := comp_bl (g := dN 0) (c := bAll) (f := f) (env0 := lcEnv mp env) (items := rngD 0 n) (fun d hd => by
    obtain ⟨k, hk, rfl⟩ := rngD_mem hd
    obtain ⟨b, hb⟩ := h k hk
    exact ⟨_, b, rfl, rfl, by rw [Int.zero_add]; exact hb⟩)
  refine ⟨bs, by rw [hl, rngD_len], ?_⟩
  have hc : (rngD 0 n).length ≤ lim := by rw [rngD_len]; exact lim_1000 hn
  unfold eLC iRng
  rw [show aCons fn aNil env = some [.int (n : Int)] by unfold aCons; rw [e]; rfl, Option.bind_s]
  rw [show fRng [.int (n : Int)] = some (rngD 0 n) by simp only [fRng]; rw [if_pos (range_for hn), Int.toNat_natCast], Option.bind_s, if_pos hc, hb, Option.bind_s]
noncomputable def bitsI : Nat → Int → List Bool
  | 0, _ => []
  | n + 1, t => (t % 2 == 1) :: bitsI n (t / 2)
theorem bitsI_len : ∀ (n : Nat) (t : Int), (bitsI n t).length = n
  | 0, _ => rfl
  | n + 1, t => by rw [bitsI, List.length_cons, bitsI_len]
theorem gate_tail (A B C Z : Option D) : ∀ (items : List D) (acc : List D) (t : Int) (r : Option D), acc.length + items.length ≤ 1000 → ∃ t' r',
    forM (dN 6) (sSeq (sApp 4 (eBin dEq (eBin dMod (gv 5) (dc (.int 2))) (dc (.int 1)))) (sSet 5 (eBin dDiv (gv 5) (dc (.int 2))))) items [A, B, C, Z, some (.lst acc), some (.int t), r] =
      some (.nx [A, B, C, Z, some (.lst (acc ++ (bitsI items.length t).map D.bl)), some (.int t'), r'])
  | [], acc, t, r, _ => ⟨t, r, by simp [L2.forM, bitsI]⟩
  | d :: ds, acc, t, r, h => by
    rw [List.length_cons] at h
    obtain ⟨t', r', ih⟩ := gate_tail A B C Z ds (acc ++ [.bl (t % 2 == 1)]) (t / 2) (some d) (by rw [List.length_append, List.length_singleton]; omega)
    refine ⟨t', r', st_forC (e1 := [A, B, C, Z, some (.lst acc), some (.int t), some d]) rfl (st_seq (st_app (ds := acc) (d := .bl (t % 2 == 1)) rfl rfl (lim_1000' (by omega))) rfl) ?_⟩
    rw [List.append_assoc] at ih
    exact ih
theorem tail_ok {s most w : Int} {n : Nat} (hn : n ≤ 1000) : sSeq (sSet 4 (eLst aNil)) (sSeq (sSet 5 (eBin dDiv (gv 0) (dc (.int 126)))) (sSeq (sFor (iRng (aCons (gv 2) aNil)) (dN 6) (sSeq (sApp 4 (eBin dEq (eBin dMod (gv 5) (dc (.int 2))) (dc (.int 1)))) (sSet 5 (eBin dDiv (gv 5) (dc (.int 2)))))) (sRet (gv 4))))
    [some (.int s), some (.int most), some (.int (n : Int)), some (.int w), none, none, none] = some (.rt (gD (bitsI n (s / 126)))) := by
  obtain ⟨t', r', h⟩ := gate_tail (some (.int s)) (some (.int most)) (some (.int (n : Int))) (some (.int w)) (rngD 0 n) [] (s / 126) none (by rw [rngD_len]; simpa using hn)
  rw [rngD_len] at h
  have hi : iRng (aCons (gv 2) aNil) [some (.int s), some (.int most), some (.int (n : Int)), some (.int w), some (.lst []), some (.int (s / 126)), none] = some (rngD 0 n) := by
    unfold iRng
    rw [ax_cons (d := .int (n : Int)) (ds := []) rfl rfl, Option.bind_s]
    simp only [fRng]
    rw [if_pos (range_for hn), Int.toNat_natCast]
  exact st_seq (st_set (d := .lst []) (by unfold eLst; rw [show aNil _ = some [] from rfl, Option.bind_s, if_pos (lim_ge rfl)])) (st_seq (st_set (d := .int (s / 126)) rfl) (st_seq (st_for hi h) rfl))
theorem e_gate {s most : Int} (hm : most = 1 ∨ most = 2 ∨ most = 3) : ∃ bs : List Bool, L248 bs.length ∧ (most = 2 → bs.length ≤ 4) ∧ m_law_gate [.int s, .int most] = some (gD bs) := by
  obtain ⟨sz, hat, hsz, h2⟩ := size_at' (s := s) hm
  suffices h : ∃ bs : List Bool, bs.length = sz ∧ m_law_gate [.int s, .int most] = some (gD bs) by
    obtain ⟨bs, hl, e⟩ := h
    exact ⟨bs, hl ▸ hsz, fun z => hl ▸ h2 z, e⟩
  have h8 : sz ≤ 1000 := by have := hsz.le; omega
  have h1 : eBin dIx (eLst (aCons (dc (.int 2)) (aCons (dc (.int 4)) (aCons (dc (.int 8)) aNil)))) (eBin dMod (eBin dDiv (gv 0) (dc (.int 7))) (gv 1)) [some (.int s), some (.int most), none, none, none, none, none] = some (.int (sz : Int)) := by
    refine ex_bin (x := .lst [.int 2, .int 4, .int 8]) (y := .int (s / 7 % most)) rfl (ex_bin (x := .int (s / 7)) (y := .int most) rfl rfl ?_) hat
    have : cMod (s / 7) most = true := by unfold cMod; exact decide_eq_true (by omega)
    simp only [dMod, dI, this, if_true]
  have hw : s / 21 % 6 = 0 ∨ s / 21 % 6 = 1 ∨ s / 21 % 6 = 2 ∨ s / 21 % 6 = 3 ∨ s / 21 % 6 = 4 ∨ s / 21 % 6 = 5 := by omega
  have step : ∀ {w : Int} {k : DSt} {d : D}, s / 21 % 6 = w → k [some (.int s), some (.int most), some (.int (sz : Int)), some (.int w), none, none, none] = some (.rt d) →
      fnM 2 7 true (sSeq (sSet 2 (eBin dIx (eLst (aCons (dc (.int 2)) (aCons (dc (.int 4)) (aCons (dc (.int 8)) aNil)))) (eBin dMod (eBin dDiv (gv 0) (dc (.int 7))) (gv 1)))) (sSeq (sSet 3 (eBin dMod (eBin dDiv (gv 0) (dc (.int 21))) (dc (.int 6)))) k)) [.int s, .int most] = some d := fun {w k d} ew hk =>
    st_fn (st_seq (st_set h1) (st_seq (st_set (d := .int w) (by rw [← ew]; rfl)) hk)) rfl
  have lc : ∀ {mp : List (Option Nat)} {f : DFn} (w : Int), (∀ k : Nat, k < sz → ∃ b, f ((lcEnv mp [some (.int s), some (.int most), some (.int (sz : Int)), some (.int w), none, none, none]).set 0 (some (.int (k : Int)))) = some (.bl b)) →
      ∃ bs : List Bool, bs.length = sz ∧ eLC mp (iRng (aCons (gv 2) aNil)) (dN 0) bAll f [some (.int s), some (.int most), some (.int (sz : Int)), some (.int w), none, none, none] = some (.lst (bs.map D.bl)) := fun w h => lc_rng h8 rfl h
  rcases hw with e | e | e | e | e | e
  · obtain ⟨bs, hl, hb⟩ := lc (mp := [none, some 0]) (f := eBin dEq (eBin dMod (gv 0) (dc (.int 2))) (eBin dMod (eBin dDiv (gv 1) (dc (.int 126))) (dc (.int 2)))) 0 (fun k hk => ⟨_, rfl⟩)
    exact ⟨bs, hl, step e (st_seqR (st_ift rfl (st_ret hb)))⟩
  · obtain ⟨bs, hl, hb⟩ := lc (mp := [none, some 2]) (f := eBin dEq (gv 0) (eBin dSub (gv 1) (dc (.int 1)))) 1 (fun k hk => ⟨_, rfl⟩)
    exact ⟨bs, hl, step e (st_seq (st_iff rfl rfl) (st_seqR (st_ift rfl (st_ret hb))))⟩
  · obtain ⟨bs, hl, hb⟩ := lc (mp := [none]) (f := eBin dGt (gv 0) (dc (.int 0))) 2 (fun k hk => ⟨_, rfl⟩)
    exact ⟨bs, hl, step e (st_seq (st_iff rfl rfl) (st_seq (st_iff rfl rfl) (st_seqR (st_ift rfl (st_ret hb)))))⟩
  · obtain ⟨bs, hl, hb⟩ := lc (mp := [none, some 0]) (f := eBin dEq (eBin dMod (eBin dAdd (eBin dAdd (gv 0) (eBin dDiv (gv 0) (dc (.int 2)))) (eBin dDiv (gv 0) (dc (.int 4)))) (dc (.int 2))) (eBin dMod (eBin dDiv (gv 1) (dc (.int 126))) (dc (.int 2)))) 3 (fun k hk => ⟨_, rfl⟩)
    exact ⟨bs, hl, step e (st_seq (st_iff rfl rfl) (st_seq (st_iff rfl rfl) (st_seq (st_iff rfl rfl) (st_seqR (st_ift rfl (st_ret hb))))))⟩
  · rcases hsz with rfl | rfl | rfl
    · exact ⟨bitsI 2 (s / 126), bitsI_len _ _, step e (st_seq (st_iff rfl rfl) (st_seq (st_iff rfl rfl) (st_seq (st_iff rfl rfl) (st_seq (st_iff rfl rfl) (st_seq (st_iff rfl rfl) (tail_ok (by decide)))))))⟩
    · exact ⟨bitsI 4 (s / 126), bitsI_len _ _, step e (st_seq (st_iff rfl rfl) (st_seq (st_iff rfl rfl) (st_seq (st_iff rfl rfl) (st_seq (st_iff rfl rfl) (st_seq (st_iff rfl rfl) (tail_ok (by decide)))))))⟩
    · exact ⟨[false, false, false, true, false, true, true, true], rfl, step e (st_seq (st_iff rfl rfl) (st_seq (st_iff rfl rfl) (st_seq (st_iff rfl rfl) (st_seq (st_iff rfl rfl) (st_seqR (st_ift rfl rfl))))))⟩
  · rcases hsz with rfl | rfl | rfl
    · exact ⟨bitsI 2 (s / 126), bitsI_len _ _, step e (st_seq (st_iff rfl rfl) (st_seq (st_iff rfl rfl) (st_seq (st_iff rfl rfl) (st_seq (st_iff rfl rfl) (st_seq (st_iff rfl rfl) (tail_ok (by decide)))))))⟩
    · exact ⟨bitsI 4 (s / 126), bitsI_len _ _, step e (st_seq (st_iff rfl rfl) (st_seq (st_iff rfl rfl) (st_seq (st_iff rfl rfl) (st_seq (st_iff rfl rfl) (st_seq (st_iff rfl rfl) (tail_ok (by decide)))))))⟩
    · exact ⟨bitsI 8 (s / 126), bitsI_len _ _, step e (st_seq (st_iff rfl rfl) (st_seq (st_iff rfl rfl) (st_seq (st_iff rfl rfl) (st_seq (st_iff rfl rfl) (st_seq (st_iff rfl rfl) (tail_ok (by decide)))))))⟩
theorem for_acc {g : D → DEnv → Option DEnv} {m : DSt} (ctx : List D → Option D → DEnv) (Q : D → Prop) : ∀ (rest : List D),
    (∀ acc o d, d ∈ rest → g d (ctx acc o) = some (ctx acc (some d))) → (∀ acc d, d ∈ rest → acc.length < 1000 → ∃ y, Q y ∧ m (ctx acc (some d)) = some (.nx (ctx (acc ++ [y]) (some d)))) →
    ∀ acc o, acc.length + rest.length ≤ 1000 → ∃ ys o', ys.length = rest.length ∧ (∀ y ∈ ys, Q y) ∧ L2.forM g m rest (ctx acc o) = some (.nx (ctx (acc ++ ys) o'))
  | [], _, _, acc, o, _ => ⟨[], o, rfl, by simp, by rw [List.append_nil]; rfl⟩
  | d :: ds, hg, hm, acc, o, h => by
    rw [List.length_cons] at h
    obtain ⟨y, hy, e⟩ := hm acc d List.mem_cons_self (by omega)
    obtain ⟨ys, o', hl, hq, ih⟩ := for_acc ctx Q ds (fun acc o x hx => hg acc o x (List.mem_cons_of_mem _ hx)) (fun acc x hx => hm acc x (List.mem_cons_of_mem _ hx)) (acc ++ [y]) (some d) (by rw [List.length_append, List.length_singleton]; omega)
    refine ⟨y :: ys, o', by rw [List.length_cons, List.length_cons, hl], fun z hz => ?_, st_forC (hg acc o d List.mem_cons_self) e ?_⟩
    · rcases List.mem_cons.mp hz with z1 | z1
      · rw [z1]; exact hy
      · exact hq z z1
    · rw [List.append_assoc] at ih
      exact ih
theorem map_of {α : Type} {f : α → D} {P : α → Prop} : ∀ {ys : List D}, (∀ y ∈ ys, ∃ a, P a ∧ y = f a) → ∃ as : List α, ys = as.map f ∧ ∀ a ∈ as, P a
  | [], _ => ⟨[], rfl, by simp⟩
  | y :: ys, h => by
    obtain ⟨a, ha, rfl⟩ := h y List.mem_cons_self
    obtain ⟨as, rfl, hs⟩ := map_of (fun z hz => h z (List.mem_cons_of_mem _ hz))
    exact ⟨a :: as, rfl, fun z hz => by
      rcases List.mem_cons.mp hz with z1 | z1
      · rw [z1]; exact ha
      · exact hs z z1⟩
theorem rng1 {f : DFn} {env : DEnv} {n : Nat} (hn : n ≤ 1000) (h : f env = some (.int (n : Int))) : iRng (aCons f aNil) env = some (rngD 0 n) := by
  unfold iRng
  rw [ax_cons (d := .int (n : Int)) (ds := []) h rfl, Option.bind_s]
  simp only [fRng]
  rw [if_pos (range_for hn), Int.toNat_natCast]
noncomputable def gsD (gs : List (List Bool)) : D := .lst (gs.map gD)
noncomputable def okGs (gs : List (List Bool)) : Prop := 1 ≤ gs.length ∧ gs.length ≤ 5 ∧ ∀ g ∈ gs, L248 g.length
theorem e_gates (ns : List Int) {most : Int} (hm : most = 1 ∨ most = 2 ∨ most = 3) : ∃ gs : List (List Bool), okGs gs ∧ (most = 2 → ∀ g ∈ gs, g.length ≤ 4) ∧ m_law_gates [.lst (ns.map D.int), .int most] = some (gsD gs) := by
  let S : D := .lst (ns.map D.int)
  have hn0 : 0 ≤ ns.getD 0 0 % 5 ∧ ns.getD 0 0 % 5 < 5 := by omega
  obtain ⟨n, hn⟩ : ∃ n : Nat, 1 + ns.getD 0 0 % 5 = (n : Int) := ⟨(1 + ns.getD 0 0 % 5).toNat, by omega⟩
  have hn5 : 1 ≤ n ∧ n ≤ 5 := by omega
  have hr : iRng (aCons (eBin dAdd (dc (.int 1)) (eBin dMod (eCall 2 m_law_cell_at (aCons (gv 0) (aCons (dc (.int 0)) aNil))) (dc (.int 5)))) aNil) [some S, some (.int most), some (.lst []), none] = some (rngD 0 n) :=
    rng1 (by omega) (by rw [← hn]; exact ex_bin rfl (ex_bin (ex_call (ax_cons rfl (ax_cons rfl rfl)) rfl (e_cell ns 0)) rfl rfl) rfl)
  obtain ⟨ys, o', hl, hq, hf⟩ := for_acc (g := dN 3) (m := sApp 2 (eCall 2 m_law_gate (aCons (eCall 1 m_law_next (aCons (eBin dAdd (eCall 2 m_law_cell_at (aCons (gv 0) (aCons (eBin dAdd (dc (.int 1)) (gv 3)) aNil))) (gv 3)) aNil)) (aCons (gv 1) aNil))))
    (fun acc o => [some S, some (.int most), some (.lst acc), o]) (fun y => ∃ bs : List Bool, (L248 bs.length ∧ (most = 2 → bs.length ≤ 4)) ∧ y = gD bs) (rngD 0 n) (fun acc o d _ => rfl) (fun acc d hd hacc => by
      obtain ⟨k, hk, rfl⟩ := rngD_mem hd
      rw [Int.zero_add]
      obtain ⟨bs, h1, h2, e⟩ := e_gate (s := nextI (ns.getD (1 + k) 0 + (k : Int))) hm
      refine ⟨gD bs, ⟨bs, ⟨h1, h2⟩, rfl⟩, st_app (ds := acc) rfl ?_ (lim_1000' (by omega))⟩
      have hc := e_cell ns (1 + k)
      rw [show ((1 + k : Nat) : Int) = 1 + (k : Int) by omega] at hc
      exact ex_call (ax_cons (ex_call (ax_cons (ex_bin (ex_call (ax_cons rfl (ax_cons rfl rfl)) rfl hc) rfl rfl) rfl) rfl (e_next _)) (ax_cons rfl rfl)) rfl e) [] none (by rw [rngD_len]; simp; omega)
  obtain ⟨gs, rfl, hgs⟩ := map_of (f := gD) (P := fun bs => L248 bs.length ∧ (most = 2 → bs.length ≤ 4)) hq
  rw [List.length_map, rngD_len] at hl
  refine ⟨gs, ⟨by omega, by omega, fun g hg => (hgs g hg).1⟩, fun z g hg => (hgs g hg).2 z, ?_⟩
  exact st_fn (st_seq (st_set (d := .lst []) rfl) (st_seq (st_for hr hf) rfl)) rfl
inductive Fm where
  | inp (i : Nat)
  | gate (g : Nat) (ps : List Fm)
mutual
noncomputable def Fm.toD : Fm → D
  | .inp i => .tup [.str "in", .int (i : Int)]
  | .gate g ps => .tup [.str "gate", .int (g : Int), .tup (Fm.toDs ps)]
noncomputable def Fm.toDs : List Fm → List D
  | [] => []
  | p :: ps => Fm.toD p :: Fm.toDs ps
end
mutual
noncomputable def Fm.depth : Fm → Nat
  | .inp _ => 1
  | .gate _ ps => Fm.depths ps + 1
noncomputable def Fm.depths : List Fm → Nat
  | [] => 0
  | p :: ps => max (Fm.depth p) (Fm.depths ps)
end
mutual
noncomputable def Fm.WF (gs : List (List Bool)) (many : Nat) : Fm → Prop
  | .inp i => i < many
  | .gate g ps => (∃ bs, gs[g]? = some bs ∧ bs.length = 2 ^ ps.length) ∧ 1 ≤ ps.length ∧ ps.length ≤ 3 ∧ Fm.WFs gs many ps
noncomputable def Fm.WFs (gs : List (List Bool)) (many : Nat) : List Fm → Prop
  | [] => True
  | p :: ps => Fm.WF gs many p ∧ Fm.WFs gs many ps
end
noncomputable def rowN : List Bool → Nat
  | [] => 0
  | b :: r => (if b then 1 else 0) + 2 * rowN r
mutual
noncomputable def Fm.ev (gs : List (List Bool)) (ins : List Bool) : Fm → Bool
  | .inp i => ins.getD i false
  | .gate g ps => (gs.getD g []).getD (rowN (Fm.evs gs ins ps)) false
noncomputable def Fm.evs (gs : List (List Bool)) (ins : List Bool) : List Fm → List Bool
  | [] => []
  | p :: ps => Fm.ev gs ins p :: Fm.evs gs ins ps
end
theorem rowN_lt : ∀ bs : List Bool, rowN bs < 2 ^ bs.length
  | [] => by simp [rowN]
  | b :: r => by
    have := rowN_lt r
    rw [rowN, List.length_cons, Nat.pow_succ]
    split <;> omega
theorem rowN_take : ∀ (bs : List Bool) (k : Nat), k < bs.length → rowN (bs.take (k + 1)) = rowN (bs.take k) + (if bs.getD k false then 2 ^ k else 0)
  | [], _, h => by simp at h
  | b :: r, 0, _ => by cases b <;> simp [rowN]
  | b :: r, k + 1, h => by
    have ih := rowN_take r k (by simpa using h)
    rw [List.take_succ_cons, rowN, ih, List.take_succ_cons, rowN]
    have e : (b :: r).getD (k + 1) false = r.getD k false := by simp [List.getD_eq_getElem?_getD]
    rw [e]
    split <;> split <;> (try rw [Nat.pow_succ]) <;> omega
theorem for_rng {α : Type} {g : D → DEnv → Option DEnv} {m : DSt} (ctx : α → Option D → DEnv) (st : Nat → α) (hg : ∀ a o d, g d (ctx a o) = some (ctx a (some d))) : ∀ (n j : Nat) (o : Option D),
    (∀ k, j ≤ k → k < j + n → m (ctx (st k) (some (.int (k : Int)))) = some (.nx (ctx (st (k + 1)) (some (.int (k : Int)))))) →
    ∃ o', L2.forM g m ((List.range' j n).map fun (k : Nat) => D.int (k : Int)) (ctx (st j) o) = some (.nx (ctx (st (j + n)) o'))
  | 0, j, o, _ => ⟨o, rfl⟩
  | n + 1, j, o, hm => by
    obtain ⟨o', ih⟩ := for_rng ctx st hg n (j + 1) (some (.int (j : Int))) (fun k h1 h2 => hm k (by omega) (by omega))
    refine ⟨o', ?_⟩
    rw [List.range'_succ, List.map_cons]
    refine st_forC (hg _ _ _) (hm j (Nat.le_refl _) (by omega)) ?_
    rw [show j + 1 + n = j + (n + 1) by omega] at ih
    exact ih
theorem rngD_range' (n : Nat) : rngD 0 n = (List.range' 0 n).map fun (k : Nat) => D.int (k : Int) := by
  unfold rngD
  rw [List.range_eq_range']
  apply List.map_congr_left
  intro k _
  rw [Int.zero_add]
theorem for_rng0 {α : Type} {g : D → DEnv → Option DEnv} {m : DSt} (ctx : α → Option D → DEnv) (st : Nat → α) (n : Nat) (o : Option D) (hg : ∀ a o d, g d (ctx a o) = some (ctx a (some d)))
    (hm : ∀ k, k < n → m (ctx (st k) (some (.int (k : Int)))) = some (.nx (ctx (st (k + 1)) (some (.int (k : Int)))))) : ∃ o', L2.forM g m (rngD 0 n) (ctx (st 0) o) = some (.nx (ctx (st n) o')) := by
  obtain ⟨o', h⟩ := for_rng ctx st hg n 0 o (fun k _ h2 => hm k (by omega))
  rw [rngD_range']
  rw [Nat.zero_add] at h
  exact ⟨o', h⟩
theorem at_bl {bs : List Bool} {k : Nat} (h : k < bs.length) : dIx (gD bs) (.int (k : Int)) = some (.bl (bs.getD k false)) := by
  show atI (bs.map D.bl) (k : Int) = _
  exact dat_nat (by rw [List.getElem?_map, List.getElem?_eq_getElem h, List.getD_eq_getElem?_getD, List.getElem?_eq_getElem h]; rfl)
theorem at_gs {gs : List (List Bool)} {k : Nat} {bs : List Bool} (h : gs[k]? = some bs) : dIx (gsD gs) (.int (k : Int)) = some (gD bs) := by
  show atI (gs.map gD) (k : Int) = _
  exact dat_nat (by rw [List.getElem?_map, h]; rfl)
theorem at_w3 {k : Nat} (h : k < 3) : dIx (.lst [.int 1, .int 2, .int 4]) (.int (k : Int)) = some (.int ((2 ^ k : Nat) : Int)) := by
  have : k = 0 ∨ k = 1 ∨ k = 2 := by omega
  rcases this with e | e | e <;> rw [e] <;> rfl
theorem e_wide {bs : List Bool} (h : L248 bs.length) : m_law_wide [gD bs] = some (.int ((wideN bs.length : Nat) : Int)) := by
  refine st_fn (st_ret ?_) rfl
  unfold eWide
  rw [ex_cb (d := .int (bs.length : Int)) (ax_cons (d := gD bs) rfl rfl) (by simp only [gLen, gD, List.length_map]), Option.bind_s]
  rcases h with e | e | e <;> rw [e] <;> rfl
theorem seq_tup {f : DFn} {env : DEnv} {ds : List D} (h : f env = some (.tup ds)) : iSeq f env = some ds := by unfold iSeq; rw [h]; rfl
theorem ex_lst {fs : DEnv → Option (List D)} {env : DEnv} {ds : List D} (h : fs env = some ds) (hl : ds.length ≤ 1000) : eLst fs env = some (.lst ds) := by
  unfold eLst
  rw [h, Option.bind_s, if_pos (lim_1000 hl)]
theorem for_app {α : Type} {g : D → DEnv → Option DEnv} {i : Nat} {fe : DFn} (ctx : List D → Option D → DEnv) (f v : α → D) (hget : ∀ acc o, gv i (ctx acc o) = some (.lst acc)) (hset : ∀ acc acc' o, (ctx acc o).set i (some (.lst acc')) = ctx acc' o)
    (hg : ∀ acc o d, g d (ctx acc o) = some (ctx acc (some d))) : ∀ (as : List α), (∀ a ∈ as, ∀ acc, fe (ctx acc (some (f a))) = some (v a)) → ∀ acc o, acc.length + as.length ≤ 1000 →
    ∃ o', L2.forM g (sApp i fe) (as.map f) (ctx acc o) = some (.nx (ctx (acc ++ as.map v) o'))
  | [], _, acc, o, _ => ⟨o, by rw [List.map_nil, List.map_nil, List.append_nil]; rfl⟩
  | a :: as, h, acc, o, hl => by
    rw [List.length_cons] at hl
    obtain ⟨o', ih⟩ := for_app ctx f v hget hset hg as (fun x hx => h x (List.mem_cons_of_mem _ hx)) (acc ++ [v a]) (some (f a)) (by rw [List.length_append, List.length_singleton]; omega)
    refine ⟨o', ?_⟩
    rw [List.map_cons, List.map_cons]
    refine st_forC (hg acc o (f a)) (st_app (hget _ _) (h a List.mem_cons_self acc) (lim_1000' (by omega))) ?_
    rw [hset, show acc ++ v a :: as.map v = acc ++ [v a] ++ as.map v by rw [List.append_assoc]; rfl]
    exact ih
theorem comp_of {α : Type} {g : D → DEnv → Option DEnv} {c : DEnv → Option Bool} {fe : DFn} {env0 : DEnv} (f v : α → D) : ∀ (as : List α), (∀ a ∈ as, ∃ env1, g (f a) env0 = some env1 ∧ c env1 = some true ∧ fe env1 = some (v a)) → compM g c fe env0 (as.map f) = some (as.map v)
  | [], _ => rfl
  | a :: as, h => by
    obtain ⟨e1, h1, h2, h3⟩ := h a List.mem_cons_self
    have hb := comp_of f v as (fun x hx => h x (List.mem_cons_of_mem _ hx))
    simp only [List.map_cons, compM, h1, h2, h3, hb, Option.bind_s, if_true]
theorem lc_of {α : Type} {mp : List (Option Nat)} {fi : DEnv → Option (List D)} {g : D → DEnv → Option DEnv} {c : DEnv → Option Bool} {fe : DFn} {env : DEnv} (f v : α → D) {as : List α} (hi : fi env = some (as.map f)) (hl : as.length ≤ 1000)
    (h : ∀ a ∈ as, ∃ env1, g (f a) (lcEnv mp env) = some env1 ∧ c env1 = some true ∧ fe env1 = some (v a)) : eLC mp fi g c fe env = some (.lst (as.map v)) := by
  unfold eLC
  rw [hi, Option.bind_s, if_pos (by rw [List.length_map]; exact lim_1000 hl), comp_of f v as h, Option.bind_s]
theorem seq_gv {i : Nat} {env : DEnv} {ds : List D} (h : gv i env = some (.lst ds)) : iSeq (gv i) env = some ds := by unfold iSeq; rw [h]; rfl
theorem for_inv {g : D → DEnv → Option DEnv} {m : DSt} (P : DEnv → Prop) : ∀ (items : List D), (∀ d ∈ items, ∀ env, P env → ∃ e1 e2, g d env = some e1 ∧ m e1 = some (.nx e2) ∧ P e2) → ∀ env, P env → ∃ e', L2.forM g m items env = some (.nx e') ∧ P e'
  | [], _, env, h => ⟨env, rfl, h⟩
  | d :: ds, hs, env, h => by
    obtain ⟨e1, e2, h1, h2, h3⟩ := hs d List.mem_cons_self env h
    obtain ⟨e', h4, h5⟩ := for_inv P ds (fun x hx => hs x (List.mem_cons_of_mem _ hx)) e2 h3
    exact ⟨e', st_forC h1 h2 h4, h5⟩
theorem dep_gD (bs : List Bool) : dep (gD bs) = 2 := by unfold gD; simp only [dep, deps_map_bl]
theorem deps_gs : ∀ gs : List (List Bool), deps (gs.map gD) ≤ 2
  | [] => by simp [deps]
  | g :: r => by
    simp only [List.map_cons, deps, dep_gD]
    have := deps_gs r
    omega
theorem dep_gs' (gs : List (List Bool)) : dep (gsD gs) ≤ 3 := by
  unfold gsD
  simp only [dep]
  have := deps_gs gs
  omega
theorem ne_lst {ds : List D} (h : dep (.lst ds) ≤ 60) : dNe (.lst ds) (.lst ds) = some (.bl false) := by
  show ((if dep (.lst ds) ≤ 60 then some (deqs ds ds) else none : Option Bool).bind fun k => some (D.bl (!k))) = _
  rw [if_pos h, Option.bind_s, deqs_refl]; rfl
theorem eq_lst {ds : List D} (h : dep (.lst ds) ≤ 60) : dEq (.lst ds) (.lst ds) = some (.bl true) := by
  show ((if dep (.lst ds) ≤ 60 then some (deqs ds ds) else none : Option Bool).bind fun k => some (D.bl k)) = _
  rw [if_pos h, Option.bind_s, deqs_refl]
theorem eq_gD (bs : List Bool) : dEq (gD bs) (gD bs) = some (.bl true) := eq_lst (by have := dep_gD bs; unfold gD at this; omega)
theorem e_copy {i : Nat} {gs : List (List Bool)} {env : DEnv} (h : gv i env = some (gsD gs)) (hl : gs.length ≤ 1000) : eLC [none] (iSeq (gv i)) (dN 0) bAll (eCB gList (aCons (gv 0) aNil)) env = some (gsD gs) := by
  unfold eLC iSeq
  rw [h]
  simp only [gsD, Option.bind_s, fSeq]
  rw [if_pos (by rw [List.length_map]; exact lim_1000 hl), L2.comp_map (fun d => d) (fun d hd => by
    obtain ⟨g, _, rfl⟩ := List.mem_map.mp hd
    exact ⟨_, rfl, rfl, ex_cb (ax_cons (d := gD g) rfl rfl) rfl⟩), Option.bind_s, List.map_id']
theorem len_consL {α : Type} {n : Nat} : ∀ {l : List α}, l.length = n + 1 → ∃ a r, l = a :: r ∧ r.length = n
  | [], h => by simp at h
  | a :: r, h => ⟨a, r, rfl, by simpa using h⟩
theorem cases248 {P : List Bool → Prop} (h2 : ∀ a b, P [a, b]) (h4 : ∀ a b c d, P [a, b, c, d]) (h8 : ∀ a b c d e f g h, P [a, b, c, d, e, f, g, h]) {bs : List Bool} (h : L248 bs.length) : P bs := by
  rcases h with e | e | e
  · obtain ⟨a1, r1, rfl, e1⟩ := len_consL e
    obtain ⟨a2, r2, rfl, e2⟩ := len_consL e1
    cases List.length_eq_zero_iff.mp e2
    exact h2 _ _
  · obtain ⟨a1, r1, rfl, e1⟩ := len_consL e
    obtain ⟨a2, r2, rfl, e2⟩ := len_consL e1
    obtain ⟨a3, r3, rfl, e3⟩ := len_consL e2
    obtain ⟨a4, r4, rfl, e4⟩ := len_consL e3
    cases List.length_eq_zero_iff.mp e4
    exact h4 _ _ _ _
  · obtain ⟨a1, r1, rfl, e1⟩ := len_consL e
    obtain ⟨a2, r2, rfl, e2⟩ := len_consL e1
    obtain ⟨a3, r3, rfl, e3⟩ := len_consL e2
    obtain ⟨a4, r4, rfl, e4⟩ := len_consL e3
    obtain ⟨a5, r5, rfl, e5⟩ := len_consL e4
    obtain ⟨a6, r6, rfl, e6⟩ := len_consL e5
    obtain ⟨a7, r7, rfl, e7⟩ := len_consL e6
    obtain ⟨a8, r8, rfl, e8⟩ := len_consL e7
    cases List.length_eq_zero_iff.mp e8
    exact h8 _ _ _ _ _ _ _ _
theorem len_gD (bs : List Bool) : gLen [gD bs] = some (.int (bs.length : Int)) := by simp only [gLen, gD, List.length_map]
theorem len_gs (gs : List (List Bool)) : gLen [gsD gs] = some (.int (gs.length : Int)) := by simp only [gLen, gsD, List.length_map]
theorem ltF {i j : Int} (h : j ≤ i) : dLt (.int i) (.int j) = some (.bl false) := by
  show some (D.bl (decide (i < j))) = _
  rw [decide_eq_false (by omega)]
theorem gtF {i j : Int} (h : i ≤ j) : dGt (.int i) (.int j) = some (.bl false) := by
  show some (D.bl (decide (j < i))) = _
  rw [decide_eq_false (by omega)]
theorem ne_intC (i : Int) : dNe (.int i) (.int i) = some (.bl false) := by
  show some (D.bl (!(i == i))) = _
  rw [beq_self_eq_true]; rfl
theorem e_check_gate {bs : List Bool} (h : L248 bs.length) : m_check_gate [gD bs] = some .non :=
  cases248 (P := fun bs => m_check_gate [gD bs] = some .non) (fun _ _ => by kernel_rfl) (fun _ _ _ _ => by kernel_rfl) (fun _ _ _ _ _ _ _ _ => by kernel_rfl) h
theorem e_check_gates {gs : List (List Bool)} (hgs : okGs gs) : m_check_gates [gsD gs] = some .non := by
  have h1 := hgs.1
  have h2 := hgs.2.1
  obtain ⟨e', hf, o, rfl⟩ := for_inv (g := dN 1) (m := sDo (eCall 1 m_check_gate (aCons (gv 1) aNil))) (fun env => ∃ o, env = [some (gsD gs), o]) (gs.map gD) (fun d hd env hp => by
    obtain ⟨o, rfl⟩ := hp
    obtain ⟨g, hg, rfl⟩ := List.mem_map.mp hd
    exact ⟨_, _, rfl, st_do (ex_call (ax_cons rfl rfl) rfl (e_check_gate (hgs.2.2 g hg))), _, rfl⟩) [some (gsD gs), none] ⟨none, rfl⟩
  exact st_fnN (st_seq (st_iff (bt_orF (bt_of (ex_bin (ex_cb (ax_cons rfl rfl) (len_gs gs)) rfl (ltF (by omega)))) (bt_of (ex_bin (ex_cb (ax_cons rfl rfl) (len_gs gs)) rfl (gtF (by omega))))) rfl) (st_for (seq_gv rfl) hf)) rfl
theorem e_inputs_of {bs : List Bool} (h : L248 bs.length) : m_inputs_of [gD bs] = some (.int ((wideN bs.length : Nat) : Int)) :=
  cases248 (P := fun bs => m_inputs_of [gD bs] = some (.int ((wideN bs.length : Nat) : Int))) (fun _ _ => by kernel_rfl) (fun _ _ _ _ => by kernel_rfl) (fun _ _ _ _ _ _ _ _ => by kernel_rfl) h
theorem rngD_range (n : Nat) : rngD 0 n = (List.range n).map fun (k : Nat) => D.int (k : Int) := by
  unfold rngD
  apply List.map_congr_left
  intro k _
  rw [Int.zero_add]
theorem e_row_of : ∀ {ins : List Bool}, 1 ≤ ins.length ∧ ins.length ≤ 3 → m_row_of [gD ins] = some (.int (rowN ins : Int))
  | [], h => by simp at h
  | [a], _ => by cases a <;> kernel_rfl
  | [a, b], _ => by cases a <;> cases b <;> kernel_rfl
  | [a, b, c], _ => by cases a <;> cases b <;> cases c <;> kernel_rfl
  | _ :: _ :: _ :: _ :: _, h => by simp at h
noncomputable def colB (ts : List (List Bool)) (r : Nat) : List Bool := ts.map fun t => t.getD r false
theorem colB_len (ts : List (List Bool)) (r : Nat) : (colB ts r).length = ts.length := by unfold colB; rw [List.length_map]
theorem lc_big {α : Type} {mp : List (Option Nat)} {fi : DEnv → Option (List D)} {g : D → DEnv → Option DEnv} {c : DEnv → Option Bool} {fe : DFn} {env : DEnv} (f v : α → D) {as : List α} (hi : fi env = some (as.map f)) (hl : as.length ≤ lim)
    (h : ∀ a ∈ as, ∃ env1, g (f a) (lcEnv mp env) = some env1 ∧ c env1 = some true ∧ fe env1 = some (v a)) : eLC mp fi g c fe env = some (.lst (as.map v)) := by
  unfold eLC
  rw [hi, Option.bind_s, if_pos (by rw [List.length_map]; exact hl), comp_of f v as h, Option.bind_s]
theorem comp_fil {α : Type} {g : D → DEnv → Option DEnv} {c : DEnv → Option Bool} {fe : DFn} {env0 : DEnv} (f v : α → D) (b : α → Bool) : ∀ (as : List α), (∀ a ∈ as, ∃ env1, g (f a) env0 = some env1 ∧ c env1 = some (b a) ∧ fe env1 = some (v a)) → compM g c fe env0 (as.map f) = some ((as.filter b).map v)
  | [], _ => rfl
  | a :: as, h => by
    obtain ⟨e1, h1, h2, h3⟩ := h a List.mem_cons_self
    have hb := comp_fil f v b as (fun x hx => h x (List.mem_cons_of_mem _ hx))
    simp only [List.map_cons, compM, h1, h2, h3, hb, Option.bind_s]
    cases hba : b a with
    | true => rw [if_pos rfl, List.filter_cons_of_pos hba, List.map_cons]
    | false => rw [if_neg Bool.false_ne_true, List.filter_cons_of_neg (by rw [hba]; exact Bool.false_ne_true)]
theorem lc_fil {α : Type} {mp : List (Option Nat)} {fi : DEnv → Option (List D)} {g : D → DEnv → Option DEnv} {c : DEnv → Option Bool} {fe : DFn} {env : DEnv} (f v : α → D) (b : α → Bool) {as : List α} (hi : fi env = some (as.map f)) (hl : as.length ≤ lim)
    (h : ∀ a ∈ as, ∃ env1, g (f a) (lcEnv mp env) = some env1 ∧ c env1 = some (b a) ∧ fe env1 = some (v a)) : eLC mp fi g c fe env = some (.lst ((as.filter b).map v)) := by
  unfold eLC
  rw [hi, Option.bind_s, if_pos (by rw [List.length_map]; exact hl), comp_fil f v b as h, Option.bind_s]
theorem st_ext {i : Nat} {f : DFn} {env : DEnv} {ds es : List D} (hg : gv i env = some (.lst ds)) (h : f env = some (.lst es)) (hl : ds.length + es.length ≤ lim) : sExt i f env = some (.nx (env.set i (some (.lst (ds ++ es))))) := by
  unfold sExt; rw [hg]; dsimp only; rw [h, Option.bind_s]; dsimp only; rw [if_pos hl]
noncomputable def placesL (e : Nat) : Nat → List (List Nat)
  | 0 => [[]]
  | k + 1 => (placesL e k).flatMap fun p => (List.range e).map fun i => p ++ [i]
noncomputable def natsD (p : List Nat) : List D := p.map fun (i : Nat) => D.int (i : Int)
noncomputable def tupD (p : List Nat) : D := .tup (natsD p)
theorem placesL_len (e : Nat) : ∀ k, (placesL e k).length = e ^ k
  | 0 => rfl
  | k + 1 => by
    have : ∀ l : List (List Nat), (l.flatMap fun p => (List.range e).map fun i => p ++ [i]).length = l.length * e := fun l => by
      induction l with
      | nil => simp
      | cons a l ih => rw [List.flatMap_cons, List.length_append, ih, List.length_map, List.length_range, List.length_cons, Nat.add_mul]; omega
    rw [placesL, this, placesL_len e k, Nat.pow_succ]
theorem mem_placesL {e : Nat} : ∀ {k : Nat} {p : List Nat}, p ∈ placesL e k ↔ p.length = k ∧ ∀ i ∈ p, i < e
  | 0, p => by
    rw [placesL, List.mem_singleton]
    constructor
    · intro h; subst h; simp
    · intro h; exact List.length_eq_zero_iff.mp h.1
  | k + 1, p => by
    rw [placesL, List.mem_flatMap]
    constructor
    · rintro ⟨q, hq, hp⟩
      obtain ⟨i, hi, rfl⟩ := List.mem_map.mp hp
      have := (mem_placesL (k := k)).mp hq
      refine ⟨by rw [List.length_append, List.length_singleton, this.1], fun j hj => ?_⟩
      rcases List.mem_append.mp hj with z | z
      · exact this.2 j z
      · rw [List.mem_singleton.mp z]; exact List.mem_range.mp hi
    · rintro ⟨hl, hi⟩
      have hne : p ≠ [] := fun h => by subst h; simp at hl
      refine ⟨p.dropLast, (mem_placesL (k := k)).mpr ⟨by rw [List.length_dropLast, hl]; rfl, fun j hj => hi j (List.dropLast_subset p hj)⟩, ?_⟩
      refine List.mem_map.mpr ⟨p.getLast hne, List.mem_range.mpr (hi _ (List.getLast_mem hne)), ?_⟩
      exact List.dropLast_concat_getLast hne
theorem places_for {X : Option D} {Y : Option D} {e : Nat} (he : e ≤ 16) (hX : X = some (.int (e : Int))) : ∀ (ps : List (List Nat)) (acc : List D) (o : Option D), acc.length + ps.length * e ≤ 5000 → (∀ p ∈ ps, p.length ≤ 3) →
    ∃ o', L2.forM (dN 3) (sExt 2 (eLC [none, some 3] (iRng (aCons (gv 0) aNil)) (dN 0) bAll (eBin dAddT (gv 1) (eTup (aCons (gv 0) aNil))))) (ps.map tupD) [X, Y, some (.lst acc), o] = some (.nx [X, Y, some (.lst (acc ++ (ps.flatMap fun p => (List.range e).map fun i => p ++ [i]).map tupD)), o'])
  | [], acc, o, _, _ => ⟨o, by simp only [List.map_nil, List.flatMap_nil, List.append_nil]; rfl⟩
  | p :: ps, acc, o, hl, h3 => by
    subst hX
    have e1 : eLC [none, some 3] (iRng (aCons (gv 0) aNil)) (dN 0) bAll (eBin dAddT (gv 1) (eTup (aCons (gv 0) aNil))) [some (.int (e : Int)), Y, some (.lst acc), some (tupD p)] = some (.lst (((List.range e).map fun i => p ++ [i]).map tupD)) := by
      rw [List.map_map]
      refine lc_big (fun (k : Nat) => D.int (k : Int)) (fun i => tupD (p ++ [i])) (as := List.range e) (by rw [← rngD_range]; exact rng1 (by omega) rfl) (by rw [List.length_range]; exact lim_1000 (by omega)) fun i hi => ⟨_, rfl, rfl, ?_⟩
      refine ex_bin (x := tupD p) (y := .tup [.int (i : Int)]) rfl (by unfold eTup; rw [ax_cons (d := .int (i : Int)) (ds := []) rfl rfl, Option.bind_s, if_pos (lim_ge rfl)]) ?_
      have hp := h3 p List.mem_cons_self
      show (if (natsD p).length + 1 ≤ lim then some (D.tup (natsD p ++ [D.int (i : Int)])) else none) = _
      rw [if_pos (lim_1000 (by unfold natsD; rw [List.length_map]; omega))]
      unfold tupD natsD
      rw [List.map_append]; rfl
    rw [List.length_cons, Nat.add_mul] at hl
    have hle : (((List.range e).map fun i => p ++ [i]).map tupD).length = e := by rw [List.length_map, List.length_map, List.length_range]
    obtain ⟨o', ih⟩ := places_for (X := some (.int (e : Int))) (Y := Y) he rfl ps (acc ++ ((List.range e).map fun i => p ++ [i]).map tupD) (some (tupD p)) (by rw [List.length_append, hle]; omega) fun q hq => h3 q (List.mem_cons_of_mem _ hq)
    refine ⟨o', ?_⟩
    rw [List.map_cons]
    refine st_forC (e1 := [some (.int (e : Int)), Y, some (.lst acc), some (tupD p)]) rfl (st_ext rfl e1 (by rw [hle, lim_eq]; omega)) ?_
    rw [List.flatMap_cons, List.map_append, ← List.append_assoc]
    exact ih
theorem e_places_below {e : Nat} (he : e ≤ 16) : ∀ (fuel k : Nat), k < fuel → k ≤ 3 → mr_places_below fuel [.int (e : Int), .int (k : Int)] = some (.lst ((placesL e k).map tupD))
  | 0, k, h, _ => by omega
  | fuel + 1, 0, _, _ => by
    refine st_fn (st_seqR (st_ift (by rfl) (st_ret ?_))) rfl
    kernel_rfl
  | fuel + 1, k + 1, h, h3 => by
    have ih := e_places_below he fuel k (by omega) (by omega)
    have hk : e ^ (k + 1) ≤ 16 ^ 3 := Nat.le_trans (Nat.pow_le_pow_left he _) (Nat.pow_le_pow_right (by decide) (by omega))
    have hpl := placesL_len e k
    obtain ⟨o', hf⟩ := places_for (X := some (.int (e : Int))) (Y := some (.int ((k + 1 : Nat) : Int))) he rfl (placesL e k) [] none (by rw [hpl, List.length_nil]; have : e ^ k * e = e ^ (k + 1) := (Nat.pow_succ ..).symm; omega) fun p hp => by have := (mem_placesL.mp hp).1; omega
    have hi : iSeq (eCall 2 (mr_places_below fuel) (aCons (gv 0) (aCons (eBin dSub (gv 1) (dc (.int 1))) aNil))) [some (.int (e : Int)), some (.int ((k + 1 : Nat) : Int)), some (.lst []), none] = some ((placesL e k).map tupD) := by
      have e1 : eCall 2 (mr_places_below fuel) (aCons (gv 0) (aCons (eBin dSub (gv 1) (dc (.int 1))) aNil)) [some (.int (e : Int)), some (.int ((k + 1 : Nat) : Int)), some (.lst []), none] = some (.lst ((placesL e k).map tupD)) := by
        refine ex_call (ds := [.int (e : Int), .int (k : Int)]) (ax_cons rfl (ax_cons (ex_bin (x := .int ((k + 1 : Nat) : Int)) (y := .int 1) rfl rfl ?_) rfl)) rfl ih
        show some (D.int (((k + 1 : Nat) : Int) - 1)) = _
        congr 2
        omega
      unfold iSeq
      rw [e1]; rfl
    refine st_fn (st_seq (st_iff (bt_of (ex_bin (x := .int ((k + 1 : Nat) : Int)) (y := .int 0) rfl rfl ?_)) rfl) (st_seq (st_set (d := .lst []) rfl) (st_seq (st_for hi hf) (st_ret ?_)))) rfl
    · show some (D.bl (((k + 1 : Nat) : Int) == 0)) = _
      rw [show (((k + 1 : Nat) : Int) == 0) = false by rw [beq_eq_false_iff_ne]; omega]
    · show some (D.lst ([] ++ _)) = _
      rw [List.nil_append, placesL]
theorem natsD_mem {p : List Nat} {l : Nat} : ((natsD p).any fun y => deq y (.int (l : Int))) = p.contains l := by
  induction p with
  | nil => rfl
  | cons a p ih =>
    show (deq (.int (a : Int)) (.int (l : Int)) || (natsD p).any _) = _
    rw [ih, List.contains_cons]
    congr 1
    simp only [deq]
    rw [Bool.eq_iff_iff]
    simp only [beq_iff_eq]
    omega
theorem natsD_dep {p : List Nat} : ((natsD p).all fun e => decide (dep e ≤ 60)) = true := by
  induction p with
  | nil => rfl
  | cons a p ih =>
    show (decide (dep (.int (a : Int)) ≤ 60) && (natsD p).all _) = true
    rw [ih]; simp [dep]
noncomputable def upL (last k : Nat) : List (List Nat) := (placesL (last + 1) k).filter fun p => p.contains last
theorem e_places_up_to {last k : Nat} (hl : last < 16) (hk : k ≤ 3) : m_places_up_to [.int (last : Int), .int (k : Int)] = some (.lst ((upL last k).map tupD)) := by
  have hb : m_places_below [.int ((last + 1 : Nat) : Int), .int (k : Int)] = some (.lst ((placesL (last + 1) k).map tupD)) := e_places_below (by omega) 40 k (by omega) hk
  have hp : (last + 1) ^ k ≤ 16 ^ 3 := Nat.le_trans (Nat.pow_le_pow_left (by omega) _) (Nat.pow_le_pow_right (by decide) hk)
  have hi : iSeq (eCall 2 m_places_below (aCons (eBin dAdd (gv 0) (dc (.int 1))) (aCons (gv 1) aNil))) [some (.int (last : Int)), some (.int (k : Int))] = some ((placesL (last + 1) k).map tupD) := by
    have e1 : eCall 2 m_places_below (aCons (eBin dAdd (gv 0) (dc (.int 1))) (aCons (gv 1) aNil)) [some (.int (last : Int)), some (.int (k : Int))] = some (.lst ((placesL (last + 1) k).map tupD)) :=
      ex_call (ds := [.int ((last + 1 : Nat) : Int), .int (k : Int)]) (ax_cons (ex_bin (x := .int (last : Int)) (y := .int 1) rfl rfl rfl) (ax_cons rfl rfl)) rfl hb
    unfold iSeq
    rw [e1]; rfl
  refine st_fn (st_ret (lc_fil tupD tupD (fun p => p.contains last) hi (by rw [placesL_len, lim_eq]; omega) fun p _ => ⟨_, rfl, bt_of (ex_bin (x := .int (last : Int)) (y := tupD p) rfl rfl ?_), rfl⟩)) rfl
  show (dInBD (.int (last : Int)) (tupD p)).bind _ = _
  unfold tupD dInBD
  dsimp only
  rw [if_pos natsD_dep, Option.bind_s, natsD_mem]
noncomputable def tupB (t : List Bool) : D := .tup (t.map D.bl)
noncomputable def appB (bs : List Bool) (ts : List (List Bool)) : List Bool := (List.range 4).map fun r => bs.getD (rowN (colB ts r)) false
theorem appB_len (bs : List Bool) (ts : List (List Bool)) : (appB bs ts).length = 4 := by unfold appB; rw [List.length_map, List.length_range]
theorem at_tupB {t : List Bool} {k : Nat} (h : k < t.length) : dIx (tupB t) (.int (k : Int)) = some (.bl (t.getD k false)) := by
  show atI (t.map D.bl) (k : Int) = _
  exact dat_nat (by rw [List.getElem?_map, List.getElem?_eq_getElem h, List.getD_eq_getElem?_getD, List.getElem?_eq_getElem h]; rfl)
theorem at_tabs {T : List (List Bool)} {k : Nat} (h : k < T.length) : dIx (.lst (T.map tupB)) (.int (k : Int)) = some (tupB (T.getD k [])) := by
  show atI (T.map tupB) (k : Int) = _
  exact dat_nat (by rw [List.getElem?_map, List.getElem?_eq_getElem h, List.getD_eq_getElem?_getD, List.getElem?_eq_getElem h]; rfl)
theorem e_answers_tup {bs : List Bool} {ts : List (List Bool)} (h1 : 1 ≤ ts.length) (h3 : ts.length ≤ 3) (hb : bs.length = 2 ^ ts.length) (ht : ∀ t ∈ ts, t.length = 4) :
    m_answers_to [gD bs, .lst (ts.map tupB)] = some (gD (appB bs ts)) := by
  obtain ⟨t0, h0⟩ : ∃ t0, ts[0]? = some t0 := ⟨ts[0], List.getElem?_eq_getElem (by omega)⟩
  have ht0 : t0.length = 4 := ht t0 (List.mem_of_getElem? h0)
  have hr : iRng (aCons (eCB gLen (aCons (eBin dIx (gv 1) (dc (.int 0))) aNil)) aNil) [some (gD bs), some (.lst (ts.map tupB)), some (.lst []), none] = some (rngD 0 4) := by
    refine rng1 (by decide) ?_
    rw [← ht0]
    refine ex_cb (ax_cons (ex_bin (y := .int 0) rfl rfl (at_tabs (k := 0) (by omega))) rfl) ?_
    rw [List.getD_eq_getElem?_getD, h0]
    simp only [gLen, tupB, List.length_map, Option.getD_some]
  rw [rngD_range] at hr
  obtain ⟨o', hf⟩ := for_app (g := dN 3) (i := 2) (fe := eBin dIx (gv 0) (eCall 1 m_row_of (aCons (eLC [none, some 3] (iSeq (gv 1)) (dN 0) bAll (eBin dIx (gv 0) (gv 1))) aNil)))
    (fun acc o => [some (gD bs), some (.lst (ts.map tupB)), some (.lst acc), o]) (fun (k : Nat) => D.int (k : Int)) (fun r => D.bl (bs.getD (rowN (colB ts r)) false)) (fun _ _ => rfl) (fun _ _ _ => rfl) (fun _ _ _ => rfl) (List.range 4) (fun r hr acc => by
      have hrn : r < 4 := List.mem_range.mp hr
      have e1 : eLC [none, some 3] (iSeq (gv 1)) (dN 0) bAll (eBin dIx (gv 0) (gv 1)) [some (gD bs), some (.lst (ts.map tupB)), some (.lst acc), some (.int (r : Int))] = some (gD (colB ts r)) := by
        have := lc_of (mp := [none, some 3]) (fi := iSeq (gv 1)) (g := dN 0) (c := bAll) (fe := eBin dIx (gv 0) (gv 1)) (env := [some (gD bs), some (.lst (ts.map tupB)), some (.lst acc), some (.int (r : Int))]) tupB (fun t => D.bl (t.getD r false)) (as := ts) (seq_gv rfl) (by omega) fun t htm =>
          ⟨_, rfl, rfl, ex_bin rfl rfl (at_tupB (by rw [ht t htm]; exact hrn))⟩
        rw [this]
        unfold gD colB
        rw [List.map_map]; rfl
      refine ex_bin rfl (ex_call (ax_cons e1 rfl) rfl (e_row_of (by rw [colB_len]; omega))) (at_bl ?_)
      rw [hb, ← colB_len ts r]
      exact rowN_lt _) [] none (by rw [List.length_range]; simp)
  refine st_fn (st_seq (st_set (d := .lst []) rfl) (st_seq (st_for hr hf) (st_ret ?_))) rfl
  show some (D.lst ([] ++ _)) = _
  unfold gD appB
  rw [List.nil_append, List.map_map]; rfl
theorem rowsD_ok {T : List (List Bool)} : ∀ {p : List Nat}, (∀ i ∈ p, i < T.length) → rowsD (T.map tupB) (natsD p) = some ((p.map fun i => T.getD i []).map tupB)
  | [], _ => rfl
  | i :: p, h => by
    have ih := rowsD_ok (T := T) (p := p) fun j hj => h j (List.mem_cons_of_mem _ hj)
    show ((dIx (.lst (T.map tupB)) (.int (i : Int))).bind fun x => (rowsD (T.map tupB) (natsD p)).bind fun xs => some (x :: xs)) = _
    rw [at_tabs (h i List.mem_cons_self), Option.bind_s, ih, Option.bind_s]; rfl
theorem deqs_bl : ∀ a b : List Bool, deqs (a.map D.bl) (b.map D.bl) = (a == b)
  | [], [] => rfl
  | [], _ :: _ => rfl
  | _ :: _, [] => rfl
  | x :: a, y :: b => by
    show (deq (.bl x) (.bl y) && deqs (a.map D.bl) (b.map D.bl)) = _
    rw [deqs_bl a b]
    simp only [deq]
    rfl
theorem any_tab (f : List Bool → D) (hf : ∀ s t, deq (f s) (f t) = (s == t)) (t : List Bool) : ∀ T : List (List Bool), ((T.map f).any fun y => deq y (f t)) = T.contains t
  | [] => rfl
  | s :: T => by
    show (deq (f s) (f t) || (T.map f).any _) = _
    rw [any_tab f hf t T, hf, List.contains_cons]
    congr 1
    rw [Bool.eq_iff_iff]
    simp only [beq_iff_eq]
    exact eq_comm
theorem all_dep (f : List Bool → D) (hf : ∀ s, dep (f s) ≤ 60) : ∀ T : List (List Bool), ((T.map f).all fun e => decide (dep e ≤ 60)) = true
  | [] => rfl
  | s :: T => by
    show (decide (dep (f s) ≤ 60) && (T.map f).all _) = true
    rw [all_dep f hf T, decide_eq_true (hf s)]; rfl
theorem dep_tupB (t : List Bool) : dep (tupB t) ≤ 60 := by
  unfold tupB
  simp only [dep, deps_map_bl]
  decide
theorem in_tabs (t : List Bool) (T : List (List Bool)) : dInBD (tupB t) (.lst (T.map tupB)) = some (T.contains t) := by
  unfold dInBD
  dsimp only
  rw [if_pos (all_dep tupB dep_tupB T), any_tab tupB (fun s t => by unfold tupB; simp only [deq]; exact deqs_bl s t) t T]
noncomputable def xB : List Bool := [false, true, false, true]
noncomputable def yB : List Bool := [false, false, true, true]
inductive CloB (gs : List (List Bool)) : List Bool → Prop
  | x : CloB gs xB
  | y : CloB gs yB
  | app {g : Nat} {bs : List Bool} {ts : List (List Bool)} : gs[g]? = some bs → bs.length = 2 ^ ts.length → 1 ≤ ts.length → ts.length ≤ 3 → (∀ t ∈ ts, CloB gs t) → CloB gs (appB bs ts)
theorem CloB.len {gs : List (List Bool)} {t : List Bool} (h : CloB gs t) : t.length = 4 := by
  cases h with
  | x => rfl
  | y => rfl
  | app => exact appB_len _ _
noncomputable abbrev MSt := List (List Bool) × List D
noncomputable def stepB (gs : List (List Bool)) (g : Nat) (p : List Nat) (st : MSt) : MSt :=
  if st.1.contains (appB (gs.getD g []) (p.map fun i => st.1.getD i [])) then st else (st.1 ++ [appB (gs.getD g []) (p.map fun i => st.1.getD i [])], st.2 ++ [.tup [.str "gate", .int (g : Int), tupD p]])
structure Val (gs : List (List Bool)) (g : Nat) (p : List Nat) (n : Nat) : Prop where
  g : ∃ bs, gs[g]? = some bs ∧ bs.length = 2 ^ p.length
  l1 : 1 ≤ p.length
  l3 : p.length ≤ 3
  lt : ∀ i ∈ p, i < n
theorem Val.mono {gs : List (List Bool)} {g : Nat} {p : List Nat} {n m : Nat} (h : Val gs g p n) (hm : n ≤ m) : Val gs g p m := ⟨h.g, h.l1, h.l3, fun i hi => Nat.lt_of_lt_of_le (h.lt i hi) hm⟩
noncomputable def StepIs (gs : List (List Bool)) (T : List (List Bool)) (i : Nat) (s : D) : Prop := (i = 0 ∧ s = .tup [.str "in", .int 0]) ∨ (i = 1 ∧ s = .tup [.str "in", .int 1]) ∨
  ∃ (g : Nat) (p : List Nat), s = .tup [.str "gate", .int (g : Int), tupD p] ∧ Val gs g p i ∧ T[i]? = some (appB (gs.getD g []) (p.map fun q => T.getD q []))
structure MOk (gs : List (List Bool)) (st : MSt) : Prop where
  nd : st.1.Nodup
  clo : ∀ t ∈ st.1, CloB gs t
  x : st.1[0]? = some xB
  y : st.1[1]? = some yB
  len : st.2.length = st.1.length
  stp : ∀ i s, st.2[i]? = some s → StepIs gs st.1 i s
theorem sub_le {α : Type} [DecidableEq α] : ∀ {l m : List α}, l.Nodup → (∀ a ∈ l, a ∈ m) → l.length ≤ m.length
  | [], m, _, _ => Nat.zero_le _
  | a :: l, m, nd, h => by
    have nd' := List.nodup_cons.mp nd
    have ha := h a List.mem_cons_self
    have : l.length ≤ (m.erase a).length := sub_le nd'.2 fun b hb => by
      have hne : b ≠ a := fun e => nd'.1 (e ▸ hb)
      exact (List.mem_erase_of_ne hne).mpr (h b (List.mem_cons_of_mem _ hb))
    rw [List.length_erase_of_mem ha] at this
    have hp : 0 < m.length := List.length_pos_of_mem ha
    rw [List.length_cons]
    omega
theorem MOk.le {gs : List (List Bool)} {st : MSt} (h : MOk gs st) : st.1.length ≤ 16 := by
  have : st.1.length ≤ (allB 4).length := sub_le h.nd fun t ht => by
    have := mem_allB t
    rw [(h.clo t ht).len] at this
    exact this
  have e : (allB 4).length = 16 := by decide
  omega
noncomputable def Pre (st st' : MSt) : Prop := ∃ ex, st'.1 = st.1 ++ ex
theorem Pre.refl (st : MSt) : Pre st st := ⟨[], by rw [List.append_nil]⟩
theorem Pre.trans {a b c : MSt} : Pre a b → Pre b c → Pre a c := fun ⟨x, hx⟩ ⟨y, hy⟩ => ⟨x ++ y, by rw [hy, hx, List.append_assoc]⟩
theorem Pre.len {a b : MSt} : Pre a b → a.1.length ≤ b.1.length := fun ⟨x, hx⟩ => by rw [hx, List.length_append]; omega
theorem Pre.get {a b : MSt} {i : Nat} (h : Pre a b) (hi : i < a.1.length) : b.1.getD i [] = a.1.getD i [] := by
  obtain ⟨x, hx⟩ := h
  rw [hx, List.getD_eq_getElem?_getD, List.getD_eq_getElem?_getD, List.getElem?_append_left hi]
noncomputable def Has (gs : List (List Bool)) (g : Nat) (p : List Nat) (st : MSt) : Prop := appB (gs.getD g []) (p.map fun i => st.1.getD i []) ∈ st.1
theorem Has.mono {gs : List (List Bool)} {g : Nat} {p : List Nat} {a b : MSt} (h : Has gs g p a) (pr : Pre a b) (hp : ∀ i ∈ p, i < a.1.length) : Has gs g p b := by
  unfold Has at h ⊢
  rw [List.map_congr_left fun i hi => pr.get (hp i hi)]
  obtain ⟨x, hx⟩ := pr
  rw [hx]
  exact List.mem_append_left _ h
theorem step_ok {gs : List (List Bool)} {g : Nat} {p : List Nat} {st : MSt} (h : MOk gs st) (v : Val gs g p st.1.length) :
    stepD (gsD gs) (g : Int) (natsD p) (st.1.map tupB) st.2 = some ((stepB gs g p st).1.map tupB, (stepB gs g p st).2) ∧ MOk gs (stepB gs g p st) ∧ Pre st (stepB gs g p st) ∧ Has gs g p (stepB gs g p st) := by
  obtain ⟨bs, hg, hb⟩ := v.g
  have hgd : gs.getD g [] = bs := by rw [List.getD_eq_getElem?_getD, hg]; rfl
  have hle := h.le
  have hrow : ∀ t ∈ (p.map fun i => st.1.getD i []), t ∈ st.1 := fun t ht => by
    obtain ⟨i, hi, rfl⟩ := List.mem_map.mp ht
    have := v.lt i hi
    rw [List.getD_eq_getElem?_getD, List.getElem?_eq_getElem this]
    exact List.getElem_mem this
  have ea := e_answers_tup (bs := bs) (ts := p.map fun i => st.1.getD i []) (by rw [List.length_map]; exact v.l1) (by rw [List.length_map]; exact v.l3) (by rw [List.length_map]; exact hb) fun t ht => (h.clo t (hrow t ht)).len
  have es : stepD (gsD gs) (g : Int) (natsD p) (st.1.map tupB) st.2 = some ((stepB gs g p st).1.map tupB, (stepB gs g p st).2) := by
    unfold stepD stepB
    rw [if_pos (lim_1000 (by unfold natsD; rw [List.length_map]; have := v.l3; omega)), at_gs hg, Option.bind_s, rowsD_ok v.lt, Option.bind_s, ea, Option.bind_s, hgd]
    show ((dInBD (tupB (appB bs (p.map fun i => st.1.getD i []))) (.lst (st.1.map tupB))).bind _) = _
    rw [in_tabs, Option.bind_s]
    cases hc : st.1.contains (appB bs (p.map fun i => st.1.getD i [])) with
    | true => rw [if_pos rfl, if_pos rfl]
    | false =>
      rw [if_neg Bool.false_ne_true, if_neg Bool.false_ne_true, if_pos ⟨by rw [List.length_map]; exact lim_1000' (by omega), by rw [h.len]; exact lim_1000' (by omega)⟩]
      rw [List.map_append]; rfl
  refine ⟨es, ?_⟩
  unfold stepB
  rw [hgd]
  cases hc : st.1.contains (appB bs (p.map fun i => st.1.getD i [])) with
  | true =>
    rw [if_pos rfl]
    refine ⟨h, Pre.refl _, ?_⟩
    unfold Has
    rw [hgd]
    exact List.contains_iff_mem.mp hc
  | false =>
    rw [if_neg Bool.false_ne_true]
    have hn : appB bs (p.map fun i => st.1.getD i []) ∉ st.1 := fun z => by
      rw [List.contains_iff_mem.mpr z] at hc; cases hc
    have pr : Pre st (st.1 ++ [appB bs (p.map fun i => st.1.getD i [])], st.2 ++ [.tup [.str "gate", .int (g : Int), tupD p]]) := ⟨_, rfl⟩
    have l2 : 2 ≤ st.1.length := (List.getElem?_eq_some_iff.mp h.y).1
    refine ⟨⟨?_, fun t ht => ?_, ?_, ?_, ?_, fun i s hs => ?_⟩, pr, ?_⟩
    · show (st.1 ++ [_]).Nodup
      rw [List.nodup_append]
      exact ⟨h.nd, by simp, fun a ha b hb => by rw [List.mem_singleton.mp hb]; exact fun e => hn (e ▸ ha)⟩
    · rcases List.mem_append.mp ht with z | z
      · exact h.clo t z
      · rw [List.mem_singleton.mp z]
        exact .app hg (by rw [List.length_map]; exact hb) (by rw [List.length_map]; exact v.l1) (by rw [List.length_map]; exact v.l3) fun t ht => h.clo t (hrow t ht)
    · show (st.1 ++ [_])[0]? = _
      rw [List.getElem?_append_left (by omega)]; exact h.x
    · show (st.1 ++ [_])[1]? = _
      rw [List.getElem?_append_left (by omega)]; exact h.y
    · show (st.2 ++ [_]).length = (st.1 ++ [_]).length
      rw [List.length_append, List.length_append, h.len]; rfl
    · have hs' : (st.2 ++ [D.tup [.str "gate", .int (g : Int), tupD p]])[i]? = some s := hs
      show StepIs gs (st.1 ++ [appB bs (p.map fun i => st.1.getD i [])]) i s
      by_cases hi : i < st.2.length
      · rw [List.getElem?_append_left hi] at hs'
        rw [h.len] at hi
        rcases h.stp i s hs' with z | z | ⟨g', p', z1, z2, z3⟩
        · exact .inl z
        · exact .inr (.inl z)
        · refine .inr (.inr ⟨g', p', z1, z2, ?_⟩)
          rw [List.getElem?_append_left hi, z3]
          congr 2
          refine List.map_congr_left fun q hq => ?_
          exact (pr.get (Nat.lt_trans (z2.lt q hq) hi)).symm
      · rw [List.getElem?_append_right (by omega)] at hs'
        have hi0 : i = st.2.length := by
          cases hz : i - st.2.length with
          | zero => omega
          | succ n => rw [hz] at hs'; simp at hs'
        subst hi0
        rw [Nat.sub_self] at hs'
        cases hs'
        refine .inr (.inr ⟨g, p, rfl, by rw [h.len]; exact v, ?_⟩)
        rw [h.len, List.getElem?_append_right (Nat.le_refl _), Nat.sub_self, hgd]
        show some _ = some _
        congr 2
        exact (List.map_congr_left fun q hq => pr.get (v.lt q hq)).symm
    · unfold Has
      rw [hgd, List.map_congr_left fun i hi => pr.get (v.lt i hi)]
      exact List.mem_append_right _ (List.mem_singleton.mpr rfl)
noncomputable def stepsB (gs : List (List Bool)) (g : Nat) (ps : List (List Nat)) (st : MSt) : MSt := ps.foldl (fun st p => stepB gs g p st) st
theorem steps_ok {gs : List (List Bool)} {g : Nat} : ∀ (ps : List (List Nat)) (st : MSt), MOk gs st → (∀ p ∈ ps, Val gs g p st.1.length) →
    stepsD (gsD gs) (g : Int) (ps.map tupD) (st.1.map tupB, st.2) = some ((stepsB gs g ps st).1.map tupB, (stepsB gs g ps st).2) ∧ MOk gs (stepsB gs g ps st) ∧ Pre st (stepsB gs g ps st) ∧ ∀ p ∈ ps, Has gs g p (stepsB gs g ps st)
  | [], st, h, _ => ⟨rfl, h, Pre.refl _, fun p hp => nomatch hp⟩
  | p :: ps, st, h, v => by
    obtain ⟨e1, h1, p1, a1⟩ := step_ok h (v p List.mem_cons_self)
    obtain ⟨e2, h2, p2, a2⟩ := steps_ok ps (stepB gs g p st) h1 fun q hq => (v q (List.mem_cons_of_mem _ hq)).mono p1.len
    refine ⟨?_, h2, p1.trans p2, fun q hq => ?_⟩
    · show (stepD (gsD gs) (g : Int) (natsD p) (st.1.map tupB) st.2).bind _ = _
      rw [e1, Option.bind_s]
      exact e2
    · rcases List.mem_cons.mp hq with z | z
      · rw [z]
        exact a1.mono p2 fun i hi => Nat.lt_of_lt_of_le ((v p List.mem_cons_self).lt i hi) p1.len
      · exact a2 q z
noncomputable def upB (gs : List (List Bool)) (last : Nat) : Nat → List (List Bool) → MSt → MSt
  | _, [], st => st
  | k, bs :: r, st => upB gs last (k + 1) r (stepsB gs k (upL last (wideN bs.length)) st)
theorem up_val {gs : List (List Bool)} {k last n : Nat} {bs : List Bool} (hg : gs[k]? = some bs) (hL : L248 bs.length) (hn : last < n) {p : List Nat} (hp : p ∈ upL last (wideN bs.length)) : Val gs k p n := by
  have hw := wide_ok hL
  obtain ⟨h1, h2⟩ := mem_placesL.mp (List.mem_filter.mp hp).1
  exact ⟨⟨bs, hg, by rw [h1]; exact hw.2.2.symm⟩, by omega, by omega, fun i hi => by have := h2 i hi; omega⟩
theorem up_ok {gs : List (List Bool)} (hgs : okGs gs) {last : Nat} (hl : last < 16) : ∀ (rest : List (List Bool)) (k : Nat) (st : MSt), gs.drop k = rest → MOk gs st → last < st.1.length →
    upD (gsD gs) (last : Int) k (rest.map gD) (st.1.map tupB, st.2) = some ((upB gs last k rest st).1.map tupB, (upB gs last k rest st).2) ∧ MOk gs (upB gs last k rest st) ∧ Pre st (upB gs last k rest st) ∧
    ∀ j bs, k ≤ j → gs[j]? = some bs → ∀ p ∈ upL last (wideN bs.length), Has gs j p (upB gs last k rest st)
  | [], k, st, hd, h, _ => by
    refine ⟨rfl, h, Pre.refl _, fun j bs hj e => ?_⟩
    have : gs.length ≤ k := List.drop_eq_nil_iff.mp hd
    rw [List.getElem?_eq_none (by omega)] at e
    cases e
  | bs :: rest, k, st, hd, h, hlt => by
    have hk : gs[k]? = some bs := by
      have : (gs.drop k)[0]? = some bs := by rw [hd]; rfl
      rw [List.getElem?_drop] at this
      simpa using this
    have hd' : gs.drop (k + 1) = rest := by
      have : (gs.drop k).drop 1 = rest := by rw [hd]; rfl
      rw [List.drop_drop] at this
      exact this
    have hL := hgs.2.2 bs (List.mem_of_getElem? hk)
    have hw := wide_ok hL
    obtain ⟨e1, h1, p1, a1⟩ := steps_ok (gs := gs) (g := k) (upL last (wideN bs.length)) st h fun p hp => up_val hk hL hlt hp
    obtain ⟨e2, h2, p2, a2⟩ := up_ok hgs hl rest (k + 1) (stepsB gs k (upL last (wideN bs.length)) st) hd' h1 (Nat.lt_of_lt_of_le hlt p1.len)
    refine ⟨?_, h2, p1.trans p2, fun j cs hj e p hp => ?_⟩
    · rw [List.map_cons]
      show (m_inputs_of [gD bs]).bind _ = _
      rw [e_inputs_of hL, Option.bind_s, e_places_up_to hl hw.2.1, Option.bind_s]
      show (stepsD (gsD gs) (k : Int) _ _).bind _ = _
      rw [e1, Option.bind_s]
      exact e2
    · by_cases hjk : j = k
      · subst hjk
        rw [hk] at e
        cases e
        exact (a1 p hp).mono p2 fun i hi => Nat.lt_of_lt_of_le ((up_val hk hL hlt hp).lt i hi) p1.len
      · exact a2 j cs (by omega) e p hp
noncomputable def Closed (gs : List (List Bool)) (last : Nat) (st : MSt) : Prop := ∀ g bs, gs[g]? = some bs → ∀ p : List Nat, p.length = wideN bs.length → (∀ i ∈ p, i < last) → Has gs g p st
theorem grow_ok {gs : List (List Bool)} (hgs : okGs gs) : ∀ (fuel last : Nat) (st : MSt), MOk gs st → Closed gs last st → last ≤ st.1.length → 17 < fuel + last →
    ∃ st' : MSt, growD (gs.map gD) fuel (last : Int) (st.1.map tupB, st.2) = some (st'.1.map tupB, st'.2) ∧ MOk gs st' ∧ (Closed gs st'.1.length st' ∨ 16 ≤ st'.1.length)
  | 0, last, st, h, _, hl, hf => by have := h.le; omega
  | fuel + 1, last, st, h, hc, hl, hf => by
    have h16 := h.le
    by_cases c : (last : Int) < ((st.1.map tupB).length : Int) ∧ ((st.1.map tupB).length : Int) < 16
    · have c1 := c
      rw [List.length_map] at c1
      obtain ⟨e1, h1, p1, a1⟩ := up_ok hgs (last := last) (by omega) gs 0 st rfl h (by omega)
      have hc' : Closed gs (last + 1) (upB gs last 0 gs st) := fun g bs hg p hp hi => by
        by_cases hm : last ∈ p
        · refine a1 g bs (Nat.zero_le _) hg p (List.mem_filter.mpr ⟨mem_placesL.mpr ⟨hp, hi⟩, List.contains_iff_mem.mpr hm⟩)
        · exact (hc g bs hg p hp fun i hi' => by
            have := hi i hi'
            have : i ≠ last := fun e => hm (e ▸ hi')
            omega).mono p1 fun i hi' => by
            have := hi i hi'
            omega
      have := p1.len
      obtain ⟨st', e2, r⟩ := grow_ok hgs fuel (last + 1) (upB gs last 0 gs st) h1 hc' (by omega) (by omega)
      refine ⟨st', ?_, r⟩
      simp only [growD]
      rw [if_pos c]
      show (upD (gsD gs) (last : Int) 0 (gs.map gD) (st.1.map tupB, st.2)).bind _ = _
      rw [e1, Option.bind_s]
      exact e2
    · refine ⟨st, ?_, h, ?_⟩
      · simp only [growD]
        rw [if_neg c]
      · rw [List.length_map] at c
        by_cases c2 : last < st.1.length
        · exact .inr (by omega)
        · have : st.1.length = last := by omega
          rw [this]
          exact .inl hc
theorem all16 {gs : List (List Bool)} {st : MSt} (h : MOk gs st) (hl : 16 ≤ st.1.length) {t : List Bool} (ht : t.length = 4) : t ∈ st.1 := by
  by_cases hm : t ∈ st.1
  · exact hm
  · exfalso
    have : (t :: st.1).length ≤ (allB 4).length := sub_le (List.nodup_cons.mpr ⟨hm, h.nd⟩) fun s hs => by
      have hs4 : s.length = 4 := by
        rcases List.mem_cons.mp hs with z | z
        · rw [z]; exact ht
        · exact (h.clo s z).len
      have := mem_allB s
      rw [hs4] at this
      exact this
    have e : (allB 4).length = 16 := by decide
    rw [List.length_cons] at this
    omega
theorem mks_ok {gs : List (List Bool)} (hgs : okGs gs) : ∃ st : MSt, mksD (gsD gs) = some (st.1.map tupB, st.2) ∧ MOk gs st ∧ ∀ (g : Nat) (bs : List Bool), gs[g]? = some bs → ∀ ts : List (List Bool), ts.length = wideN bs.length → (∀ t ∈ ts, t ∈ st.1) → appB bs ts ∈ st.1 := by
  have h0 : MOk gs ([xB, yB], ss0) := ⟨by decide, fun t ht => by
    rcases List.mem_cons.mp ht with z | z
    · rw [z]; exact .x
    · rw [List.mem_singleton.mp z]; exact .y, rfl, rfl, rfl, fun i s hs => by
      match i, hs with
      | 0, hs => cases hs; exact .inl ⟨rfl, rfl⟩
      | 1, hs => cases hs; exact .inr (.inl ⟨rfl, rfl⟩)
      | i + 2, hs => simp [ss0] at hs⟩
  have hc0 : Closed gs 0 ([xB, yB], ss0) := fun g bs hg p hp hi => by
    exfalso
    have hw := wide_ok (hgs.2.2 bs (List.mem_of_getElem? hg))
    cases p with
    | nil => rw [← hp] at hw; simp at hw
    | cons a p => exact absurd (hi a List.mem_cons_self) (by omega)
  obtain ⟨st, e, h, hc⟩ := grow_ok hgs 100 0 ([xB, yB], ss0) h0 hc0 (by decide) (by decide)
  refine ⟨st, e, h, fun g bs hg ts hts hm => ?_⟩
  rcases hc with hc | hc
  · have hp := hc g bs hg (ts.map fun t => st.1.idxOf t) (by rw [List.length_map]; exact hts) fun i hi => by
      obtain ⟨t, ht, rfl⟩ := List.mem_map.mp hi
      exact List.idxOf_lt_length_of_mem (hm t ht)
    unfold Has at hp
    rw [List.map_map, show gs.getD g [] = bs by rw [List.getD_eq_getElem?_getD, hg]; rfl] at hp
    have : ts.map ((fun i => st.1.getD i []) ∘ fun t => st.1.idxOf t) = ts := by
      refine (List.map_congr_left fun t ht => ?_).trans (List.map_id ts)
      have hlt := List.idxOf_lt_length_of_mem (hm t ht)
      show st.1.getD (st.1.idxOf t) [] = id t
      rw [List.getD_eq_getElem?_getD, List.getElem?_eq_getElem hlt]
      exact List.getElem_idxOf hlt
    rw [this] at hp
    exact hp
  · exact all16 h hc (appB_len _ _)
noncomputable def numB (t : List Bool) : Nat := t.foldl (fun n b => 2 * n + (if b then 1 else 0)) 0
theorem lex_num : ∀ x ∈ allB 4, ∀ y ∈ allB 4, lexE x y = decide (numB x < numB y) := by decide
theorem num_inj : ∀ x ∈ allB 4, ∀ y ∈ allB 4, numB x = numB y → x = y := by decide
theorem mem4 {t : List Bool} (h : t.length = 4) : t ∈ allB 4 := by have := mem_allB t; rw [h] at this; exact this
noncomputable def Rise (S : List (List Bool)) : Prop := S.Pairwise fun s t => numB s < numB t
theorem kas_sorted {T : List (List Bool)} (nd : T.Nodup) (h4 : ∀ t ∈ T, t.length = 4) (h2 : 2 ≤ T.length) (h16 : T.length ≤ 16) : ∃ (pm : Array Nat) (S : List (List Bool)), kEv (ltB T) (PySem.W.kas_sort T.length) = some pm ∧ pm.size = T.length ∧ S.Perm T ∧ Rise S ∧
    ∀ (f : List Bool → D), sortL D.non (T.map f) pm = S.map f := by
  have hget : ∀ i, i < T.length → T.getD i [] ∈ T := fun i hi => by
    rw [List.getD_eq_getElem?_getD, List.getElem?_eq_getElem hi]
    exact List.getElem_mem hi
  have L : LtOk (ltB T) (fun i => numB (T.getD i [])) T.length := by
    refine ⟨fun i j hi hj => ?_, fun i j hi hj e => ?_⟩
    · unfold ltB
      rw [List.getElem?_eq_getElem hi, List.getElem?_eq_getElem hj]
      dsimp only
      have a := h4 _ (List.getElem_mem hi)
      have b := h4 _ (List.getElem_mem hj)
      rw [if_pos (by rw [a, b]), lex_num _ (mem4 a) _ (mem4 b), List.getD_eq_getElem?_getD, List.getD_eq_getElem?_getD, List.getElem?_eq_getElem hi, List.getElem?_eq_getElem hj]
      rfl
    · have e' : T.getD i [] = T.getD j [] := num_inj _ (mem4 (h4 _ (hget i hi))) _ (mem4 (h4 _ (hget j hj))) e
      rw [List.getD_eq_getElem?_getD, List.getD_eq_getElem?_getD, List.getElem?_eq_getElem hi, List.getElem?_eq_getElem hj] at e'
      have e'' : T[i] = T[j] := e'
      have pw := List.pairwise_iff_getElem.mp nd
      rcases Nat.lt_trichotomy i j with q | q | q
      · exact absurd e'' (pw i j hi hj q)
      · exact q
      · exact absurd e''.symm (pw j i hj hi q)
  obtain ⟨pm, e, P, s⟩ := sort_ok L h2
  refine ⟨pm, pm.toList.map fun i => T.getD i [], e, P.size, ?_, ?_, fun f => ?_⟩
  · have h1 := P.perm.map fun i => T.getD i []
    have h2 : (List.range T.length).map (fun i => T.getD i []) = T := by
      refine List.ext_getElem (by rw [List.length_map, List.length_range]) fun i h1 h2 => ?_
      rw [List.getElem_map, List.getElem_range, List.getD_eq_getElem?_getD, List.getElem?_eq_getElem h2]; rfl
    rw [h2] at h1
    exact h1
  · unfold Rise
    rw [List.pairwise_map, List.pairwise_iff_getElem]
    intro i j hi hj hij
    have hi' : i < pm.size := by simpa using hi
    have hj' : j < pm.size := by simpa using hj
    have hup := s.up (j - i - 1) i (by rw [P.size] at hj'; omega)
    rw [show i + (j - i - 1) + 1 = j by omega] at hup
    have a : pm.getD i 0 = pm.toList[i] := by simp [Array.getD, hi']
    have b : pm.getD j 0 = pm.toList[j] := by simp [Array.getD, hj']
    unfold rkA at hup
    rw [a, b] at hup
    exact hup
  · unfold sortL
    rw [List.map_map]
    refine List.map_congr_left fun i hi => ?_
    have hlt : i < T.length := List.mem_range.mp (P.perm.mem_iff.mp hi)
    show (T.map f).getD i .non = f (T.getD i [])
    rw [List.getD_eq_getElem?_getD, List.getElem?_map, List.getElem?_eq_getElem hlt, List.getD_eq_getElem?_getD, List.getElem?_eq_getElem hlt]; rfl
theorem bools_bl : ∀ t : List Bool, bools (t.map D.bl) = some t
  | [] => rfl
  | b :: r => by simp only [List.map_cons, bools, bools_bl r, Option.bind_s]
theorem tupl_B : ∀ T : List (List Bool), (∀ t ∈ T, t.length = 4) → tupl (T.map tupB) = some T
  | [], _ => rfl
  | t :: T, h => by
    have ht := h t List.mem_cons_self
    have hne : t ≠ [] := fun e => by rw [e] at ht; simp at ht
    simp only [List.map_cons, tupB, tupl, bools_bl, Option.bind_s]
    rw [if_pos hne]
    have ih := tupl_B T fun s hs => h s (List.mem_cons_of_mem _ hs)
    rw [ih]; rfl
theorem srt_tup {T : List (List Bool)} (nd : T.Nodup) (h4 : ∀ t ∈ T, t.length = 4) (h2 : 2 ≤ T.length) (h16 : T.length ≤ 16) : ∃ S : List (List Bool), gSrt [.lst (T.map tupB)] = some (.lst (S.map tupB)) ∧ S.Perm T ∧ Rise S := by
  obtain ⟨pm, S, e, hs, hp, hr, hf⟩ := kas_sorted nd h4 h2 h16
  refine ⟨S, ?_, hp, hr⟩
  unfold gSrt
  simp only [tupl_B T h4]
  unfold gSort
  simp only [tupl_B T h4, Option.bind_s, List.length_map]
  rw [if_pos ⟨h2, by omega⟩, e, Option.bind_s, if_pos (by omega), hf]
theorem e_makable {gs : List (List Bool)} (hgs : okGs gs) : ∃ S : List (List Bool), m_makable [gsD gs] = some (gsD S) ∧ Rise S ∧ S.Nodup ∧ (∀ t ∈ S, CloB gs t) ∧ xB ∈ S ∧ yB ∈ S ∧ 2 ≤ S.length ∧ S.length ≤ 16 ∧
    ∀ (g : Nat) (bs : List Bool), gs[g]? = some bs → ∀ ts : List (List Bool), ts.length = wideN bs.length → (∀ t ∈ ts, t ∈ S) → appB bs ts ∈ S := by
  obtain ⟨st, e, h, hc⟩ := mks_ok hgs
  have l2 : 2 ≤ st.1.length := (List.getElem?_eq_some_iff.mp h.y).1
  have l16 := h.le
  have h4 : ∀ t ∈ st.1, t.length = 4 := fun t ht => (h.clo t ht).len
  obtain ⟨S, es, hp, hr⟩ := srt_tup h.nd h4 l2 l16
  have hl := hp.length_eq
  refine ⟨S, ?_, hr, hp.nodup_iff.mpr h.nd, fun t ht => h.clo t (hp.mem_iff.mp ht), hp.mem_iff.mpr (List.mem_of_getElem? h.x), hp.mem_iff.mpr (List.mem_of_getElem? h.y), by omega, by omega, fun g bs hg ts hts hm => hp.mem_iff.mpr (hc g bs hg ts hts fun t ht => hp.mem_iff.mp (hm t ht))⟩
  have e1 : eMkT (gv 0) [some (gsD gs)] = some (.lst (st.1.map tupB)) := by
    unfold eMkT
    rw [show gv 0 [some (gsD gs)] = some (gsD gs) from rfl, Option.bind_s, e, Option.bind_s]
  have hi : iSeq (eCB gSrt (aCons (eMkT (gv 0)) aNil)) [some (gsD gs)] = some (S.map tupB) := by
    have e2 : eCB gSrt (aCons (eMkT (gv 0)) aNil) [some (gsD gs)] = some (.lst (S.map tupB)) := ex_cb (ds := [.lst (st.1.map tupB)]) (ax_cons e1 rfl) es
    unfold iSeq
    rw [e2]; rfl
  refine st_fn (st_seq (st_do (ex_call (ax_cons rfl rfl) rfl (e_check_gates hgs))) (st_ret ?_)) rfl
  exact lc_of tupB gD hi (by omega) fun t _ => ⟨_, rfl, rfl, ex_cb (ds := [tupB t]) (ax_cons rfl rfl) rfl⟩
theorem wide_is {n l : Nat} (h : L248 l) (e : l = 2 ^ n) : wideN l = n := by
  have hw := (wide_ok h).2.2
  exact (Nat.pow_right_inj (a := 2) (by decide)).mp (by rw [hw, e])
section
variable {x y : DXn} {m : DSt} {env e' e1 e2 : DEnv} {c z : Str} {d : D} {cd : DEnv → Option Bool} {ds items : List D} {np n : Nat} {fs fi : DEnv → Option (List D)} {xm : List D → Option Str} {r : Option Str} {g : D → DEnv → Option DEnv} {kind : Str → Option Str} {o : Option Out}
theorem x_fn (h : x (ds.map some ++ List.replicate (n - np) none) = r) (hl : ds.length = np) : fnX np n x ds = r := by unfold fnX; rw [if_pos hl]; exact h
theorem x_call (hs : fs env = some ds) (hl : ds.length = np) (h : xm ds = r) : xCall np xm fs env = r := by unfold xCall; rw [hs, Option.bind_s, if_pos hl]; exact h
theorem x_seq (h : x env = none) (hm : m env = some (.nx e')) (q : y e' = r) : xSeq x m y env = r := by unfold xSeq; rw [h, hm]; exact q
theorem x_iff (h : cd env = some false) (q : y env = r) : xIf cd x y env = r := by unfold xIf; rw [h]; exact q
theorem x_for (hi : fi env = some items) (q : forX g m x items env = r) : xFor fi g m x env = r := by unfold xFor; rw [hi]; exact q
theorem x_forC (hg : g d env = some e1) (hx : x e1 = none) (hm : m e1 = some (.nx e2)) (q : forX g m x ds e2 = r) : forX g m x (d :: ds) env = r := by simp only [forX]; rw [hg, Option.bind_s, hx, hm]; exact q
end
theorem ltT {i j : Int} (h : i < j) : dLt (.int i) (.int j) = some (.bl true) := by
  show some (D.bl (decide (i < j))) = _
  rw [decide_eq_true h]
theorem x_check_gate_ok {bs : List Bool} (h : L248 bs.length) : x_check_gate [gD bs] = none :=
  cases248 (P := fun bs => x_check_gate [gD bs] = none) (fun _ _ => by kernel_rfl) (fun _ _ _ _ => by kernel_rfl) (fun _ _ _ _ _ _ _ _ => by kernel_rfl) h
theorem x_gates_for {A : Option D} : ∀ (ss : List (List Bool)) (o : Option D), (∀ g ∈ ss, L248 g.length) → forX (dN 1) (sDo (eCall 1 m_check_gate (aCons (gv 1) aNil))) (xCall 1 x_check_gate (aCons (gv 1) aNil)) (ss.map gD) [A, o] = none
  | [], o, _ => rfl
  | g :: ss, o, h => by
    rw [List.map_cons]
    exact x_forC rfl (x_call (ax_cons rfl rfl) rfl (x_check_gate_ok (h g List.mem_cons_self))) (st_do (ex_call (ax_cons rfl rfl) rfl (e_check_gate (h g List.mem_cons_self)))) (x_gates_for ss _ fun k hk => h k (List.mem_cons_of_mem _ hk))
theorem x_check_gates_ok {gs : List (List Bool)} (hgs : okGs gs) : x_check_gates [gsD gs] = none := by
  have h1 := hgs.1
  have h2 := hgs.2.1
  have c : bOr (bT (eBin dLt (eCB gLen (aCons (gv 0) aNil)) (dc (.int 1)))) (bT (eBin dGt (eCB gLen (aCons (gv 0) aNil)) (dc con_MOST_GATES))) [some (gsD gs), none] = some false :=
    bt_orF (bt_of (ex_bin (ex_cb (ax_cons rfl rfl) (len_gs gs)) rfl (ltF (by omega)))) (bt_of (ex_bin (ex_cb (ax_cons rfl rfl) (len_gs gs)) rfl (gtF (by omega))))
  exact x_fn (x_seq (x_iff c rfl) (st_iff c rfl) (x_for (seq_gv rfl) (x_gates_for gs _ hgs.2.2))) rfl
theorem chain2 {g g' : D → D → Option D} {fa fb fc : DFn} {env : DEnv} {x y z r : D} (h1 : fa env = some x) (h2 : fb env = some y) (h3 : fc env = some z) (hg : g x y = some (.bl true)) (h : g' y z = some r) : eChain g g' fa fb fc env = some r := by
  unfold eChain
  rw [h1, Option.bind_s, h2, Option.bind_s, hg]
  show ((fc env).bind fun z => g' y z) = _
  rw [h3]; exact h
theorem idx_tab {t : List Bool} : ∀ {T : List (List Bool)}, t ∈ T → ∃ j, idxD (T.map tupB) (tupB t) = some j ∧ j < T.length ∧ T[j]? = some t
  | [], h => absurd h (by simp)
  | s :: T, h => by
    have hd : deq (tupB s) (tupB t) = (s == t) := by
      unfold tupB
      simp only [deq]
      exact deqs_bl s t
    unfold idxD
    rw [List.map_cons, List.findIdx?_cons, hd]
    by_cases e : s = t
    · subst e
      rw [beq_self_eq_true]
      exact ⟨0, rfl, by simp, rfl⟩
    · rw [beq_eq_false_iff_ne.mpr e]
      have ht : t ∈ T := by
        rcases List.mem_cons.mp h with z | z
        · exact absurd z.symm e
        · exact z
      obtain ⟨j, h1, h2, h3⟩ := idx_tab ht
      unfold idxD at h1
      refine ⟨j + 1, ?_, by rw [List.length_cons]; omega, by rw [List.getElem?_cons_succ]; exact h3⟩
      rw [h1]; rfl
theorem x_table_ok {t : List Bool} (h : t.length = 4) : x_check_table [gD t] = none :=
  x_fn (x_iff (bt_of (ex_bin (x := .int 4) (ex_cb (ax_cons rfl rfl) (by rw [len_gD, h]; rfl)) rfl (ne_intC 4))) rfl) rfl
theorem m_table_ok {t : List Bool} (h : t.length = 4) : m_check_table [gD t] = some .non :=
  st_fnN (st_iff (bt_of (ex_bin (x := .int 4) (ex_cb (ax_cons rfl rfl) (by rw [len_gD, h]; rfl)) rfl (ne_intC 4))) rfl) rfl
theorem x_made_is {gs : List (List Bool)} {t : List Bool} (hgs : okGs gs) (h : t.length = 4) {st : MSt} (e : mksD (gsD gs) = some (st.1.map tupB, st.2)) : x_made [gsD gs, gD t] = (if st.1.contains t then (none : Option Str) else some ("NotMade" : Str)) := by
  show (match x_check_gates [gsD gs] with
    | some c => some c
    | none => (m_check_gates [gsD gs]).bind fun _ => match x_check_table [gD t] with
      | some c => some c
      | none => (m_check_table [gD t]).bind fun _ => (mksD (gsD gs)).bind fun st => (dInBD (tupB t) (.lst st.1)).bind fun b => if b = true then none else some "NotMade") = _
  rw [x_check_gates_ok hgs, e_check_gates hgs, x_table_ok h, m_table_ok h, e]
  show (dInBD (tupB t) (.lst (st.1.map tupB))).bind _ = _
  rw [in_tabs]
  rfl
theorem m_made_is {gs : List (List Bool)} {t : List Bool} (hgs : okGs gs) (h : t.length = 4) {st : MSt} (e : mksD (gsD gs) = some (st.1.map tupB, st.2)) (hm : t ∈ st.1) : ∃ j, j < st.1.length ∧ st.1[j]? = some t ∧ m_made [gsD gs, gD t] = some (.lst (st.2.take (j + 1))) := by
  obtain ⟨j, h1, h2, h3⟩ := idx_tab hm
  refine ⟨j, h2, h3, ?_⟩
  show ((m_check_gates [gsD gs]).bind fun _ => (m_check_table [gD t]).bind fun _ => (mksD (gsD gs)).bind fun st => (dInBD (tupB t) (.lst st.1)).bind fun b => if b = true then (idxD st.1 (tupB t)).bind fun j => some (D.lst (st.2.take (j + 1))) else none) = _
  rw [e_check_gates hgs, m_table_ok h, e]
  show (dInBD (tupB t) (.lst (st.1.map tupB))).bind _ = _
  rw [in_tabs, List.contains_iff_mem.mpr hm]
  show (idxD (st.1.map tupB) (tupB t)).bind _ = _
  rw [h1]; rfl
theorem cut_to {ds : List D} {k : Nat} : dCut ds none (some (k : Int)) = ds.take k := by
  unfold dCut
  rw [HT.sIx_none, HT.sIx_nat, List.drop_zero, Nat.sub_zero]
  by_cases h : k ≤ ds.length
  · rw [Nat.min_eq_left h]
  · rw [Nat.min_eq_right (by omega), List.take_length, List.take_of_length_le (by omega)]
theorem sl_to {f u : DFn} {env : DEnv} {ds : List D} {k : Nat} (h : f env = some (.lst ds)) (hu : u env = some (.int (k : Int))) : eSl f oNone (oSome u) env = some (.lst (ds.take k)) := by
  unfold eSl oNone oSome
  rw [h, Option.bind_s, Option.bind_s, hu, Option.bind_s]
  show (dSl none (some (k : Int)) (.lst ds)) = _
  unfold dSl
  dsimp only
  rw [cut_to]
theorem dep_gDle (t : List Bool) : dep (gD t) ≤ 60 := by rw [dep_gD]; decide
theorem in_gs (t : List Bool) (T : List (List Bool)) : dInBD (gD t) (gsD T) = some (T.contains t) := by
  unfold dInBD gsD
  dsimp only
  rw [if_pos (all_dep gD dep_gDle T), any_tab gD (fun s t => by unfold gD; simp only [deq]; exact deqs_bl s t) t T]
theorem len_gsD (S : List (List Bool)) : gLen [gsD S] = some (.int (S.length : Int)) := by simp only [gLen, gsD, List.length_map]
theorem at_gsD {S : List (List Bool)} {k : Nat} (h : k < S.length) : dIx (gsD S) (.int (k : Int)) = some (gD (S.getD k [])) := at_gs (by rw [List.getElem?_eq_getElem h, List.getD_eq_getElem?_getD, List.getElem?_eq_getElem h]; rfl)
theorem getD_mem {S : List (List Bool)} {k : Nat} (h : k < S.length) : S.getD k [] ∈ S := by
  rw [List.getD_eq_getElem?_getD, List.getElem?_eq_getElem h]
  exact List.getElem_mem h
theorem e_answered {bs : List Bool} {ts : List (List Bool)} (hL : L248 bs.length) (hl : ts.length = wideN bs.length) (ht : ∀ t ∈ ts, t.length = 4) : m_law_answered [gD bs, gsD ts] = some (gD (appB bs (ts.take (wideN bs.length)))) := by
  have hw := wide_ok hL
  have hcol : ∀ r, (colB (ts.take (wideN bs.length)) r).length = wideN bs.length := fun r => by rw [colB_len, List.length_take]; omega
  have hget : ∀ j r, j < wideN bs.length → (colB (ts.take (wideN bs.length)) r).getD j false = (ts.getD j []).getD r false := fun j r hj => by
    unfold colB
    rw [List.getD_eq_getElem?_getD, List.getElem?_map, List.getElem?_take_of_lt hj, List.getElem?_eq_getElem (by omega), List.getD_eq_getElem?_getD (l := ts), List.getElem?_eq_getElem (by omega)]; rfl
  have hr4 : iRng (aCons (dc (.int 4)) aNil) [some (gD bs), some (gsD ts), some (.lst []), none, none, none] = some (rngD 0 4) := rng1 (by decide) rfl
  have inner : ∀ (acc : List D) (r : Nat) (o4 o5 : Option D), r < 4 → ∃ o', sSeq (sSet 4 (dc (.int 0))) (sSeq (sFor (iRng (aCons (eCB gLen (aCons (gv 1) aNil)) aNil)) (dN 5) (sIf (bT (eBin dIx (eBin dIx (gv 1) (gv 5)) (gv 3))) (sSet 4 (eBin dAdd (gv 4) (eBin dIx (eLst (aCons (dc (.int 1)) (aCons (dc (.int 2)) (aCons (dc (.int 4)) aNil)))) (gv 5)))) sNext)) (sApp 2 (eBin dIx (gv 0) (gv 4)))) [some (gD bs), some (gsD ts), some (.lst acc), some (.int (r : Int)), o4, o5] =
      if acc.length < lim then some (.nx [some (gD bs), some (gsD ts), some (.lst (acc ++ [D.bl (bs.getD (rowN (colB (ts.take (wideN bs.length)) r)) false)])), some (.int (r : Int)), some (.int ((rowN (colB (ts.take (wideN bs.length)) r) : Nat) : Int)), o']) else none := by
    intro acc r o4 o5 hr
    have hri : iRng (aCons (eCB gLen (aCons (gv 1) aNil)) aNil) [some (gD bs), some (gsD ts), some (.lst acc), some (.int (r : Int)), some (.int 0), o5] = some (rngD 0 (wideN bs.length)) := rng1 (by omega) (by rw [← hl]; exact ex_cb (ax_cons rfl rfl) (len_gsD ts))
    obtain ⟨o', hf⟩ := for_rng0 (g := dN 5) (m := sIf (bT (eBin dIx (eBin dIx (gv 1) (gv 5)) (gv 3))) (sSet 4 (eBin dAdd (gv 4) (eBin dIx (eLst (aCons (dc (.int 1)) (aCons (dc (.int 2)) (aCons (dc (.int 4)) aNil)))) (gv 5)))) sNext)
      (fun (x : Nat) o => [some (gD bs), some (gsD ts), some (.lst acc), some (.int (r : Int)), some (.int (x : Int)), o]) (fun j => rowN ((colB (ts.take (wideN bs.length)) r).take j)) (wideN bs.length) o5 (fun a o d => rfl) (fun j hj => by
        have hjt : j < ts.length := by omega
        have h4 := ht _ (getD_mem hjt)
        have hc : bT (eBin dIx (eBin dIx (gv 1) (gv 5)) (gv 3)) [some (gD bs), some (gsD ts), some (.lst acc), some (.int (r : Int)), some (.int ((rowN ((colB (ts.take (wideN bs.length)) r).take j) : Nat) : Int)), some (.int (j : Int))] = some ((ts.getD j []).getD r false) :=
          bt_of (ex_bin (ex_bin rfl rfl (at_gsD hjt)) rfl (at_bl (by omega)))
        rw [rowN_take _ _ (by rw [hcol]; exact hj), hget j r hj]
        cases hv : (ts.getD j []).getD r false with
        | true =>
          rw [hv] at hc
          refine st_ift hc (st_set (ex_bin rfl (ex_bin (x := .lst [.int 1, .int 2, .int 4]) rfl rfl (at_w3 (by omega))) ?_))
          show some (D.int _) = some (D.int _)
          rw [if_pos rfl]
          congr 2
        | false =>
          rw [hv] at hc
          exact st_iff hc rfl)
    rw [show (colB (ts.take (wideN bs.length)) r).take (wideN bs.length) = colB (ts.take (wideN bs.length)) r from List.take_of_length_le (by rw [hcol]; exact Nat.le_refl _)] at hf
    refine ⟨o', ?_⟩
    have hlt : rowN (colB (ts.take (wideN bs.length)) r) < bs.length := by
      have := rowN_lt (colB (ts.take (wideN bs.length)) r)
      rw [hcol, hw.2.2] at this
      exact this
    refine st_seq (st_set (d := .int 0) rfl) (st_seq (st_for hri hf) ?_)
    unfold sApp
    show ((eBin dIx (gv 0) (gv 4) _).bind _) = _
    rw [ex_bin (d := .bl (bs.getD (rowN (colB (ts.take (wideN bs.length)) r)) false)) rfl rfl (at_bl hlt), Option.bind_s]
    rfl
  have all : ∀ (rs : List Nat) (acc : List D) (o3 o4 o5 : Option D), (∀ r ∈ rs, r < 4) → acc.length + rs.length ≤ 1000 → ∃ a b c, L2.forM (dN 3) (sSeq (sSet 4 (dc (.int 0))) (sSeq (sFor (iRng (aCons (eCB gLen (aCons (gv 1) aNil)) aNil)) (dN 5) (sIf (bT (eBin dIx (eBin dIx (gv 1) (gv 5)) (gv 3))) (sSet 4 (eBin dAdd (gv 4) (eBin dIx (eLst (aCons (dc (.int 1)) (aCons (dc (.int 2)) (aCons (dc (.int 4)) aNil)))) (gv 5)))) sNext)) (sApp 2 (eBin dIx (gv 0) (gv 4))))) (rs.map fun (k : Nat) => D.int (k : Int)) [some (gD bs), some (gsD ts), some (.lst acc), o3, o4, o5] =
      some (.nx [some (gD bs), some (gsD ts), some (.lst (acc ++ rs.map fun r => D.bl (bs.getD (rowN (colB (ts.take (wideN bs.length)) r)) false))), a, b, c]) := by
    intro rs
    induction rs with
    | nil => intro acc o3 o4 o5 _ _; exact ⟨o3, o4, o5, by rw [List.map_nil, List.map_nil, List.append_nil]; rfl⟩
    | cons r rs ih =>
      intro acc o3 o4 o5 h hl
      rw [List.length_cons] at hl
      obtain ⟨o', e⟩ := inner acc r o4 o5 (h r List.mem_cons_self)
      rw [if_pos (lim_1000' (by omega))] at e
      obtain ⟨a, b, c, e2⟩ := ih (acc ++ [D.bl (bs.getD (rowN (colB (ts.take (wideN bs.length)) r)) false)]) (some (.int (r : Int))) (some (.int ((rowN (colB (ts.take (wideN bs.length)) r) : Nat) : Int))) o' (fun x hx => h x (List.mem_cons_of_mem _ hx)) (by rw [List.length_append, List.length_singleton]; omega)
      refine ⟨a, b, c, ?_⟩
      rw [List.map_cons, List.map_cons]
      refine st_forC (e1 := [some (gD bs), some (gsD ts), some (.lst acc), some (.int (r : Int)), o4, o5]) rfl e ?_
      rw [List.append_assoc] at e2
      exact e2
  obtain ⟨a, b, c, hf⟩ := all (List.range 4) [] none none none (fun r hr => List.mem_range.mp hr) (by simp)
  rw [rngD_range] at hr4
  refine st_fn (st_seq (st_set (d := .lst []) rfl) (st_seq (st_for hr4 hf) (st_ret ?_))) rfl
  show some (D.lst ([] ++ _)) = _
  unfold gD appB
  rw [List.nil_append, List.map_map]; rfl
theorem clo_in {gs S : List (List Bool)} (hgs : okGs gs) (hx : xB ∈ S) (hy : yB ∈ S) (hcl : ∀ (g : Nat) (bs : List Bool), gs[g]? = some bs → ∀ ts : List (List Bool), ts.length = wideN bs.length → (∀ t ∈ ts, t ∈ S) → appB bs ts ∈ S) {t : List Bool} (h : CloB gs t) : t ∈ S := by
  induction h with
  | x => exact hx
  | y => exact hy
  | app hg hb h1 h3 _ ih => exact hcl _ _ hg _ (by rw [wide_is (hgs.2.2 _ (List.mem_of_getElem? hg)) hb]) ih
theorem leT {i j : Int} (h : i ≤ j) : dLe (.int i) (.int j) = some (.bl true) := by
  show some (D.bl (decide (i ≤ j))) = _
  rw [decide_eq_true h]
theorem chainT {fa fb fc : DFn} {env : DEnv} {a b c : Int} {g' : D → D → Option D} {r : D} (h1 : fa env = some (.int a)) (h2 : fb env = some (.int b)) (h3 : fc env = some (.int c)) (hab : a ≤ b) (h : g' (.int b) (.int c) = some r) : eChain dLe g' fa fb fc env = some r := chain2 h1 h2 h3 (leT hab) h
theorem whole_int (n : Int) : m_law_whole [.int n] = some (.bl true) := rfl
theorem stepped_in {gs : List (List Bool)} {T : D} (k : Nat) (hk : k < 2) : m_law_stepped [gsD gs, .tup [.str "in", .int (k : Int)], T] = some (gD (if k = 0 then xB else yB)) := by
  have : k = 0 ∨ k = 1 := by omega
  rcases this with e | e <;> subst e
  · exact st_fn (st_seq (st_iff (by kernel_rfl) rfl) (st_seqR (st_ift (by kernel_rfl) (st_ret (by kernel_rfl))))) rfl
  · exact st_fn (st_seq (st_iff (by kernel_rfl) rfl) (st_seqR (st_ift (by kernel_rfl) (st_ret (by kernel_rfl))))) rfl
theorem stepped_gate {gs T : List (List Bool)} {g : Nat} {p : List Nat} (hgs : okGs gs) (v : Val gs g p T.length) (hT : ∀ t ∈ T, t.length = 4) : m_law_stepped [gsD gs, .tup [.str "gate", .int (g : Int), tupD p], gsD T] = some (gD (appB (gs.getD g []) (p.map fun q => T.getD q []))) := by
  obtain ⟨bs, hg, hb⟩ := v.g
  have hgd : gs.getD g [] = bs := by rw [List.getD_eq_getElem?_getD, hg]; rfl
  have hgl : g < gs.length := (List.getElem?_eq_some_iff.mp hg).1
  have hL := hgs.2.2 bs (List.mem_of_getElem? hg)
  have hw : wideN bs.length = p.length := wide_is hL hb
  have h1 := v.l1
  have h3 := v.l3
  rw [hgd]
  let S : D := .tup [.str "gate", .int (g : Int), tupD p]
  have e2 : ∀ o : Option D, eBin dIx (gv 1) (dc (.int 2)) [some (gsD gs), some S, some (gsD T), o] = some (tupD p) := fun o => rfl
  have e1 : ∀ o : Option D, eBin dIx (gv 1) (dc (.int 1)) [some (gsD gs), some S, some (gsD T), o] = some (.int (g : Int)) := fun o => rfl
  have eg : ∀ o : Option D, eBin dIx (gv 0) (eBin dIx (gv 1) (dc (.int 1))) [some (gsD gs), some S, some (gsD T), o] = some (gD bs) := fun o => ex_bin rfl (e1 o) (at_gs hg)
  have c0 : bOr (bNot (bT (eIsi "tuple" (gv 1)))) (bOr (bT (eBin dLt (eCB gLen (aCons (gv 1) aNil)) (dc (.int 2)))) (bNot (bT (eCall 1 m_law_whole (aCons (eBin dIx (gv 1) (dc (.int 1))) aNil))))) [some (gsD gs), some S, some (gsD T), none] = some false := by kernel_rfl
  have c1 : bAnd (bT (eBin dEq (eBin dIx (gv 1) (dc (.int 0))) (dc (.str "in")))) (bAnd (bT (eBin dEq (eCB gLen (aCons (gv 1) aNil)) (dc (.int 2)))) (bT (eChain dLe dLt (dc (.int 0)) (eBin dIx (gv 1) (dc (.int 1))) (dc (.int 2))))) [some (gsD gs), some S, some (gsD T), none] = some false := bt_andF (by kernel_rfl)
  have c2 : bOr (bT (eBin dNe (eBin dIx (gv 1) (dc (.int 0))) (dc (.str "gate")))) (bOr (bT (eBin dNe (eCB gLen (aCons (gv 1) aNil)) (dc (.int 3)))) (bNot (bT (eChain dLe dLt (dc (.int 0)) (eBin dIx (gv 1) (dc (.int 1))) (eCB gLen (aCons (gv 0) aNil)))))) [some (gsD gs), some S, some (gsD T), none] = some false :=
    bt_orF (by kernel_rfl) (bt_orF (by kernel_rfl) (bt_not (b := true) (bt_of (chainT rfl (e1 none) (ex_cb (ax_cons rfl rfl) (len_gs gs)) (by omega) (ltT (by omega))))))
  have c3 : bOr (bNot (bT (eIsi "tuple" (eBin dIx (gv 1) (dc (.int 2)))))) (bT (eBin dNe (eCB gLen (aCons (eBin dIx (gv 1) (dc (.int 2))) aNil)) (eCall 1 m_law_wide (aCons (eBin dIx (gv 0) (eBin dIx (gv 1) (dc (.int 1)))) aNil)))) [some (gsD gs), some S, some (gsD T), none] = some false := by
    refine bt_orF (by kernel_rfl) (bt_of (ex_bin (x := .int (p.length : Int)) (y := .int (p.length : Int)) (ex_cb (ax_cons (e2 none) rfl) ?_) (ex_call (ax_cons (eg none) rfl) rfl ?_) (ne_intC _)))
    · show gLen [.tup (natsD p)] = _
      simp only [gLen, natsD, List.length_map]
    · rw [e_wide hL, hw]
  have hseq : ∀ o : Option D, iSeq (eBin dIx (gv 1) (dc (.int 2))) [some (gsD gs), some S, some (gsD T), o] = some (p.map fun (i : Nat) => D.int (i : Int)) := fun o => seq_tup (e2 o)
  obtain ⟨e', hf, o, rfl⟩ := for_inv (g := dN 3) (m := sIf (bOr (bNot (bT (eCall 1 m_law_whole (aCons (gv 3) aNil)))) (bNot (bT (eChain dLe dLt (dc (.int 0)) (gv 3) (eCB gLen (aCons (gv 2) aNil)))))) (sRet (dc .non)) sNext) (fun env => ∃ o, env = [some (gsD gs), some S, some (gsD T), o]) (p.map fun (i : Nat) => D.int (i : Int)) (fun d hd env hp => by
    obtain ⟨o, rfl⟩ := hp
    obtain ⟨q, hq, rfl⟩ := List.mem_map.mp hd
    have hlt := v.lt q hq
    exact ⟨_, _, rfl, st_iff (bt_orF (bt_not (b := true) (bt_of (ex_call (ds := [.int (q : Int)]) rfl rfl (whole_int _)))) (bt_not (b := true) (bt_of (chainT rfl rfl (ex_cb (ax_cons rfl rfl) (len_gs T)) (by omega) (ltT (by omega)))))) rfl, _, rfl⟩) [some (gsD gs), some S, some (gsD T), none] ⟨none, rfl⟩
  have hlc : eLC [none, some 2] (iSeq (eBin dIx (gv 1) (dc (.int 2)))) (dN 0) bAll (eBin dIx (gv 1) (gv 0)) [some (gsD gs), some S, some (gsD T), o] = some (gsD (p.map fun q => T.getD q [])) := by
    have := lc_of (mp := [none, some 2]) (fi := iSeq (eBin dIx (gv 1) (dc (.int 2)))) (g := dN 0) (c := bAll) (fe := eBin dIx (gv 1) (gv 0)) (env := [some (gsD gs), some S, some (gsD T), o]) (fun (q : Nat) => D.int (q : Int)) (fun q => gD (T.getD q [])) (as := p) (hseq o) (by omega) (fun q hq => ⟨_, rfl, rfl, ex_bin rfl rfl (at_gsD (v.lt q hq))⟩)
    rw [this]
    unfold gsD
    rw [List.map_map]; rfl
  have ha := e_answered (bs := bs) (ts := p.map fun q => T.getD q []) hL (by rw [List.length_map, hw]) (fun t ht => by
    obtain ⟨q, hq, rfl⟩ := List.mem_map.mp ht
    exact hT _ (getD_mem (v.lt q hq)))
  rw [List.take_of_length_le (by rw [List.length_map, hw]; exact Nat.le_refl _)] at ha
  exact st_fn (st_seq (st_iff c0 rfl) (st_seq (st_iff c1 rfl) (st_seq (st_iff c2 rfl) (st_seq (st_iff c3 rfl) (st_seq (st_for (hseq _) hf) (st_ret (ex_call (ds := [gD bs, gsD (p.map fun q => T.getD q [])]) (ax_cons (eg o) (ax_cons hlc rfl)) rfl ha))))))) rfl
theorem stepped_ok {gs : List (List Bool)} {st : MSt} (hgs : okGs gs) (h : MOk gs st) {i : Nat} {s : D} {t : List Bool} (hs : st.2[i]? = some s) (ht : st.1[i]? = some t) : m_law_stepped [gsD gs, s, gsD (st.1.take i)] = some (gD t) := by
  have hi : i < st.1.length := (List.getElem?_eq_some_iff.mp ht).1
  rcases h.stp i s hs with ⟨rfl, rfl⟩ | ⟨rfl, rfl⟩ | ⟨g, p, rfl, hv, htab⟩
  · rw [h.x] at ht; cases ht
    exact stepped_in 0 (by decide)
  · rw [h.y] at ht; cases ht
    exact stepped_in 1 (by decide)
  · rw [ht] at htab
    cases htab
    have hl : (st.1.take i).length = i := by rw [List.length_take]; omega
    have e := stepped_gate (T := st.1.take i) hgs (by rw [hl]; exact hv) (fun t ht => (h.clo t (List.mem_of_mem_take ht)).len)
    rw [List.map_congr_left fun q hq => (show (st.1.take i).getD q [] = st.1.getD q [] by rw [List.getD_eq_getElem?_getD, List.getD_eq_getElem?_getD, List.getElem?_take_of_lt (hv.lt q hq)])] at e
    exact e
theorem flat_ok {T : List (List Bool)} {t : List Bool} {A B C E F : Option D} (ht : t.length = 4) (hT : ∀ s ∈ T, s.length = 4) : flatB 3 [A, B, C, some (gsD T), E, F] (gD t) = true := by
  match t, ht with
  | [a, b, c, d], _ =>
    cases T with
    | nil => rfl
    | cons s T => rfl
noncomputable def mkBody : DSt := (sSeq (sSet 5 (eFlatB 3 (eCall 3 m_law_stepped (aCons (gv 0) (aCons (gv 4) (aCons (gv 3) aNil)))))) (sSeq (sIf (bT (eBin dIs (gv 5) (dc .non))) (sRet (dc (.bl false))) sNext) (sApp 3 (gv 5))))
theorem makes_for {gs : List (List Bool)} {st : MSt} (hgs : okGs gs) (h : MOk gs st) {P X : Option D} : ∀ (ss : List D) (i : Nat) (o4 o5 : Option D), st.2.drop i = ss ++ st.2.drop (i + ss.length) → i + ss.length ≤ st.1.length →
    ∃ o4' o5', L2.forM (dN 4) mkBody ss [some (gsD gs), P, X, some (gsD (st.1.take i)), o4, o5] = some (.nx [some (gsD gs), P, X, some (gsD (st.1.take (i + ss.length))), o4', o5'])
  | [], i, o4, o5, _, _ => ⟨o4, o5, rfl⟩
  | s :: ss, i, o4, o5, hd, hl => by
    rw [List.length_cons] at hl
    have hle := h.le
    have hs : st.2[i]? = some s := by
      have : (st.2.drop i)[0]? = some s := by rw [hd]; rfl
      rwa [List.getElem?_drop, Nat.add_zero] at this
    have hti : st.1[i]? = some (st.1[i]'(by omega)) := List.getElem?_eq_getElem _
    generalize st.1[i]'(by omega) = t at hti
    have h4 : ∀ x ∈ st.1, x.length = 4 := fun x hx => (h.clo x hx).len
    have ht4 : t.length = 4 := h4 t (List.mem_of_getElem? hti)
    have e1 : eFlatB 3 (eCall 3 m_law_stepped (aCons (gv 0) (aCons (gv 4) (aCons (gv 3) aNil)))) [some (gsD gs), P, X, some (gsD (st.1.take i)), some s, o5] = some (gD t) := by
      have hx : eCall 3 m_law_stepped (aCons (gv 0) (aCons (gv 4) (aCons (gv 3) aNil))) [some (gsD gs), P, X, some (gsD (st.1.take i)), some s, o5] = some (gD t) := ex_call (ds := [gsD gs, s, gsD (st.1.take i)]) rfl rfl (stepped_ok hgs h hs hti)
      unfold eFlatB
      rw [hx, Option.bind_s, if_pos (flat_ok ht4 fun x hx => h4 x (List.mem_of_mem_take hx))]
    have hstep : mkBody [some (gsD gs), P, X, some (gsD (st.1.take i)), some s, o5] = some (.nx [some (gsD gs), P, X, some (gsD (st.1.take (i + 1))), some s, some (gD t)]) := by
      refine st_seq (st_set e1) (st_seq (st_iff (by rfl) rfl) ?_)
      have ha := st_app (i := 3) (f := gv 5) (env := [some (gsD gs), P, X, some (gsD (st.1.take i)), some s, some (gD t)]) (ds := (st.1.take i).map gD) (d := gD t) rfl rfl (lim_1000' (by rw [List.length_map, List.length_take]; omega))
      refine Eq.trans ha ?_
      show some (Out.nx [some (gsD gs), P, X, some (.lst ((st.1.take i).map gD ++ [gD t])), some s, some (gD t)]) = _
      rw [show (st.1.take i).map gD ++ [gD t] = (st.1.take (i + 1)).map gD by rw [List.take_add_one, hti, List.map_append]; rfl]
      rfl
    obtain ⟨o4', o5', ih⟩ := makes_for hgs h (P := P) (X := X) ss (i + 1) (some s) (some (gD t)) (by
      have := congrArg (List.drop 1) hd
      rw [List.drop_drop] at this
      rw [show i + 1 + ss.length = i + (ss.length + 1) by omega]
      simpa [List.length_cons] using this) (by omega)
    refine ⟨o4', o5', st_forC (e1 := [some (gsD gs), P, X, some (gsD (st.1.take i)), some s, o5]) rfl hstep ?_⟩
    rw [List.length_cons, show i + (ss.length + 1) = i + 1 + ss.length by omega]
    exact ih
theorem e_makes {gs : List (List Bool)} {st : MSt} (hgs : okGs gs) (h : MOk gs st) {j : Nat} {t : List Bool} (ht : st.1[j]? = some t) : m_law_makes [gsD gs, .lst (st.2.take (j + 1)), gD t] = some (.bl true) := by
  have hj : j < st.1.length := (List.getElem?_eq_some_iff.mp ht).1
  have hle := h.le
  have hlen : (st.2.take (j + 1)).length = j + 1 := by rw [List.length_take, h.len]; omega
  have hg : gLen [.lst (st.2.take (j + 1))] = some (.int ((j + 1 : Nat) : Int)) := by simp only [gLen, hlen]
  have c0 : bOr (bNot (bT (eIsi "list" (gv 1)))) (bNot (bT (eChain dLe dLe (dc (.int 1)) (eCB gLen (aCons (gv 1) aNil)) (dc (.int 16))))) [some (gsD gs), some (.lst (st.2.take (j + 1))), some (gD t), none, none, none] = some false :=
    bt_orF (bt_not (b := true) (by rfl)) (bt_not (b := true) (bt_of (chainT rfl (ex_cb (ax_cons rfl rfl) hg) rfl (by omega) (leT (by omega)))))
  obtain ⟨o4, o5, hf⟩ := makes_for hgs h (P := some (.lst (st.2.take (j + 1)))) (X := some (gD t)) (st.2.take (j + 1)) 0 none none (by rw [List.drop_zero, Nat.zero_add, hlen, List.take_append_drop]) (by rw [hlen]; omega)
  rw [Nat.zero_add, hlen] at hf
  have hlast : eBin dIx (gv 3) (eNeg (dc (.int 1))) [some (gsD gs), some (.lst (st.2.take (j + 1))), some (gD t), some (gsD (st.1.take (j + 1))), o4, o5] = some (gD t) := by
    refine ex_bin (y := .int (-1)) rfl rfl ?_
    show atI ((st.1.take (j + 1)).map gD) (-1) = _
    have hl2 : ((st.1.take (j + 1)).map gD).length = j + 1 := by rw [List.length_map, List.length_take]; omega
    have hx : ixN ((st.1.take (j + 1)).map gD).length (-1) = some j := by
      rw [hl2]
      unfold ixN
      simp
      try omega
    unfold atI
    rw [hx]
    show ((st.1.take (j + 1)).map gD)[j]? = _
    rw [List.getElem?_map, List.getElem?_take_of_lt (by omega), ht]; rfl
  exact st_fn (st_seq (st_iff c0 rfl) (st_seq (st_set (d := .lst []) rfl) (st_seq (st_for (seq_gv rfl) hf) (st_ret (ex_bin hlast rfl (eq_gD t)))))) rfl
theorem tried_in {gs : List (List Bool)} {t : List Bool} (hgs : okGs gs) (h4 : t.length = 4) {st : MSt} (e : mksD (gsD gs) = some (st.1.map tupB, st.2)) (hm : t ∈ st.1) : ∃ j, st.1[j]? = some t ∧ m_law_tried [gsD gs, gD t] = some (.tup [.str "told", .lst (st.2.take (j + 1))]) := by
  have hx := x_made_is hgs h4 e
  rw [List.contains_iff_mem.mpr hm] at hx
  obtain ⟨j, _, hj, em⟩ := m_made_is hgs h4 e hm
  refine ⟨j, hj, ?_⟩
  rw [if_pos rfl] at hx
  unfold m_law_tried
  rw [if_pos (show [gsD gs, gD t].length = 2 from rfl), hx, em]; rfl
theorem tried_out {gs : List (List Bool)} {t : List Bool} (hgs : okGs gs) (h4 : t.length = 4) {st : MSt} (e : mksD (gsD gs) = some (st.1.map tupB, st.2)) (hm : t ∉ st.1) : m_law_tried [gsD gs, gD t] = some (.tup [.str "made", .non]) := by
  have hx := x_made_is hgs h4 e
  rw [show st.1.contains t = false by rw [← Bool.not_eq_true, List.contains_iff_mem]; exact hm] at hx
  rw [if_neg Bool.false_ne_true] at hx
  unfold m_law_tried
  rw [if_pos (show [gsD gs, gD t].length = 2 from rfl), hx]
  kernel_rfl
theorem ne_strs (z : Str) : dNe (.str z) (.str z) = some (.bl false) := by
  show some (D.bl (!(z == z))) = _
  rw [beq_self_eq_true]; rfl
theorem notin_gs (t : List Bool) (T : List (List Bool)) : dNotInD (gD t) (gsD T) = some (.bl (!T.contains t)) := by unfold dNotInD; rw [in_gs]; rfl
noncomputable def poke : DSt := (sSeq (sSet 9 (eLst (aCons (eLC [none] (iSeq (gv 3)) (dN 0) bAll (eCB gList (aCons (gv 0) aNil))) (aCons (eCB gList (aCons (gv 7) aNil)) aNil)))) (sPoke 10 (eCall 2 m_law_tried (aCons (eBin dIx (gv 9) (dc (.int 0))) (aCons (eBin dIx (gv 9) (dc (.int 1))) aNil))) (bT (eBin dNe (gv 9) (eLst (aCons (gv 3) (aCons (gv 7) aNil))))) (bT (eBin dNotInD (gv 7) (gv 4))) (bT (eBin dNe (eBin dIx (gv 10) (dc (.int 0))) (dc (.str "made")))) (bOr (bT (eBin dNe (eBin dIx (gv 10) (dc (.int 0))) (dc (.str "told")))) (bNot (bT (eCall 3 m_law_makes (aCons (gv 3) (aCons (eBin dIx (gv 10) (dc (.int 1))) (aCons (gv 7) aNil)))))))))
theorem poke_ok {gs S : List (List Bool)} {t : List Bool} {st : MSt} (hgs : okGs gs) (h4 : t.length = 4) (e : mksD (gsD gs) = some (st.1.map tupB, st.2)) (hok : MOk gs st) (hS : t ∈ S ↔ t ∈ st.1) {A B C T K6 C8 o9 o10 : Option D} :
    ∃ o9' o10', poke [A, B, C, some (gsD gs), some (gsD S), T, K6, some (gD t), C8, o9, o10] = some (.nx [A, B, C, some (gsD gs), some (gsD S), T, K6, some (gD t), C8, o9', o10']) := by
  have hcopy : eLC [none] (iSeq (gv 3)) (dN 0) bAll (eCB gList (aCons (gv 0) aNil)) [A, B, C, some (gsD gs), some (gsD S), T, K6, some (gD t), C8, o9, o10] = some (gsD gs) := e_copy rfl (by have := hgs.2.1; omega)
  have e9 : eLst (aCons (eLC [none] (iSeq (gv 3)) (dN 0) bAll (eCB gList (aCons (gv 0) aNil))) (aCons (eCB gList (aCons (gv 7) aNil)) aNil)) [A, B, C, some (gsD gs), some (gsD S), T, K6, some (gD t), C8, o9, o10] = some (.lst [gsD gs, gD t]) := ex_lst (ax_cons hcopy (ax_cons rfl rfl)) (by show 2 ≤ 1000; decide)
  refine ⟨some (.lst [gsD gs, gD t]), none, st_seq (st_set e9) ?_⟩
  have hdep : dep (.lst [gsD gs, gD t]) ≤ 60 := by
    have h1 := dep_gs' gs
    have h2 := dep_gD t
    simp only [dep, deps]
    omega
  have c1 : ∀ F : Option D, bT (eBin dNe (gv 9) (eLst (aCons (gv 3) (aCons (gv 7) aNil)))) [A, B, C, some (gsD gs), some (gsD S), T, K6, some (gD t), C8, some (.lst [gsD gs, gD t]), F] = some false := fun F => bt_of (ex_bin rfl (ex_lst (ax_cons rfl (ax_cons rfl rfl)) (by show 2 ≤ 1000; decide)) (ne_lst hdep))
  have c2 : ∀ F : Option D, bT (eBin dNotInD (gv 7) (gv 4)) [A, B, C, some (gsD gs), some (gsD S), T, K6, some (gD t), C8, some (.lst [gsD gs, gD t]), F] = some (!S.contains t) := fun F => bt_of (ex_bin rfl rfl (notin_gs t S))
  by_cases hm : t ∈ st.1
  · obtain ⟨j, hj, et⟩ := tried_in hgs h4 e hm
    have hc : S.contains t = true := List.contains_iff_mem.mpr (hS.mpr hm)
    have hlt : (st.2.take (j + 1)).length < lim := lim_1000' (by rw [List.length_take, hok.len]; have := hok.le; omega)
    have c4 : bOr (bT (eBin dNe (eBin dIx (gv 10) (dc (.int 0))) (dc (.str "told")))) (bNot (bT (eCall 3 m_law_makes (aCons (gv 3) (aCons (eBin dIx (gv 10) (dc (.int 1))) (aCons (gv 7) aNil)))))) [A, B, C, some (gsD gs), some (gsD S), T, K6, some (gD t), C8, some (.lst [gsD gs, gD t]), some (.tup [.str "told", .lst (st.2.take (j + 1))])] = some false :=
      bt_orF (bt_of (ex_bin rfl rfl (ne_strs "told"))) (bt_not (b := true) (bt_of (ex_call (ds := [gsD gs, .lst (st.2.take (j + 1)), gD t]) rfl rfl (e_makes hgs hok hj))))
    show sPoke 10 _ _ _ _ _ [A, B, C, some (gsD gs), some (gsD S), T, K6, some (gD t), C8, some (.lst [gsD gs, gD t]), o10] = _
    have hx : eCall 2 m_law_tried (aCons (eBin dIx (gv 9) (dc (.int 0))) (aCons (eBin dIx (gv 9) (dc (.int 1))) aNil)) [A, B, C, some (gsD gs), some (gsD S), T, K6, some (gD t), C8, some (.lst [gsD gs, gD t]), o10] = _ := ex_call (ds := [gsD gs, gD t]) rfl rfl et
    unfold sPoke
    rw [hx, Option.bind_s]
    show ((bT (eBin dNe (gv 9) (eLst (aCons (gv 3) (aCons (gv 7) aNil)))) [A, B, C, some (gsD gs), some (gsD S), T, K6, some (gD t), C8, some (.lst [gsD gs, gD t]), some (.tup [.str "told", .lst (st.2.take (j + 1))])]).bind _) = _
    rw [c1, Option.bind_s, if_neg Bool.false_ne_true]
    show ((bT (eBin dNotInD (gv 7) (gv 4)) [A, B, C, some (gsD gs), some (gsD S), T, K6, some (gD t), C8, some (.lst [gsD gs, gD t]), some (.tup [.str "told", .lst (st.2.take (j + 1))])]).bind _) = _
    rw [c2, hc, Option.bind_s, if_neg (by decide)]
    show ((bOr (bT (eBin dNe (eBin dIx (gv 10) (dc (.int 0))) (dc (.str "told")))) (bNot (bT (eCall 3 m_law_makes (aCons (gv 3) (aCons (eBin dIx (gv 10) (dc (.int 1))) (aCons (gv 7) aNil)))))) [A, B, C, some (gsD gs), some (gsD S), T, K6, some (gD t), C8, some (.lst [gsD gs, gD t]), some (.tup [.str "told", .lst (st.2.take (j + 1))])]).bind _) = _
    rw [c4, Option.bind_s, if_neg Bool.false_ne_true]
    show (if (st.2.take (j + 1)).length < lim then some _ else none) = _
    rw [if_pos hlt]
    rfl
  · have et := tried_out hgs h4 e hm
    have hc : S.contains t = false := by rw [← Bool.not_eq_true, List.contains_iff_mem]; exact fun z => hm (hS.mp z)
    have c3 : bT (eBin dNe (eBin dIx (gv 10) (dc (.int 0))) (dc (.str "made"))) [A, B, C, some (gsD gs), some (gsD S), T, K6, some (gD t), C8, some (.lst [gsD gs, gD t]), some (.tup [.str "made", .non])] = some false := bt_of (ex_bin rfl rfl (ne_strs "made"))
    show sPoke 10 _ _ _ _ _ [A, B, C, some (gsD gs), some (gsD S), T, K6, some (gD t), C8, some (.lst [gsD gs, gD t]), o10] = _
    have hx : eCall 2 m_law_tried (aCons (eBin dIx (gv 9) (dc (.int 0))) (aCons (eBin dIx (gv 9) (dc (.int 1))) aNil)) [A, B, C, some (gsD gs), some (gsD S), T, K6, some (gD t), C8, some (.lst [gsD gs, gD t]), o10] = _ := ex_call (ds := [gsD gs, gD t]) rfl rfl et
    unfold sPoke
    rw [hx, Option.bind_s]
    show ((bT (eBin dNe (gv 9) (eLst (aCons (gv 3) (aCons (gv 7) aNil)))) [A, B, C, some (gsD gs), some (gsD S), T, K6, some (gD t), C8, some (.lst [gsD gs, gD t]), some (.tup [.str "made", .non])]).bind _) = _
    rw [c1, Option.bind_s, if_neg Bool.false_ne_true]
    show ((bT (eBin dNotInD (gv 7) (gv 4)) [A, B, C, some (gsD gs), some (gsD S), T, K6, some (gD t), C8, some (.lst [gsD gs, gD t]), some (.tup [.str "made", .non])]).bind _) = _
    rw [c2, hc, Option.bind_s, if_pos (by decide)]
    show ((bT (eBin dNe (eBin dIx (gv 10) (dc (.int 0))) (dc (.str "made"))) [A, B, C, some (gsD gs), some (gsD S), T, K6, some (gD t), C8, some (.lst [gsD gs, gD t]), some (.tup [.str "made", .non])]).bind _) = _
    rw [c3, Option.bind_s, if_neg Bool.false_ne_true]
    rfl
theorem poke_for {gs S : List (List Bool)} {st : MSt} (hgs : okGs gs) (e : mksD (gsD gs) = some (st.1.map tupB, st.2)) (hok : MOk gs st) (hS : ∀ t, t ∈ S ↔ t ∈ st.1) {A B C T K6 C8 : Option D} : ∀ (ts : List (List Bool)) (o7 o9 o10 : Option D), (∀ t ∈ ts, t.length = 4) →
    ∃ o7' o9' o10', L2.forM (dN 7) poke (ts.map gD) [A, B, C, some (gsD gs), some (gsD S), T, K6, o7, C8, o9, o10] = some (.nx [A, B, C, some (gsD gs), some (gsD S), T, K6, o7', C8, o9', o10'])
  | [], o7, o9, o10, _ => ⟨o7, o9, o10, rfl⟩
  | t :: ts, o7, o9, o10, h => by
    obtain ⟨p9, p10, hp⟩ := poke_ok hgs (h t List.mem_cons_self) e hok (hS t) (A := A) (B := B) (C := C) (T := T) (K6 := K6) (C8 := C8) (o9 := o9) (o10 := o10)
    obtain ⟨q7, q9, q10, ih⟩ := poke_for hgs e hok hS (A := A) (B := B) (C := C) (T := T) (K6 := K6) (C8 := C8) ts (some (gD t)) p9 p10 fun x hx => h x (List.mem_cons_of_mem _ hx)
    exact ⟨q7, q9, q10, st_forC (e1 := [A, B, C, some (gsD gs), some (gsD S), T, K6, some (gD t), C8, o9, o10]) rfl hp ih⟩
noncomputable def drawBody : DSt := (sSeq (sSet 8 (eBin dDiv (eCall 1 m_law_next (aCons (eBin dAdd (eCall 2 m_law_cell_at (aCons (gv 0) (aCons (eBin dAdd (dc (.int 7)) (gv 6)) aNil))) (gv 6)) aNil)) (dc (.int 7)))) (sApp 5 (eLst (aCons (eBin dEq (eBin dMod (gv 8) (dc (.int 2))) (dc (.int 1))) (aCons (eBin dEq (eBin dMod (eBin dDiv (gv 8) (dc (.int 2))) (dc (.int 2))) (dc (.int 1))) (aCons (eBin dEq (eBin dMod (eBin dDiv (gv 8) (dc (.int 4))) (dc (.int 2))) (dc (.int 1))) (aCons (eBin dEq (eBin dMod (eBin dDiv (gv 8) (dc (.int 8))) (dc (.int 2))) (dc (.int 1))) aNil)))))))
theorem draw_for {ns : List Int} {B C G S o7 o9 o10 : Option D} : ∀ (ks : List Nat) (T : List (List Bool)) (o6 o8 : Option D), (∀ t ∈ T, t.length = 4) → T.length + ks.length ≤ 900 →
    ∃ T' o6' o8', (∀ t ∈ T', t.length = 4) ∧ T'.length = T.length + ks.length ∧ L2.forM (dN 6) drawBody (ks.map fun (k : Nat) => D.int (k : Int)) [some (.lst (ns.map D.int)), B, C, G, S, some (gsD T), o6, o7, o8, o9, o10] = some (.nx [some (.lst (ns.map D.int)), B, C, G, S, some (gsD T'), o6', o7, o8', o9, o10])
  | [], T, o6, o8, h4, _ => ⟨T, o6, o8, h4, rfl, rfl⟩
  | k :: ks, T, o6, o8, h4, hl => by
    rw [List.length_cons] at hl
    have hc := e_cell ns (7 + k)
    rw [show ((7 + k : Nat) : Int) = 7 + (k : Int) by omega] at hc
    let y : Int := nextI (ns.getD (7 + k) 0 + (k : Int)) / 7
    have e1 : eBin dDiv (eCall 1 m_law_next (aCons (eBin dAdd (eCall 2 m_law_cell_at (aCons (gv 0) (aCons (eBin dAdd (dc (.int 7)) (gv 6)) aNil))) (gv 6)) aNil)) (dc (.int 7)) [some (.lst (ns.map D.int)), B, C, G, S, some (gsD T), some (.int (k : Int)), o7, o8, o9, o10] = some (.int y) :=
      ex_bin (ex_call (ax_cons (ex_bin (ex_call (ax_cons rfl (ax_cons (ex_bin rfl rfl rfl) rfl)) rfl hc) rfl rfl) rfl) rfl (e_next _)) rfl rfl
    have e2 : eLst (aCons (eBin dEq (eBin dMod (gv 8) (dc (.int 2))) (dc (.int 1))) (aCons (eBin dEq (eBin dMod (eBin dDiv (gv 8) (dc (.int 2))) (dc (.int 2))) (dc (.int 1))) (aCons (eBin dEq (eBin dMod (eBin dDiv (gv 8) (dc (.int 4))) (dc (.int 2))) (dc (.int 1))) (aCons (eBin dEq (eBin dMod (eBin dDiv (gv 8) (dc (.int 8))) (dc (.int 2))) (dc (.int 1))) aNil)))) [some (.lst (ns.map D.int)), B, C, G, S, some (gsD T), some (.int (k : Int)), o7, some (.int y), o9, o10] = some (gD [y % 2 == 1, y / 2 % 2 == 1, y / 4 % 2 == 1, y / 8 % 2 == 1]) :=
      ex_lst (ax_cons (ex_bin (ex_bin rfl rfl rfl) rfl rfl) (ax_cons (ex_bin (ex_bin (ex_bin rfl rfl rfl) rfl rfl) rfl rfl) (ax_cons (ex_bin (ex_bin (ex_bin rfl rfl rfl) rfl rfl) rfl rfl) (ax_cons (ex_bin (ex_bin (ex_bin rfl rfl rfl) rfl rfl) rfl rfl) rfl)))) (by show 4 ≤ 1000; decide)
    obtain ⟨T', o6', o8', k1, k2, ih⟩ := draw_for (ns := ns) (B := B) (C := C) (G := G) (S := S) (o7 := o7) (o9 := o9) (o10 := o10) ks (T ++ [[y % 2 == 1, y / 2 % 2 == 1, y / 4 % 2 == 1, y / 8 % 2 == 1]]) (some (.int (k : Int))) (some (.int y)) (fun t ht => by
      rcases List.mem_append.mp ht with z | z
      · exact h4 t z
      · rw [List.mem_singleton.mp z]; rfl) (by rw [List.length_append, List.length_singleton]; omega)
    refine ⟨T', o6', o8', k1, by rw [k2, List.length_append, List.length_singleton, List.length_cons]; omega, ?_⟩
    rw [List.map_cons]
    refine st_forC (e1 := [some (.lst (ns.map D.int)), B, C, G, S, some (gsD T), some (.int (k : Int)), o7, o8, o9, o10]) rfl (st_seq (st_set e1) (st_app (ds := T.map gD) rfl e2 (lim_1000' (by rw [List.length_map]; omega)))) ?_
    have : T.map gD ++ [gD [y % 2 == 1, y / 2 % 2 == 1, y / 4 % 2 == 1, y / 8 % 2 == 1]] = (T ++ [[y % 2 == 1, y / 2 % 2 == 1, y / 4 % 2 == 1, y / 8 % 2 == 1]]).map gD := by rw [List.map_append]; rfl
    rw [this]
    exact ih
theorem sl_mid {f l u : DFn} {env : DEnv} {ds : List D} {a b : Nat} (hab : a ≤ b) (h : f env = some (.lst ds)) (hl : l env = some (.int (a : Int))) (hu : u env = some (.int (b : Int))) : ∃ es, eSl f (oSome l) (oSome u) env = some (.lst es) ∧ ∀ e ∈ es, e ∈ ds := by
  refine ⟨dCut ds (some (a : Int)) (some (b : Int)), ?_, fun e he => ?_⟩
  · unfold eSl oSome
    rw [h, Option.bind_s, hl, hu]; rfl
  · unfold dCut at he
    exact List.mem_of_mem_drop (List.mem_of_mem_take he)
theorem law_true : ∀ ns : List Int, ns.length ≤ 63 → m_law [.lst (ns.map D.int)] = some (.bl true) := fun ns _ => by
  let S0 : Option D := some (.lst (ns.map D.int))
  have cell : ∀ (k : Nat) (env : DEnv), gv 0 env = S0 → eCall 2 m_law_cell_at (aCons (gv 0) (aCons (dc (.int (k : Int))) aNil)) env = some (.int (ns.getD k 0)) := fun k env h => ex_call (ax_cons h (ax_cons rfl rfl)) rfl (e_cell ns k)
  have e0 : eBin dEq (eBin dMod (eCall 2 m_law_cell_at (aCons (gv 0) (aCons (dc (.int 6)) aNil))) (dc (.int 6))) (dc (.int 1)) [S0, none, none, none, none, none, none, none, none, none, none] = some (.bl (ns.getD 6 0 % 6 == 1)) := ex_bin (ex_bin (cell 6 _ rfl) rfl rfl) rfl rfl
  generalize (ns.getD 6 0 % 6 == 1) = large at e0
  have e2 : ∃ most : Nat, (1 ≤ most) ∧ sIf (bT (eBin dEq (eBin dMod (eCall 2 m_law_cell_at (aCons (gv 0) (aCons (dc (.int 11)) aNil))) (dc (.int 6))) (dc (.int 1)))) (sSet 2 (dc (.int 5))) sNext [S0, some (.bl large), some (.int 3), none, none, none, none, none, none, none, none] = some (.nx [S0, some (.bl large), some (.int (most : Int)), none, none, none, none, none, none, none, none]) := by
    have c : bT (eBin dEq (eBin dMod (eCall 2 m_law_cell_at (aCons (gv 0) (aCons (dc (.int 11)) aNil))) (dc (.int 6))) (dc (.int 1))) [S0, some (.bl large), some (.int 3), none, none, none, none, none, none, none, none] = some (ns.getD 11 0 % 6 == 1) := bt_of (ex_bin (ex_bin (cell 11 _ rfl) rfl rfl) rfl rfl)
    cases hb : (ns.getD 11 0 % 6 == 1) with
    | true => rw [hb] at c; exact ⟨5, by decide, st_ift c rfl⟩
    | false => rw [hb] at c; exact ⟨3, by decide, st_iff c rfl⟩
  obtain ⟨most, hmost, e2⟩ := e2
  have hg : ∃ gs : List (List Bool), okGs gs ∧ ∃ m3, (sSeq (sSet 3 (eSl (eCall 2 m_law_gates (aCons (gv 0) (aCons (eBin dAdd (dc (.int 2)) (eCB gInt (aCons (gv 1) aNil))) aNil))) oNone (oSome (gv 2)))) (sIf (bT (gv 1)) (sSet 3 (eSl (gv 3) oNone (oSome (dc (.int 2))))) sNext)) [S0, some (.bl large), some (.int (most : Int)), none, none, none, none, none, none, none, none] = some (.nx m3) ∧ m3 = [S0, some (.bl large), some (.int (most : Int)), some (gsD gs), none, none, none, none, none, none, none] := by
    have tk : ∀ {gs : List (List Bool)} {n : Nat}, okGs gs → 1 ≤ n → okGs (gs.take n) := fun {gs n} h hn => ⟨by rw [List.length_take]; have := h.1; omega, by rw [List.length_take]; have := h.2.1; omega, fun g hg => h.2.2 g (List.mem_of_mem_take hg)⟩
    have slg : ∀ {gs : List (List Bool)} {n : Nat} {f u : DFn} {env : DEnv}, f env = some (gsD gs) → u env = some (.int (n : Int)) → eSl f oNone (oSome u) env = some (gsD (gs.take n)) := fun {gs n f u env} h hu => by
      rw [sl_to (k := n) h hu]
      unfold gsD
      rw [List.map_take]
    cases large with
    | false =>
      obtain ⟨gs0, hgs0, _, e1⟩ := e_gates ns (most := 2) (.inr (.inl rfl))
      refine ⟨gs0.take most, tk hgs0 hmost, _, st_seq (st_set (slg (ex_call (ds := [.lst (ns.map D.int), .int 2]) rfl rfl e1) rfl)) (st_iff rfl rfl), rfl⟩
    | true =>
      obtain ⟨gs0, hgs0, _, e1⟩ := e_gates ns (most := 3) (.inr (.inr rfl))
      refine ⟨(gs0.take most).take 2, tk (tk hgs0 hmost) (by decide), _, st_seq (st_set (slg (ex_call (ds := [.lst (ns.map D.int), .int 3]) rfl rfl e1) rfl)) (st_ift rfl (st_set (slg (n := 2) rfl rfl))), rfl⟩
  obtain ⟨gs, hgs, m3, e3, rfl⟩ := hg
  obtain ⟨st, em, hok, hcl⟩ := mks_ok hgs
  obtain ⟨S, eS, hr, hnd, hclo, hx, hy, h2, h16, hclS⟩ := e_makable hgs
  have hS : ∀ t, t ∈ S ↔ t ∈ st.1 := fun t => ⟨fun h => clo_in hgs (List.mem_of_getElem? hok.x) (List.mem_of_getElem? hok.y) hcl (hclo t h), fun h => clo_in hgs hx hy hclS (hok.clo t h)⟩
  have e4 : eCall 1 m_makable (aCons (eLC [none] (iSeq (gv 3)) (dN 0) bAll (eCB gList (aCons (gv 0) aNil))) aNil) [S0, some (.bl large), some (.int (most : Int)), some (gsD gs), none, none, none, none, none, none, none] = some (gsD S) :=
    ex_call (ds := [gsD gs]) (ax_cons (e_copy rfl (by have := hgs.2.1; omega)) rfl) rfl eS
  have e5 : eLst (aCons (eLst (aCons (dc (.bl false)) (aCons (dc (.bl true)) (aCons (dc (.bl false)) (aCons (dc (.bl true)) aNil))))) (aCons (eLst (aCons (dc (.bl false)) (aCons (dc (.bl false)) (aCons (dc (.bl true)) (aCons (dc (.bl true)) aNil))))) aNil)) [S0, some (.bl large), some (.int (most : Int)), some (gsD gs), some (gsD S), none, none, none, none, none, none] = some (gsD [xB, yB]) := by kernel_rfl
  have e6 : bOr (bNot (bT (eIsi "list" (gv 4)))) (bOr (bT (eBin dNotInD (eBin dIx (gv 5) (dc (.int 0))) (gv 4))) (bT (eBin dNotInD (eBin dIx (gv 5) (dc (.int 1))) (gv 4)))) [S0, some (.bl large), some (.int (most : Int)), some (gsD gs), some (gsD S), some (gsD [xB, yB]), none, none, none, none, none] = some false := by
    have n1 := notin_gs xB S
    have n2 := notin_gs yB S
    rw [List.contains_iff_mem.mpr hx] at n1
    rw [List.contains_iff_mem.mpr hy] at n2
    exact bt_orF (bt_not (b := true) (by rfl)) (bt_orF (bt_of (ex_bin (x := gD xB) rfl rfl n1)) (bt_of (ex_bin (x := gD yB) rfl rfl n2)))
  obtain ⟨T, o6, o8, hT4, hTl, hf⟩ := draw_for (ns := ns) (B := some (.bl large)) (C := some (.int (most : Int))) (G := some (gsD gs)) (S := some (gsD S)) (o7 := none) (o9 := none) (o10 := none) (List.range 4) [xB, yB] none none (fun t ht => by
    rcases List.mem_cons.mp ht with z | z
    · rw [z]; rfl
    · rw [List.mem_singleton.mp z]; rfl) (by decide)
  have hr4 : ∀ env : DEnv, iRng (aCons (dc (.int 4)) aNil) env = some ((List.range 4).map fun (k : Nat) => D.int (k : Int)) := fun env => by rw [← rngD_range]; rfl
  have e9 : ∃ T2 : List (List Bool), (∀ t ∈ T2, t.length = 4) ∧ sIf (bT (gv 1)) (sSet 5 (eSl (gv 5) (oSome (dc (.int 2))) (oSome (dc (.int 4))))) sNext [S0, some (.bl large), some (.int (most : Int)), some (gsD gs), some (gsD S), some (gsD T), o6, none, o8, none, none] = some (.nx [S0, some (.bl large), some (.int (most : Int)), some (gsD gs), some (gsD S), some (gsD T2), o6, none, o8, none, none]) := by
    cases large with
    | false => exact ⟨T, hT4, st_iff rfl rfl⟩
    | true =>
      obtain ⟨es, h1, h2⟩ := sl_mid (f := gv 5) (l := dc (.int 2)) (u := dc (.int 4)) (env := [S0, some (.bl true), some (.int (most : Int)), some (gsD gs), some (gsD S), some (gsD T), o6, none, o8, none, none]) (a := 2) (b := 4) (ds := T.map gD) (by decide) rfl rfl rfl
      obtain ⟨T2, rfl, hT2⟩ := map_of (f := gD) (P := fun t => t.length = 4) (ys := es) (fun y hy => by
        obtain ⟨t, ht, rfl⟩ := List.mem_map.mp (h2 y hy)
        exact ⟨t, hT4 t ht, rfl⟩)
      exact ⟨T2, hT2, st_ift rfl (st_set h1)⟩
  obtain ⟨T2, hT2, e9⟩ := e9
  obtain ⟨o7, o9, o10, hp⟩ := poke_for hgs em hok hS (A := S0) (B := some (.bl large)) (C := some (.int (most : Int))) (T := some (gsD T2)) (K6 := o6) (C8 := o8) T2 none none none hT2
  have h0 : S[0]? = some (S[0]'(by omega)) := List.getElem?_eq_getElem _
  have hm0 : S[0]'(by omega) ∈ st.1 := (hS _).mp (List.getElem_mem _)
  generalize S[0]'(by omega) = t0 at h0 hm0
  obtain ⟨j, _, hj, emade⟩ := m_made_is hgs ((hok.clo t0 hm0).len) em hm0
  have h0' : eBin dIx (gv 4) (dc (.int 0)) [S0, some (.bl large), some (.int (most : Int)), some (gsD gs), some (gsD S), some (gsD T2), o6, o7, o8, o9, o10] = some (gD t0) := ex_bin (y := .int ((0 : Nat) : Int)) rfl rfl (at_gs h0)
  have efin : eCall 3 m_law_makes (aCons (gv 3) (aCons (eCall 2 m_made (aCons (gv 3) (aCons (eBin dIx (gv 4) (dc (.int 0))) aNil))) (aCons (eBin dIx (gv 4) (dc (.int 0))) aNil))) [S0, some (.bl large), some (.int (most : Int)), some (gsD gs), some (gsD S), some (gsD T2), o6, o7, o8, o9, o10] = some (.bl true) :=
    ex_call (ds := [gsD gs, .lst (st.2.take (j + 1)), gD t0]) (ax_cons rfl (ax_cons (ex_call (ds := [gsD gs, gD t0]) (ax_cons rfl (ax_cons h0' rfl)) rfl emade) (ax_cons h0' rfl))) rfl (e_makes hgs hok hj)
  have e34 : ∀ {k : DSt} {r : Option Out}, k [S0, some (.bl large), some (.int (most : Int)), some (gsD gs), none, none, none, none, none, none, none] = r → sSeq (sSet 3 (eSl (eCall 2 m_law_gates (aCons (gv 0) (aCons (eBin dAdd (dc (.int 2)) (eCB gInt (aCons (gv 1) aNil))) aNil))) oNone (oSome (gv 2)))) (sSeq (sIf (bT (gv 1)) (sSet 3 (eSl (gv 3) oNone (oSome (dc (.int 2))))) sNext) k) [S0, some (.bl large), some (.int (most : Int)), none, none, none, none, none, none, none, none] = r := fun {k r} hk => by
    unfold sSeq at e3 ⊢
    cases hs : sSet 3 (eSl (eCall 2 m_law_gates (aCons (gv 0) (aCons (eBin dAdd (dc (.int 2)) (eCB gInt (aCons (gv 1) aNil))) aNil))) oNone (oSome (gv 2))) [S0, some (.bl large), some (.int (most : Int)), none, none, none, none, none, none, none, none] with
    | none => rw [hs] at e3; cases e3
    | some out =>
      rw [hs] at e3
      cases out with
      | nx env1 =>
        simp only [Option.bind_s] at e3 ⊢
        rw [e3]
        exact hk
      | _ => simp at e3
  exact st_fn (st_seq (st_set e0) (st_seq (st_set (d := .int 3) rfl) (st_seq e2 (e34 (st_seq (st_set e4) (st_seq (st_set e5) (st_seq (st_iff e6 rfl) (st_seq (st_for (hr4 _) hf) (st_seq e9 (st_seq (st_for (seq_gv rfl) hp) (st_ret efin))))))))))) rfl
end Gw
namespace Gw
open PySem PySem.Spec PyProof.Rows L2
noncomputable def top (i : Nat) : Stmt := PySem.Challenge.pw_gatewhole_k13_whole_made.main.body.getD i (.Pass ⟨0, 0, 0, 0⟩)
noncomputable abbrev s_check_gate : Stmt := top 13
noncomputable abbrev s_check_gates : Stmt := top 14
noncomputable abbrev s_row_of : Stmt := top 15
noncomputable abbrev s_weights_of : Stmt := top 16
noncomputable abbrev s_inputs_of : Stmt := top 17
noncomputable abbrev s_answers_to : Stmt := top 18
noncomputable abbrev s_table_of_input : Stmt := top 20
noncomputable abbrev s_tables_of_inputs : Stmt := top 21
noncomputable abbrev s_check_table : Stmt := top 25
noncomputable abbrev s_places_below : Stmt := top 26
noncomputable abbrev s_places_up_to : Stmt := top 27
noncomputable abbrev s_makings_of : Stmt := top 29
noncomputable abbrev s_makable : Stmt := top 30
noncomputable abbrev s_made : Stmt := top 31
noncomputable abbrev s_law_cell_at : Stmt := top 33
noncomputable abbrev s_law_whole : Stmt := top 34
noncomputable abbrev s_law_next : Stmt := top 35
noncomputable abbrev s_law_gate : Stmt := top 36
noncomputable abbrev s_law_gates : Stmt := top 37
noncomputable abbrev s_law_wide : Stmt := top 38
noncomputable abbrev s_law_kind : Stmt := top 39
noncomputable abbrev s_law_answered : Stmt := top 40
noncomputable abbrev s_law_stepped : Stmt := top 41
noncomputable abbrev s_law_makes : Stmt := top 42
noncomputable abbrev s_law_tried : Stmt := top 43
noncomputable abbrev s_law : Stmt := top 44
noncomputable abbrev s_mk_init : Stmt := inClass (top 28) 0
noncomputable abbrev s_mk_take_step : Stmt := inClass (top 28) 1
noncomputable abbrev s_mk_take_steps_up_to : Stmt := inClass (top 28) 2
set_option genInjectivity false in
set_option genSizeOf false in
structure Adr where
  c_GateError : Addr
  c_NoGate : Addr
  c_NoClass : Addr
  c_NoInputs : Addr
  c_NoFormula : Addr
  c_NoTable : Addr
  c_NotMade : Addr
  c_NoNote : Addr
  c_Makings : Addr
  f_mk_init : Addr
  d_mk_init : FuncData
  f_mk_take_step : Addr
  d_mk_take_step : FuncData
  f_mk_take_steps_up_to : Addr
  d_mk_take_steps_up_to : FuncData
  f_check_gate : Addr
  d_check_gate : FuncData
  f_check_gates : Addr
  d_check_gates : FuncData
  f_row_of : Addr
  d_row_of : FuncData
  f_weights_of : Addr
  d_weights_of : FuncData
  f_inputs_of : Addr
  d_inputs_of : FuncData
  f_answers_to : Addr
  d_answers_to : FuncData
  f_table_of_input : Addr
  d_table_of_input : FuncData
  f_tables_of_inputs : Addr
  d_tables_of_inputs : FuncData
  f_check_table : Addr
  d_check_table : FuncData
  f_places_below : Addr
  d_places_below : FuncData
  f_places_up_to : Addr
  d_places_up_to : FuncData
  f_makings_of : Addr
  d_makings_of : FuncData
  f_makable : Addr
  d_makable : FuncData
  f_made : Addr
  d_made : FuncData
  f_law_cell_at : Addr
  d_law_cell_at : FuncData
  f_law_whole : Addr
  d_law_whole : FuncData
  f_law_next : Addr
  d_law_next : FuncData
  f_law_gate : Addr
  d_law_gate : FuncData
  f_law_gates : Addr
  d_law_gates : FuncData
  f_law_wide : Addr
  d_law_wide : FuncData
  f_law_kind : Addr
  d_law_kind : FuncData
  f_law_answered : Addr
  d_law_answered : FuncData
  f_law_stepped : Addr
  d_law_stepped : FuncData
  f_law_makes : Addr
  d_law_makes : FuncData
  f_law_tried : Addr
  d_law_tried : FuncData
  f_law : Addr
  d_law : FuncData
  a_LENGTHS : Addr
  a_MOST_GATES : Tok
  a_WEIGHTS : Addr
  a_ROWS : Tok
  a_ALL_TABLES : Tok
structure Txt (K : PySem.W.Frag) (mg : Str → Option Value) (t : Adr) : Prop where
  F_check_gate : Fun K "check_gate" "check_gate" s_check_gate t.f_check_gate t.d_check_gate
  m_check_gate : mg "check_gate" = some (.ref t.f_check_gate)
  b_check_gate : Binds K t.d_check_gate ["gate"] []
  F_check_gates : Fun K "check_gates" "check_gates" s_check_gates t.f_check_gates t.d_check_gates
  m_check_gates : mg "check_gates" = some (.ref t.f_check_gates)
  b_check_gates : Binds K t.d_check_gates ["gates"] []
  F_row_of : Fun K "row_of" "row_of" s_row_of t.f_row_of t.d_row_of
  m_row_of : mg "row_of" = some (.ref t.f_row_of)
  b_row_of : Binds K t.d_row_of ["inputs"] []
  F_weights_of : Fun K "weights_of" "weights_of" s_weights_of t.f_weights_of t.d_weights_of
  m_weights_of : mg "weights_of" = some (.ref t.f_weights_of)
  b_weights_of : Binds K t.d_weights_of ["gate"] []
  F_inputs_of : Fun K "inputs_of" "inputs_of" s_inputs_of t.f_inputs_of t.d_inputs_of
  m_inputs_of : mg "inputs_of" = some (.ref t.f_inputs_of)
  b_inputs_of : Binds K t.d_inputs_of ["gate"] []
  F_answers_to : Fun K "answers_to" "answers_to" s_answers_to t.f_answers_to t.d_answers_to
  m_answers_to : mg "answers_to" = some (.ref t.f_answers_to)
  b_answers_to : Binds K t.d_answers_to ["gate", "tables"] []
  F_table_of_input : Fun K "table_of_input" "table_of_input" s_table_of_input t.f_table_of_input t.d_table_of_input
  m_table_of_input : mg "table_of_input" = some (.ref t.f_table_of_input)
  b_table_of_input : Binds K t.d_table_of_input ["number", "many"] []
  F_tables_of_inputs : Fun K "tables_of_inputs" "tables_of_inputs" s_tables_of_inputs t.f_tables_of_inputs t.d_tables_of_inputs
  m_tables_of_inputs : mg "tables_of_inputs" = some (.ref t.f_tables_of_inputs)
  b_tables_of_inputs : Binds K t.d_tables_of_inputs ["many"] []
  F_check_table : Fun K "check_table" "check_table" s_check_table t.f_check_table t.d_check_table
  m_check_table : mg "check_table" = some (.ref t.f_check_table)
  b_check_table : Binds K t.d_check_table ["table"] []
  F_places_below : Fun K "places_below" "places_below" s_places_below t.f_places_below t.d_places_below
  m_places_below : mg "places_below" = some (.ref t.f_places_below)
  b_places_below : Binds K t.d_places_below ["end", "many"] []
  F_places_up_to : Fun K "places_up_to" "places_up_to" s_places_up_to t.f_places_up_to t.d_places_up_to
  m_places_up_to : mg "places_up_to" = some (.ref t.f_places_up_to)
  b_places_up_to : Binds K t.d_places_up_to ["last", "many"] []
  F_makings_of : Fun K "makings_of" "makings_of" s_makings_of t.f_makings_of t.d_makings_of
  m_makings_of : mg "makings_of" = some (.ref t.f_makings_of)
  b_makings_of : Binds K t.d_makings_of ["gates"] []
  F_makable : Fun K "makable" "makable" s_makable t.f_makable t.d_makable
  m_makable : mg "makable" = some (.ref t.f_makable)
  b_makable : Binds K t.d_makable ["gates"] []
  F_made : Fun K "made" "made" s_made t.f_made t.d_made
  m_made : mg "made" = some (.ref t.f_made)
  b_made : Binds K t.d_made ["gates", "table"] []
  F_law_cell_at : Fun K "_law_cell_at" "_law_cell_at" s_law_cell_at t.f_law_cell_at t.d_law_cell_at
  m_law_cell_at : mg "_law_cell_at" = some (.ref t.f_law_cell_at)
  b_law_cell_at : Binds K t.d_law_cell_at ["script", "k"] []
  F_law_whole : Fun K "_law_whole" "_law_whole" s_law_whole t.f_law_whole t.d_law_whole
  m_law_whole : mg "_law_whole" = some (.ref t.f_law_whole)
  b_law_whole : Binds K t.d_law_whole ["found"] []
  F_law_next : Fun K "_law_next" "_law_next" s_law_next t.f_law_next t.d_law_next
  m_law_next : mg "_law_next" = some (.ref t.f_law_next)
  b_law_next : Binds K t.d_law_next ["seed"] []
  F_law_gate : Fun K "_law_gate" "_law_gate" s_law_gate t.f_law_gate t.d_law_gate
  m_law_gate : mg "_law_gate" = some (.ref t.f_law_gate)
  b_law_gate : Binds K t.d_law_gate ["seed", "most"] []
  F_law_gates : Fun K "_law_gates" "_law_gates" s_law_gates t.f_law_gates t.d_law_gates
  m_law_gates : mg "_law_gates" = some (.ref t.f_law_gates)
  b_law_gates : Binds K t.d_law_gates ["script", "most"] []
  F_law_wide : Fun K "_law_wide" "_law_wide" s_law_wide t.f_law_wide t.d_law_wide
  m_law_wide : mg "_law_wide" = some (.ref t.f_law_wide)
  b_law_wide : Binds K t.d_law_wide ["gate"] []
  F_law_kind : Fun K "_law_kind" "_law_kind" s_law_kind t.f_law_kind t.d_law_kind
  m_law_kind : mg "_law_kind" = some (.ref t.f_law_kind)
  b_law_kind : Binds K t.d_law_kind ["e"] []
  F_law_answered : Fun K "_law_answered" "_law_answered" s_law_answered t.f_law_answered t.d_law_answered
  m_law_answered : mg "_law_answered" = some (.ref t.f_law_answered)
  b_law_answered : Binds K t.d_law_answered ["gate", "tables"] []
  F_law_stepped : Fun K "_law_stepped" "_law_stepped" s_law_stepped t.f_law_stepped t.d_law_stepped
  m_law_stepped : mg "_law_stepped" = some (.ref t.f_law_stepped)
  b_law_stepped : Binds K t.d_law_stepped ["gates", "step", "tables"] []
  F_law_makes : Fun K "_law_makes" "_law_makes" s_law_makes t.f_law_makes t.d_law_makes
  m_law_makes : mg "_law_makes" = some (.ref t.f_law_makes)
  b_law_makes : Binds K t.d_law_makes ["gates", "plan", "table"] []
  F_law_tried : Fun K "_law_tried" "_law_tried" s_law_tried t.f_law_tried t.d_law_tried
  m_law_tried : mg "_law_tried" = some (.ref t.f_law_tried)
  b_law_tried : Binds K t.d_law_tried ["gates", "table"] []
  F_law : Fun K "law" "law" s_law t.f_law t.d_law
  m_law : mg "law" = some (.ref t.f_law)
  b_law : Binds K t.d_law ["script"] []
  cl_Makings : Cls K t.c_Makings
  m_Makings : mg "Makings" = some (.ref t.c_Makings)
  mk_Makings : Mk K t.c_Makings t.f_mk_init
  na_gates : NoAttr K t.c_Makings "gates"
  na_tables : NoAttr K t.c_Makings "tables"
  na_steps : NoAttr K t.c_Makings "steps"
  F_mk_init : Fun K "__init__" "Makings.__init__" s_mk_init t.f_mk_init t.d_mk_init
  b_mk_init : Binds K t.d_mk_init ["self", "gates"] []
  F_mk_take_step : Fun K "take_step" "Makings.take_step" s_mk_take_step t.f_mk_take_step t.d_mk_take_step
  b_mk_take_step : Binds K t.d_mk_take_step ["self", "number", "places"] []
  me_mk_take_step : Meth K t.c_Makings "take_step" t.f_mk_take_step
  F_mk_take_steps_up_to : Fun K "take_steps_up_to" "Makings.take_steps_up_to" s_mk_take_steps_up_to t.f_mk_take_steps_up_to t.d_mk_take_steps_up_to
  b_mk_take_steps_up_to : Binds K t.d_mk_take_steps_up_to ["self", "last"] []
  me_mk_take_steps_up_to : Meth K t.c_Makings "take_steps_up_to" t.f_mk_take_steps_up_to
  m_GateError : mg "GateError" = some (.ref t.c_GateError)
  g_GateError : ClsAt K "GateError" t.c_GateError
  m_NoGate : mg "NoGate" = some (.ref t.c_NoGate)
  g_NoGate : ClsAt K "NoGate" t.c_NoGate
  m_NoClass : mg "NoClass" = some (.ref t.c_NoClass)
  g_NoClass : ClsAt K "NoClass" t.c_NoClass
  m_NoInputs : mg "NoInputs" = some (.ref t.c_NoInputs)
  g_NoInputs : ClsAt K "NoInputs" t.c_NoInputs
  m_NoFormula : mg "NoFormula" = some (.ref t.c_NoFormula)
  g_NoFormula : ClsAt K "NoFormula" t.c_NoFormula
  m_NoTable : mg "NoTable" = some (.ref t.c_NoTable)
  g_NoTable : ClsAt K "NoTable" t.c_NoTable
  m_NotMade : mg "NotMade" = some (.ref t.c_NotMade)
  g_NotMade : ClsAt K "NotMade" t.c_NotMade
  m_NoNote : mg "NoNote" = some (.ref t.c_NoNote)
  g_NoNote : ClsAt K "NoNote" t.c_NoNote
  x_GateError : Exc K t.c_GateError
  x_NoGate : Exc K t.c_NoGate
  s_NoGate : PySem.W.kitCls K (.ref t.c_NoGate) (.ref t.c_GateError) = some true
  k_NoGate : KindOf K [t.c_NoGate, t.c_NoClass, t.c_NoInputs, t.c_NoFormula, t.c_NoTable, t.c_NotMade, t.c_NoNote] t.c_NoGate 0
  x_NoTable : Exc K t.c_NoTable
  s_NoTable : PySem.W.kitCls K (.ref t.c_NoTable) (.ref t.c_GateError) = some true
  k_NoTable : KindOf K [t.c_NoGate, t.c_NoClass, t.c_NoInputs, t.c_NoFormula, t.c_NoTable, t.c_NotMade, t.c_NoNote] t.c_NoTable 4
  x_NotMade : Exc K t.c_NotMade
  s_NotMade : PySem.W.kitCls K (.ref t.c_NotMade) (.ref t.c_GateError) = some true
  k_NotMade : KindOf K [t.c_NoGate, t.c_NoClass, t.c_NoInputs, t.c_NoFormula, t.c_NoTable, t.c_NotMade, t.c_NoNote] t.c_NotMade 5
  m_LENGTHS : mg "LENGTHS" = some (.ref t.a_LENGTHS)
  d_LENGTHS : ∀ (H : Hp) (W : List Addr), DW K H W (.ref t.a_LENGTHS) con_LENGTHS
  m_MOST_GATES : mg "MOST_GATES" = some (.int 5 t.a_MOST_GATES)
  m_WEIGHTS : mg "WEIGHTS" = some (.ref t.a_WEIGHTS)
  d_WEIGHTS : ∀ (H : Hp) (W : List Addr), DW K H W (.ref t.a_WEIGHTS) con_WEIGHTS
  m_ROWS : mg "ROWS" = some (.int 4 t.a_ROWS)
  m_ALL_TABLES : mg "ALL_TABLES" = some (.int 16 t.a_ALL_TABLES)
  z_ValueError : mg "ValueError" = none
  z_bool : mg "bool" = none
  z_enumerate : mg "enumerate" = none
  z_int : mg "int" = none
  z_isinstance : mg "isinstance" = none
  z_len : mg "len" = none
  z_list : mg "list" = none
  z_range : mg "range" = none
  z_sorted : mg "sorted" = none
  z_sum : mg "sum" = none
  z_tuple : mg "tuple" = none
  z_zip : mg "zip" = none
section
variable {P : Program} {w : World} {K : PySem.W.Frag} {mg : Str → Option Value} {base : Heap} {t : Adr}
theorem sc_check_gate : FnScope ["gate"] ["gate"] (defScope s_check_gate) := ⟨rfl, rfl, rfl, by decide +kernel, rfl, by decide +kernel, by decide +kernel⟩
theorem ok_check_gate (T : Txt K mg t) : FnOk P w K mg base CX0 1 t.f_check_gate t.d_check_gate ["gate"] (dsp K 1 false m_check_gate) := by
  refine T.F_check_gate.ok sc_check_gate (fun vs H Q E h => dsp_len h) (fun cdv A outer s H vs Q E hr h => ?_)
  refine ⟨_, (pss_one (ps_if (pt_cmpR (op_notInK K) (pe_callB (call_lenK K) (by rfl) T.z_len PySem.boot_len (pa_cons (pv 0) pa_nil)) (pe_glob (v := .ref t.a_LENGTHS) rfl T.m_LENGTHS rfl) rfl) (pss_one ps_never) pss_nil)), ?_⟩
  exact fn_read (K := K) (np := 1) (n := 1) (fr := false) (O1 := []) (rs_if (rt_cmp (RdE.r (rd_op rdo_notin (RdE.r (rd_cb rc_len (rar_cons (RdE.r (rd_var (i := 0))) rar_nil))) (RdE.r (rd_con (d := con_LENGTHS) (fun H W => T.d_LENGTHS H W)))))) rs_never rs_next) h rfl (by decide)
theorem okx_check_gate (T : Txt K mg t) : FnOk P w K mg base (CXe P w) 1 t.f_check_gate t.d_check_gate ["gate"] (dspx K 1 false m_check_gate x_check_gate) := by
  refine T.F_check_gate.okL sc_check_gate (fun vs H Q E h => dspx_len h) (fun cdv A outer s H vs Q E hr h => ?_)
  refine ⟨_, (pss_one (ps_if (pt_cmpR (op_notInK K) (pe_callB (call_lenK K) (by rfl) T.z_len PySem.boot_len (pa_cons (pv 0) pa_nil)) (pe_glob (v := .ref t.a_LENGTHS) rfl T.m_LENGTHS rfl) rfl) (pss_one (ps_raiseL T.x_NoGate (by rfl) T.m_NoGate)) pss_nil)), ?_⟩
  exact fn_readx (K := K) (np := 1) (n := 1) (fr := false) (O1 := []) (rs_if (rt_cmp (RdE.r (rd_op rdo_notin (RdE.r (rd_cb rc_len (rar_cons (RdE.r (rd_var (i := 0))) rar_nil))) (RdE.r (rd_con (d := con_LENGTHS) (fun H W => T.d_LENGTHS H W)))))) rs_noneR rs_next) (xs_if (rt_cmp (RdE.r (rd_op rdo_notin (RdE.r (rd_cb rc_len (rar_cons (RdE.r (rd_var (i := 0))) rar_nil))) (RdE.r (rd_con (d := con_LENGTHS) (fun H W => T.d_LENGTHS H W)))))) (xs_raise T.g_NoGate) xs_no) h rfl (by decide)
theorem sc_check_gates : FnScope ["gates", "gate"] ["gates"] (defScope s_check_gates) := ⟨rfl, rfl, rfl, by decide +kernel, rfl, by decide +kernel, by decide +kernel⟩
theorem ok_check_gates (T : Txt K mg t) : FnOk P w K mg base CX0 2 t.f_check_gates t.d_check_gates ["gates"] (dsp K 1 false m_check_gates) := by
  refine T.F_check_gates.ok sc_check_gates (fun vs H Q E h => dsp_len h) (fun cdv A outer s H vs Q E hr h => ?_)
  refine ⟨_, (pss_cons (ps_if (PW.pt (pw_or (pt_cmpR op_lt (pe_callB (call_lenK K) (by rfl) T.z_len PySem.boot_len (pa_cons (pv 0) pa_nil)) pe_int (nomark _)) (pw_or1 (pt_cmpR op_gt (pe_callB (call_lenK K) (by rfl) T.z_len PySem.boot_len (pa_cons (pv 0) pa_nil)) (pe_glob (v := (.int 5)) rfl T.m_MOST_GATES ⟨_, rfl⟩) (nomark _))))) (pss_one ps_never) pss_nil) (pss_one (ps_for PassesOwn.never rfl (pi_seqK K (pv 0)) (pg_name (i := 1) sc_check_gates.nd rfl (Or.inl rfl)) (pss_one (ps_expr (pe_call (ok_check_gate T) (hr.mono (by decide)) rfl T.m_check_gate T.F_check_gate.kp T.b_check_gate .nil pass0 (pa_cons (pv 1) pa_nil))))))), ?_⟩
  exact fn_read (K := K) (np := 1) (n := 2) (fr := false) (O1 := []) (rs_seq (rs_if (rt_or (rt_cmp (RdE.r (rd_op rdo_lt (RdE.r (rd_cb rc_len (rar_cons (RdE.r (rd_var (i := 0))) rar_nil))) (RdE.r rd_int)))) (rt_cmp (RdE.r (rd_op rdo_gt (RdE.r (rd_cb rc_len (rar_cons (RdE.r (rd_var (i := 0))) rar_nil))) (RdE.r rd_int))))) rs_never rs_next) (rs_for (ri_seq (rd_var (i := 0))) (rg_name (i := 1)) (rs_do (rd_call (ra_cons (rd_var (i := 1)) ra_nil))))) h rfl (by decide)
theorem okx_check_gates (T : Txt K mg t) : FnOk P w K mg base (CXe P w) 2 t.f_check_gates t.d_check_gates ["gates"] (dspx K 1 false m_check_gates x_check_gates) := by
  refine T.F_check_gates.okL sc_check_gates (fun vs H Q E h => dspx_len h) (fun cdv A outer s H vs Q E hr h => ?_)
  refine ⟨_, (pss_cons (ps_if (PW.pt (pw_or (pt_cmpR op_lt (pe_callB (call_lenK K) (by rfl) T.z_len PySem.boot_len (pa_cons (pv 0) pa_nil)) pe_int (nomark _)) (pw_or1 (pt_cmpR op_gt (pe_callB (call_lenK K) (by rfl) T.z_len PySem.boot_len (pa_cons (pv 0) pa_nil)) (pe_glob (v := (.int 5)) rfl T.m_MOST_GATES ⟨_, rfl⟩) (nomark _))))) (pss_one (ps_raiseL T.x_NoGate (by rfl) T.m_NoGate)) pss_nil) (pss_one (ps_for ownL rfl (pi_seqK K (pv 0)) (pg_name (i := 1) sc_check_gates.nd rfl (Or.inl rfl)) (pss_one (ps_expr (pe_call (okx_check_gate T) (hr.mono (by decide)) rfl T.m_check_gate T.F_check_gate.kp T.b_check_gate .nil passL (pa_cons (pv 1) pa_nil))))))), ?_⟩
  exact fn_readx (K := K) (np := 1) (n := 2) (fr := false) (O1 := []) (rs_seq (rs_if (rt_or (rt_cmp (RdE.r (rd_op rdo_lt (RdE.r (rd_cb rc_len (rar_cons (RdE.r (rd_var (i := 0))) rar_nil))) (RdE.r rd_int)))) (rt_cmp (RdE.r (rd_op rdo_gt (RdE.r (rd_cb rc_len (rar_cons (RdE.r (rd_var (i := 0))) rar_nil))) (RdE.r rd_int))))) rs_noneR rs_next) (rs_for (ri_seq (rd_var (i := 0))) (rg_name (i := 1)) (rs_do (rd_callx (ra_cons (rd_var (i := 1)) ra_nil))))) (xs_seq (fr := false) (Ob := []) (xs_if (rt_or (rt_cmp (RdE.r (rd_op rdo_lt (RdE.r (rd_cb rc_len (rar_cons (RdE.r (rd_var (i := 0))) rar_nil))) (RdE.r rd_int)))) (rt_cmp (RdE.r (rd_op rdo_gt (RdE.r (rd_cb rc_len (rar_cons (RdE.r (rd_var (i := 0))) rar_nil))) (RdE.r rd_int))))) (xs_raise T.g_NoGate) xs_no) (rs_if (rt_or (rt_cmp (RdE.r (rd_op rdo_lt (RdE.r (rd_cb rc_len (rar_cons (RdE.r (rd_var (i := 0))) rar_nil))) (RdE.r rd_int)))) (rt_cmp (RdE.r (rd_op rdo_gt (RdE.r (rd_cb rc_len (rar_cons (RdE.r (rd_var (i := 0))) rar_nil))) (RdE.r rd_int))))) rs_noneR rs_next) (xs_for (fr := false) (ri_seq (rd_var (i := 0))) (rg_name (i := 1)) (rs_do (rd_callx (ra_cons (rd_var (i := 1)) ra_nil))) (xs_do (xe_call (ra_cons (rd_var (i := 1)) ra_nil))))) h rfl (by decide)
theorem sc_row_of : FnScope ["inputs"] ["inputs"] (defScope s_row_of) := ⟨rfl, rfl, rfl, by decide +kernel, rfl, by decide +kernel, by decide +kernel⟩
theorem ok_row_of (T : Txt K mg t) : FnOk P w K mg base CX0 1 t.f_row_of t.d_row_of ["inputs"] (dsp K 1 false m_row_of) := by
  refine T.F_row_of.ok sc_row_of (fun vs H Q E h => dsp_len h) (fun cdv A outer s H vs Q E hr h => ?_)
  refine ⟨_, (pss_one (ps_ret (pe_callB (call_sumK K rfl) (by rfl) T.z_sum boot_sum (pa_cons (pe_lc rfl (lcs (N := ["weight", "truth"]) (mp := [none, none]) (by rfl)) (pi_zipK K rfl T.z_zip (pa_cons (pe_glob (v := .ref t.a_WEIGHTS) rfl T.m_WEIGHTS rfl) (pa_cons (pv 0) pa_nil))) (fun _ _ _ _ _ => (pg_pairK K (i := 0) (j := 1) rfl (show List.Nodup [("weight" : Str), ("truth" : Str)] by decide) rfl rfl (by first | exact Or.inl rfl | exact Or.inr rfl) (by first | exact Or.inl rfl | exact Or.inr rfl))) (fun _ _ _ _ _ => (pifs_one (pt_val (pv 1)))) (fun _ _ _ _ _ => (pv 0))) pa_nil)))), ?_⟩
  exact fn_read (K := K) (np := 1) (n := 1) (fr := false) (O1 := []) (rs_ret (rd_cb rc_sum (rar_cons (RdE.r (RdN.e (rn_lc (ri_zip (ra_cons (rd_con (d := con_WEIGHTS) (fun H W => T.d_WEIGHTS H W)) (ra_cons (rd_var (i := 0)) ra_nil))) (rg_tup (rgs_cons (rg_name (i := 0)) (rgs_cons (rg_name (i := 1)) rgs_nil))) (gk_tup (gks_cons (gk_name (i := 0)) (gks_cons (gk_name (i := 1)) gks_nil))) (rt_val (RdE.r (rd_var (i := 1)))) (rd_var (i := 0))))) rar_nil))) h rfl (by decide)
theorem sc_weights_of : FnScope ["gate"] ["gate"] (defScope s_weights_of) := ⟨rfl, rfl, rfl, by decide +kernel, rfl, by decide +kernel, by decide +kernel⟩
theorem ok_weights_of (T : Txt K mg t) : FnOk P w K mg base CX0 1 t.f_weights_of t.d_weights_of ["gate"] (dsp K 1 true m_weights_of) := by
  refine T.F_weights_of.ok sc_weights_of (fun vs H Q E h => dsp_len h) (fun cdv A outer s H vs Q E hr h => ?_)
  refine ⟨_, (pss_one (ps_ret (pe_lc rfl (lcs (N := ["weight", "gate"]) (mp := [none, some 0]) (by rfl)) (pi_seqK K (pe_glob (v := .ref t.a_WEIGHTS) rfl T.m_WEIGHTS rfl)) (fun _ _ _ _ _ => (pg_name (i := 0) (show List.Nodup [("weight" : Str), ("gate" : Str)] by decide) rfl (by first | exact Or.inl rfl | exact Or.inr rfl))) (fun _ _ _ _ _ => (pifs_one (pt_cmpR op_lt (pv 0) (pe_callB (call_lenK K) (by rfl) T.z_len PySem.boot_len (pa_cons (pv 1) pa_nil)) (nomark _)))) (fun _ _ _ _ _ => (pv 0))))), ?_⟩
  exact fn_read (K := K) (np := 1) (n := 1) (fr := true) (O1 := []) (rs_retN (rn_lc (ri_seq (rd_con (d := con_WEIGHTS) (fun H W => T.d_WEIGHTS H W))) (rg_name (i := 0)) (gk_name (i := 0)) (rt_cmp (RdE.r (rd_op rdo_lt (RdE.r (rd_var (i := 0))) (RdE.r (rd_cb rc_len (rar_cons (RdE.r (rd_var (i := 1))) rar_nil)))))) (rd_var (i := 0)))) h rfl (by decide)
theorem sc_inputs_of : FnScope ["gate"] ["gate"] (defScope s_inputs_of) := ⟨rfl, rfl, rfl, by decide +kernel, rfl, by decide +kernel, by decide +kernel⟩
theorem ok_inputs_of (T : Txt K mg t) : FnOk P w K mg base CX0 2 t.f_inputs_of t.d_inputs_of ["gate"] (dsp K 1 false m_inputs_of) := by
  refine T.F_inputs_of.ok sc_inputs_of (fun vs H Q E h => dsp_len h) (fun cdv A outer s H vs Q E hr h => ?_)
  refine ⟨_, (pss_one (ps_ret (pe_callB (call_lenK K) (by rfl) T.z_len PySem.boot_len (pa_cons (pe_call (ok_weights_of T) (hr.mono (by decide)) rfl T.m_weights_of T.F_weights_of.kp T.b_weights_of .nil pass0 (pa_cons (pv 0) pa_nil)) pa_nil)))), ?_⟩
  exact fn_read (K := K) (np := 1) (n := 1) (fr := false) (O1 := []) (rs_ret (rd_cb rc_len (rar_cons (RdE.r (RdN.e (rn_call (ra_cons (rd_var (i := 0)) ra_nil)))) rar_nil))) h rfl (by decide)
theorem sc_answers_to : FnScope ["gate", "tables", "answers", "row"] ["gate", "tables"] (defScope s_answers_to) := ⟨rfl, rfl, rfl, by decide +kernel, rfl, by decide +kernel, by decide +kernel⟩
theorem ok_answers_to (T : Txt K mg t) : FnOk P w K mg base CX0 2 t.f_answers_to t.d_answers_to ["gate", "tables"] (dsp K 2 true m_answers_to) := by
  refine T.F_answers_to.ok sc_answers_to (fun vs H Q E h => dsp_len h) (fun cdv A outer s H vs Q E hr h => ?_)
  refine ⟨_, (pss_cons (ps_set (i := 2) sc_answers_to.nd rfl (Or.inl rfl) (pe_lst pa_nil)) (pss_cons (ps_for PassesOwn.never rfl (pi_range1 rfl T.z_range (pa_cons (pe_callB (call_lenK K) (by rfl) T.z_len PySem.boot_len (pa_cons (pe_ix (ix_K K) (pv 1) pe_int (fun _ _ => rfl)) pa_nil)) pa_nil)) (pg_name (i := 3) sc_answers_to.nd rfl (Or.inr rfl)) (pss_one (ps_expr (pe_bmK K PySem.F.plainAttrs_list PySem.F.slot_list_append PySem.F.type_list_append mt_append (pv 2) (pa_cons (pe_ix (ix_K K) (pv 0) (pe_call (ok_row_of T) (hr.mono (by decide)) rfl T.m_row_of T.F_row_of.kp T.b_row_of .nil pass0 (pa_cons (pe_lc rfl (lcs (N := ["table", "row"]) (mp := [none, some 3]) (by rfl)) (pi_seqK K (pv 1)) (fun _ _ _ _ _ => (pg_name (i := 0) (show List.Nodup [("table" : Str), ("row" : Str)] by decide) rfl (by first | exact Or.inl rfl | exact Or.inr rfl))) (fun _ _ _ _ _ => pifs_nil) (fun _ _ _ _ _ => (pe_ix (ix_K K) (pv 0) (pv 1) (fun _ _ => rfl)))) pa_nil)) (fun _ _ => rfl)) pa_nil))))) (pss_one (ps_ret (pv 2))))), ?_⟩
  exact fn_read (K := K) (np := 2) (n := 4) (fr := true) (O1 := []) (rs_seq (rs_setN (rn_lst ra_nil)) (rs_seq (rs_for (ri_rng1 (ra_cons (rd_cb rc_len (rar_cons (RdE.r (rd_op rdo_ix (RdE.r (rd_var (i := 1))) (RdE.r rd_int))) rar_nil)) ra_nil) a_len1) (rg_name (i := 3)) (rs_app (rd_op rdo_ix (RdE.r (rd_var (i := 0))) (RdE.r (rd_call (ra_cons (RdN.e (rn_lc (ri_seq (rd_var (i := 1))) (rg_name (i := 0)) (gk_name (i := 0)) rt_all (rd_op rdo_ix (RdE.r (rd_var (i := 0))) (RdE.r (rd_var (i := 1)))))) ra_nil)))))) (rs_retO (i := 2)))) h rfl (by decide)
theorem sc_table_of_input : FnScope ["number", "many"] ["number", "many"] (defScope s_table_of_input) := ⟨rfl, rfl, rfl, by decide +kernel, rfl, by decide +kernel, by decide +kernel⟩
theorem ok_table_of_input (T : Txt K mg t) : FnOk P w K mg base CX0 1 t.f_table_of_input t.d_table_of_input ["number", "many"] (dsp K 2 true m_table_of_input) := by
  refine T.F_table_of_input.ok sc_table_of_input (fun vs H Q E h => dsp_len h) (fun cdv A outer s H vs Q E hr h => ?_)
  refine ⟨_, (pss_one (ps_ret (pe_lc rfl (lcs (N := ["row", "number"]) (mp := [none, some 0]) (by rfl)) (pi_range1 rfl T.z_range (pa_cons (pe_ix (ix_K K) (pe_glob (v := .ref t.a_LENGTHS) rfl T.m_LENGTHS rfl) (pe_op op_sub (pv 1) pe_int) (fun _ _ => rfl)) pa_nil)) (fun _ _ _ _ _ => (pg_name (i := 0) (show List.Nodup [("row" : Str), ("number" : Str)] by decide) rfl (by first | exact Or.inl rfl | exact Or.inr rfl))) (fun _ _ _ _ _ => pifs_nil) (fun _ _ _ _ _ => (pe_cmpR (op_neK K hr.units) (pe_op op_and (pv 0) (pe_ix (ix_K K) (pe_glob (v := .ref t.a_WEIGHTS) rfl T.m_WEIGHTS rfl) (pv 1) (fun _ _ => rfl))) pe_int (nomark _)))))), ?_⟩
  exact fn_read (K := K) (np := 2) (n := 2) (fr := true) (O1 := []) (rs_retN (rn_lc (ri_rng1 (ra_cons (rd_op rdo_ix (RdE.r (rd_con (d := con_LENGTHS) (fun H W => T.d_LENGTHS H W))) (RdE.r (rd_op rdo_sub (RdE.r (rd_var (i := 1))) (RdE.r rd_int)))) ra_nil) a_len1) (rg_name (i := 0)) (gk_name (i := 0)) rt_all (rd_op rdo_ne (RdE.r (rd_op rdo_band (RdE.r (rd_var (i := 0))) (RdE.r (rd_op rdo_ix (RdE.r (rd_con (d := con_WEIGHTS) (fun H W => T.d_WEIGHTS H W))) (RdE.r (rd_var (i := 1))))))) (RdE.r rd_int)))) h rfl (by decide)
theorem sc_tables_of_inputs : FnScope ["many"] ["many"] (defScope s_tables_of_inputs) := ⟨rfl, rfl, rfl, by decide +kernel, rfl, by decide +kernel, by decide +kernel⟩
theorem ok_tables_of_inputs (T : Txt K mg t) : FnOk P w K mg base CX0 2 t.f_tables_of_inputs t.d_tables_of_inputs ["many"] (dsp K 1 true m_tables_of_inputs) := by
  refine T.F_tables_of_inputs.ok sc_tables_of_inputs (fun vs H Q E h => dsp_len h) (fun cdv A outer s H vs Q E hr h => ?_)
  refine ⟨_, (pss_one (ps_ret (pe_lc rfl (lcs (N := ["number", "many"]) (mp := [none, some 0]) (by rfl)) (pi_range1 rfl T.z_range (pa_cons (pv 0) pa_nil)) (fun _ _ _ _ _ => (pg_name (i := 0) (show List.Nodup [("number" : Str), ("many" : Str)] by decide) rfl (by first | exact Or.inl rfl | exact Or.inr rfl))) (fun _ _ _ _ _ => pifs_nil) (fun _ _ _ _ _ => (pe_call (ok_table_of_input T) (hr.mono (by decide)) rfl T.m_table_of_input T.F_table_of_input.kp T.b_table_of_input .nil pass0 (pa_cons (pv 0) (pa_cons (pv 1) pa_nil))))))), ?_⟩
  exact fn_read (K := K) (np := 1) (n := 1) (fr := true) (O1 := []) (rs_retN (rn_lc (ri_rng1 (ra_cons (rd_var (i := 0)) ra_nil) a_len1) (rg_name (i := 0)) (gk_name (i := 0)) rt_all (RdN.e (rn_call (ra_cons (rd_var (i := 0)) (ra_cons (rd_var (i := 1)) ra_nil)))))) h rfl (by decide)
theorem sc_check_table : FnScope ["table"] ["table"] (defScope s_check_table) := ⟨rfl, rfl, rfl, by decide +kernel, rfl, by decide +kernel, by decide +kernel⟩
theorem ok_check_table (T : Txt K mg t) : FnOk P w K mg base CX0 1 t.f_check_table t.d_check_table ["table"] (dsp K 1 false m_check_table) := by
  refine T.F_check_table.ok sc_check_table (fun vs H Q E h => dsp_len h) (fun cdv A outer s H vs Q E hr h => ?_)
  refine ⟨_, (pss_one (ps_if (pt_cmpR (op_neK K hr.units) (pe_callB (call_lenK K) (by rfl) T.z_len PySem.boot_len (pa_cons (pv 0) pa_nil)) (pe_glob (v := (.int 4)) rfl T.m_ROWS ⟨_, rfl⟩) (nomark _)) (pss_one ps_never) pss_nil)), ?_⟩
  exact fn_read (K := K) (np := 1) (n := 1) (fr := false) (O1 := []) (rs_if (rt_cmp (RdE.r (rd_op rdo_ne (RdE.r (rd_cb rc_len (rar_cons (RdE.r (rd_var (i := 0))) rar_nil))) (RdE.r rd_int)))) rs_never rs_next) h rfl (by decide)
theorem okx_check_table (T : Txt K mg t) : FnOk P w K mg base (CXe P w) 1 t.f_check_table t.d_check_table ["table"] (dspx K 1 false m_check_table x_check_table) := by
  refine T.F_check_table.okL sc_check_table (fun vs H Q E h => dspx_len h) (fun cdv A outer s H vs Q E hr h => ?_)
  refine ⟨_, (pss_one (ps_if (pt_cmpR (op_neK K hr.units) (pe_callB (call_lenK K) (by rfl) T.z_len PySem.boot_len (pa_cons (pv 0) pa_nil)) (pe_glob (v := (.int 4)) rfl T.m_ROWS ⟨_, rfl⟩) (nomark _)) (pss_one (ps_raiseL T.x_NoTable (by rfl) T.m_NoTable)) pss_nil)), ?_⟩
  exact fn_readx (K := K) (np := 1) (n := 1) (fr := false) (O1 := []) (rs_if (rt_cmp (RdE.r (rd_op rdo_ne (RdE.r (rd_cb rc_len (rar_cons (RdE.r (rd_var (i := 0))) rar_nil))) (RdE.r rd_int)))) rs_noneR rs_next) (xs_if (rt_cmp (RdE.r (rd_op rdo_ne (RdE.r (rd_cb rc_len (rar_cons (RdE.r (rd_var (i := 0))) rar_nil))) (RdE.r rd_int)))) (xs_raise T.g_NoTable) xs_no) h rfl (by decide)
theorem sc_places_below : FnScope ["end", "many", "longer", "places"] ["end", "many"] (defScope s_places_below) := ⟨rfl, rfl, rfl, by decide +kernel, rfl, by decide +kernel, by decide +kernel⟩
theorem okr_places_below (T : Txt K mg t) : ∀ k : Nat, FnOk P w K mg base CX0 (0 + k) t.f_places_below t.d_places_below ["end", "many"] (dsp K 2 true (mr_places_below k))
  | 0 => fn_zero rfl fun _ => rfl
  | k + 1 => by
    have ih := okr_places_below T k
    refine T.F_places_below.ok (k := 0 + k) sc_places_below (fun vs H Q E h => dsp_len h) (fun cdv A outer s H vs Q E hr h => ?_)
    refine ⟨_, (pss_cons (ps_if (pt_cmpR (op_eqK K hr.units) (pv 1) pe_int (nomark _)) (pss_one (ps_ret (pe_lst (pa_cons (pe_tup pa_nil) pa_nil)))) pss_nil) (pss_cons (ps_set (i := 2) sc_places_below.nd rfl (Or.inl rfl) (pe_lst pa_nil)) (pss_cons (ps_for PassesOwn.never rfl (pi_seqK K (pe_call ih hr rfl T.m_places_below T.F_places_below.kp T.b_places_below .nil pass0 (pa_cons (pv 0) (pa_cons (pe_op op_sub (pv 1) pe_int) pa_nil)))) (pg_name (i := 3) sc_places_below.nd rfl (Or.inr rfl)) (pss_one (ps_expr (pe_bmK K PySem.F.plainAttrs_list PySem.F.slot_list_extend PySem.F.type_list_extend mt_extend (pv 2) (pa_cons (pe_lc rfl (lcs (N := ["place", "places"]) (mp := [none, some 3]) (by rfl)) (pi_range1 rfl T.z_range (pa_cons (pv 0) pa_nil)) (fun _ _ _ _ _ => (pg_name (i := 0) (show List.Nodup [("place" : Str), ("places" : Str)] by decide) rfl (by first | exact Or.inl rfl | exact Or.inr rfl))) (fun _ _ _ _ _ => pifs_nil) (fun _ _ _ _ _ => (pe_op (op_addT K) (pv 1) (pe_tup (pa_cons (pv 0) pa_nil))))) pa_nil))))) (pss_one (ps_ret (pv 2)))))), ?_⟩
    exact fn_read (K := K) (np := 2) (n := 4) (fr := true) (O1 := []) (rs_seq (rs_if (rt_cmp (RdE.r (rd_op rdo_eq (RdE.r (rd_var (i := 1))) (RdE.r rd_int)))) (rs_retN (rn_lst (ra_cons (rd_tup ra_nil) ra_nil))) rs_next) (rs_seq (rs_setN (rn_lst ra_nil)) (rs_seq (rs_for (ri_seq (RdN.e (rn_call (ra_cons (rd_var (i := 0)) (ra_cons (rd_op rdo_sub (RdE.r (rd_var (i := 1))) (RdE.r rd_int)) ra_nil))))) (rg_name (i := 3)) (rs_ext (rn_lc (ri_rng1 (ra_cons (rd_var (i := 0)) ra_nil) a_len1) (rg_name (i := 0)) (gk_name (i := 0)) rt_all (rd_op rdo_addT (RdE.r (rd_var (i := 1))) (RdE.r (rd_tup (ra_cons (rd_var (i := 0)) ra_nil))))))) (rs_retO (i := 2))))) h rfl (by decide)
theorem ok_places_below (T : Txt K mg t) : FnOk P w K mg base CX0 40 t.f_places_below t.d_places_below ["end", "many"] (dsp K 2 true m_places_below) := okr_places_below T 40
theorem sc_places_up_to : FnScope ["last", "many"] ["last", "many"] (defScope s_places_up_to) := ⟨rfl, rfl, rfl, by decide +kernel, rfl, by decide +kernel, by decide +kernel⟩
theorem ok_places_up_to (T : Txt K mg t) : FnOk P w K mg base CX0 41 t.f_places_up_to t.d_places_up_to ["last", "many"] (dsp K 2 true m_places_up_to) := by
  refine T.F_places_up_to.ok sc_places_up_to (fun vs H Q E h => dsp_len h) (fun cdv A outer s H vs Q E hr h => ?_)
  refine ⟨_, (pss_one (ps_ret (pe_lc rfl (lcs (N := ["places", "last"]) (mp := [none, some 0]) (by rfl)) (pi_seqK K (pe_call (ok_places_below T) (hr.mono (by decide)) rfl T.m_places_below T.F_places_below.kp T.b_places_below .nil pass0 (pa_cons (pe_op (op_addK K) (pv 0) pe_int) (pa_cons (pv 1) pa_nil)))) (fun _ _ _ _ _ => (pg_name (i := 0) (show List.Nodup [("places" : Str), ("last" : Str)] by decide) rfl (by first | exact Or.inl rfl | exact Or.inr rfl))) (fun _ _ _ _ _ => (pifs_one (pt_cmpR (op_inDK K hr.units) (pv 1) (pv 0) rfl))) (fun _ _ _ _ _ => (pv 0))))), ?_⟩
  exact fn_read (K := K) (np := 2) (n := 2) (fr := true) (O1 := []) (rs_retN (rn_lc (ri_seq (RdN.e (rn_call (ra_cons (rd_op rdo_add (RdE.r (rd_var (i := 0))) (RdE.r rd_int)) (ra_cons (rd_var (i := 1)) ra_nil))))) (rg_name (i := 0)) (gk_name (i := 0)) (rt_cmp (RdE.r (rd_op rdo_inD (RdE.r (rd_var (i := 1))) (RdE.r (rd_var (i := 0)))))) (rd_var (i := 0)))) h rfl (by decide)
theorem sc_mk_init : FnScope ["self", "gates"] ["self", "gates"] (defScope s_mk_init) := ⟨rfl, rfl, rfl, by decide +kernel, rfl, by decide +kernel, by decide +kernel⟩
theorem sc_mk_take_step : FnScope ["self", "number", "places", "table"] ["self", "number", "places"] (defScope s_mk_take_step) := ⟨rfl, rfl, rfl, by decide +kernel, rfl, by decide +kernel, by decide +kernel⟩
theorem sc_mk_take_steps_up_to : FnScope ["self", "last", "number", "gate", "places"] ["self", "last"] (defScope s_mk_take_steps_up_to) := ⟨rfl, rfl, rfl, by decide +kernel, rfl, by decide +kernel, by decide +kernel⟩
theorem sc_makings_of : FnScope ["gates", "makings", "last"] ["gates"] (defScope s_makings_of) := ⟨rfl, rfl, rfl, by decide +kernel, rfl, by decide +kernel, by decide +kernel⟩
noncomputable def spStep (K : PySem.W.Frag) (C : Addr) : Sp := fun vs H Q _ => ∃ U a dx lt ls vg gsd ts ss num vp is ts' ss', vs = [.ref a, .int num, vp] ∧ MkAt K C U a dx lt ls vg gsd ts ss H ∧ DW K H (lt :: ls :: U) vp (.tup is) ∧ stepD gsd num is ts ss = some (ts', ss') ∧
  ∀ H', Off2 lt ls H H' → MkAt K C U a dx lt ls vg gsd ts' ss' H' → Q .non H'
noncomputable def tupR (K : PySem.W.Frag) : List V → Hp → VK → Prop := fun xs H Q => ∃ p ys, xs = [V.ref p] ∧ ((SqL K H p ys ∧ ∀ (l : Addr), H l = none → Q (V.ref l) (upd H l (HO.tup ys))) ∨ SqT K H p ys ∧ Q (V.ref p) H)
noncomputable def tmS2 (K : PySem.W.Frag) : TS := tDrop (tBM K "list" rAppend (tFld K (tVar 0) "steps") (tCons (tTup (tCons (tC (V.str "gate")) (tCons (tVar 1) (tCons (tVar 2) tNil)))) tNil))
noncomputable def tmS1 (K : PySem.W.Frag) : TS := tIfS (tTest (tOp (rInD K true) (tVar 3) (tFld K (tVar 0) "tables"))) (tSeq (tDrop (tBM K "list" rAppend (tFld K (tVar 0) "tables") (tCons (tVar 3) tNil))) (tmS2 K)) tNext
noncomputable def tmS (K : PySem.W.Frag) : TS := tSeq (tAsg (tCB (tupR K) (tCons (tCall (dsp K 2 true m_answers_to) [] E0 (tCons (tOp (rIx K) (tFld K (tVar 0) "gates") (tVar 1)) (tCons (tLC [none, some 0] (fun σ H R => iList K (tVar 2) σ H R ∨ iTup K (tVar 2) σ H R) (gName 0) tAll (tOp (rIx K) (tFld K (tVar 1) "tables") (tVar 0))) tNil))) tNil)) (gName 3)) (tmS1 K)
theorem step_tail (T : Txt K mg t) {Dn : Ends} {H : Hp} {U : List Addr} {a dx lt ls l4 : Addr} {vg vp : V} {gsd : D} {ts ss is bs ts' ss' : List D} {num : Int} {b : Bool} (M4 : MkAt K t.c_Makings U a dx lt ls vg gsd ts ss H) (w4 : DW K H (lt :: ls :: U) (.ref l4) (.tup bs)) (wp : DW K H (lt :: ls :: U) vp (.tup is)) (eb : dInBD (.tup bs) (.lst ts) = some b)
    (e : (if b = true then some (ts, ss) else if ts.length < lim ∧ ss.length < lim then some (ts ++ [.tup bs], ss ++ [.tup [.str "gate", .int num, .tup is]]) else none) = some (ts', ss')) (q : ∀ σ H', Off2 lt ls H H' → MkAt K t.c_Makings U a dx lt ls vg gsd ts' ss' H' → Dn.nx σ H') : tmS1 K Dn [some (.ref a), some (.int num), some vp, some (.ref l4)] H := by
  obtain ⟨xt4, ht4, wt4⟩ := M4.tab
  refine ⟨_, rfl, _, rfl, a, t.c_Makings, dx, _, .ref lt, rfl, M4.obj, T.cl_Makings, T.na_tables, rfl, ?_⟩
  refine rdo_notinD _ (lt :: ls :: U) (.ref l4) (.ref lt) (.tup bs) (.lst ts) (.bl (!b)) _ M4.alloc w4.r ⟨lt, xt4, rfl, SqL.of ht4, wt4⟩ (by unfold dNotInD; rw [eb]; rfl) fun v5 H5 g5 w5 => ⟨!b, by simpa only [DW] using w5, ?_⟩
  have M5 := M4.same g5
  cases b with
  | true =>
    rw [if_pos rfl] at e
    cases e
    refine iteF ?_
    exact q _ H5 g5.off2 M5
  | false =>
    rw [if_neg Bool.false_ne_true] at e
    by_cases hc : ts.length < lim ∧ ss.length < lim
    case neg => rw [if_neg hc] at e; cases e
    rw [if_pos hc] at e
    cases e
    refine iteT ?_
    obtain ⟨xt5, ht5, wt5⟩ := M5.tab
    refine ⟨_, rfl, a, t.c_Makings, dx, _, .ref lt, rfl, M5.obj, T.cl_Makings, T.na_tables, rfl, .inl ⟨rfl, xt5, SqL.of ht5⟩, _, rfl, lt, xt5, .ref l4, rfl, rfl, ht5, by rw [wt5.length]; exact lim_lt' hc.1, ?_⟩
    have M6 := M5.appT ht5 wt5 (w4.same g5)
    obtain ⟨xs6, hs6, ws6⟩ := M6.stp
    have wp5 : DW K (upd H5 lt (.lst (xt5 ++ [.ref l4]))) (lt :: ls :: U) vp (.tup is) := (wp.same g5).upd List.mem_cons_self ht5
    refine ⟨_, rfl, a, t.c_Makings, dx, _, .ref ls, rfl, M6.obj, T.cl_Makings, T.na_steps, rfl, .inl ⟨rfl, xs6, SqL.of hs6⟩, _, rfl, _, rfl, (show 3 ≤ sizeLine by decide), fun tp htp => ?_⟩
    have g7 := same_upd htp (.tup [V.str "gate", V.int num, vp])
    have M7 := M6.same g7
    refine ⟨ls, xs6, .ref tp, rfl, rfl, g7 _ _ hs6, by rw [ws6.length]; exact lim_lt' hc.2, ?_⟩
    have wt7 : DW K (upd (upd H5 lt (.lst (xt5 ++ [.ref l4]))) tp (.tup [V.str "gate", V.int num, vp])) (lt :: ls :: U) (.ref tp) (.tup [.str "gate", .int num, .tup is]) := by
      simp only [DW, DWs]
      refine ⟨tp, _, rfl, SqT.of upd_same, rfl, rfl, ?_, trivial⟩
      simpa only [DW] using wp5.same g7
    exact q _ _ (((g5.off2).trans Off2.updT).trans ((g7.off2).trans Off2.updS)) (M7.appS (g7 _ _ hs6) (ws6.same g7) wt7)
theorem ok_mk_take_step (T : Txt K mg t) : FnOk P w K mg base CX0 3 t.f_mk_take_step t.d_mk_take_step ["self", "number", "places"] (spStep K t.c_Makings) := by
  refine T.F_mk_take_step.ok sc_mk_take_step (fun vs H Q E h => by obtain ⟨_, _, _, _, _, _, _, _, _, _, _, _, _, _, rfl, _⟩ := h; rfl) (fun cdv A outer s H vs Q E hr h => ?_)
  obtain ⟨U, a, dx, lt, ls, vg, gsd, ts, ss, num, vp, is, ts', ss', rfl, M, wp, e, q⟩ := h
  refine ⟨tmS K, (pss_cons (ps_set (i := 3) sc_mk_take_step.nd rfl (Or.inl rfl) (pe_callTy (call_tupleK K) (by rfl) T.z_tuple (by decide +kernel) (pa_cons (pe_call (ok_answers_to T) (hr.mono (by decide)) rfl T.m_answers_to T.F_answers_to.kp T.b_answers_to .nil pass0 (pa_cons (pe_ix (ix_K K) (pe_fldK K (pv 0) rfl) (pv 1) (fun _ _ => rfl)) (pa_cons (pe_lc rfl (lcs (N := ["place", "self"]) (mp := [none, some 0]) (by rfl)) (pi_seqK K (pv 2)) (fun _ _ _ _ _ => (pg_name (i := 0) (show List.Nodup [("place" : Str), ("self" : Str)] by decide) rfl (by first | exact Or.inl rfl | exact Or.inr rfl))) (fun _ _ _ _ _ => pifs_nil) (fun _ _ _ _ _ => (pe_ix (ix_K K) (pe_fldK K (pv 1) rfl) (pv 0) (fun _ _ => rfl)))) pa_nil))) pa_nil))) (pss_one (ps_if (pt_cmpR (op_notInDK K hr.units) (pv 3) (pe_fldK K (pv 0) rfl) rfl) (pss_cons (ps_expr (pe_bmK K PySem.F.plainAttrs_list PySem.F.slot_list_append PySem.F.type_list_append mt_append (pe_fldK K (pv 0) rfl) (pa_cons (pv 3) pa_nil))) (pss_one (ps_expr (pe_bmK K PySem.F.plainAttrs_list PySem.F.slot_list_append PySem.F.type_list_append mt_append (pe_fldK K (pv 0) rfl) (pa_cons (pe_tup (pa_str (pa_cons (pv 1) (pa_cons (pv 2) pa_nil)))) pa_nil))))) pss_nil))), ?_⟩
  unfold stepD at e
  by_cases hlen : is.length ≤ lim
  case neg => rw [if_neg hlen] at e; cases e
  rw [if_pos hlen] at e
  obtain ⟨g, eg, e⟩ := Option.bind_eq_some_iff.mp e
  obtain ⟨rows, er, e⟩ := Option.bind_eq_some_iff.mp e
  obtain ⟨r, ea, e⟩ := Option.bind_eq_some_iff.mp e
  cases r with
  | lst bs =>
    dsimp only at e
    obtain ⟨b, eb, e⟩ := Option.bind_eq_some_iff.mp e
    refine ⟨_, rfl, a, t.c_Makings, dx, _, vg, rfl, M.obj, T.cl_Makings, T.na_gates, rfl, _, rfl, ?_⟩
    refine rdo_ix H (lt :: ls :: U) vg (.int num) gsd (.int num) g _ M.alloc M.gts.r (by simp only [DWr, DW]) eg fun v1 H1 g1 w1 => ?_
    have M1 := M.same g1
    obtain ⟨xt, ht, wt⟩ := M1.tab
    refine lc_fld (W := lt :: ls :: U) M1.alloc rfl M1.obj T.cl_Makings T.na_tables rfl ht wt rfl (wp.same g1) er hlen fun p H2 ys g2 hp hl2 w2 => ?_
    have M2 := M1.same g2
    have wl : DW K H2 (lt :: ls :: U) (.ref p) (.lst rows) := DW.laid M1.alloc hp (w2.sub fun b hb => List.mem_cons_of_mem _ hb) hl2
    refine ⟨lt :: ls :: U, [g, .lst rows], .lst bs, rfl, M2.alloc, (show DWs K H2 (lt :: ls :: U) [v1, .ref p] [g, .lst rows] by simp only [DWs]; exact ⟨w1.same g2, wl, trivial⟩), ea, fun v3 H3 g3 ret => ?_⟩
    have M3 := M2.same g3
    have wr := ret.1
    simp only [DW] at wr
    obtain ⟨p3, xs3, rfl, hq3, ws3⟩ := wr
    refine ⟨p3, xs3, rfl, .inl ⟨hq3.sq, fun l4 hl4 => ?_⟩⟩
    have g4 := same_upd hl4 (.tup xs3)
    have M4 := M3.same g4
    have w4 : DW K (upd H3 l4 (.tup xs3)) (lt :: ls :: U) (.ref l4) (.tup bs) := by
      simp only [DW]
      exact ⟨l4, xs3, rfl, SqT.of upd_same, ws3.same g4⟩
    have g14 : Same H (upd H3 l4 (.tup xs3)) := ((g1.trans g2).trans g3).trans g4
    exact step_tail T M4 w4 (wp.same g14) eb e fun _ H' o M' => q H' (g14.off2.trans o) M'
  | _ => simp at e
noncomputable def spUp (K : PySem.W.Frag) (C : Addr) : Sp := fun vs H Q _ => ∃ U a dx lt ls vg gds ts ss last st', vs = [.ref a, .int last] ∧ MkAt K C U a dx lt ls vg (.lst gds) ts ss H ∧ upD (.lst gds) last 0 gds (ts, ss) = some st' ∧
  ∀ H', Off2 lt ls H H' → MkAt K C U a dx lt ls vg (.lst gds) st'.1 st'.2 H' → Q .non H'
noncomputable def tmP (K : PySem.W.Frag) : TE := tCall (dsp K 2 true m_places_up_to) [] E0 (tCons (tVar 1) (tCons (tCall (dsp K 1 false m_inputs_of) [] E0 (tCons (tVar 3) tNil)) tNil))
noncomputable def tmU3 (K : PySem.W.Frag) (C : Addr) : TS := tDrop (tMeth C "take_step" (spStep K C) [] E0 (tVar 0) (tCons (tVar 2) (tCons (tVar 4) tNil)))
noncomputable def tmU2 (K : PySem.W.Frag) (C : Addr) : TS := tFor (fun σ H R => iList K (tmP K) σ H R ∨ iTup K (tmP K) σ H R) (gName 4) (tmU3 K C)
noncomputable def tmU (K : PySem.W.Frag) (C : Addr) : TS := tFor (iEnum K (tCons (tFld K (tVar 0) "gates") tNil)) (gTup K 2 (gCons (gName 2) (gCons (gName 3) gNil))) (tmU2 K C)
noncomputable def invU (K : PySem.W.Frag) (C : Addr) (U : List Addr) (a dx lt ls ga : Addr) (gds : List D) (last : Int) (st' : List D × List D) (H : Hp) (i : Nat) (σ2 : L2.St) (H2 : Hp) : Prop :=
  (∃ o2 o3 o4, σ2 = [some (.ref a), some (.int last), o2, o3, o4]) ∧ ∃ st1 : List D × List D, MkAt K C U a dx lt ls (.ref ga) (.lst gds) st1.1 st1.2 H2 ∧ Off2 lt ls H H2 ∧ upD (.lst gds) last i (gds.drop i) st1 = some st'
noncomputable def invP (K : PySem.W.Frag) (C : Addr) (U : List Addr) (a dx lt ls ga : Addr) (gds : List D) (last : Int) (st2 : List D × List D) (H : Hp) (i : Nat) (u : V) (pin : Hp → List Addr → Prop) (pls : List D) (j : Nat) (σ3 : L2.St) (H5 : Hp) : Prop :=
  (∃ o, σ3 = [some (.ref a), some (.int last), some (.int (i : Int)), some u, o]) ∧ ∃ st3 : List D × List D, MkAt K C U a dx lt ls (.ref ga) (.lst gds) st3.1 st3.2 H5 ∧ Off2 lt ls H H5 ∧ pin H5 (lt :: ls :: U) ∧ stepsD (.lst gds) (i : Int) (pls.drop j) st3 = some st2
theorem up_inner (T : Txt K mg t) {Dn : Ends} {H3 : Hp} {U : List Addr} {a dx lt ls ga : Addr} {u : V} {o4 : Option V} {gds pls : List D} {gi nn : D} {st1 st2 : List D × List D} {last : Int} {i : Nat} (M3 : MkAt K t.c_Makings U a dx lt ls (.ref ga) (.lst gds) st1.1 st1.2 H3) (wu : DW K H3 (lt :: ls :: U) u gi) (en : m_inputs_of [gi] = some nn) (ep : m_places_up_to [.int last, nn] = some (.lst pls))
    (es : stepsD (.lst gds) (i : Int) pls st1 = some st2) (q : ∀ o σ' H', Off2 lt ls H3 H' → MkAt K t.c_Makings U a dx lt ls (.ref ga) (.lst gds) st2.1 st2.2 H' → σ' = [some (.ref a), some (.int last), some (.int (i : Int)), some u, o] → Dn.nx σ' H') : tmU2 K t.c_Makings Dn [some (.ref a), some (.int last), some (.int (i : Int)), some u, o4] H3 := by
  have r : RR K 5 (fun _ => none) H3 (lt :: ls :: U) [] (fun _ _ => True) (fun _ => 0) [none, some (.int last), some (.int (i : Int)), some gi, none] [some (.ref a), some (.int last), some (.int (i : Int)), some u, o4] :=
    rr_of M3.alloc rfl rfl fun j d ej => by
      match j, ej with
      | 1, ej => cases ej; exact ⟨_, rfl, by simp only [DW]⟩
      | 2, ej => cases ej; exact ⟨_, rfl, by simp only [DW]⟩
      | 3, ej => cases ej; exact ⟨_, rfl, wu⟩
      | 0, ej => cases ej
      | 4, ej => cases ej
      | j + 5, ej => simp at ej
  refine (ri_seq (rd_call (np := 2) (mir := m_places_up_to) (ra_cons (rd_var (i := 1)) (ra_cons (rd_call (np := 1) (fr := false) (mir := m_inputs_of) (ra_cons (rd_var (i := 3)) ra_nil)) ra_nil)))) _ _ _ _ _ _ _ _ pls _ r ?_ fun J H4 g4 ok => ?_
  · have ec : eCall 2 m_places_up_to (aCons (gv 1) (aCons (eCall 1 m_inputs_of (aCons (gv 3) aNil)) aNil)) [none, some (D.int last), some (D.int (i : Int)), some gi, none] = some (.lst pls) :=
      ex_call (ds := [.int last, nn]) (ax_cons rfl (ax_cons (ex_call (ds := [gi]) (ax_cons rfl rfl) rfl en) rfl)) rfl ep
    unfold iSeq
    rw [ec]
    rfl
  obtain ⟨pin, hst, hp, ok⟩ := ok
  have M4 := M3.same g4
  have o4' : Off2 lt ls H3 H4 := g4.off2
  refine ⟨fun j m σ2 H2 => m = pls.length - j ∧ j ≤ pls.length ∧ invP K t.c_Makings U a dx lt ls ga gds last st2 H3 i u pin pls j σ2 H2,
    ⟨pls.length, rfl, Nat.zero_le _, ⟨_, rfl⟩, st1, M4, o4', hp, es⟩, ?_⟩
  rintro j m σ2 H2 ⟨rfl, hle2, ⟨o, rfl⟩, st3, M5, o5, hp5, e5⟩
  obtain ⟨go, stop⟩ := ok H2 _ hp5
  by_cases hlt2 : j < pls.length
  case neg =>
    have hj : j = pls.length := by omega
    subst hj
    rw [List.drop_length] at e5
    simp only [stepsD] at e5
    cases e5
    exact .inl ⟨stop, q _ _ _ o5 M5 rfl⟩
  have hpj : pls[j]? = some pls[j] := List.getElem?_eq_getElem hlt2
  rw [List.drop_eq_getElem_cons hlt2] at e5
  obtain ⟨hgo, hyl⟩ := go j _ hpj
  refine .inr ⟨hgo, invP K t.c_Makings U a dx lt ls ga gds last st2 H3 i u pin pls (j + 1),
    fun σ3 H5 z => ⟨pls.length - (j + 1), by omega, rfl, hlt2, z⟩, fun y H5 hy => ?_⟩
  obtain ⟨g5, wy⟩ := hyl y H5 hy
  generalize pls[j] = dj at e5 wy
  cases dj with
  | tup is =>
    simp only [stepsD] at e5
    obtain ⟨st4, e4, e5⟩ := Option.bind_eq_some_iff.mp e5
    have M6 := M5.same g5
    have hp6 := hst _ _ _ _ (fun b zs n r => ⟨n, r.same g5⟩) (fun b zs r => g5.seqT r) hp5
    refine ⟨_, rfl, a, dx, _, rfl, M6.obj, rfl, _, rfl, _, rfl, U, a, dx, lt, ls, .ref ga, .lst gds, st3.1, st3.2, (i : Int), y, is, st4.1, st4.2, rfl, M6, wy, e4, fun H7 o7 M7 => ?_⟩
    have k7 := o7.keeps M6
    exact ⟨⟨_, rfl⟩, st4, M7, o5.trans ((g5.off2).trans o7), hst _ _ _ _ k7.1 k7.2 hp6, e5⟩
  | _ => simp [stepsD] at e5
theorem ok_mk_take_steps_up_to (T : Txt K mg t) : FnOk P w K mg base CX0 42 t.f_mk_take_steps_up_to t.d_mk_take_steps_up_to ["self", "last"] (spUp K t.c_Makings) := by
  refine T.F_mk_take_steps_up_to.ok sc_mk_take_steps_up_to (fun vs H Q E h => by obtain ⟨_, _, _, _, _, _, _, _, _, _, _, rfl, _⟩ := h; rfl) (fun cdv A outer s H vs Q E hr h => ?_)
  obtain ⟨U, a, dx, lt, ls, vg, gds, ts, ss, last, st', rfl, M, e, q⟩ := h
  refine ⟨tmU K t.c_Makings, (pss_one (ps_for PassesOwn.never rfl (pi_enumK K rfl T.z_enumerate (pa_cons (pe_fldK K (pv 0) rfl) pa_nil)) (pg_pairK K (i := 2) (j := 3) rfl sc_mk_take_steps_up_to.nd rfl rfl (Or.inl rfl) (Or.inl rfl)) (pss_one (ps_for PassesOwn.never rfl (pi_seqK K (pe_call (ok_places_up_to T) (hr.mono (by decide)) rfl T.m_places_up_to T.F_places_up_to.kp T.b_places_up_to .nil pass0 (pa_cons (pv 1) (pa_cons (pe_call (ok_inputs_of T) (hr.mono (by decide)) rfl T.m_inputs_of T.F_inputs_of.kp T.b_inputs_of .nil pass0 (pa_cons (pv 3) pa_nil)) pa_nil)))) (pg_name (i := 4) sc_mk_take_steps_up_to.nd rfl (Or.inl rfl)) (pss_one (ps_expr (pe_meth (pv 0) T.cl_Makings T.me_mk_take_step (ok_mk_take_step T) (hr.mono (by decide)) T.b_mk_take_step .nil pass0 (pa_cons (pv 2) (pa_cons (pv 4) pa_nil))))))))), ?_⟩
  have wg := M.gts
  simp only [DW] at wg
  obtain ⟨ga, us, rfl, hq, ws⟩ := wg
  refine ⟨_, rfl, a, t.c_Makings, dx, _, .ref ga, rfl, M.obj, T.cl_Makings, T.na_gates, rfl, ga, us, rfl, hq.sq, ?_⟩
  refine ⟨fun i m σ' H' => m = gds.length - i ∧ i ≤ gds.length ∧ invU K t.c_Makings U a dx lt ls ga gds last st' H i σ' H',
    ⟨gds.length, rfl, Nat.zero_le _, ⟨_, _, _, rfl⟩, (ts, ss), M, Off2.refl, e⟩, ?_⟩
  rintro i m σ' H' ⟨rfl, hle, ⟨o2, o3, o4, rfl⟩, st1, M1, o1, e1⟩
  have hq1 := o1.sqw M hq
  have ws1 := o1.dws M ws
  by_cases hlt : i < gds.length
  case neg =>
    have hi : i = gds.length := by omega
    subst hi
    rw [List.drop_length] at e1
    simp only [upD] at e1
    cases e1
    exact .inl ⟨⟨hq1.sq, by rw [ws.length]; exact Nat.le_refl _⟩, q H' o1 M1⟩
  have hgi : gds[i]? = some gds[i] := List.getElem?_eq_getElem hlt
  rw [List.drop_eq_getElem_cons hlt] at e1
  simp only [upD] at e1
  obtain ⟨nn, en, e1⟩ := Option.bind_eq_some_iff.mp e1
  obtain ⟨pl, ep, e1⟩ := Option.bind_eq_some_iff.mp e1
  cases pl with
  | lst pls =>
    dsimp only at e1
    obtain ⟨st2, es, e1⟩ := Option.bind_eq_some_iff.mp e1
    refine .inr ⟨⟨hq1.sq, by rw [ws.length]; exact hlt⟩, invU K t.c_Makings U a dx lt ls ga gds last st' H (i + 1),
      fun σ2 H2 z => ⟨gds.length - (i + 1), by omega, rfl, hlt, z⟩, fun x H3 hy => ?_⟩
    obtain ⟨tp, u, htp, rfl, rfl, hu⟩ := hy
    have g3 := same_upd htp (.tup [V.int (i : Int), u])
    have M3 := M1.same g3
    have o3' := o1.trans (g3.off2 (lt := lt) (ls := ls))
    obtain ⟨u', hu', wu⟩ := (ws1.same g3).get hgi
    rw [hu] at hu'
    cases hu'
    refine ⟨tp, _, rfl, SqT.of upd_same, rfl, _, _, rfl, _, _, rfl, rfl, ?_⟩
    exact up_inner T M3 wu en ep es fun o _ H' o5 M5 e' => ⟨⟨_, _, _, e'⟩, st2, M5, o3'.trans o5, e1⟩
  | _ => simp at e1
noncomputable def spInit (K : PySem.W.Frag) (C : Addr) : Sp := fun vs H Q _ => ∃ U x dx vg gsd, vs = [.ref x, vg] ∧ H x = some (.ins C dx []) ∧ (∀ b ∈ U, ∃ o, H b = some o) ∧ DW K H U vg gsd ∧
  ∀ lt ls H', Off x H H' → H lt = none → H ls = none → MkAt K C U x dx lt ls vg gsd ts0 ss0 H' → Q .non H'
noncomputable def tmI0 (K : PySem.W.Frag) : TE := tCall (dsp K 1 true m_tables_of_inputs) [] E0 (tCons (tC (V.int 2)) tNil)
noncomputable def tmI3 (K : PySem.W.Frag) : TS := sFld K (tVar 0) (tLst (tCons (tTup (tCons (tC (V.str "in")) (tCons (tC (V.int 0)) tNil))) (tCons (tTup (tCons (tC (V.str "in")) (tCons (tC (V.int 1)) tNil))) tNil))) "steps"
noncomputable def tmI2 (K : PySem.W.Frag) : TS := tSeq (sFld K (tVar 0) (tLC [none] (fun σ H R => iList K (tmI0 K) σ H R ∨ iTup K (tmI0 K) σ H R) (gName 0) tAll (tCB (tupR K) (tCons (tVar 0) tNil))) "tables") (tmI3 K)
noncomputable def tmI (K : PySem.W.Frag) : TS := tSeq (sFld K (tVar 0) (tVar 1) "gates") (tmI2 K)
theorem ok_mk_init (T : Txt K mg t) : FnOk P w K mg base CX0 3 t.f_mk_init t.d_mk_init ["self", "gates"] (spInit K t.c_Makings) := by
  refine T.F_mk_init.ok sc_mk_init (fun vs H Q E h => by obtain ⟨_, _, _, _, _, rfl, _⟩ := h; rfl) (fun cdv A outer s H vs Q E hr h => ?_)
  obtain ⟨U, x, dx, vg, gsd, rfl, hx, al, wg, q⟩ := h
  refine ⟨tmI K, (pss_cons (ps_fld (pv 0) (pv 1) rfl) (pss_cons (ps_fld (pv 0) (pe_lc rfl (lcs (N := ["table"]) (mp := [none]) (by rfl)) (pi_seqK K (pe_call (ok_tables_of_inputs T) (hr.mono (by decide)) rfl T.m_tables_of_inputs T.F_tables_of_inputs.kp T.b_tables_of_inputs .nil pass0 (pa_int pa_nil))) (fun _ _ _ _ _ => (pg_name (i := 0) (show List.Nodup [("table" : Str)] by decide) rfl (by first | exact Or.inl rfl | exact Or.inr rfl))) (fun _ _ _ _ _ => pifs_nil) (fun _ _ _ _ _ => (pe_callTy (call_tupleK K) (by rfl) T.z_tuple (by decide +kernel) (pa_cons (pv 0) pa_nil)))) rfl) (pss_one (ps_fld (pv 0) (pe_lst (pa_cons (pe_tup (pa_str (pa_int pa_nil))) (pa_cons (pe_tup (pa_str (pa_int pa_nil))) pa_nil))) rfl)))), ?_⟩
  refine ⟨_, rfl, _, rfl, x, t.c_Makings, dx, [], rfl, hx, T.cl_Makings, T.na_gates, (by decide), ?_⟩
  have x1 : upd H x (.ins t.c_Makings dx (putF "gates" vg [])) x = some (.ins t.c_Makings dx (putF "gates" vg [])) := upd_same
  have o1 : Off x H (upd H x (.ins t.c_Makings dx (putF "gates" vg []))) := Off.upd _
  generalize upd H x (.ins t.c_Makings dx (putF "gates" vg [])) = H1 at x1 o1 ⊢
  have al1 : ∀ b ∈ U, ∃ o, H1 b = some o := fun b hb => by
    by_cases e : b = x
    · rw [e]; exact ⟨_, x1⟩
    · obtain ⟨o, eo⟩ := al b hb
      exact ⟨o, o1 _ _ e eo⟩
  have r1 : RR K 2 (fun _ => none) H1 U [] (fun _ _ => True) (fun _ => 0) [none, none] [some (.ref x), some vg] := rr_of al1 rfl rfl fun j d ej => by
    match j, ej with
    | 0, ej => cases ej
    | 1, ej => cases ej
    | j + 2, ej => simp at ej
  show tmI2 K { nx := fun _ H' => Q .non H', rt := Q } [some (.ref x), some vg] H1
  unfold tmI2 tSeq sFld
  refine (rn_lc (mp := [none]) (ri_seq (rd_call (np := 1) (mir := m_tables_of_inputs) (ra_cons rd_int ra_nil))) (rg_name (i := 0)) (gk_name (i := 0)) rt_all (rd_cb rc_tuple (rar_cons (RdE.r (rd_var (i := 0))) rar_nil))) _ _ _ _ _ _ _ _ (.lst ts0) _ r1 (by kernel_rfl) fun lt H2 xs ds hd g2 hlt ht2 w2 => ?_
  cases hd
  have x2 := g2 _ _ x1
  have nlt : lt ≠ x := fun e => by rw [e, x1] at hlt; cases hlt
  refine ⟨_, rfl, x, t.c_Makings, dx, _, rfl, x2, T.cl_Makings, T.na_tables, (by show (1 : Nat) < 1000; decide), ?_⟩
  have x3 : upd H2 x (.ins t.c_Makings dx (putF "tables" (.ref lt) (putF "gates" vg []))) x = some (.ins t.c_Makings dx (putF "tables" (.ref lt) (putF "gates" vg []))) := upd_same
  have o3 : Off x H2 (upd H2 x (.ins t.c_Makings dx (putF "tables" (.ref lt) (putF "gates" vg [])))) := Off.upd _
  generalize upd H2 x (.ins t.c_Makings dx (putF "tables" (.ref lt) (putF "gates" vg []))) = H3 at x3 o3 ⊢
  have al3 : ∀ b ∈ U, ∃ o, H3 b = some o := fun b hb => by
    by_cases e : b = x
    · rw [e]; exact ⟨_, x3⟩
    · obtain ⟨o, eo⟩ := al1 b hb
      exact ⟨o, o3 _ _ e (g2 _ _ eo)⟩
  have ht3 : H3 lt = some (.lst xs) := o3 _ _ nlt ht2
  have al3' : ∀ b ∈ lt :: U, ∃ o, H3 b = some o := fun b hb => by
    rcases List.mem_cons.mp hb with z | z
    · rw [z]; exact ⟨_, ht3⟩
    · exact al3 b z
  have r3 : RR K 2 (fun _ => none) H3 (lt :: U) [] (fun _ _ => True) (fun _ => 0) [none, none] [some (.ref x), some vg] := rr_of al3' rfl rfl fun j d ej => by
    match j, ej with
    | 0, ej => cases ej
    | 1, ej => cases ej
    | j + 2, ej => simp at ej
  show tmI3 K { nx := fun _ H' => Q .non H', rt := Q } [some (.ref x), some vg] H3
  unfold tmI3 sFld
  refine (rn_lst (ra_cons (rd_tup (ra_cons rd_str (ra_cons rd_int ra_nil))) (ra_cons (rd_tup (ra_cons rd_str (ra_cons rd_int ra_nil))) ra_nil))) _ _ _ _ _ _ _ _ (.lst ss0) _ r3 (by kernel_rfl) fun ls H4 ys es hd g4 hls hs4 w4 => ?_
  cases hd
  have x4 := g4 _ _ x3
  have nls : ls ≠ x := fun e => by rw [e, x3] at hls; cases hls
  have nts : lt ≠ ls := fun e => by rw [← e, ht3] at hls; cases hls
  refine ⟨_, rfl, x, t.c_Makings, dx, _, rfl, x4, T.cl_Makings, T.na_steps, (by show (2 : Nat) < 1000; decide), ?_⟩
  have x5 : upd H4 x (.ins t.c_Makings dx (putF "steps" (.ref ls) (putF "tables" (.ref lt) (putF "gates" vg [])))) x = some (.ins t.c_Makings dx (mkF vg lt ls)) := upd_same
  have o5 : Off x H4 (upd H4 x (.ins t.c_Makings dx (putF "steps" (.ref ls) (putF "tables" (.ref lt) (putF "gates" vg []))))) := Off.upd _
  have h2ls : H2 ls = none := by
    cases e : H2 ls with
    | none => rfl
    | some o => rw [o3 _ _ nls e] at hls; cases hls
  have h1ls := g2.free h2ls
  have hls0 : H ls = none := by
    cases e : H ls with
    | none => rfl
    | some o => rw [o1 _ _ nls e] at h1ls; cases h1ls
  have hlt0 : H lt = none := by
    cases e : H lt with
    | none => rfl
    | some o => rw [o1 _ _ nlt e] at hlt; cases hlt
  have o25 := ((o3.trans g4.off).trans o5)
  have o05 := ((o1.trans g2.off).trans o25)
  refine q lt ls _ o05 hlt0 hls0 ⟨x5, fun b hb => ?_, nts, ⟨xs, o25 _ _ nlt ht2, ?_⟩, ⟨ys, o5 _ _ nls hs4, ?_⟩, ?_⟩
  · by_cases e : b = x
    · rw [e]; exact ⟨_, x5⟩
    · obtain ⟨o, eo⟩ := al b hb
      exact ⟨o, o05 _ _ e eo⟩
  · exact (DWs.offI o25 x2 (DWs.fresh h2ls w2)).sub fun b hb => by simp at hb ⊢; rcases hb with z | z | z <;> simp [z]
  · exact DWs.offI o5 x4 (w4.sub fun b hb => by simp at hb ⊢; rcases hb with z | z | z <;> simp [z])
  · exact DW.offI o05 hx ((wg.fresh hls0).fresh hlt0)
noncomputable def spMks (K : PySem.W.Frag) (C : Addr) : Sp := fun vs H Q _ => ∃ U gds vg st', vs = [vg] ∧ (∀ b ∈ U, ∃ o, H b = some o) ∧ DW K H U vg (.lst gds) ∧ mksD (.lst gds) = some st' ∧
  ∀ a dx lt ls H', Same H H' → H lt = none → H ls = none → MkAt K C U a dx lt ls vg (.lst gds) st'.1 st'.2 H' → Q (.ref a) H'
noncomputable def lenR (K : PySem.W.Frag) : List V → Hp → VK → Prop := fun xs H Q => ∃ x n, xs = [x] ∧ LenV K x H n ∧ Q (V.int ↑n) H
noncomputable def tmL (K : PySem.W.Frag) : TE := tCB (lenR K) (tCons (tFld K (tVar 1) "tables") tNil)
noncomputable def tmC (K : PySem.W.Frag) : TT := tAnd (tTest (tOp (rI0 fun i j => V.bl (decide (i < j))) (tVar 2) (tmL K))) (tTest (tOp (rI0 fun i j => V.bl (decide (i < j))) (tmL K) (tC (V.int 16))))
noncomputable def tmB (K : PySem.W.Frag) (C : Addr) : TS := tSeq (tDrop (tMeth C "take_steps_up_to" (spUp K C) [] E0 (tVar 1) (tCons (tVar 2) tNil))) (tAug 2 (tC (V.int 1)) (ipI fun i j => i + j))
noncomputable def tmW (K : PySem.W.Frag) (C : Addr) : TS := tSeq (tWhile (tmC K) (tmB K C)) (tRet (tVar 1))
noncomputable def tmM (K : PySem.W.Frag) (C : Addr) : TS := tSeq (tAsg (tMake C (spInit K C) [] E0 (tCons (tVar 0) tNil)) (gName 1)) (tSeq (tAsg (tC (V.int 0)) (gName 2)) (tmW K C))
noncomputable def invM (K : PySem.W.Frag) (C : Addr) (U : List Addr) (x dx lt ls : Addr) (vg : V) (gds : List D) (st' : List D × List D) (H2 : Hp) (m : Nat) (last : Int) (σ3 : L2.St) (H3 : Hp) : Prop :=
  ∃ (st : List D × List D), σ3 = [some vg, some (.ref x), some (.int last)] ∧ MkAt K C U x dx lt ls vg (.lst gds) st.1 st.2 H3 ∧ Off2 lt ls H2 H3 ∧ growD gds m last st = some st'
theorem grow_loop (T : Txt K mg t) {Dn : Ends} {H2 : Hp} {U : List Addr} {x dx lt ls : Addr} {vg : V} {gds : List D} {st' : List D × List D} (M2 : MkAt K t.c_Makings U x dx lt ls vg (.lst gds) ts0 ss0 H2) (e : growD gds 100 0 (ts0, ss0) = some st')
    (q : ∀ last H', Off2 lt ls H2 H' → MkAt K t.c_Makings U x dx lt ls vg (.lst gds) st'.1 st'.2 H' → Dn.nx [some vg, some (.ref x), some (.int last)] H') : tWhile (tmC K) (tmB K t.c_Makings) Dn [some vg, some (.ref x), some (.int 0)] H2 := by
  refine ⟨fun m σ' H' => ∃ last : Int, invM K t.c_Makings U x dx lt ls vg gds st' H2 m last σ' H', ⟨100, 0, (ts0, ss0), rfl, M2, Off2.refl, e⟩, ?_⟩
  rintro m σ' H' ⟨last, st, rfl, M, o, eg⟩
  cases m with
  | zero => simp [growD] at eg
  | succ m =>
    simp only [growD] at eg
    obtain ⟨xt, ht, wt⟩ := M.tab
    refine ⟨_, rfl, _, rfl, x, t.c_Makings, dx, _, .ref lt, rfl, M.obj, T.cl_Makings, T.na_tables, rfl, .ref lt, xt.length, rfl, .inl ⟨xt, SqL.of ht, rfl⟩, last, _, rfl, rfl, _, rfl, ?_⟩
    by_cases c1 : last < (xt.length : Int)
    case neg =>
      rw [decide_eq_false c1]
      refine iteF ?_
      refine iteF ?_
      rw [wt.length] at c1
      rw [if_neg (fun z => c1 z.1)] at eg
      cases eg
      exact q _ H' o M
    rw [decide_eq_true c1]
    refine iteT ?_
    refine ⟨_, rfl, x, t.c_Makings, dx, _, .ref lt, rfl, M.obj, T.cl_Makings, T.na_tables, rfl, .ref lt, xt.length, rfl, .inl ⟨xt, SqL.of ht, rfl⟩, _, _, rfl, rfl, _, rfl, ?_⟩
    by_cases c2 : (xt.length : Int) < 16
    case neg =>
      rw [decide_eq_false c2]
      refine iteF ?_
      rw [wt.length] at c2
      rw [if_neg (fun z => c2 z.2)] at eg
      cases eg
      exact q _ H' o M
    rw [decide_eq_true c2]
    refine iteT ?_
    rw [wt.length] at c1 c2
    rw [if_pos ⟨c1, c2⟩] at eg
    obtain ⟨st2, eu, eg⟩ := Option.bind_eq_some_iff.mp eg
    refine ⟨invM K t.c_Makings U x dx lt ls vg gds st' H2 m (last + 1), fun σ3 H3 z => ⟨m, Nat.lt_succ_self _, last + 1, z⟩, ?_⟩
    refine ⟨_, rfl, x, dx, _, rfl, M.obj, rfl, _, rfl, U, x, dx, lt, ls, vg, gds, st.1, st.2, last, st2, rfl, M, eu, fun H3 o3 M3 => ?_⟩
    exact ⟨_, rfl, last, 1, rfl, rfl, st2, rfl, M3, o.trans o3, eg⟩
theorem ok_makings_of (T : Txt K mg t) : FnOk P w K mg base CX0 43 t.f_makings_of t.d_makings_of ["gates"] (spMks K t.c_Makings) := by
  refine T.F_makings_of.ok sc_makings_of (fun vs H Q E h => by obtain ⟨_, _, _, _, rfl, _⟩ := h; rfl) (fun cdv A outer s H vs Q E hr h => ?_)
  obtain ⟨U, gds, vg, st', rfl, al, wg, e, q⟩ := h
  refine ⟨tmM K t.c_Makings, (pss_cons (ps_set (i := 1) sc_makings_of.nd rfl (Or.inl rfl) (pe_make T.mk_Makings (ok_mk_init T) (hr.mono (by decide)) rfl T.m_Makings T.b_mk_init .nil pass0 (pa_cons (pv 0) pa_nil))) (pss_cons (ps_set (i := 2) sc_makings_of.nd rfl (Or.inl rfl) pe_int) (pss_cons (ps_while PassesOwn.never (PW.pt (pw_and (pt_cmpR op_lt (pv 2) (pe_callB (call_lenK K) (by rfl) T.z_len PySem.boot_len (pa_cons (pe_fldK K (pv 1) rfl) pa_nil)) (nomark _)) (pw_and1 (pt_cmpR op_lt (pe_callB (call_lenK K) (by rfl) T.z_len PySem.boot_len (pa_cons (pe_fldK K (pv 1) rfl) pa_nil)) (pe_glob (v := (.int 16)) rfl T.m_ALL_TABLES ⟨_, rfl⟩) (nomark _))))) (pss_cons (ps_expr (pe_meth (pv 1) T.cl_Makings T.me_mk_take_steps_up_to (ok_mk_take_steps_up_to T) (hr.mono (by decide)) T.b_mk_take_steps_up_to .nil pass0 (pa_cons (pv 2) pa_nil))) (pss_one (ps_aug (i := 2) sc_makings_of.nd rfl (Or.inl rfl) pe_int ip_add)))) (pss_one (ps_ret (pv 1)))))), ?_⟩
  refine ⟨_, rfl, fun x dx hx hdx hne => ?_⟩
  have s0 : Same H (upd (upd H dx (.own x)) x (.ins t.c_Makings dx [])) := fun b o eo => by
    rw [upd_ne (ne_of_none eo hx), upd_ne (ne_of_none eo hdx)]
    exact eo
  refine ⟨U, x, dx, vg, .lst gds, rfl, upd_same, fun b hb => by obtain ⟨o, eo⟩ := al b hb; exact ⟨o, s0 _ _ eo⟩, wg.same s0, fun lt ls H2 o2 hlt hls M2 => ⟨rfl, ?_⟩⟩
  have s2 : Same H H2 := fun b o eo => o2 b o (ne_of_none eo hx) (s0 b o eo)
  have hlt0 := s0.free hlt
  have hls0 := s0.free hls
  exact grow_loop T M2 e fun _ H' o M => ⟨_, rfl, q x dx lt ls H' (fun b ob eo => o b ob (ne_of_none eo hlt0) (ne_of_none eo hls0) (s2 b ob eo)) hlt0 hls0 M⟩
theorem rd_mkt {O : List Nat} {te : TE} {f : DFn} {C : Addr} (c : Cls K C) (n : NoAttr K C "tables") (h : RdE K O te f) : RdE K O (tFld K (tCall (spMks K C) [] E0 (tCons te tNil)) "tables") (eMkT f) := fun n' H₀ H U E rt env σ d Q r e q => by
  obtain ⟨g, eg, e⟩ := Option.bind_eq_some_iff.mp e
  obtain ⟨st, es, e⟩ := Option.bind_eq_some_iff.mp e
  cases e
  cases g with
  | lst gds =>
    refine h _ _ _ _ _ _ _ _ _ _ r eg fun v H1 g1 w1 => ?_
    refine ⟨O.map rt ++ U, gds, v, st, rfl, (r.grow g1).alloc, w1, es, fun a dx lt ls H2 g2 hlt hls M => ?_⟩
    obtain ⟨xs, ht, wt⟩ := M.tab
    refine ⟨a, C, dx, _, .ref lt, rfl, M.obj, c, n, rfl, q _ H2 (g1.trans g2) ?_⟩
    exact DW.laid (H := H1) (r.grow g1).alloc hlt (wt.sub fun b hb => List.mem_cons_of_mem _ (List.mem_cons_of_mem _ hb)) ht
  | _ => simp [mksD] at es
theorem sc_makable : FnScope ["gates"] ["gates"] (defScope s_makable) := ⟨rfl, rfl, rfl, by decide +kernel, rfl, by decide +kernel, by decide +kernel⟩
theorem ok_makable (T : Txt K mg t) : FnOk P w K mg base CX0 44 t.f_makable t.d_makable ["gates"] (dsp K 1 true m_makable) := by
  refine T.F_makable.ok sc_makable (fun vs H Q E h => dsp_len h) (fun cdv A outer s H vs Q E hr h => ?_)
  refine ⟨_, (pss_cons (ps_expr (pe_call (ok_check_gates T) (hr.mono (by decide)) rfl T.m_check_gates T.F_check_gates.kp T.b_check_gates .nil pass0 (pa_cons (pv 0) pa_nil))) (pss_one (ps_ret (pe_lc rfl (lcs (N := ["table"]) (mp := [none]) (by rfl)) (pi_seqK K (pe_callB (call_sort K hr.units) (by rfl) T.z_sorted (by decide +kernel) (pa_cons (pe_fldK K (pe_call (ok_makings_of T) (hr.mono (by decide)) rfl T.m_makings_of T.F_makings_of.kp T.b_makings_of .nil pass0 (pa_cons (pv 0) pa_nil)) rfl) pa_nil))) (fun _ _ _ _ _ => (pg_name (i := 0) (show List.Nodup [("table" : Str)] by decide) rfl (by first | exact Or.inl rfl | exact Or.inr rfl))) (fun _ _ _ _ _ => pifs_nil) (fun _ _ _ _ _ => (pe_callTy (call_listK K) (by rfl) T.z_list (by decide +kernel) (pa_cons (pv 0) pa_nil))))))), ?_⟩
  exact fn_read (K := K) (np := 1) (n := 1) (fr := true) (O1 := []) (rs_seq (rs_do (rd_call (ra_cons (rd_var (i := 0)) ra_nil))) (rs_retN (rn_lc (ri_seq (RdN.e (rn_cb rc_srt (rar_cons (RdE.r (rd_mkt T.cl_Makings T.na_tables (rd_var (i := 0)))) rar_nil)))) (rg_name (i := 0)) (gk_name (i := 0)) rt_all (RdN.e (rn_cb rc_list (rar_cons (RdE.r (rd_var (i := 0))) rar_nil)))))) h rfl (by decide)
theorem sc_made : FnScope ["gates", "table", "makings"] ["gates", "table"] (defScope s_made) := ⟨rfl, rfl, rfl, by decide +kernel, rfl, by decide +kernel, by decide +kernel⟩
noncomputable def MadeX (K : PySem.W.Frag) (H : Hp) (Q : VK) (E : XK) (U : List Addr) (g : D) (bs : List D) : Prop :=
  (∃ c, x_check_gates [g] = some c ∧ ∀ H', Same H H' → Ew K E c H') ∨ ∃ d1, m_check_gates [g] = some d1 ∧
    ((∃ c, x_check_table [.lst bs] = some c ∧ ∀ H', Same H H' → Ew K E c H') ∨ ∃ d2 st b, m_check_table [.lst bs] = some d2 ∧ mksD g = some st ∧ dInBD (.tup bs) (.lst st.1) = some b ∧
      (b = true → ∃ j, idxD st.1 (.tup bs) = some j ∧ ∀ v H', Same H H' → RetOk K true H H' U v (.lst (st.2.take (j + 1))) → Q v H') ∧ (b = false → ∀ H', Same H H' → Ew K E "NotMade" H'))
noncomputable def MadeY (g : D) (bs : List D) (d : D) : Prop := ∃ d1 d2 st j, m_check_gates [g] = some d1 ∧ m_check_table [.lst bs] = some d2 ∧ mksD g = some st ∧ dInBD (.tup bs) (.lst st.1) = some true ∧ idxD st.1 (.tup bs) = some j ∧ d = .lst (st.2.take (j + 1))
theorem made_some {ds : List D} {d : D} (e : m_made ds = some d) : ∃ g bs, ds = [g, .lst bs] ∧ MadeY g bs d := by
  unfold m_made at e
  split at e
  · rename_i g bs
    refine ⟨g, bs, rfl, ?_⟩
    obtain ⟨d1, e1, e⟩ := Option.bind_eq_some_iff.mp e
    obtain ⟨d2, e2, e⟩ := Option.bind_eq_some_iff.mp e
    obtain ⟨st, e3, e⟩ := Option.bind_eq_some_iff.mp e
    obtain ⟨b, e4, e⟩ := Option.bind_eq_some_iff.mp e
    cases b with
    | false => rw [if_neg Bool.false_ne_true] at e; cases e
    | true =>
      rw [if_pos rfl] at e
      obtain ⟨j, e5, e⟩ := Option.bind_eq_some_iff.mp e
      cases e
      exact ⟨d1, d2, st, j, e1, e2, e3, e4, e5, rfl⟩
  · cases e
theorem madeC {K : PySem.W.Frag} {vs : List V} {H : Hp} {Q : VK} {E : XK} (h : dspx K 2 true m_made x_made vs H Q E) : ∃ U v1 v2 g bs, vs = [v1, v2] ∧ (∀ a ∈ U, ∃ o, H a = some o) ∧ DW K H U v1 g ∧ DW K H U v2 (.lst bs) ∧ MadeX K H Q E U g bs := by
  rcases h with ⟨U, ds, d, hl, al, ws, e, q⟩ | ⟨U, ds, c, hl, al, ws, e, q⟩
  · obtain ⟨g, bs, rfl, y⟩ := made_some e
    obtain ⟨v1, v2, rfl, w1, w2⟩ := dws_two ws
    refine ⟨U, v1, v2, g, bs, rfl, al, w1, w2, ?_⟩
    obtain ⟨d1, d2, st, j, e1, e2, e3, e4, e5, rfl⟩ := y
    exact .inr ⟨d1, e1, .inr ⟨d2, st, true, e2, e3, e4, fun _ => ⟨j, e5, q⟩, fun z => by cases z⟩⟩
  · unfold x_made at e
    split at e
    · rename_i g bs
      obtain ⟨v1, v2, rfl, w1, w2⟩ := dws_two ws
      refine ⟨U, v1, v2, g, bs, rfl, al, w1, w2, ?_⟩
      · split at e
        · rename_i c' ex
          cases e
          exact .inl ⟨_, ex, q⟩
        · obtain ⟨d1, e1, e⟩ := Option.bind_eq_some_iff.mp e
          split at e
          · rename_i c' ex
            cases e
            exact .inr ⟨d1, e1, .inl ⟨_, ex, q⟩⟩
          · obtain ⟨d2, e2, e⟩ := Option.bind_eq_some_iff.mp e
            obtain ⟨st, e3, e⟩ := Option.bind_eq_some_iff.mp e
            obtain ⟨b, e4, e⟩ := Option.bind_eq_some_iff.mp e
            cases b with
            | true => rw [if_pos rfl] at e; cases e
            | false =>
              rw [if_neg Bool.false_ne_true] at e
              cases e
              exact .inr ⟨d1, e1, .inr ⟨d2, st, false, e2, e3, e4, fun z => (by cases z), fun _ => q⟩⟩
    · cases e
noncomputable def tmT (K : PySem.W.Frag) : TE := tCB (tupR K) (tCons (tVar 1) tNil)
noncomputable def tmR (K : PySem.W.Frag) : TS := tRet (tSl (rSlU K) (tFld K (tVar 2) "steps") tNoPart (tPart (tOp (rAddU K) (tBM K "list" (rLixD K) (tFld K (tVar 2) "tables") (tCons (tmT K) tNil)) (tC (V.int 1)))))
noncomputable def tmD (K : PySem.W.Frag) (C : Addr) (r : TS) : TS := tSeq (tAsg (tCall (spMks K C) [] E0 (tCons (tVar 0) tNil)) (gName 2)) (tSeq (tIfS (tTest (tOp (rInD K true) (tmT K) (tFld K (tVar 2) "tables"))) r tNext) (tmR K))
theorem made_do (T : Txt K mg t) {r : TS} {Dn : Ends} {H Hb : Hp} {U : List Addr} {v1 v2 : V} {g : D} {bs : List D} {st : List D × List D} {b : Bool} (al : ∀ a ∈ U, ∃ o, H a = some o) (w1 : DW K H U v1 g) (w2 : DW K H U v2 (.lst bs)) (gab : Same H Hb) (em : mksD g = some st) (eb : dInBD (.tup bs) (.lst st.1) = some b)
    (hT : b = true → ∃ j, idxD st.1 (.tup bs) = some j ∧ ∀ v H', Same H H' → RetOk K true H H' U v (.lst (st.2.take (j + 1))) → Dn.rt v H') (hF : b = false → ∀ D' σ H', Same H H' → r D' σ H') : tmD K t.c_Makings r Dn (L2.start ["gates", "table", "makings"] [v1, v2]) Hb := by
  have grow : ∀ {H1 : Hp}, Same H H1 → ∀ a ∈ U, ∃ o, H1 a = some o := fun s1 a ha => by obtain ⟨o, eo⟩ := al a ha; exact ⟨o, s1 _ _ eo⟩
  cases g with
  | lst gds =>
    refine ⟨_, rfl, U, gds, v1, st, rfl, grow gab, w1.same gab, em, fun a dx lt ls H2 g2 hlt hls M => ?_⟩
    have g02 := gab.trans g2
    have wr : DW K H2 (lt :: ls :: U) v2 (.lst bs) := (((w2.same gab).fresh hls).fresh hlt).same g2
    simp only [DW] at wr
    obtain ⟨p3, xs3, rfl, hq3, ws3⟩ := wr
    refine ⟨_, rfl, p3, xs3, rfl, .inl ⟨hq3.sq, fun l4 hl4 => ?_⟩⟩
    have g4 := same_upd hl4 (.tup xs3)
    have M4 := M.same g4
    have w4 : DW K (upd H2 l4 (.tup xs3)) (lt :: ls :: U) (.ref l4) (.tup bs) := by
      simp only [DW]
      exact ⟨l4, xs3, rfl, SqT.of upd_same, ws3.same g4⟩
    obtain ⟨xt4, ht4, wt4⟩ := M4.tab
    refine ⟨_, rfl, a, t.c_Makings, dx, _, .ref lt, rfl, M4.obj, T.cl_Makings, T.na_tables, rfl, ?_⟩
    refine rdo_notinD _ (lt :: ls :: U) (.ref l4) (.ref lt) (.tup bs) (.lst st.1) (.bl (!b)) _ M4.alloc w4.r ⟨lt, xt4, rfl, SqL.of ht4, wt4⟩ (by unfold dNotInD; rw [eb]; rfl) fun v5 H5 g5 w5 => ⟨!b, by simpa only [DW] using w5, ?_⟩
    have M5 := M4.same g5
    have g05 := (g02.trans g4).trans g5
    cases b with
    | false =>
      refine iteT ?_
      exact hF rfl _ _ _ g05
    | true =>
      refine iteF ?_
      obtain ⟨j, ej, q⟩ := hT rfl
      obtain ⟨xt5, ht5, wt5⟩ := M5.tab
      obtain ⟨xs5, hs5, wss5⟩ := M5.stp
      refine ⟨_, rfl, a, t.c_Makings, dx, _, .ref ls, rfl, M5.obj, T.cl_Makings, T.na_steps, rfl, ?_⟩
      refine ⟨_, rfl, a, t.c_Makings, dx, _, .ref lt, rfl, M5.obj, T.cl_Makings, T.na_tables, rfl, .inl ⟨rfl, xt5, SqL.of ht5⟩, _, rfl, p3, xs3, rfl, .inl ⟨(g4.trans g5).seq hq3.sq, fun l6 hl6 => ?_⟩⟩
      have g6 := same_upd hl6 (.tup xs3)
      have M6 := M5.same g6
      have w6 : DW K (upd H5 l6 (.tup xs3)) (lt :: ls :: U) (.ref l6) (.tup bs) := by
        simp only [DW]
        exact ⟨l6, xs3, rfl, SqT.of upd_same, (ws3.same (g4.trans g5)).same g6⟩
      obtain ⟨xt6, ht6, wt6⟩ := M6.tab
      obtain ⟨xs6, hs6, wss6⟩ := M6.stp
      have hdp : (st.1.all fun e => decide (dep e ≤ 60)) = true := by
        unfold dInBD at eb
        exact (ite_some eb).1
      refine ⟨lt, xt6, st.1, .ref l6, .tup bs, j, rfl, rfl, SqL.of ht6, wt6.drs, w6.r.dr, hdp, ej, ?_⟩
      refine rdo_add _ (lt :: ls :: U) (.int (j : Int)) (.int 1) (.int (j : Int)) (.int 1) (.int ((j : Int) + 1)) _ M6.alloc (by simp only [DWr, DW]) (by simp only [DWr, DW]) rfl fun v7 H7 g7 w7 => ⟨((j + 1 : Nat) : Int), by rw [show ((j + 1 : Nat) : Int) = (j : Int) + 1 by omega]; simpa only [DW] using w7, ?_⟩
      have M7 := M6.same g7
      obtain ⟨xs7, hs7, wss7⟩ := M7.stp
      refine .inl ⟨ls, xs7, rfl, SqL.of hs7, fun p hp => ?_⟩
      have g8 := same_upd hp (.lst (cutV xs7 none (some ((j + 1 : Nat) : Int))))
      have g08 := ((g05.trans g6).trans g7).trans g8
      have wc := dws_cut none (some ((j + 1 : Nat) : Int)) wss7
      rw [cut_toN] at wc
      have wc' : DWs K H7 U (cutV xs7 none (some ((j + 1 : Nat) : Int))) (st.2.take (j + 1)) := wc.sub fun b hb => List.mem_cons_of_mem _ (List.mem_cons_of_mem _ hb)
      refine q _ _ g08 ⟨?_, fun _ => ⟨p, _, _, rfl, rfl, ((g05.trans g6).trans g7).free hp, upd_same, (wc'.fresh hp).same g8⟩⟩
      exact DW.laid (grow ((g05.trans g6).trans g7)) hp (wc'.same g8) upd_same
  | _ => simp [mksD] at em
noncomputable def tmX (K : PySem.W.Frag) (C N : Addr) (E : XK) : TS := tSeq (tDrop (tCall (dspx K 1 false m_check_gates x_check_gates) [] E (tCons (tVar 0) tNil))) (tSeq (tDrop (tCall (dspx K 1 false m_check_table x_check_table) [] E (tCons (tVar 1) tNil))) (tmD K C (tRaise N E)))
noncomputable def tmY (K : PySem.W.Frag) (C : Addr) : TS := tSeq (tDrop (tCall (dsp K 1 false m_check_gates) [] E0 (tCons (tVar 0) tNil))) (tSeq (tDrop (tCall (dsp K 1 false m_check_table) [] E0 (tCons (tVar 1) tNil))) (tmD K C tNever))
theorem okx_made (T : Txt K mg t) : FnOk P w K mg base (CXe P w) 44 t.f_made t.d_made ["gates", "table"] (dspx K 2 true m_made x_made) := by
  refine T.F_made.okL sc_made (fun vs H Q E h => dspx_len h) (fun cdv A outer s H vs Q E hr h => ?_)
  refine ⟨tmX K t.c_Makings t.c_NotMade E, (pss_cons (ps_expr (pe_call (okx_check_gates T) (hr.mono (by decide)) rfl T.m_check_gates T.F_check_gates.kp T.b_check_gates .nil passL (pa_cons (pv 0) pa_nil))) (pss_cons (ps_expr (pe_call (okx_check_table T) (hr.mono (by decide)) rfl T.m_check_table T.F_check_table.kp T.b_check_table .nil passL (pa_cons (pv 1) pa_nil))) (pss_cons (ps_set (i := 2) sc_made.nd rfl (Or.inl rfl) (pe_call (ok_makings_of T) (hr.mono (by decide)) rfl T.m_makings_of T.F_makings_of.kp T.b_makings_of .nil pass0 (pa_cons (pv 0) pa_nil))) (pss_cons (ps_if (pt_cmpR (op_notInDK K hr.units) (pe_callTy (call_tupleK K) (by rfl) T.z_tuple (by decide +kernel) (pa_cons (pv 1) pa_nil)) (pe_fldK K (pv 2) rfl) rfl) (pss_one (ps_raiseL T.x_NotMade (by rfl) T.m_NotMade)) pss_nil) (pss_one (ps_ret (pe_slice (sl_K K) (pe_fldK K (pv 2) rfl) po_none (po_some (pe_op (op_addK K) (pe_bmK K PySem.F.plainAttrs_list PySem.F.slot_list_index PySem.F.type_list_index (mt_lixDK K hr.units) (pe_fldK K (pv 2) rfl) (pa_cons (pe_callTy (call_tupleK K) (by rfl) T.z_tuple (by decide +kernel) (pa_cons (pv 1) pa_nil)) pa_nil)) pe_int))))))))), ?_⟩
  obtain ⟨U, v1, v2, g, bs, rfl, al, w1, w2, h⟩ := madeC h
  have grow : ∀ {H1 : Hp}, Same H H1 → ∀ a ∈ U, ∃ o, H1 a = some o := fun s1 a ha => by obtain ⟨o, eo⟩ := al a ha; exact ⟨o, s1 _ _ eo⟩
  rcases h with ⟨c, ex, q⟩ | ⟨d1, e1, h⟩
  · exact ⟨_, rfl, .inr ⟨U, [g], c, rfl, al, DWs.one w1, ex, q⟩⟩
  refine ⟨_, rfl, .inl ⟨U, [g], d1, rfl, al, DWs.one w1, e1, fun va Ha ga _ => ?_⟩⟩
  rcases h with ⟨c, ex, q⟩ | ⟨d2, st, b, e2, em, eb, hT, hF⟩
  · exact ⟨_, rfl, .inr ⟨U, [.lst bs], c, rfl, grow ga, DWs.one (w2.same ga), ex, fun H' s' => q H' (ga.trans s')⟩⟩
  refine ⟨_, rfl, .inl ⟨U, [.lst bs], d2, rfl, grow ga, DWs.one (w2.same ga), e2, fun vb Hb gb _ => ?_⟩⟩
  exact made_do T al w1 w2 (ga.trans gb) em eb hT fun z _ _ H' s' => hF z H' s' t.c_NotMade T.g_NotMade
theorem ok_made (T : Txt K mg t) : FnOk P w K mg base CX0 44 t.f_made t.d_made ["gates", "table"] (dsp K 2 true m_made) := by
  refine T.F_made.ok sc_made (fun vs H Q E h => dsp_len h) (fun cdv A outer s H vs Q E hr h => ?_)
  refine ⟨tmY K t.c_Makings, (pss_cons (ps_expr (pe_call (ok_check_gates T) (hr.mono (by decide)) rfl T.m_check_gates T.F_check_gates.kp T.b_check_gates .nil pass0 (pa_cons (pv 0) pa_nil))) (pss_cons (ps_expr (pe_call (ok_check_table T) (hr.mono (by decide)) rfl T.m_check_table T.F_check_table.kp T.b_check_table .nil pass0 (pa_cons (pv 1) pa_nil))) (pss_cons (ps_set (i := 2) sc_made.nd rfl (Or.inl rfl) (pe_call (ok_makings_of T) (hr.mono (by decide)) rfl T.m_makings_of T.F_makings_of.kp T.b_makings_of .nil pass0 (pa_cons (pv 0) pa_nil))) (pss_cons (ps_if (pt_cmpR (op_notInDK K hr.units) (pe_callTy (call_tupleK K) (by rfl) T.z_tuple (by decide +kernel) (pa_cons (pv 1) pa_nil)) (pe_fldK K (pv 2) rfl) rfl) (pss_one ps_never) pss_nil) (pss_one (ps_ret (pe_slice (sl_K K) (pe_fldK K (pv 2) rfl) po_none (po_some (pe_op (op_addK K) (pe_bmK K PySem.F.plainAttrs_list PySem.F.slot_list_index PySem.F.type_list_index (mt_lixDK K hr.units) (pe_fldK K (pv 2) rfl) (pa_cons (pe_callTy (call_tupleK K) (by rfl) T.z_tuple (by decide +kernel) (pa_cons (pv 1) pa_nil)) pa_nil)) pe_int))))))))), ?_⟩
  obtain ⟨U, ds, d, hl, al, ws, e, q⟩ := h
  obtain ⟨g, bs, rfl, y⟩ := made_some e
  obtain ⟨v1, v2, rfl, w1, w2⟩ := dws_two ws
  obtain ⟨d1, d2, st, j, e1, e2, em, eb, ej, rfl⟩ := y
  have grow : ∀ {H1 : Hp}, Same H H1 → ∀ a ∈ U, ∃ o, H1 a = some o := fun s1 a ha => by obtain ⟨o, eo⟩ := al a ha; exact ⟨o, s1 _ _ eo⟩
  refine ⟨_, rfl, U, [g], d1, rfl, al, DWs.one w1, e1, fun va Ha ga _ => ?_⟩
  refine ⟨_, rfl, U, [.lst bs], d2, rfl, grow ga, DWs.one (w2.same ga), e2, fun vb Hb gb _ => ?_⟩
  exact made_do T al w1 w2 (ga.trans gb) em eb (fun _ => ⟨j, ej, q⟩) fun z => by cases z
theorem sc_law_cell_at : FnScope ["script", "k"] ["script", "k"] (defScope s_law_cell_at) := ⟨rfl, rfl, rfl, by decide +kernel, rfl, by decide +kernel, by decide +kernel⟩
theorem ok_law_cell_at (T : Txt K mg t) : FnOk P w K mg base CX0 1 t.f_law_cell_at t.d_law_cell_at ["script", "k"] (dsp K 2 false m_law_cell_at) := by
  refine T.F_law_cell_at.ok sc_law_cell_at (fun vs H Q E h => dsp_len h) (fun cdv A outer s H vs Q E hr h => ?_)
  refine ⟨_, (pss_cons (ps_if (pt_cmpR op_lt (pv 1) (pe_callB (call_lenK K) (by rfl) T.z_len PySem.boot_len (pa_cons (pv 0) pa_nil)) (nomark _)) (pss_one (ps_ret (pe_ix (ix_K K) (pv 0) (pv 1) (fun _ _ => rfl)))) pss_nil) (pss_one (ps_ret pe_int))), ?_⟩
  exact fn_read (K := K) (np := 2) (n := 2) (fr := false) (O1 := []) (rs_seq (rs_if (rt_cmp (RdE.r (rd_op rdo_lt (RdE.r (rd_var (i := 1))) (RdE.r (rd_cb rc_len (rar_cons (RdE.r (rd_var (i := 0))) rar_nil)))))) (rs_ret (rd_op rdo_ix (RdE.r (rd_var (i := 0))) (RdE.r (rd_var (i := 1))))) rs_next) (rs_ret rd_int)) h rfl (by decide)
theorem sc_law_whole : FnScope ["found"] ["found"] (defScope s_law_whole) := ⟨rfl, rfl, rfl, by decide +kernel, rfl, by decide +kernel, by decide +kernel⟩
theorem ok_law_whole (T : Txt K mg t) : FnOk P w K mg base CX0 1 t.f_law_whole t.d_law_whole ["found"] (dsp K 1 false m_law_whole) := by
  refine T.F_law_whole.ok sc_law_whole (fun vs H Q E h => dsp_len h) (fun cdv A outer s H vs Q E hr h => ?_)
  refine ⟨_, (pss_one (ps_ret (pe_and (pe_callB (call_isiK K) (by rfl) T.z_isinstance (by decide +kernel) (pa_cons (pv 0) (pa_cons (pe_bltn (v := .ty "int") (u := .type "int") rfl T.z_int (by decide +kernel) rfl) pa_nil))) (pe_one (pe_not (pe_callB (call_isiK K) (by rfl) T.z_isinstance (by decide +kernel) (pa_cons (pv 0) (pa_cons (pe_bltn (v := .ty "bool") (u := .type "bool") rfl T.z_bool (by decide +kernel) rfl) pa_nil)))))))), ?_⟩
  exact fn_read (K := K) (np := 1) (n := 1) (fr := false) (O1 := []) (rs_ret (rd_and (RdE.r (rd_isi kit_int (RdE.r (rd_var (i := 0))))) (rd_not (RdE.r (rd_isi kit_bool (RdE.r (rd_var (i := 0)))))))) h rfl (by decide)
theorem sc_law_next : FnScope ["seed"] ["seed"] (defScope s_law_next) := ⟨rfl, rfl, rfl, by decide +kernel, rfl, by decide +kernel, by decide +kernel⟩
theorem ok_law_next (T : Txt K mg t) : FnOk P w K mg base CX0 1 t.f_law_next t.d_law_next ["seed"] (dsp K 1 false m_law_next) := by
  refine T.F_law_next.ok sc_law_next (fun vs H Q E h => dsp_len h) (fun cdv A outer s H vs Q E hr h => ?_)
  refine ⟨_, (pss_cons (ps_set (i := 0) sc_law_next.nd rfl (Or.inl rfl) (pe_op op_mod (pe_op (op_addK K) (pv 0) pe_int) pe_int)) (pss_one (ps_ret (pe_op op_mod (pe_op (op_addK K) (pe_op (op_addK K) (pe_op op_mul (pv 0) (pv 0)) (pe_op op_mul pe_int (pv 0))) pe_int) pe_int)))), ?_⟩
  exact fn_read (K := K) (np := 1) (n := 1) (fr := false) (O1 := []) (rs_seq (rs_set (rd_op rdo_mod (RdE.r (rd_op rdo_add (RdE.r (rd_var (i := 0))) (RdE.r rd_int))) (RdE.r rd_int))) (rs_ret (rd_op rdo_mod (RdE.r (rd_op rdo_add (RdE.r (rd_op rdo_add (RdE.r (rd_op rdo_mul (RdE.r (rd_var (i := 0))) (RdE.r (rd_var (i := 0))))) (RdE.r (rd_op rdo_mul (RdE.r rd_int) (RdE.r (rd_var (i := 0))))))) (RdE.r rd_int))) (RdE.r rd_int)))) h rfl (by decide)
theorem sc_law_gate : FnScope ["seed", "most", "size", "way", "found", "left", "row"] ["seed", "most"] (defScope s_law_gate) := ⟨rfl, rfl, rfl, by decide +kernel, rfl, by decide +kernel, by decide +kernel⟩
theorem ok_law_gate (T : Txt K mg t) : FnOk P w K mg base CX0 1 t.f_law_gate t.d_law_gate ["seed", "most"] (dsp K 2 true m_law_gate) := by
  refine T.F_law_gate.ok sc_law_gate (fun vs H Q E h => dsp_len h) (fun cdv A outer s H vs Q E hr h => ?_)
  refine ⟨_, (pss_cons (ps_set (i := 2) sc_law_gate.nd rfl (Or.inr rfl) (pe_ix (ix_K K) (pe_lst (pa_int (pa_int (pa_int pa_nil)))) (pe_op op_mod (pe_op op_fdiv (pv 0) pe_int) (pv 1)) (fun _ _ => rfl))) (pss_cons (ps_set (i := 3) sc_law_gate.nd rfl (Or.inl rfl) (pe_op op_mod (pe_op op_fdiv (pv 0) pe_int) pe_int)) (pss_cons (ps_if (pt_cmpR (op_eqK K hr.units) (pv 3) pe_int (nomark _)) (pss_one (ps_ret (pe_lc rfl (lcs (N := ["row", "seed"]) (mp := [none, some 0]) (by rfl)) (pi_range1 rfl T.z_range (pa_cons (pv 2) pa_nil)) (fun _ _ _ _ _ => (pg_name (i := 0) (show List.Nodup [("row" : Str), ("seed" : Str)] by decide) rfl (by first | exact Or.inl rfl | exact Or.inr rfl))) (fun _ _ _ _ _ => pifs_nil) (fun _ _ _ _ _ => (pe_cmpR (op_eqK K hr.units) (pe_op op_mod (pv 0) pe_int) (pe_op op_mod (pe_op op_fdiv (pv 1) pe_int) pe_int) (nomark _)))))) pss_nil) (pss_cons (ps_if (pt_cmpR (op_eqK K hr.units) (pv 3) pe_int (nomark _)) (pss_one (ps_ret (pe_lc rfl (lcs (N := ["row", "size"]) (mp := [none, some 2]) (by rfl)) (pi_range1 rfl T.z_range (pa_cons (pv 2) pa_nil)) (fun _ _ _ _ _ => (pg_name (i := 0) (show List.Nodup [("row" : Str), ("size" : Str)] by decide) rfl (by first | exact Or.inl rfl | exact Or.inr rfl))) (fun _ _ _ _ _ => pifs_nil) (fun _ _ _ _ _ => (pe_cmpR (op_eqK K hr.units) (pv 0) (pe_op op_sub (pv 1) pe_int) (nomark _)))))) pss_nil) (pss_cons (ps_if (pt_cmpR (op_eqK K hr.units) (pv 3) pe_int (nomark _)) (pss_one (ps_ret (pe_lc rfl (lcs (N := ["row"]) (mp := [none]) (by rfl)) (pi_range1 rfl T.z_range (pa_cons (pv 2) pa_nil)) (fun _ _ _ _ _ => (pg_name (i := 0) (show List.Nodup [("row" : Str)] by decide) rfl (by first | exact Or.inl rfl | exact Or.inr rfl))) (fun _ _ _ _ _ => pifs_nil) (fun _ _ _ _ _ => (pe_cmpR op_gt (pv 0) pe_int (nomark _)))))) pss_nil) (pss_cons (ps_if (pt_cmpR (op_eqK K hr.units) (pv 3) pe_int (nomark _)) (pss_one (ps_ret (pe_lc rfl (lcs (N := ["row", "seed"]) (mp := [none, some 0]) (by rfl)) (pi_range1 rfl T.z_range (pa_cons (pv 2) pa_nil)) (fun _ _ _ _ _ => (pg_name (i := 0) (show List.Nodup [("row" : Str), ("seed" : Str)] by decide) rfl (by first | exact Or.inl rfl | exact Or.inr rfl))) (fun _ _ _ _ _ => pifs_nil) (fun _ _ _ _ _ => (pe_cmpR (op_eqK K hr.units) (pe_op op_mod (pe_op (op_addK K) (pe_op (op_addK K) (pv 0) (pe_op op_fdiv (pv 0) pe_int)) (pe_op op_fdiv (pv 0) pe_int)) pe_int) (pe_op op_mod (pe_op op_fdiv (pv 1) pe_int) pe_int) (nomark _)))))) pss_nil) (pss_cons (ps_if (PW.pt (pw_and (pt_cmpR (op_eqK K hr.units) (pv 3) pe_int (nomark _)) (pw_and1 (pt_cmpR (op_eqK K hr.units) (pv 2) pe_int (nomark _))))) (pss_one (ps_ret (pe_lc rfl (lcs (N := ["row"]) (mp := [none]) (by rfl)) (pi_range1 rfl T.z_range (pa_cons (pv 2) pa_nil)) (fun _ _ _ _ _ => (pg_name (i := 0) (show List.Nodup [("row" : Str)] by decide) rfl (by first | exact Or.inl rfl | exact Or.inr rfl))) (fun _ _ _ _ _ => pifs_nil) (fun _ _ _ _ _ => (pe_cmpR (op_inK K) (pv 0) (pe_tup (pa_int (pa_int (pa_int (pa_int pa_nil))))) rfl))))) pss_nil) (pss_cons (ps_set (i := 4) sc_law_gate.nd rfl (Or.inl rfl) (pe_lst pa_nil)) (pss_cons (ps_set (i := 5) sc_law_gate.nd rfl (Or.inl rfl) (pe_op op_fdiv (pv 0) pe_int)) (pss_cons (ps_for PassesOwn.never rfl (pi_range1 rfl T.z_range (pa_cons (pv 2) pa_nil)) (pg_name (i := 6) sc_law_gate.nd rfl (Or.inl rfl)) (pss_cons (ps_expr (pe_bmK K PySem.F.plainAttrs_list PySem.F.slot_list_append PySem.F.type_list_append mt_append (pv 4) (pa_cons (pe_cmpR (op_eqK K hr.units) (pe_op op_mod (pv 5) pe_int) pe_int (nomark _)) pa_nil))) (pss_one (ps_set (i := 5) sc_law_gate.nd rfl (Or.inl rfl) (pe_op op_fdiv (pv 5) pe_int))))) (pss_one (ps_ret (pv 4))))))))))))), ?_⟩
  exact fn_read (K := K) (np := 2) (n := 7) (fr := true) (O1 := []) (rs_seq (rs_set (rd_op rdo_ix (RdE.r (RdN.e (rn_lst (ra_cons rd_int (ra_cons rd_int (ra_cons rd_int ra_nil)))))) (RdE.r (rd_op rdo_mod (RdE.r (rd_op rdo_div (RdE.r (rd_var (i := 0))) (RdE.r rd_int))) (RdE.r (rd_var (i := 1))))))) (rs_seq (rs_set (rd_op rdo_mod (RdE.r (rd_op rdo_div (RdE.r (rd_var (i := 0))) (RdE.r rd_int))) (RdE.r rd_int))) (rs_seq (rs_if (rt_cmp (RdE.r (rd_op rdo_eq (RdE.r (rd_var (i := 3))) (RdE.r rd_int)))) (rs_retN (rn_lc (ri_rng1 (ra_cons (rd_var (i := 2)) ra_nil) a_len1) (rg_name (i := 0)) (gk_name (i := 0)) rt_all (rd_op rdo_eq (RdE.r (rd_op rdo_mod (RdE.r (rd_var (i := 0))) (RdE.r rd_int))) (RdE.r (rd_op rdo_mod (RdE.r (rd_op rdo_div (RdE.r (rd_var (i := 1))) (RdE.r rd_int))) (RdE.r rd_int)))))) rs_next) (rs_seq (rs_if (rt_cmp (RdE.r (rd_op rdo_eq (RdE.r (rd_var (i := 3))) (RdE.r rd_int)))) (rs_retN (rn_lc (ri_rng1 (ra_cons (rd_var (i := 2)) ra_nil) a_len1) (rg_name (i := 0)) (gk_name (i := 0)) rt_all (rd_op rdo_eq (RdE.r (rd_var (i := 0))) (RdE.r (rd_op rdo_sub (RdE.r (rd_var (i := 1))) (RdE.r rd_int)))))) rs_next) (rs_seq (rs_if (rt_cmp (RdE.r (rd_op rdo_eq (RdE.r (rd_var (i := 3))) (RdE.r rd_int)))) (rs_retN (rn_lc (ri_rng1 (ra_cons (rd_var (i := 2)) ra_nil) a_len1) (rg_name (i := 0)) (gk_name (i := 0)) rt_all (rd_op rdo_gt (RdE.r (rd_var (i := 0))) (RdE.r rd_int)))) rs_next) (rs_seq (rs_if (rt_cmp (RdE.r (rd_op rdo_eq (RdE.r (rd_var (i := 3))) (RdE.r rd_int)))) (rs_retN (rn_lc (ri_rng1 (ra_cons (rd_var (i := 2)) ra_nil) a_len1) (rg_name (i := 0)) (gk_name (i := 0)) rt_all (rd_op rdo_eq (RdE.r (rd_op rdo_mod (RdE.r (rd_op rdo_add (RdE.r (rd_op rdo_add (RdE.r (rd_var (i := 0))) (RdE.r (rd_op rdo_div (RdE.r (rd_var (i := 0))) (RdE.r rd_int))))) (RdE.r (rd_op rdo_div (RdE.r (rd_var (i := 0))) (RdE.r rd_int))))) (RdE.r rd_int))) (RdE.r (rd_op rdo_mod (RdE.r (rd_op rdo_div (RdE.r (rd_var (i := 1))) (RdE.r rd_int))) (RdE.r rd_int)))))) rs_next) (rs_seq (rs_if (rt_and (rt_cmp (RdE.r (rd_op rdo_eq (RdE.r (rd_var (i := 3))) (RdE.r rd_int)))) (rt_cmp (RdE.r (rd_op rdo_eq (RdE.r (rd_var (i := 2))) (RdE.r rd_int))))) (rs_retN (rn_lc (ri_rng1 (ra_cons (rd_var (i := 2)) ra_nil) a_len1) (rg_name (i := 0)) (gk_name (i := 0)) rt_all (rd_op rdo_in (RdE.r (rd_var (i := 0))) (RdE.r (rd_tup (ra_cons rd_int (ra_cons rd_int (ra_cons rd_int (ra_cons rd_int ra_nil))))))))) rs_next) (rs_seq (rs_setN (rn_lst ra_nil)) (rs_seq (rs_set (rd_op rdo_div (RdE.r (rd_var (i := 0))) (RdE.r rd_int))) (rs_seq (rs_for (ri_rng1 (ra_cons (rd_var (i := 2)) ra_nil) a_len1) (rg_name (i := 6)) (rs_seq (rs_app (rd_op rdo_eq (RdE.r (rd_op rdo_mod (RdE.r (rd_var (i := 5))) (RdE.r rd_int))) (RdE.r rd_int))) (rs_set (rd_op rdo_div (RdE.r (rd_var (i := 5))) (RdE.r rd_int))))) (rs_retO (i := 4)))))))))))) h rfl (by decide)
theorem sc_law_gates : FnScope ["script", "most", "gates", "k"] ["script", "most"] (defScope s_law_gates) := ⟨rfl, rfl, rfl, by decide +kernel, rfl, by decide +kernel, by decide +kernel⟩
theorem ok_law_gates (T : Txt K mg t) : FnOk P w K mg base CX0 2 t.f_law_gates t.d_law_gates ["script", "most"] (dsp K 2 true m_law_gates) := by
  refine T.F_law_gates.ok sc_law_gates (fun vs H Q E h => dsp_len h) (fun cdv A outer s H vs Q E hr h => ?_)
  refine ⟨_, (pss_cons (ps_set (i := 2) sc_law_gates.nd rfl (Or.inl rfl) (pe_lst pa_nil)) (pss_cons (ps_for PassesOwn.never rfl (pi_range1 rfl T.z_range (pa_cons (pe_op (op_addK K) pe_int (pe_op op_mod (pe_call (ok_law_cell_at T) (hr.mono (by decide)) rfl T.m_law_cell_at T.F_law_cell_at.kp T.b_law_cell_at .nil pass0 (pa_cons (pv 0) (pa_int pa_nil))) pe_int)) pa_nil)) (pg_name (i := 3) sc_law_gates.nd rfl (Or.inl rfl)) (pss_one (ps_expr (pe_bmK K PySem.F.plainAttrs_list PySem.F.slot_list_append PySem.F.type_list_append mt_append (pv 2) (pa_cons (pe_call (ok_law_gate T) (hr.mono (by decide)) rfl T.m_law_gate T.F_law_gate.kp T.b_law_gate .nil pass0 (pa_cons (pe_call (ok_law_next T) (hr.mono (by decide)) rfl T.m_law_next T.F_law_next.kp T.b_law_next .nil pass0 (pa_cons (pe_op (op_addK K) (pe_call (ok_law_cell_at T) (hr.mono (by decide)) rfl T.m_law_cell_at T.F_law_cell_at.kp T.b_law_cell_at .nil pass0 (pa_cons (pv 0) (pa_cons (pe_op (op_addK K) pe_int (pv 3)) pa_nil))) (pv 3)) pa_nil)) (pa_cons (pv 1) pa_nil))) pa_nil))))) (pss_one (ps_ret (pv 2))))), ?_⟩
  exact fn_read (K := K) (np := 2) (n := 4) (fr := true) (O1 := []) (rs_seq (rs_setN (rn_lst ra_nil)) (rs_seq (rs_for (ri_rng1 (ra_cons (rd_op rdo_add (RdE.r rd_int) (RdE.r (rd_op rdo_mod (RdE.r (rd_call (ra_cons (rd_var (i := 0)) (ra_cons rd_int ra_nil)))) (RdE.r rd_int)))) ra_nil) a_len1) (rg_name (i := 3)) (rs_app (RdN.e (rn_call (ra_cons (rd_call (ra_cons (rd_op rdo_add (RdE.r (rd_call (ra_cons (rd_var (i := 0)) (ra_cons (rd_op rdo_add (RdE.r rd_int) (RdE.r (rd_var (i := 3)))) ra_nil)))) (RdE.r (rd_var (i := 3)))) ra_nil)) (ra_cons (rd_var (i := 1)) ra_nil)))))) (rs_retO (i := 2)))) h rfl (by decide)
theorem sc_law_wide : FnScope ["gate"] ["gate"] (defScope s_law_wide) := ⟨rfl, rfl, rfl, by decide +kernel, rfl, by decide +kernel, by decide +kernel⟩
theorem ok_law_wide (T : Txt K mg t) : FnOk P w K mg base CX0 1 t.f_law_wide t.d_law_wide ["gate"] (dsp K 1 false m_law_wide) := by
  refine T.F_law_wide.ok sc_law_wide (fun vs H Q E h => dsp_len h) (fun cdv A outer s H vs Q E hr h => ?_)
  refine ⟨_, (pss_one (ps_ret (pe_dget (hu_of hr) (pe_disp (pps_cons pe_int pe_int (pps_cons pe_int pe_int (pps_cons pe_int pe_int pps_nil))) rfl rfl (by intro z; cases z) (by decide)) (pe_callB (call_lenK K) (by rfl) T.z_len PySem.boot_len (pa_cons (pv 0) pa_nil)) (fun _ _ => rfl)))), ?_⟩
  exact fn_read (K := K) (np := 1) (n := 1) (fr := false) (O1 := []) (rs_ret (rd_wide (rd_cb rc_len (rar_cons (RdE.r (rd_var (i := 0))) rar_nil)))) h rfl (by decide)
theorem sc_law_kind : FnScope ["e", "kinds"] ["e"] (defScope s_law_kind) := ⟨rfl, rfl, rfl, by decide +kernel, rfl, by decide +kernel, by decide +kernel⟩
theorem okH_law_kind (T : Txt K mg t) : FnOkH P w K mg base 1 t.f_law_kind t.d_law_kind ["e"] (spKind K [t.c_NoGate, t.c_NoClass, t.c_NoInputs, t.c_NoFormula, t.c_NoTable, t.c_NotMade, t.c_NoNote]) := by
  refine T.F_law_kind.okH sc_law_kind (fun vs H Q E h => by obtain ⟨_, _, _, rfl, _⟩ := h; rfl) (fun cdv A outer s H vs Q E hr h => ?_)
  obtain ⟨ea, C, j, rfl, he, hk, q⟩ := h
  refine ⟨_, (pss_cons (ps_set (i := 1) sc_law_kind.nd rfl (Or.inl rfl) (pe_lst (pa_cons (pe_callB (call_isX K) (by rfl) T.z_isinstance (by decide +kernel) (pa_cons (pv 0) (pa_cons (pe_glob (v := .ref t.c_NoGate) rfl T.m_NoGate rfl) pa_nil))) (pa_cons (pe_callB (call_isX K) (by rfl) T.z_isinstance (by decide +kernel) (pa_cons (pv 0) (pa_cons (pe_glob (v := .ref t.c_NoClass) rfl T.m_NoClass rfl) pa_nil))) (pa_cons (pe_callB (call_isX K) (by rfl) T.z_isinstance (by decide +kernel) (pa_cons (pv 0) (pa_cons (pe_glob (v := .ref t.c_NoInputs) rfl T.m_NoInputs rfl) pa_nil))) (pa_cons (pe_callB (call_isX K) (by rfl) T.z_isinstance (by decide +kernel) (pa_cons (pv 0) (pa_cons (pe_glob (v := .ref t.c_NoFormula) rfl T.m_NoFormula rfl) pa_nil))) pa_nil)))))) (pss_cons (ps_set (i := 1) sc_law_kind.nd rfl (Or.inl rfl) (pe_op (op_addK K) (pv 1) (pe_lst (pa_cons (pe_callB (call_isX K) (by rfl) T.z_isinstance (by decide +kernel) (pa_cons (pv 0) (pa_cons (pe_glob (v := .ref t.c_NoTable) rfl T.m_NoTable rfl) pa_nil))) (pa_cons (pe_callB (call_isX K) (by rfl) T.z_isinstance (by decide +kernel) (pa_cons (pv 0) (pa_cons (pe_glob (v := .ref t.c_NotMade) rfl T.m_NotMade rfl) pa_nil))) (pa_cons (pe_callB (call_isX K) (by rfl) T.z_isinstance (by decide +kernel) (pa_cons (pv 0) (pa_cons (pe_glob (v := .ref t.c_NoNote) rfl T.m_NoNote rfl) pa_nil))) pa_nil)))))) (pss_cons (ps_if (PW.pt (pw_or (pt_not (pt_val (pe_callB (call_isX K) (by rfl) T.z_isinstance (by decide +kernel) (pa_cons (pv 0) (pa_cons (pe_bltn (v := .ty "ValueError") (u := .type "ValueError") rfl T.z_ValueError (by decide +kernel) rfl) pa_nil))))) (pw_or1 (pt_cmpR (op_neK K hr.units) (pe_bmK K PySem.F.plainAttrs_list PySem.F.slot_list_count PySem.F.type_list_count (mt_countK K) (pv 1) (pa_bl pa_nil)) pe_int (nomark _))))) (pss_one (ps_ret pe_str)) pss_nil) (pss_one (ps_ret (pe_ix (ix_K K) (pe_lst (pa_str (pa_str (pa_str (pa_str (pa_str (pa_str (pa_str pa_nil)))))))) (pe_bmK K PySem.F.plainAttrs_list PySem.F.slot_list_index PySem.F.type_list_index mt_lix (pv 1) (pa_bl pa_nil)) (fun _ _ => rfl))))))), ?_⟩
  refine ⟨_, rfl, ea, C, .ref t.c_NoGate, .ref t.c_NoGate, 0 == j, rfl, he, hk.ex, rfl, hk.is 0 _ rfl, ?_⟩
  refine ⟨_, rfl, ea, C, .ref t.c_NoClass, .ref t.c_NoClass, 1 == j, rfl, he, hk.ex, rfl, hk.is 1 _ rfl, ?_⟩
  refine ⟨_, rfl, ea, C, .ref t.c_NoInputs, .ref t.c_NoInputs, 2 == j, rfl, he, hk.ex, rfl, hk.is 2 _ rfl, ?_⟩
  refine ⟨_, rfl, ea, C, .ref t.c_NoFormula, .ref t.c_NoFormula, 3 == j, rfl, he, hk.ex, rfl, hk.is 3 _ rfl, ?_⟩
  refine ⟨(show 4 ≤ sizeLine by decide), fun l1 hl1 => ?_⟩
  have g1 := same_upd hl1 (.lst [.bl (0 == j), .bl (1 == j), .bl (2 == j), .bl (3 == j)])
  have e1 : upd H l1 (.lst [.bl (0 == j), .bl (1 == j), .bl (2 == j), .bl (3 == j)]) l1 = some (.lst [.bl (0 == j), .bl (1 == j), .bl (2 == j), .bl (3 == j)]) := upd_same
  generalize upd H l1 (.lst [.bl (0 == j), .bl (1 == j), .bl (2 == j), .bl (3 == j)]) = H1 at g1 e1 ⊢
  have he1 := g1 _ _ he
  refine ⟨_, rfl, ?_⟩
  refine ⟨_, rfl, ea, C, .ref t.c_NoTable, .ref t.c_NoTable, 4 == j, rfl, he1, hk.ex, rfl, hk.is 4 _ rfl, ?_⟩
  refine ⟨_, rfl, ea, C, .ref t.c_NotMade, .ref t.c_NotMade, 5 == j, rfl, he1, hk.ex, rfl, hk.is 5 _ rfl, ?_⟩
  refine ⟨_, rfl, ea, C, .ref t.c_NoNote, .ref t.c_NoNote, 6 == j, rfl, he1, hk.ex, rfl, hk.is 6 _ rfl, ?_⟩
  refine ⟨(show 3 ≤ sizeLine by decide), fun l2 hl2 => ?_⟩
  have g2 := same_upd hl2 (.lst [.bl (4 == j), .bl (5 == j), .bl (6 == j)])
  have e2 : upd H1 l2 (.lst [.bl (4 == j), .bl (5 == j), .bl (6 == j)]) l2 = some (.lst [.bl (4 == j), .bl (5 == j), .bl (6 == j)]) := upd_same
  generalize upd H1 l2 (.lst [.bl (4 == j), .bl (5 == j), .bl (6 == j)]) = H2 at g2 e2 ⊢
  refine .inr (.inr (.inl ⟨l1, l2, _, _, rfl, rfl, SqL.of (g2 _ _ e1), SqL.of e2, (show 7 ≤ sizeLine by decide), fun l3 hl3 => ?_⟩))
  have g3 := same_upd hl3 (.lst ([V.bl (0 == j), .bl (1 == j), .bl (2 == j), .bl (3 == j)] ++ [.bl (4 == j), .bl (5 == j), .bl (6 == j)]))
  have e3 : upd H2 l3 (.lst ([V.bl (0 == j), .bl (1 == j), .bl (2 == j), .bl (3 == j)] ++ [.bl (4 == j), .bl (5 == j), .bl (6 == j)])) l3 = some (.lst (([0 == j, 1 == j, 2 == j, 3 == j, 4 == j, 5 == j, 6 == j] : List Bool).map V.bl)) := upd_same
  generalize upd H2 l3 (.lst ([V.bl (0 == j), .bl (1 == j), .bl (2 == j), .bl (3 == j)] ++ [.bl (4 == j), .bl (5 == j), .bl (6 == j)])) = H3 at g3 e3 ⊢
  have he3 := g3 _ _ (g2 _ _ he1)
  have g03 : Same H H3 := (g1.trans g2).trans g3
  refine ⟨_, rfl, ea, C, .ty "ValueError", .type "ValueError", true, rfl, he3, hk.ex, rfl, hk.ve, true, rfl, ?_⟩
  refine iteF ?_
  refine ⟨_, rfl, .inl ⟨rfl, _, SqL.of e3⟩, l3, _, true, rfl, rfl, SqL.of e3, ?_⟩
  rw [kind_count j hk.lt]
  refine rdo_ne (K := K) H3 [] (.int ((1 : Nat) : Int)) (.int 1) (.int 1) (.int 1) (.bl false) _ (fun a ha => absurd ha (by simp)) (by simp only [DWr, DW]; rfl) (by simp only [DWr, DW]) rfl fun v4 H4 g4 w4 => ⟨false, by simpa only [DW] using w4, iteF ?_⟩
  refine ⟨(show 7 ≤ sizeLine by decide), fun l5 hl5 => ?_⟩
  have g5 := same_upd hl5 (.lst (kindS.map V.str))
  refine ⟨_, rfl, .inl ⟨rfl, _, SqL.of (g5 _ _ (g4 _ _ e3))⟩, l3, _, j, rfl, rfl, g5 _ _ (g4 _ _ e3), (kind_idx j hk.lt).1, (kind_idx j hk.lt).2, ?_⟩
  exact .inl ⟨l5, kindS.map V.str, (j : Int), _, rfl, rfl, SqL.of upd_same, kind_word j hk.lt, q _ ((g03.trans g4).trans g5)⟩
theorem sc_law_answered : FnScope ["gate", "tables", "found", "k", "row", "j"] ["gate", "tables"] (defScope s_law_answered) := ⟨rfl, rfl, rfl, by decide +kernel, rfl, by decide +kernel, by decide +kernel⟩
theorem ok_law_answered (T : Txt K mg t) : FnOk P w K mg base CX0 1 t.f_law_answered t.d_law_answered ["gate", "tables"] (dsp K 2 true m_law_answered) := by
  refine T.F_law_answered.ok sc_law_answered (fun vs H Q E h => dsp_len h) (fun cdv A outer s H vs Q E hr h => ?_)
  refine ⟨_, (pss_cons (ps_set (i := 2) sc_law_answered.nd rfl (Or.inl rfl) (pe_lst pa_nil)) (pss_cons (ps_for PassesOwn.never rfl (pi_range1 rfl T.z_range (pa_int pa_nil)) (pg_name (i := 3) sc_law_answered.nd rfl (Or.inl rfl)) (pss_cons (ps_set (i := 4) sc_law_answered.nd rfl (Or.inl rfl) pe_int) (pss_cons (ps_for PassesOwn.never rfl (pi_range1 rfl T.z_range (pa_cons (pe_callB (call_lenK K) (by rfl) T.z_len PySem.boot_len (pa_cons (pv 1) pa_nil)) pa_nil)) (pg_name (i := 5) sc_law_answered.nd rfl (Or.inl rfl)) (pss_one (ps_if (pt_val (pe_ix (ix_K K) (pe_ix (ix_K K) (pv 1) (pv 5) (fun _ _ => rfl)) (pv 3) (fun _ _ => rfl))) (pss_one (ps_set (i := 4) sc_law_answered.nd rfl (Or.inl rfl) (pe_op (op_addK K) (pv 4) (pe_ix (ix_K K) (pe_lst (pa_int (pa_int (pa_int pa_nil)))) (pv 5) (fun _ _ => rfl))))) pss_nil))) (pss_one (ps_expr (pe_bmK K PySem.F.plainAttrs_list PySem.F.slot_list_append PySem.F.type_list_append mt_append (pv 2) (pa_cons (pe_ix (ix_K K) (pv 0) (pv 4) (fun _ _ => rfl)) pa_nil))))))) (pss_one (ps_ret (pv 2))))), ?_⟩
  exact fn_read (K := K) (np := 2) (n := 6) (fr := true) (O1 := []) (rs_seq (rs_setN (rn_lst ra_nil)) (rs_seq (rs_for (ri_rng1 (ra_cons rd_int ra_nil) a_len1) (rg_name (i := 3)) (rs_seq (rs_set rd_int) (rs_seq (rs_for (ri_rng1 (ra_cons (rd_cb rc_len (rar_cons (RdE.r (rd_var (i := 1))) rar_nil)) ra_nil) a_len1) (rg_name (i := 5)) (rs_if (rt_val (RdE.r (rd_op rdo_ix (RdE.r (rd_op rdo_ix (RdE.r (rd_var (i := 1))) (RdE.r (rd_var (i := 5))))) (RdE.r (rd_var (i := 3)))))) (rs_set (rd_op rdo_add (RdE.r (rd_var (i := 4))) (RdE.r (rd_op rdo_ix (RdE.r (RdN.e (rn_lst (ra_cons rd_int (ra_cons rd_int (ra_cons rd_int ra_nil)))))) (RdE.r (rd_var (i := 5))))))) rs_next)) (rs_app (rd_op rdo_ix (RdE.r (rd_var (i := 0))) (RdE.r (rd_var (i := 4)))))))) (rs_retO (i := 2)))) h rfl (by decide)
theorem sc_law_stepped : FnScope ["gates", "step", "tables", "place"] ["gates", "step", "tables"] (defScope s_law_stepped) := ⟨rfl, rfl, rfl, by decide +kernel, rfl, by decide +kernel, by decide +kernel⟩
theorem ok_law_stepped (T : Txt K mg t) : FnOk P w K mg base CX0 2 t.f_law_stepped t.d_law_stepped ["gates", "step", "tables"] (dsp K 3 false m_law_stepped) := by
  refine T.F_law_stepped.ok sc_law_stepped (fun vs H Q E h => dsp_len h) (fun cdv A outer s H vs Q E hr h => ?_)
  refine ⟨_, (pss_cons (ps_if (PW.pt (pw_or (pt_not (pt_val (pe_callB (call_isiK K) (by rfl) T.z_isinstance (by decide +kernel) (pa_cons (pv 1) (pa_cons (pe_bltn (v := .ty "tuple") (u := .type "tuple") rfl T.z_tuple (by decide +kernel) rfl) pa_nil))))) (pw_or (pt_cmpR op_lt (pe_callB (call_lenK K) (by rfl) T.z_len PySem.boot_len (pa_cons (pv 1) pa_nil)) pe_int (nomark _)) (pw_or1 (pt_not (pt_val (pe_call (ok_law_whole T) (hr.mono (by decide)) rfl T.m_law_whole T.F_law_whole.kp T.b_law_whole .nil pass0 (pa_cons (pe_ix (ix_K K) (pv 1) pe_int (fun _ _ => rfl)) pa_nil)))))))) (pss_one (ps_ret pe_non)) pss_nil) (pss_cons (ps_if (PW.pt (pw_and (pt_cmpR (op_eqK K hr.units) (pe_ix (ix_K K) (pv 1) pe_int (fun _ _ => rfl)) pe_str (nomark _)) (pw_and (pt_cmpR (op_eqK K hr.units) (pe_callB (call_lenK K) (by rfl) T.z_len PySem.boot_len (pa_cons (pv 1) pa_nil)) pe_int (nomark _)) (pw_and1 (pt_chain op_le op_lt pe_int (pe_ix (ix_K K) (pv 1) pe_int (fun _ _ => rfl)) pe_int))))) (pss_one (ps_ret (pe_ix (ix_K K) (pe_lst (pa_cons (pe_lst (pa_bl (pa_bl (pa_bl (pa_bl pa_nil))))) (pa_cons (pe_lst (pa_bl (pa_bl (pa_bl (pa_bl pa_nil))))) pa_nil))) (pe_ix (ix_K K) (pv 1) pe_int (fun _ _ => rfl)) (fun _ _ => rfl)))) pss_nil) (pss_cons (ps_if (PW.pt (pw_or (pt_cmpR (op_neK K hr.units) (pe_ix (ix_K K) (pv 1) pe_int (fun _ _ => rfl)) pe_str (nomark _)) (pw_or (pt_cmpR (op_neK K hr.units) (pe_callB (call_lenK K) (by rfl) T.z_len PySem.boot_len (pa_cons (pv 1) pa_nil)) pe_int (nomark _)) (pw_or1 (pt_not (pt_chain op_le op_lt pe_int (pe_ix (ix_K K) (pv 1) pe_int (fun _ _ => rfl)) (pe_callB (call_lenK K) (by rfl) T.z_len PySem.boot_len (pa_cons (pv 0) pa_nil)))))))) (pss_one (ps_ret pe_non)) pss_nil) (pss_cons (ps_if (PW.pt (pw_or (pt_not (pt_val (pe_callB (call_isiK K) (by rfl) T.z_isinstance (by decide +kernel) (pa_cons (pe_ix (ix_K K) (pv 1) pe_int (fun _ _ => rfl)) (pa_cons (pe_bltn (v := .ty "tuple") (u := .type "tuple") rfl T.z_tuple (by decide +kernel) rfl) pa_nil))))) (pw_or1 (pt_cmpR (op_neK K hr.units) (pe_callB (call_lenK K) (by rfl) T.z_len PySem.boot_len (pa_cons (pe_ix (ix_K K) (pv 1) pe_int (fun _ _ => rfl)) pa_nil)) (pe_call (ok_law_wide T) (hr.mono (by decide)) rfl T.m_law_wide T.F_law_wide.kp T.b_law_wide .nil pass0 (pa_cons (pe_ix (ix_K K) (pv 0) (pe_ix (ix_K K) (pv 1) pe_int (fun _ _ => rfl)) (fun _ _ => rfl)) pa_nil)) (nomark _))))) (pss_one (ps_ret pe_non)) pss_nil) (pss_cons (ps_for PassesOwn.never rfl (pi_seqK K (pe_ix (ix_K K) (pv 1) pe_int (fun _ _ => rfl))) (pg_name (i := 3) sc_law_stepped.nd rfl (Or.inl rfl)) (pss_one (ps_if (PW.pt (pw_or (pt_not (pt_val (pe_call (ok_law_whole T) (hr.mono (by decide)) rfl T.m_law_whole T.F_law_whole.kp T.b_law_whole .nil pass0 (pa_cons (pv 3) pa_nil)))) (pw_or1 (pt_not (pt_chain op_le op_lt pe_int (pv 3) (pe_callB (call_lenK K) (by rfl) T.z_len PySem.boot_len (pa_cons (pv 2) pa_nil))))))) (pss_one (ps_ret pe_non)) pss_nil))) (pss_one (ps_ret (pe_call (ok_law_answered T) (hr.mono (by decide)) rfl T.m_law_answered T.F_law_answered.kp T.b_law_answered .nil pass0 (pa_cons (pe_ix (ix_K K) (pv 0) (pe_ix (ix_K K) (pv 1) pe_int (fun _ _ => rfl)) (fun _ _ => rfl)) (pa_cons (pe_lc rfl (lcs (N := ["place", "tables"]) (mp := [none, some 2]) (by rfl)) (pi_seqK K (pe_ix (ix_K K) (pv 1) pe_int (fun _ _ => rfl))) (fun _ _ _ _ _ => (pg_name (i := 0) (show List.Nodup [("place" : Str), ("tables" : Str)] by decide) rfl (by first | exact Or.inl rfl | exact Or.inr rfl))) (fun _ _ _ _ _ => pifs_nil) (fun _ _ _ _ _ => (pe_ix (ix_K K) (pv 1) (pv 0) (fun _ _ => rfl)))) pa_nil)))))))))), ?_⟩
  exact fn_read (K := K) (np := 3) (n := 4) (fr := false) (O1 := []) (rs_seq (rs_if (rt_or (rt_not (rt_val (RdE.r (rd_isi kit_tuple (RdE.r (rd_var (i := 1))))))) (rt_or (rt_cmp (RdE.r (rd_op rdo_lt (RdE.r (rd_cb rc_len (rar_cons (RdE.r (rd_var (i := 1))) rar_nil))) (RdE.r rd_int)))) (rt_not (rt_val (RdE.r (rd_call (ra_cons (rd_op rdo_ix (RdE.r (rd_var (i := 1))) (RdE.r rd_int)) ra_nil))))))) (rs_ret rd_non) rs_next) (rs_seq (rs_if (rt_and (rt_cmp (RdE.r (rd_op rdo_eq (RdE.r (rd_op rdo_ix (RdE.r (rd_var (i := 1))) (RdE.r rd_int))) (RdE.r rd_str)))) (rt_and (rt_cmp (RdE.r (rd_op rdo_eq (RdE.r (rd_cb rc_len (rar_cons (RdE.r (rd_var (i := 1))) rar_nil))) (RdE.r rd_int)))) (rt_cmp (RdE.r (rd_chain rdo_le rdo_lt (RdE.r rd_int) (RdE.r (rd_op rdo_ix (RdE.r (rd_var (i := 1))) (RdE.r rd_int))) (RdE.r rd_int)))))) (rs_ret (rd_op rdo_ix (RdE.r (RdN.e (rn_lst (ra_cons (RdN.e (rn_lst (ra_cons rd_bl (ra_cons rd_bl (ra_cons rd_bl (ra_cons rd_bl ra_nil)))))) (ra_cons (RdN.e (rn_lst (ra_cons rd_bl (ra_cons rd_bl (ra_cons rd_bl (ra_cons rd_bl ra_nil)))))) ra_nil))))) (RdE.r (rd_op rdo_ix (RdE.r (rd_var (i := 1))) (RdE.r rd_int))))) rs_next) (rs_seq (rs_if (rt_or (rt_cmp (RdE.r (rd_op rdo_ne (RdE.r (rd_op rdo_ix (RdE.r (rd_var (i := 1))) (RdE.r rd_int))) (RdE.r rd_str)))) (rt_or (rt_cmp (RdE.r (rd_op rdo_ne (RdE.r (rd_cb rc_len (rar_cons (RdE.r (rd_var (i := 1))) rar_nil))) (RdE.r rd_int)))) (rt_not (rt_cmp (RdE.r (rd_chain rdo_le rdo_lt (RdE.r rd_int) (RdE.r (rd_op rdo_ix (RdE.r (rd_var (i := 1))) (RdE.r rd_int))) (RdE.r (rd_cb rc_len (rar_cons (RdE.r (rd_var (i := 0))) rar_nil))))))))) (rs_ret rd_non) rs_next) (rs_seq (rs_if (rt_or (rt_not (rt_val (RdE.r (rd_isi kit_tuple (RdE.r (rd_op rdo_ix (RdE.r (rd_var (i := 1))) (RdE.r rd_int))))))) (rt_cmp (RdE.r (rd_op rdo_ne (RdE.r (rd_cb rc_len (rar_cons (RdE.r (rd_op rdo_ix (RdE.r (rd_var (i := 1))) (RdE.r rd_int))) rar_nil))) (RdE.r (rd_call (ra_cons (rd_op rdo_ix (RdE.r (rd_var (i := 0))) (RdE.r (rd_op rdo_ix (RdE.r (rd_var (i := 1))) (RdE.r rd_int)))) ra_nil))))))) (rs_ret rd_non) rs_next) (rs_seq (rs_for (ri_seq (rd_op rdo_ix (RdE.r (rd_var (i := 1))) (RdE.r rd_int))) (rg_name (i := 3)) (rs_if (rt_or (rt_not (rt_val (RdE.r (rd_call (ra_cons (rd_var (i := 3)) ra_nil))))) (rt_not (rt_cmp (RdE.r (rd_chain rdo_le rdo_lt (RdE.r rd_int) (RdE.r (rd_var (i := 3))) (RdE.r (rd_cb rc_len (rar_cons (RdE.r (rd_var (i := 2))) rar_nil)))))))) (rs_ret rd_non) rs_next)) (rs_retN (rn_call (ra_cons (rd_op rdo_ix (RdE.r (rd_var (i := 0))) (RdE.r (rd_op rdo_ix (RdE.r (rd_var (i := 1))) (RdE.r rd_int)))) (ra_cons (RdN.e (rn_lc (ri_seq (rd_op rdo_ix (RdE.r (rd_var (i := 1))) (RdE.r rd_int))) (rg_name (i := 0)) (gk_name (i := 0)) rt_all (rd_op rdo_ix (RdE.r (rd_var (i := 1))) (RdE.r (rd_var (i := 0)))))) ra_nil))))))))) h rfl (by decide)
theorem sc_law_makes : FnScope ["gates", "plan", "table", "tables", "step", "here"] ["gates", "plan", "table"] (defScope s_law_makes) := ⟨rfl, rfl, rfl, by decide +kernel, rfl, by decide +kernel, by decide +kernel⟩
theorem ok_law_makes (T : Txt K mg t) : FnOk P w K mg base CX0 3 t.f_law_makes t.d_law_makes ["gates", "plan", "table"] (dsp K 3 false m_law_makes) := by
  refine T.F_law_makes.ok sc_law_makes (fun vs H Q E h => dsp_len h) (fun cdv A outer s H vs Q E hr h => ?_)
  refine ⟨_, (pss_cons (ps_if (PW.pt (pw_or (pt_not (pt_val (pe_callB (call_isiK K) (by rfl) T.z_isinstance (by decide +kernel) (pa_cons (pv 1) (pa_cons (pe_bltn (v := .ty "list") (u := .type "list") rfl T.z_list (by decide +kernel) rfl) pa_nil))))) (pw_or1 (pt_not (pt_chain op_le op_le pe_int (pe_callB (call_lenK K) (by rfl) T.z_len PySem.boot_len (pa_cons (pv 1) pa_nil)) pe_int))))) (pss_one (ps_ret pe_bl)) pss_nil) (pss_cons (ps_set (i := 3) sc_law_makes.nd rfl (Or.inl rfl) (pe_lst pa_nil)) (pss_cons (ps_for PassesOwn.never rfl (pi_seqK K (pv 1)) (pg_name (i := 4) sc_law_makes.nd rfl (Or.inl rfl)) (pss_cons (ps_set (i := 5) sc_law_makes.nd rfl (Or.inl rfl) (pe_call (ok_law_stepped T) (hr.mono (by decide)) rfl T.m_law_stepped T.F_law_stepped.kp T.b_law_stepped .nil pass0 (pa_cons (pv 0) (pa_cons (pv 4) (pa_cons (pv 3) pa_nil))))) (pss_cons (ps_if (pt_cmpR op_isU (pv 5) pe_non (nomark _)) (pss_one (ps_ret pe_bl)) pss_nil) (pss_one (ps_expr (pe_bmK K PySem.F.plainAttrs_list PySem.F.slot_list_append PySem.F.type_list_append mt_append (pv 3) (pa_cons (pv 5) pa_nil))))))) (pss_one (ps_ret (pe_cmpR (op_eqK K hr.units) (pe_ix (ix_K K) (pv 3) (pe_un un_neg pe_int) (fun _ _ => rfl)) (pv 2) (nomark _))))))), ?_⟩
  exact fn_read (K := K) (np := 3) (n := 6) (fr := false) (O1 := []) (rs_seq (rs_if (rt_or (rt_not (rt_val (RdE.r (rd_isi kit_list (RdE.r (rd_var (i := 1))))))) (rt_not (rt_cmp (RdE.r (rd_chain rdo_le rdo_le (RdE.r rd_int) (RdE.r (rd_cb rc_len (rar_cons (RdE.r (rd_var (i := 1))) rar_nil))) (RdE.r rd_int)))))) (rs_ret rd_bl) rs_next) (rs_seq (rs_setN (rn_lst ra_nil)) (rs_seq (rs_for (ri_seq (rd_var (i := 1))) (rg_name (i := 4)) (rs_seq (rs_set (rd_borL (i := 3) (rd_call (ra_cons (rd_var (i := 0)) (ra_cons (rd_var (i := 4)) (ra_cons (rd_var (i := 3)) ra_nil)))))) (rs_seq (rs_if (rt_cmp (RdE.r (rd_op rdo_is (RdE.r (rd_var (i := 5))) (RdE.r rd_non)))) (rs_ret rd_bl) rs_next) (rs_app (rd_var (i := 5)))))) (rs_ret (rd_op rdo_eq (RdE.r (rd_op rdo_ix (rr_own (i := 3)) (RdE.r (rd_neg rd_int)))) (RdE.r (rd_var (i := 2)))))))) h rfl (by decide)
theorem sc_law_tried : FnScope ["gates", "table", "e"] ["gates", "table"] (defScope s_law_tried) := ⟨rfl, rfl, rfl, by decide +kernel, rfl, by decide +kernel, by decide +kernel⟩
theorem hkind2 {i N : Nat} (T : Txt K mg t) (hi : i < N) {c z : Str} {C : Addr} (h : kindM c = some z) (hC : ClsAt K c C) : PySem.W.kitCls K (.ref C) (.ref t.c_GateError) = some true ∧ ∀ (ea : Addr) (σ' : L2.St) (H' : Hp) (D : Ends), σ'.length = N → H' ea = none → (∀ v H2, Same (upd H' ea (exO ea C)) H2 → (∀ W, DW K H2 W v (.tup [.str z, .non])) → D.rt v H2) → tRet (tTup (tCons (tCall (spKind K [t.c_NoGate, t.c_NoClass, t.c_NoInputs, t.c_NoFormula, t.c_NoTable, t.c_NotMade, t.c_NoNote]) [] E0 (tCons (tVar i) tNil)) (tCons (tC .non) tNil))) D (σ'.set i (some (.ref ea))) (upd H' ea (exO ea C)) := by
  unfold kindM at h
  by_cases h_NoGate : c = "NoGate"
  · rw [if_pos h_NoGate] at h
    cases h
    subst h_NoGate
    have e := T.g_NoGate.symm.trans hC
    cases e
    exact ⟨T.s_NoGate, fun ea σ' H' D hl _ hq => kind_suite2 hi T.k_NoGate hl hq⟩
  rw [if_neg h_NoGate] at h
  by_cases h_NoTable : c = "NoTable"
  · rw [if_pos h_NoTable] at h
    cases h
    subst h_NoTable
    have e := T.g_NoTable.symm.trans hC
    cases e
    exact ⟨T.s_NoTable, fun ea σ' H' D hl _ hq => kind_suite2 hi T.k_NoTable hl hq⟩
  rw [if_neg h_NoTable] at h
  by_cases h_NotMade : c = "NotMade"
  · rw [if_pos h_NotMade] at h
    cases h
    subst h_NotMade
    have e := T.g_NotMade.symm.trans hC
    cases e
    exact ⟨T.s_NotMade, fun ea σ' H' D hl _ hq => kind_suite2 hi T.k_NotMade hl hq⟩
  rw [if_neg h_NotMade] at h
  cases h
theorem okP_law_tried (T : Txt K mg t) : FnOk P w K mg base CX0 45 t.f_law_tried t.d_law_tried ["gates", "table"] (dspP K 2 m_law_tried) := by
  refine T.F_law_tried.ok sc_law_tried (fun vs H Q E h => dspP_len h) (fun cdv A outer s H vs Q E hr h => ?_)
  refine ⟨_, (pss_one (ps_try (i := 2) K (fun pn E => (pss_one (ps_ret (pe_tup (pa_str (pa_cons (pe_call (okx_made T) (hr.mono (by decide)) rfl T.m_made T.F_made.kp T.b_made .nil passE2 (pa_cons (pv 0) (pa_cons (pv 1) pa_nil))) pa_nil)))))) (fun pn ea => (pss_one (ps_ret (pe_tup (pa_cons (pe_callH (okH_law_kind T) (hr.mono (by decide)).loud rfl T.m_law_kind T.F_law_kind.kp T.b_law_kind (pa_cons (pv 2) pa_nil)) (pa_cons pe_non pa_nil)))))) T.x_GateError (by rfl) T.m_GateError sc_law_tried.nd rfl rfl)), ?_⟩
  obtain ⟨U, ds, d, hl, al, ws, e, q⟩ := h
  unfold m_law_tried at e
  obtain ⟨_, e⟩ := ite_some' e
  match vs, hl with
  | [v1, v2], hl =>
    split at e
    · rename_i c ex
      obtain ⟨z, ez, e⟩ := Option.bind_eq_some_iff.mp e
      cases e
      refine ⟨_, rfl, _, rfl, .inr ⟨U, ds, c, hl, al, ws, ex, fun H' g C hC => ?_⟩⟩
      obtain ⟨h1, h2⟩ := hkind2 T (i := 2) (N := 3) (by decide) ez hC
      exact ⟨C, rfl, h1, fun ea σ' hl h0 => h2 ea σ' H' _ hl h0 fun v H2 g2 w => q v H2 ((g.trans (same_upd h0 _)).trans g2) (w U) fun a es hd => by cases hd⟩
    · obtain ⟨d1, em, e⟩ := Option.bind_eq_some_iff.mp e
      cases e
      refine ⟨_, rfl, _, rfl, .inl ⟨U, ds, d1, hl, al, ws, em, fun v H1 g1 ret => ⟨(show 2 ≤ sizeLine by decide), fun p hp => ?_⟩⟩⟩
      have g2 := same_upd hp (.tup [V.str "told", v])
      refine q _ _ (g1.trans g2) ?_ fun a es hd => ?_
      · simp only [DW, DWs]
        exact ⟨p, _, rfl, SqT.of upd_same, rfl, ret.1.same g2, trivial⟩
      · cases hd
        obtain ⟨l, xs, es', rfl, hd', hn, he, w⟩ := ret.2 rfl
        cases hd'
        exact ⟨p, _, l, xs, rfl, SqT.of upd_same, hn, g2 _ _ he, w.length⟩
theorem sc_law : FnScope ["script", "large", "most", "gates", "told", "tables", "k", "table", "cell", "handed", "found"] ["script"] (defScope s_law) := ⟨rfl, rfl, rfl, by decide +kernel, rfl, by decide +kernel, by decide +kernel⟩
theorem ok_law (T : Txt K mg t) : FnOk P w K mg base CX0 46 t.f_law t.d_law ["script"] (dsp K 1 false m_law) := by
  refine T.F_law.ok sc_law (fun vs H Q E h => dsp_len h) (fun cdv A outer s H vs Q E hr h => ?_)
  refine ⟨_, (pss_cons (ps_set (i := 1) sc_law.nd rfl (Or.inl rfl) (pe_cmpR (op_eqK K hr.units) (pe_op op_mod (pe_call (ok_law_cell_at T) (hr.mono (by decide)) rfl T.m_law_cell_at T.F_law_cell_at.kp T.b_law_cell_at .nil pass0 (pa_cons (pv 0) (pa_int pa_nil))) pe_int) pe_int (nomark _))) (pss_cons (ps_set (i := 2) sc_law.nd rfl (Or.inl rfl) pe_int) (pss_cons (ps_if (pt_cmpR (op_eqK K hr.units) (pe_op op_mod (pe_call (ok_law_cell_at T) (hr.mono (by decide)) rfl T.m_law_cell_at T.F_law_cell_at.kp T.b_law_cell_at .nil pass0 (pa_cons (pv 0) (pa_int pa_nil))) pe_int) pe_int (nomark _)) (pss_one (ps_set (i := 2) sc_law.nd rfl (Or.inl rfl) pe_int)) pss_nil) (pss_cons (ps_set (i := 3) sc_law.nd rfl (Or.inl rfl) (pe_slice (sl_K K) (pe_call (ok_law_gates T) (hr.mono (by decide)) rfl T.m_law_gates T.F_law_gates.kp T.b_law_gates .nil pass0 (pa_cons (pv 0) (pa_cons (pe_op (op_addK K) pe_int (pe_callTy call_int1 (by rfl) T.z_int (by decide +kernel) (pa_cons (pv 1) pa_nil))) pa_nil))) po_none (po_some (pv 2)))) (pss_cons (ps_if (pt_val (pv 1)) (pss_one (ps_set (i := 3) sc_law.nd rfl (Or.inl rfl) (pe_slice (sl_K K) (pv 3) po_none (po_some pe_int)))) pss_nil) (pss_cons (ps_set (i := 4) sc_law.nd rfl (Or.inl rfl) (pe_call (ok_makable T) (hr.mono (by decide)) rfl T.m_makable T.F_makable.kp T.b_makable .nil pass0 (pa_cons (pe_lc rfl (lcs (N := ["gate"]) (mp := [none]) (by rfl)) (pi_seqK K (pv 3)) (fun _ _ _ _ _ => (pg_name (i := 0) (show List.Nodup [("gate" : Str)] by decide) rfl (by first | exact Or.inl rfl | exact Or.inr rfl))) (fun _ _ _ _ _ => pifs_nil) (fun _ _ _ _ _ => (pe_callTy (call_listK K) (by rfl) T.z_list (by decide +kernel) (pa_cons (pv 0) pa_nil)))) pa_nil))) (pss_cons (ps_set (i := 5) sc_law.nd rfl (Or.inl rfl) (pe_lst (pa_cons (pe_lst (pa_bl (pa_bl (pa_bl (pa_bl pa_nil))))) (pa_cons (pe_lst (pa_bl (pa_bl (pa_bl (pa_bl pa_nil))))) pa_nil)))) (pss_cons (ps_if (PW.pt (pw_or (pt_not (pt_val (pe_callB (call_isiK K) (by rfl) T.z_isinstance (by decide +kernel) (pa_cons (pv 4) (pa_cons (pe_bltn (v := .ty "list") (u := .type "list") rfl T.z_list (by decide +kernel) rfl) pa_nil))))) (pw_or (pt_cmpR (op_notInDK K hr.units) (pe_ix (ix_K K) (pv 5) pe_int (fun _ _ => rfl)) (pv 4) rfl) (pw_or1 (pt_cmpR (op_notInDK K hr.units) (pe_ix (ix_K K) (pv 5) pe_int (fun _ _ => rfl)) (pv 4) rfl))))) (pss_one (ps_ret pe_bl)) pss_nil) (pss_cons (ps_for PassesOwn.never rfl (pi_range1 rfl T.z_range (pa_int pa_nil)) (pg_name (i := 6) sc_law.nd rfl (Or.inl rfl)) (pss_cons (ps_set (i := 8) sc_law.nd rfl (Or.inl rfl) (pe_op op_fdiv (pe_call (ok_law_next T) (hr.mono (by decide)) rfl T.m_law_next T.F_law_next.kp T.b_law_next .nil pass0 (pa_cons (pe_op (op_addK K) (pe_call (ok_law_cell_at T) (hr.mono (by decide)) rfl T.m_law_cell_at T.F_law_cell_at.kp T.b_law_cell_at .nil pass0 (pa_cons (pv 0) (pa_cons (pe_op (op_addK K) pe_int (pv 6)) pa_nil))) (pv 6)) pa_nil)) pe_int)) (pss_one (ps_expr (pe_bmK K PySem.F.plainAttrs_list PySem.F.slot_list_append PySem.F.type_list_append mt_append (pv 5) (pa_cons (pe_lst (pa_cons (pe_cmpR (op_eqK K hr.units) (pe_op op_mod (pv 8) pe_int) pe_int (nomark _)) (pa_cons (pe_cmpR (op_eqK K hr.units) (pe_op op_mod (pe_op op_fdiv (pv 8) pe_int) pe_int) pe_int (nomark _)) (pa_cons (pe_cmpR (op_eqK K hr.units) (pe_op op_mod (pe_op op_fdiv (pv 8) pe_int) pe_int) pe_int (nomark _)) (pa_cons (pe_cmpR (op_eqK K hr.units) (pe_op op_mod (pe_op op_fdiv (pv 8) pe_int) pe_int) pe_int (nomark _)) pa_nil))))) pa_nil)))))) (pss_cons (ps_if (pt_val (pv 1)) (pss_one (ps_set (i := 5) sc_law.nd rfl (Or.inl rfl) (pe_slice (sl_K K) (pv 5) (po_some pe_int) (po_some pe_int)))) pss_nil) (pss_cons (ps_for PassesOwn.never rfl (pi_seqK K (pv 5)) (pg_name (i := 7) sc_law.nd rfl (Or.inl rfl)) (pss_cons (ps_set (i := 9) sc_law.nd rfl (Or.inl rfl) (pe_lst (pa_cons (pe_lc rfl (lcs (N := ["gate"]) (mp := [none]) (by rfl)) (pi_seqK K (pv 3)) (fun _ _ _ _ _ => (pg_name (i := 0) (show List.Nodup [("gate" : Str)] by decide) rfl (by first | exact Or.inl rfl | exact Or.inr rfl))) (fun _ _ _ _ _ => pifs_nil) (fun _ _ _ _ _ => (pe_callTy (call_listK K) (by rfl) T.z_list (by decide +kernel) (pa_cons (pv 0) pa_nil)))) (pa_cons (pe_callTy (call_listK K) (by rfl) T.z_list (by decide +kernel) (pa_cons (pv 7) pa_nil)) pa_nil)))) (pss_cons (ps_set (i := 10) sc_law.nd rfl (Or.inl rfl) (pe_call (okP_law_tried T) (hr.mono (by decide)) rfl T.m_law_tried T.F_law_tried.kp T.b_law_tried .nil pass0 (pa_cons (pe_ix (ix_K K) (pv 9) pe_int (fun _ _ => rfl)) (pa_cons (pe_ix (ix_K K) (pv 9) pe_int (fun _ _ => rfl)) pa_nil)))) (pss_cons (ps_if (pt_cmpR (op_neK K hr.units) (pv 9) (pe_lst (pa_cons (pv 3) (pa_cons (pv 7) pa_nil))) (nomark _)) (pss_one (ps_ret pe_bl)) pss_nil) (pss_one (ps_if (pt_cmpR (op_notInDK K hr.units) (pv 7) (pv 4) rfl) (pss_one (ps_if (pt_cmpR (op_neK K hr.units) (pe_ix (ix_K K) (pv 10) pe_int (fun _ _ => rfl)) pe_str (nomark _)) (pss_one (ps_ret pe_bl)) pss_nil)) (pss_one (ps_if (PW.pt (pw_or (pt_cmpR (op_neK K hr.units) (pe_ix (ix_K K) (pv 10) pe_int (fun _ _ => rfl)) pe_str (nomark _)) (pw_or1 (pt_not (pt_val (pe_call (ok_law_makes T) (hr.mono (by decide)) rfl T.m_law_makes T.F_law_makes.kp T.b_law_makes .nil pass0 (pa_cons (pv 3) (pa_cons (pe_ix (ix_K K) (pv 10) pe_int (fun _ _ => rfl)) (pa_cons (pv 7) pa_nil))))))))) (pss_one (ps_ret pe_bl)) (pss_one (ps_expr (pe_bmK K PySem.F.plainAttrs_list PySem.F.slot_list_append PySem.F.type_list_append mt_append (pe_ix (ix_K K) (pv 10) pe_int (fun _ _ => rfl)) (pa_str pa_nil)))))))))))) (pss_one (ps_ret (pe_call (ok_law_makes T) (hr.mono (by decide)) rfl T.m_law_makes T.F_law_makes.kp T.b_law_makes .nil pass0 (pa_cons (pv 3) (pa_cons (pe_call (ok_made T) (hr.mono (by decide)) rfl T.m_made T.F_made.kp T.b_made .nil pass0 (pa_cons (pv 3) (pa_cons (pe_ix (ix_K K) (pv 4) pe_int (fun _ _ => rfl)) pa_nil))) (pa_cons (pe_ix (ix_K K) (pv 4) pe_int (fun _ _ => rfl)) pa_nil))))))))))))))))), ?_⟩
  exact fn_read (K := K) (np := 1) (n := 11) (fr := false) (O1 := []) (rs_seq (rs_set (rd_op rdo_eq (RdE.r (rd_op rdo_mod (RdE.r (rd_call (ra_cons (rd_var (i := 0)) (ra_cons rd_int ra_nil)))) (RdE.r rd_int))) (RdE.r rd_int))) (rs_seq (rs_set rd_int) (rs_seq (rs_if (rt_cmp (RdE.r (rd_op rdo_eq (RdE.r (rd_op rdo_mod (RdE.r (rd_call (ra_cons (rd_var (i := 0)) (ra_cons rd_int ra_nil)))) (RdE.r rd_int))) (RdE.r rd_int)))) (rs_set rd_int) rs_next) (rs_seq (rs_set (rd_sl (RdE.r (RdN.e (rn_call (ra_cons (rd_var (i := 0)) (ra_cons (rd_op rdo_add (RdE.r rd_int) (RdE.r (rd_cb rc_int (rar_cons (RdE.r (rd_var (i := 1))) rar_nil)))) ra_nil))))) ro_none (ro_some (rd_var (i := 2))))) (rs_seq (rs_if (rt_val (RdE.r (rd_var (i := 1)))) (rs_set (rd_sl (RdE.r (rd_var (i := 3))) ro_none (ro_some rd_int))) rs_next) (rs_seq (rs_setN (rn_call (ra_cons (RdN.e (rn_lc (ri_seq (rd_var (i := 3))) (rg_name (i := 0)) (gk_name (i := 0)) rt_all (RdN.e (rn_cb rc_list (rar_cons (RdE.r (rd_var (i := 0))) rar_nil))))) ra_nil))) (rs_seq (rs_setN (rn_lst (ra_cons (RdN.e (rn_lst (ra_cons rd_bl (ra_cons rd_bl (ra_cons rd_bl (ra_cons rd_bl ra_nil)))))) (ra_cons (RdN.e (rn_lst (ra_cons rd_bl (ra_cons rd_bl (ra_cons rd_bl (ra_cons rd_bl ra_nil)))))) ra_nil)))) (rs_seq (rs_if (rt_or (rt_not (rt_val (RdE.r (rd_isi kit_list (rr_own (i := 4)))))) (rt_or (rt_cmp (RdE.r (rd_op rdo_notinD (RdE.r (rd_op rdo_ix (rr_own (i := 5)) (RdE.r rd_int))) (rr_own (i := 4))))) (rt_cmp (RdE.r (rd_op rdo_notinD (RdE.r (rd_op rdo_ix (rr_own (i := 5)) (RdE.r rd_int))) (rr_own (i := 4))))))) (rs_ret rd_bl) rs_next) (rs_seq (rs_for (ri_rng1 (ra_cons rd_int ra_nil) a_len1) (rg_name (i := 6)) (rs_seq (rs_set (rd_op rdo_div (RdE.r (rd_call (ra_cons (rd_op rdo_add (RdE.r (rd_call (ra_cons (rd_var (i := 0)) (ra_cons (rd_op rdo_add (RdE.r rd_int) (RdE.r (rd_var (i := 6)))) ra_nil)))) (RdE.r (rd_var (i := 6)))) ra_nil))) (RdE.r rd_int))) (rs_app (RdN.e (rn_lst (ra_cons (rd_op rdo_eq (RdE.r (rd_op rdo_mod (RdE.r (rd_var (i := 8))) (RdE.r rd_int))) (RdE.r rd_int)) (ra_cons (rd_op rdo_eq (RdE.r (rd_op rdo_mod (RdE.r (rd_op rdo_div (RdE.r (rd_var (i := 8))) (RdE.r rd_int))) (RdE.r rd_int))) (RdE.r rd_int)) (ra_cons (rd_op rdo_eq (RdE.r (rd_op rdo_mod (RdE.r (rd_op rdo_div (RdE.r (rd_var (i := 8))) (RdE.r rd_int))) (RdE.r rd_int))) (RdE.r rd_int)) (ra_cons (rd_op rdo_eq (RdE.r (rd_op rdo_mod (RdE.r (rd_op rdo_div (RdE.r (rd_var (i := 8))) (RdE.r rd_int))) (RdE.r rd_int))) (RdE.r rd_int)) ra_nil))))))))) (rs_seq (rs_if (rt_val (RdE.r (rd_var (i := 1)))) (rs_let [4] (rs_set (rd_sl (RdE.r (rd_var (i := 5))) (ro_some rd_int) (ro_some rd_int)))) (rs_end [5, 4] rs_next)) (rs_seq (rs_let [] (rs_for (ri_seq (rd_var (i := 5))) (rg_name (i := 7)) (rs_seq (rs_setN (rn_lst (ra_cons (RdN.e (rn_lc (ri_seq (rd_var (i := 3))) (rg_name (i := 0)) (gk_name (i := 0)) rt_all (RdN.e (rn_cb rc_list (rar_cons (RdE.r (rd_var (i := 0))) rar_nil))))) (ra_cons (RdN.e (rn_cb rc_list (rar_cons (RdE.r (rd_var (i := 7))) rar_nil))) ra_nil)))) (rs_let [] (rs_poke (i := 10) (rp_call (ra_cons (rd_op rdo_ix (RdE.r (rd_var (i := 9))) (RdE.r rd_int)) (ra_cons (rd_op rdo_ix (RdE.r (rd_var (i := 9))) (RdE.r rd_int)) ra_nil))) (rt_cmp (RdE.r (rd_op rdo_ne (RdE.r (rd_var (i := 9))) (RdE.r (RdN.e (rn_lst (ra_cons (rd_var (i := 3)) (ra_cons (rd_var (i := 7)) ra_nil)))))))) (rt_cmp (RdE.r (rd_op rdo_notinD (RdE.r (rd_var (i := 7))) (RdE.r (rd_var (i := 4)))))) (rt_cmp (RdE.r (rd_op rdo_ne (RdE.r (rd_op rdo_ix (RdE.r (rd_var (i := 10))) (RdE.r rd_int))) (RdE.r rd_str)))) (rt_or (rt_cmp (RdE.r (rd_op rdo_ne (RdE.r (rd_op rdo_ix (RdE.r (rd_var (i := 10))) (RdE.r rd_int))) (RdE.r rd_str)))) (rt_not (rt_val (RdE.r (rd_call (ra_cons (rd_var (i := 3)) (ra_cons (rd_op rdo_ix (RdE.r (rd_var (i := 10))) (RdE.r rd_int)) (ra_cons (rd_var (i := 7)) ra_nil))))))))))))) (rs_ret (rd_call (ra_cons (rd_var (i := 3)) (ra_cons (RdN.e (rn_call (ra_cons (rd_var (i := 3)) (ra_cons (rd_op rdo_ix (RdE.r (rd_var (i := 4))) (RdE.r rd_int)) ra_nil)))) (ra_cons (rd_op rdo_ix (RdE.r (rd_var (i := 4))) (RdE.r rd_int)) ra_nil)))))))))))))))) h rfl (by decide)
end
noncomputable def sp_law (K : PySem.W.Frag) : Sp := fun vs H Q _ => ∃ (a : Addr) (ns : List Int), vs = [.ref a] ∧ SqL K H a (ns.map V.int) ∧ ns.length ≤ 63 ∧ ∀ H', Q (.bl true) H'
theorem sz1 {α : Type} {p : List α → Prop} (h : ∀ a0, p [a0]) : ∀ us : List α, us.length = 1 → p us
  | [a0], _ => h a0
theorem sz2 {α : Type} {p : List α → Prop} (h : ∀ a0 a1, p [a0, a1]) : ∀ us : List α, us.length = 2 → p us
  | [a0, a1], _ => h a0 a1
theorem sz3 {α : Type} {p : List α → Prop} (h : ∀ a0 a1 a2, p [a0, a1, a2]) : ∀ us : List α, us.length = 3 → p us
  | [a0, a1, a2], _ => h a0 a1 a2
theorem all_mk {l : PySem.W.OpenLaw} {w : World} {K : PySem.W.Frag} {h : Heap} {mg : Str → Option Value} {fa : Addr} (X : K.In h) (G : h.Ns mainGlobals mg) (hfa : mg "law" = some (.ref fa))
    {f0 : Addr} {od0 an0 : Option Addr} {sl0 : Array (Option Value)} {oc0 kV0 dc0 pm0 cd0 ct0 : Value}
    {f1 : Addr} {od1 an1 : Option Addr} {sl1 : Array (Option Value)} {oc1 kV1 dc1 pm1 cd1 ct1 : Value}
    {f2 : Addr} {od2 an2 : Option Addr} {sl2 : Array (Option Value)} {oc2 kV2 dc2 pm2 cd2 ct2 : Value}
    {f3 : Addr} {od3 an3 : Option Addr} {sl3 : Array (Option Value)} {oc3 kV3 dc3 pm3 cd3 ct3 : Value}
    {f4 : Addr} {od4 an4 : Option Addr} {sl4 : Array (Option Value)} {oc4 kV4 dc4 pm4 cd4 ct4 : Value}
    {f5 : Addr} {od5 an5 : Option Addr} {sl5 : Array (Option Value)} {oc5 kV5 dc5 pm5 cd5 ct5 : Value}
    {f6 : Addr} {od6 an6 : Option Addr} {sl6 : Array (Option Value)} {oc6 kV6 dc6 pm6 cd6 ct6 : Value}
    {f7 : Addr} {od7 an7 : Option Addr} {sl7 : Array (Option Value)} {oc7 kV7 dc7 pm7 cd7 ct7 : Value}
    {f8 : Addr} {od8 an8 : Option Addr} {sl8 : Array (Option Value)} {oc8 kV8 dc8 pm8 cd8 ct8 : Value}
    {f9 : Addr} {od9 an9 : Option Addr} {sl9 : Array (Option Value)} {oc9 kV9 dc9 pm9 cd9 ct9 : Value}
    {f10 : Addr} {od10 an10 : Option Addr} {sl10 : Array (Option Value)} {oc10 kV10 dc10 pm10 cd10 ct10 : Value}
    {f11 : Addr} {od11 an11 : Option Addr} {sl11 : Array (Option Value)} {oc11 kV11 dc11 pm11 cd11 ct11 : Value}
    {f12 : Addr} {od12 an12 : Option Addr} {sl12 : Array (Option Value)} {oc12 kV12 dc12 pm12 cd12 ct12 : Value}
    {f13 : Addr} {od13 an13 : Option Addr} {sl13 : Array (Option Value)} {oc13 kV13 dc13 pm13 cd13 ct13 : Value}
    {f14 : Addr} {od14 an14 : Option Addr} {sl14 : Array (Option Value)} {oc14 kV14 dc14 pm14 cd14 ct14 : Value}
    {f15 : Addr} {od15 an15 : Option Addr} {sl15 : Array (Option Value)} {oc15 kV15 dc15 pm15 cd15 ct15 : Value}
    {f16 : Addr} {od16 an16 : Option Addr} {sl16 : Array (Option Value)} {oc16 kV16 dc16 pm16 cd16 ct16 : Value}
    {f17 : Addr} {od17 an17 : Option Addr} {sl17 : Array (Option Value)} {oc17 kV17 dc17 pm17 cd17 ct17 : Value}
    {f18 : Addr} {od18 an18 : Option Addr} {sl18 : Array (Option Value)} {oc18 kV18 dc18 pm18 cd18 ct18 : Value}
    {f19 : Addr} {od19 an19 : Option Addr} {sl19 : Array (Option Value)} {oc19 kV19 dc19 pm19 cd19 ct19 : Value}
    {f20 : Addr} {od20 an20 : Option Addr} {sl20 : Array (Option Value)} {oc20 kV20 dc20 pm20 cd20 ct20 : Value}
    {f21 : Addr} {od21 an21 : Option Addr} {sl21 : Array (Option Value)} {oc21 kV21 dc21 pm21 cd21 ct21 : Value}
    {f22 : Addr} {od22 an22 : Option Addr} {sl22 : Array (Option Value)} {oc22 kV22 dc22 pm22 cd22 ct22 : Value}
    {f23 : Addr} {od23 an23 : Option Addr} {sl23 : Array (Option Value)} {oc23 kV23 dc23 pm23 cd23 ct23 : Value}
    {f24 : Addr} {od24 an24 : Option Addr} {sl24 : Array (Option Value)} {oc24 kV24 dc24 pm24 cd24 ct24 : Value}
    {f25 : Addr} {od25 an25 : Option Addr} {sl25 : Array (Option Value)} {oc25 kV25 dc25 pm25 cd25 ct25 : Value}
    {eGateError : Addr}
    {eNoGate : Addr}
    {eNoClass : Addr}
    {eNoInputs : Addr}
    {eNoFormula : Addr}
    {eNoTable : Addr}
    {eNotMade : Addr}
    {eNoNote : Addr}
    {cCMakings : Addr}
    {mf0 : Addr} {mod0 man0 : Option Addr} {msl0 : Array (Option Value)} {moc0 mkV0 mdc0 mpm0 mcd0 mct0 : Value}
    {mf1 : Addr} {mod1 man1 : Option Addr} {msl1 : Array (Option Value)} {moc1 mkV1 mdc1 mpm1 mcd1 mct1 : Value}
    {mf2 : Addr} {mod2 man2 : Option Addr} {msl2 : Array (Option Value)} {moc2 mkV2 mdc2 mpm2 mcd2 mct2 : Value}
    {gLENGTHS : Addr} {goLENGTHS : Option Addr} {gnLENGTHS : Nat} {gsLENGTHS : Array (Option Value)} {gtLENGTHS0 gtLENGTHS1 gtLENGTHS2 : Tok}
    {gMOST_GATES : Tok}
    {gWEIGHTS : Addr} {goWEIGHTS : Option Addr} {gnWEIGHTS : Nat} {gsWEIGHTS : Array (Option Value)} {gtWEIGHTS0 gtWEIGHTS1 gtWEIGHTS2 : Tok}
    {gROWS : Tok}
    {gALL_TABLES : Tok}
    (a0 : PySem.W.nsIn K mainGlobals "check_gate" = some (some (.ref f0)))
    (l0 : K.lookup f0 = some ⟨oc0, od0, .func (PySem.W.fnOf "check_gate" "check_gate" (defArgs s_check_gate) (defBody s_check_gate) (defScope s_check_gate) .none kV0 dc0 pm0 an0 cd0 ct0), sl0⟩)
    (c0 : PySem.W.codeIn K cd0 "check_gate" = true)
    (k0 : PySem.W.keepIn K (.ref f0) = true)
    (a1 : PySem.W.nsIn K mainGlobals "check_gates" = some (some (.ref f1)))
    (l1 : K.lookup f1 = some ⟨oc1, od1, .func (PySem.W.fnOf "check_gates" "check_gates" (defArgs s_check_gates) (defBody s_check_gates) (defScope s_check_gates) .none kV1 dc1 pm1 an1 cd1 ct1), sl1⟩)
    (c1 : PySem.W.codeIn K cd1 "check_gates" = true)
    (k1 : PySem.W.keepIn K (.ref f1) = true)
    (a2 : PySem.W.nsIn K mainGlobals "row_of" = some (some (.ref f2)))
    (l2 : K.lookup f2 = some ⟨oc2, od2, .func (PySem.W.fnOf "row_of" "row_of" (defArgs s_row_of) (defBody s_row_of) (defScope s_row_of) .none kV2 dc2 pm2 an2 cd2 ct2), sl2⟩)
    (c2 : PySem.W.codeIn K cd2 "row_of" = true)
    (k2 : PySem.W.keepIn K (.ref f2) = true)
    (a3 : PySem.W.nsIn K mainGlobals "weights_of" = some (some (.ref f3)))
    (l3 : K.lookup f3 = some ⟨oc3, od3, .func (PySem.W.fnOf "weights_of" "weights_of" (defArgs s_weights_of) (defBody s_weights_of) (defScope s_weights_of) .none kV3 dc3 pm3 an3 cd3 ct3), sl3⟩)
    (c3 : PySem.W.codeIn K cd3 "weights_of" = true)
    (k3 : PySem.W.keepIn K (.ref f3) = true)
    (a4 : PySem.W.nsIn K mainGlobals "inputs_of" = some (some (.ref f4)))
    (l4 : K.lookup f4 = some ⟨oc4, od4, .func (PySem.W.fnOf "inputs_of" "inputs_of" (defArgs s_inputs_of) (defBody s_inputs_of) (defScope s_inputs_of) .none kV4 dc4 pm4 an4 cd4 ct4), sl4⟩)
    (c4 : PySem.W.codeIn K cd4 "inputs_of" = true)
    (k4 : PySem.W.keepIn K (.ref f4) = true)
    (a5 : PySem.W.nsIn K mainGlobals "answers_to" = some (some (.ref f5)))
    (l5 : K.lookup f5 = some ⟨oc5, od5, .func (PySem.W.fnOf "answers_to" "answers_to" (defArgs s_answers_to) (defBody s_answers_to) (defScope s_answers_to) .none kV5 dc5 pm5 an5 cd5 ct5), sl5⟩)
    (c5 : PySem.W.codeIn K cd5 "answers_to" = true)
    (k5 : PySem.W.keepIn K (.ref f5) = true)
    (a6 : PySem.W.nsIn K mainGlobals "table_of_input" = some (some (.ref f6)))
    (l6 : K.lookup f6 = some ⟨oc6, od6, .func (PySem.W.fnOf "table_of_input" "table_of_input" (defArgs s_table_of_input) (defBody s_table_of_input) (defScope s_table_of_input) .none kV6 dc6 pm6 an6 cd6 ct6), sl6⟩)
    (c6 : PySem.W.codeIn K cd6 "table_of_input" = true)
    (k6 : PySem.W.keepIn K (.ref f6) = true)
    (a7 : PySem.W.nsIn K mainGlobals "tables_of_inputs" = some (some (.ref f7)))
    (l7 : K.lookup f7 = some ⟨oc7, od7, .func (PySem.W.fnOf "tables_of_inputs" "tables_of_inputs" (defArgs s_tables_of_inputs) (defBody s_tables_of_inputs) (defScope s_tables_of_inputs) .none kV7 dc7 pm7 an7 cd7 ct7), sl7⟩)
    (c7 : PySem.W.codeIn K cd7 "tables_of_inputs" = true)
    (k7 : PySem.W.keepIn K (.ref f7) = true)
    (a8 : PySem.W.nsIn K mainGlobals "check_table" = some (some (.ref f8)))
    (l8 : K.lookup f8 = some ⟨oc8, od8, .func (PySem.W.fnOf "check_table" "check_table" (defArgs s_check_table) (defBody s_check_table) (defScope s_check_table) .none kV8 dc8 pm8 an8 cd8 ct8), sl8⟩)
    (c8 : PySem.W.codeIn K cd8 "check_table" = true)
    (k8 : PySem.W.keepIn K (.ref f8) = true)
    (a9 : PySem.W.nsIn K mainGlobals "places_below" = some (some (.ref f9)))
    (l9 : K.lookup f9 = some ⟨oc9, od9, .func (PySem.W.fnOf "places_below" "places_below" (defArgs s_places_below) (defBody s_places_below) (defScope s_places_below) .none kV9 dc9 pm9 an9 cd9 ct9), sl9⟩)
    (c9 : PySem.W.codeIn K cd9 "places_below" = true)
    (k9 : PySem.W.keepIn K (.ref f9) = true)
    (a10 : PySem.W.nsIn K mainGlobals "places_up_to" = some (some (.ref f10)))
    (l10 : K.lookup f10 = some ⟨oc10, od10, .func (PySem.W.fnOf "places_up_to" "places_up_to" (defArgs s_places_up_to) (defBody s_places_up_to) (defScope s_places_up_to) .none kV10 dc10 pm10 an10 cd10 ct10), sl10⟩)
    (c10 : PySem.W.codeIn K cd10 "places_up_to" = true)
    (k10 : PySem.W.keepIn K (.ref f10) = true)
    (a11 : PySem.W.nsIn K mainGlobals "makings_of" = some (some (.ref f11)))
    (l11 : K.lookup f11 = some ⟨oc11, od11, .func (PySem.W.fnOf "makings_of" "makings_of" (defArgs s_makings_of) (defBody s_makings_of) (defScope s_makings_of) .none kV11 dc11 pm11 an11 cd11 ct11), sl11⟩)
    (c11 : PySem.W.codeIn K cd11 "makings_of" = true)
    (k11 : PySem.W.keepIn K (.ref f11) = true)
    (a12 : PySem.W.nsIn K mainGlobals "makable" = some (some (.ref f12)))
    (l12 : K.lookup f12 = some ⟨oc12, od12, .func (PySem.W.fnOf "makable" "makable" (defArgs s_makable) (defBody s_makable) (defScope s_makable) .none kV12 dc12 pm12 an12 cd12 ct12), sl12⟩)
    (c12 : PySem.W.codeIn K cd12 "makable" = true)
    (k12 : PySem.W.keepIn K (.ref f12) = true)
    (a13 : PySem.W.nsIn K mainGlobals "made" = some (some (.ref f13)))
    (l13 : K.lookup f13 = some ⟨oc13, od13, .func (PySem.W.fnOf "made" "made" (defArgs s_made) (defBody s_made) (defScope s_made) .none kV13 dc13 pm13 an13 cd13 ct13), sl13⟩)
    (c13 : PySem.W.codeIn K cd13 "made" = true)
    (k13 : PySem.W.keepIn K (.ref f13) = true)
    (a14 : PySem.W.nsIn K mainGlobals "_law_cell_at" = some (some (.ref f14)))
    (l14 : K.lookup f14 = some ⟨oc14, od14, .func (PySem.W.fnOf "_law_cell_at" "_law_cell_at" (defArgs s_law_cell_at) (defBody s_law_cell_at) (defScope s_law_cell_at) .none kV14 dc14 pm14 an14 cd14 ct14), sl14⟩)
    (c14 : PySem.W.codeIn K cd14 "_law_cell_at" = true)
    (k14 : PySem.W.keepIn K (.ref f14) = true)
    (a15 : PySem.W.nsIn K mainGlobals "_law_whole" = some (some (.ref f15)))
    (l15 : K.lookup f15 = some ⟨oc15, od15, .func (PySem.W.fnOf "_law_whole" "_law_whole" (defArgs s_law_whole) (defBody s_law_whole) (defScope s_law_whole) .none kV15 dc15 pm15 an15 cd15 ct15), sl15⟩)
    (c15 : PySem.W.codeIn K cd15 "_law_whole" = true)
    (k15 : PySem.W.keepIn K (.ref f15) = true)
    (a16 : PySem.W.nsIn K mainGlobals "_law_next" = some (some (.ref f16)))
    (l16 : K.lookup f16 = some ⟨oc16, od16, .func (PySem.W.fnOf "_law_next" "_law_next" (defArgs s_law_next) (defBody s_law_next) (defScope s_law_next) .none kV16 dc16 pm16 an16 cd16 ct16), sl16⟩)
    (c16 : PySem.W.codeIn K cd16 "_law_next" = true)
    (k16 : PySem.W.keepIn K (.ref f16) = true)
    (a17 : PySem.W.nsIn K mainGlobals "_law_gate" = some (some (.ref f17)))
    (l17 : K.lookup f17 = some ⟨oc17, od17, .func (PySem.W.fnOf "_law_gate" "_law_gate" (defArgs s_law_gate) (defBody s_law_gate) (defScope s_law_gate) .none kV17 dc17 pm17 an17 cd17 ct17), sl17⟩)
    (c17 : PySem.W.codeIn K cd17 "_law_gate" = true)
    (k17 : PySem.W.keepIn K (.ref f17) = true)
    (a18 : PySem.W.nsIn K mainGlobals "_law_gates" = some (some (.ref f18)))
    (l18 : K.lookup f18 = some ⟨oc18, od18, .func (PySem.W.fnOf "_law_gates" "_law_gates" (defArgs s_law_gates) (defBody s_law_gates) (defScope s_law_gates) .none kV18 dc18 pm18 an18 cd18 ct18), sl18⟩)
    (c18 : PySem.W.codeIn K cd18 "_law_gates" = true)
    (k18 : PySem.W.keepIn K (.ref f18) = true)
    (a19 : PySem.W.nsIn K mainGlobals "_law_wide" = some (some (.ref f19)))
    (l19 : K.lookup f19 = some ⟨oc19, od19, .func (PySem.W.fnOf "_law_wide" "_law_wide" (defArgs s_law_wide) (defBody s_law_wide) (defScope s_law_wide) .none kV19 dc19 pm19 an19 cd19 ct19), sl19⟩)
    (c19 : PySem.W.codeIn K cd19 "_law_wide" = true)
    (k19 : PySem.W.keepIn K (.ref f19) = true)
    (a20 : PySem.W.nsIn K mainGlobals "_law_kind" = some (some (.ref f20)))
    (l20 : K.lookup f20 = some ⟨oc20, od20, .func (PySem.W.fnOf "_law_kind" "_law_kind" (defArgs s_law_kind) (defBody s_law_kind) (defScope s_law_kind) .none kV20 dc20 pm20 an20 cd20 ct20), sl20⟩)
    (c20 : PySem.W.codeIn K cd20 "_law_kind" = true)
    (k20 : PySem.W.keepIn K (.ref f20) = true)
    (a21 : PySem.W.nsIn K mainGlobals "_law_answered" = some (some (.ref f21)))
    (l21 : K.lookup f21 = some ⟨oc21, od21, .func (PySem.W.fnOf "_law_answered" "_law_answered" (defArgs s_law_answered) (defBody s_law_answered) (defScope s_law_answered) .none kV21 dc21 pm21 an21 cd21 ct21), sl21⟩)
    (c21 : PySem.W.codeIn K cd21 "_law_answered" = true)
    (k21 : PySem.W.keepIn K (.ref f21) = true)
    (a22 : PySem.W.nsIn K mainGlobals "_law_stepped" = some (some (.ref f22)))
    (l22 : K.lookup f22 = some ⟨oc22, od22, .func (PySem.W.fnOf "_law_stepped" "_law_stepped" (defArgs s_law_stepped) (defBody s_law_stepped) (defScope s_law_stepped) .none kV22 dc22 pm22 an22 cd22 ct22), sl22⟩)
    (c22 : PySem.W.codeIn K cd22 "_law_stepped" = true)
    (k22 : PySem.W.keepIn K (.ref f22) = true)
    (a23 : PySem.W.nsIn K mainGlobals "_law_makes" = some (some (.ref f23)))
    (l23 : K.lookup f23 = some ⟨oc23, od23, .func (PySem.W.fnOf "_law_makes" "_law_makes" (defArgs s_law_makes) (defBody s_law_makes) (defScope s_law_makes) .none kV23 dc23 pm23 an23 cd23 ct23), sl23⟩)
    (c23 : PySem.W.codeIn K cd23 "_law_makes" = true)
    (k23 : PySem.W.keepIn K (.ref f23) = true)
    (a24 : PySem.W.nsIn K mainGlobals "_law_tried" = some (some (.ref f24)))
    (l24 : K.lookup f24 = some ⟨oc24, od24, .func (PySem.W.fnOf "_law_tried" "_law_tried" (defArgs s_law_tried) (defBody s_law_tried) (defScope s_law_tried) .none kV24 dc24 pm24 an24 cd24 ct24), sl24⟩)
    (c24 : PySem.W.codeIn K cd24 "_law_tried" = true)
    (k24 : PySem.W.keepIn K (.ref f24) = true)
    (a25 : PySem.W.nsIn K mainGlobals "law" = some (some (.ref f25)))
    (l25 : K.lookup f25 = some ⟨oc25, od25, .func (PySem.W.fnOf "law" "law" (defArgs s_law) (defBody s_law) (defScope s_law) .none kV25 dc25 pm25 an25 cd25 ct25), sl25⟩)
    (c25 : PySem.W.codeIn K cd25 "law" = true)
    (k25 : PySem.W.keepIn K (.ref f25) = true)
    (eaGateError : PySem.W.nsIn K mainGlobals "GateError" = some (some (.ref eGateError)))
    (eaNoGate : PySem.W.nsIn K mainGlobals "NoGate" = some (some (.ref eNoGate)))
    (eaNoClass : PySem.W.nsIn K mainGlobals "NoClass" = some (some (.ref eNoClass)))
    (eaNoInputs : PySem.W.nsIn K mainGlobals "NoInputs" = some (some (.ref eNoInputs)))
    (eaNoFormula : PySem.W.nsIn K mainGlobals "NoFormula" = some (some (.ref eNoFormula)))
    (eaNoTable : PySem.W.nsIn K mainGlobals "NoTable" = some (some (.ref eNoTable)))
    (eaNotMade : PySem.W.nsIn K mainGlobals "NotMade" = some (some (.ref eNotMade)))
    (eaNoNote : PySem.W.nsIn K mainGlobals "NoNote" = some (some (.ref eNoNote)))
    (exGateError : PySem.W.excIn K eGateError [.type "ValueError", .type "Exception", .type "BaseException", .type "object"] "ValueError.__new__" = true)
    (exNoGate : PySem.W.excIn K eNoGate [.type "ValueError", .type "Exception", .type "BaseException", .type "object"] "ValueError.__new__" = true)
    (esNoGate : PySem.W.kitOne K (.ref eNoGate) (.ref eGateError) = some true)
    (enNoGate : (Value.ref eNoGate == Value.ref eGateError) = false)
    (xgNoGate : PySem.W.findIn K (.ref eNoGate) "__getattribute__" = some (some (.builtin "BaseException.__getattribute__")))
    (xhNoGate : PySem.W.findIn K (.ref eNoGate) "__getattr__" = some none)
    (xbNoGate : PySem.W.mroIn K eNoGate (.type "BaseException") = some true)
    (xfNoGate : PySem.W.findIn K (.ref eNoGate) "__class__" = some (some (.builtin "object.__class__")))
    (xmNoGate : PySem.W.mroIn K eNoGate (.type "object") = some true)
    (xvNoGate : PySem.W.kitOne K (.ref eNoGate) (.type "ValueError") = some true)
    (xi0NoGate : PySem.W.kitOne K (.ref eNoGate) (.ref eNoGate) = some true)
    (xi1NoGate : PySem.W.kitOne K (.ref eNoGate) (.ref eNoClass) = some false)
    (xi2NoGate : PySem.W.kitOne K (.ref eNoGate) (.ref eNoInputs) = some false)
    (xi3NoGate : PySem.W.kitOne K (.ref eNoGate) (.ref eNoFormula) = some false)
    (xi4NoGate : PySem.W.kitOne K (.ref eNoGate) (.ref eNoTable) = some false)
    (xi5NoGate : PySem.W.kitOne K (.ref eNoGate) (.ref eNotMade) = some false)
    (xi6NoGate : PySem.W.kitOne K (.ref eNoGate) (.ref eNoNote) = some false)
    (exNoTable : PySem.W.excIn K eNoTable [.type "ValueError", .type "Exception", .type "BaseException", .type "object"] "ValueError.__new__" = true)
    (esNoTable : PySem.W.kitOne K (.ref eNoTable) (.ref eGateError) = some true)
    (enNoTable : (Value.ref eNoTable == Value.ref eGateError) = false)
    (xgNoTable : PySem.W.findIn K (.ref eNoTable) "__getattribute__" = some (some (.builtin "BaseException.__getattribute__")))
    (xhNoTable : PySem.W.findIn K (.ref eNoTable) "__getattr__" = some none)
    (xbNoTable : PySem.W.mroIn K eNoTable (.type "BaseException") = some true)
    (xfNoTable : PySem.W.findIn K (.ref eNoTable) "__class__" = some (some (.builtin "object.__class__")))
    (xmNoTable : PySem.W.mroIn K eNoTable (.type "object") = some true)
    (xvNoTable : PySem.W.kitOne K (.ref eNoTable) (.type "ValueError") = some true)
    (xi0NoTable : PySem.W.kitOne K (.ref eNoTable) (.ref eNoGate) = some false)
    (xi1NoTable : PySem.W.kitOne K (.ref eNoTable) (.ref eNoClass) = some false)
    (xi2NoTable : PySem.W.kitOne K (.ref eNoTable) (.ref eNoInputs) = some false)
    (xi3NoTable : PySem.W.kitOne K (.ref eNoTable) (.ref eNoFormula) = some false)
    (xi4NoTable : PySem.W.kitOne K (.ref eNoTable) (.ref eNoTable) = some true)
    (xi5NoTable : PySem.W.kitOne K (.ref eNoTable) (.ref eNotMade) = some false)
    (xi6NoTable : PySem.W.kitOne K (.ref eNoTable) (.ref eNoNote) = some false)
    (exNotMade : PySem.W.excIn K eNotMade [.type "ValueError", .type "Exception", .type "BaseException", .type "object"] "ValueError.__new__" = true)
    (esNotMade : PySem.W.kitOne K (.ref eNotMade) (.ref eGateError) = some true)
    (enNotMade : (Value.ref eNotMade == Value.ref eGateError) = false)
    (xgNotMade : PySem.W.findIn K (.ref eNotMade) "__getattribute__" = some (some (.builtin "BaseException.__getattribute__")))
    (xhNotMade : PySem.W.findIn K (.ref eNotMade) "__getattr__" = some none)
    (xbNotMade : PySem.W.mroIn K eNotMade (.type "BaseException") = some true)
    (xfNotMade : PySem.W.findIn K (.ref eNotMade) "__class__" = some (some (.builtin "object.__class__")))
    (xmNotMade : PySem.W.mroIn K eNotMade (.type "object") = some true)
    (xvNotMade : PySem.W.kitOne K (.ref eNotMade) (.type "ValueError") = some true)
    (xi0NotMade : PySem.W.kitOne K (.ref eNotMade) (.ref eNoGate) = some false)
    (xi1NotMade : PySem.W.kitOne K (.ref eNotMade) (.ref eNoClass) = some false)
    (xi2NotMade : PySem.W.kitOne K (.ref eNotMade) (.ref eNoInputs) = some false)
    (xi3NotMade : PySem.W.kitOne K (.ref eNotMade) (.ref eNoFormula) = some false)
    (xi4NotMade : PySem.W.kitOne K (.ref eNotMade) (.ref eNoTable) = some false)
    (xi5NotMade : PySem.W.kitOne K (.ref eNotMade) (.ref eNotMade) = some true)
    (xi6NotMade : PySem.W.kitOne K (.ref eNotMade) (.ref eNoNote) = some false)
    (xsErr : PySem.W.specialIn K (.builtin "object.__class__") "__get__" = some (some (.builtin "getset_descriptor.__get__")))
    (xtErr : PySem.W.takesIn K (.builtin "object.__class__") = some true)
    (aCMakings : PySem.W.nsIn K mainGlobals "Makings" = some (some (.ref cCMakings)))
    (pgMakings : PySem.W.plainGet K cCMakings Str.empty = true)
    (hdMakings : PySem.W.hasDictIn K cCMakings = true)
    (poMakings : PySem.W.plainOver K cCMakings = true)
    (saMakings : PySem.W.findIn K (.ref cCMakings) "__setattr__" = some (some (.builtin "object.__setattr__")))
    (mkMakings : PySem.W.makesIn K cCMakings = true)
    (kcMakings : PySem.W.keepIn K (.ref cCMakings) = true)
    (naMakingsgates : PySem.W.findIn K (.ref cCMakings) "gates" = some none)
    (naMakingstables : PySem.W.findIn K (.ref cCMakings) "tables" = some none)
    (naMakingssteps : PySem.W.findIn K (.ref cCMakings) "steps" = some none)
    (ma0 : PySem.W.findIn K (.ref cCMakings) "__init__" = some (some (.ref mf0)))
    (mi0 : PySem.W.isFn K (.ref mf0) = true)
    (ml0 : K.lookup mf0 = some ⟨moc0, mod0, .func (PySem.W.fnOf "__init__" "Makings.__init__" (defArgs s_mk_init) (defBody s_mk_init) (defScope s_mk_init) .none mkV0 mdc0 mpm0 man0 mcd0 mct0), msl0⟩)
    (mc0 : PySem.W.codeIn K mcd0 "Makings.__init__" = true)
    (mp0 : PySem.W.keepIn K (.ref mf0) = true)
    (ma1 : PySem.W.findIn K (.ref cCMakings) "take_step" = some (some (.ref mf1)))
    (mi1 : PySem.W.isFn K (.ref mf1) = true)
    (ml1 : K.lookup mf1 = some ⟨moc1, mod1, .func (PySem.W.fnOf "take_step" "Makings.take_step" (defArgs s_mk_take_step) (defBody s_mk_take_step) (defScope s_mk_take_step) .none mkV1 mdc1 mpm1 man1 mcd1 mct1), msl1⟩)
    (mc1 : PySem.W.codeIn K mcd1 "Makings.take_step" = true)
    (mp1 : PySem.W.keepIn K (.ref mf1) = true)
    (ma2 : PySem.W.findIn K (.ref cCMakings) "take_steps_up_to" = some (some (.ref mf2)))
    (mi2 : PySem.W.isFn K (.ref mf2) = true)
    (ml2 : K.lookup mf2 = some ⟨moc2, mod2, .func (PySem.W.fnOf "take_steps_up_to" "Makings.take_steps_up_to" (defArgs s_mk_take_steps_up_to) (defBody s_mk_take_steps_up_to) (defScope s_mk_take_steps_up_to) .none mkV2 mdc2 mpm2 man2 mcd2 mct2), msl2⟩)
    (mc2 : PySem.W.codeIn K mcd2 "Makings.take_steps_up_to" = true)
    (mp2 : PySem.W.keepIn K (.ref mf2) = true)
    (gaLENGTHS : PySem.W.nsIn K mainGlobals "LENGTHS" = some (some (.ref gLENGTHS)))
    (glLENGTHS : K.lookup gLENGTHS = some ⟨.type "tuple", goLENGTHS, .seq #[.int 2 gtLENGTHS0, .int 4 gtLENGTHS1, .int 8 gtLENGTHS2] gnLENGTHS, gsLENGTHS⟩)
    (gaMOST_GATES : PySem.W.nsIn K mainGlobals "MOST_GATES" = some (some (.int 5 gMOST_GATES)))
    (gaWEIGHTS : PySem.W.nsIn K mainGlobals "WEIGHTS" = some (some (.ref gWEIGHTS)))
    (glWEIGHTS : K.lookup gWEIGHTS = some ⟨.type "tuple", goWEIGHTS, .seq #[.int 1 gtWEIGHTS0, .int 2 gtWEIGHTS1, .int 4 gtWEIGHTS2] gnWEIGHTS, gsWEIGHTS⟩)
    (gaROWS : PySem.W.nsIn K mainGlobals "ROWS" = some (some (.int 4 gROWS)))
    (gaALL_TABLES : PySem.W.nsIn K mainGlobals "ALL_TABLES" = some (some (.int 16 gALL_TABLES)))
    (zValueError : PySem.W.nsIn K mainGlobals "ValueError" = some none)
    (zbool : PySem.W.nsIn K mainGlobals "bool" = some none)
    (zenumerate : PySem.W.nsIn K mainGlobals "enumerate" = some none)
    (zint : PySem.W.nsIn K mainGlobals "int" = some none)
    (zisinstance : PySem.W.nsIn K mainGlobals "isinstance" = some none)
    (zlen : PySem.W.nsIn K mainGlobals "len" = some none)
    (zlist : PySem.W.nsIn K mainGlobals "list" = some none)
    (zrange : PySem.W.nsIn K mainGlobals "range" = some none)
    (zsorted : PySem.W.nsIn K mainGlobals "sorted" = some none)
    (zsum : PySem.W.nsIn K mainGlobals "sum" = some none)
    (ztuple : PySem.W.nsIn K mainGlobals "tuple" = some none)
    (zzip : PySem.W.nsIn K mainGlobals "zip" = some none) :
    ∃ fd : FuncData, (∀ (s : Shared) (v : Value), BindsTo s fd ⟨[v], []⟩ [("script", v)]) ∧ ∀ base : Heap, K.In base → base.Ns mainGlobals mg → FnOk l.prog w K mg base CX0 46 fa fd ["script"] (sp_law K) := by
  have e : fa = f25 := by
    have e := hfa.symm.trans (PySem.W.mg_of X G a25)
    injection e with e
    injection e
  rw [e]
  have T : Txt K mg ⟨eGateError, eNoGate, eNoClass, eNoInputs, eNoFormula, eNoTable, eNotMade, eNoNote, cCMakings, mf0, PySem.W.fnOf "__init__" "Makings.__init__" (defArgs s_mk_init) (defBody s_mk_init) (defScope s_mk_init) .none mkV0 mdc0 mpm0 man0 mcd0 mct0, mf1, PySem.W.fnOf "take_step" "Makings.take_step" (defArgs s_mk_take_step) (defBody s_mk_take_step) (defScope s_mk_take_step) .none mkV1 mdc1 mpm1 man1 mcd1 mct1, mf2, PySem.W.fnOf "take_steps_up_to" "Makings.take_steps_up_to" (defArgs s_mk_take_steps_up_to) (defBody s_mk_take_steps_up_to) (defScope s_mk_take_steps_up_to) .none mkV2 mdc2 mpm2 man2 mcd2 mct2, f0, PySem.W.fnOf "check_gate" "check_gate" (defArgs s_check_gate) (defBody s_check_gate) (defScope s_check_gate) .none kV0 dc0 pm0 an0 cd0 ct0, f1, PySem.W.fnOf "check_gates" "check_gates" (defArgs s_check_gates) (defBody s_check_gates) (defScope s_check_gates) .none kV1 dc1 pm1 an1 cd1 ct1, f2, PySem.W.fnOf "row_of" "row_of" (defArgs s_row_of) (defBody s_row_of) (defScope s_row_of) .none kV2 dc2 pm2 an2 cd2 ct2, f3, PySem.W.fnOf "weights_of" "weights_of" (defArgs s_weights_of) (defBody s_weights_of) (defScope s_weights_of) .none kV3 dc3 pm3 an3 cd3 ct3, f4, PySem.W.fnOf "inputs_of" "inputs_of" (defArgs s_inputs_of) (defBody s_inputs_of) (defScope s_inputs_of) .none kV4 dc4 pm4 an4 cd4 ct4, f5, PySem.W.fnOf "answers_to" "answers_to" (defArgs s_answers_to) (defBody s_answers_to) (defScope s_answers_to) .none kV5 dc5 pm5 an5 cd5 ct5, f6, PySem.W.fnOf "table_of_input" "table_of_input" (defArgs s_table_of_input) (defBody s_table_of_input) (defScope s_table_of_input) .none kV6 dc6 pm6 an6 cd6 ct6, f7, PySem.W.fnOf "tables_of_inputs" "tables_of_inputs" (defArgs s_tables_of_inputs) (defBody s_tables_of_inputs) (defScope s_tables_of_inputs) .none kV7 dc7 pm7 an7 cd7 ct7, f8, PySem.W.fnOf "check_table" "check_table" (defArgs s_check_table) (defBody s_check_table) (defScope s_check_table) .none kV8 dc8 pm8 an8 cd8 ct8, f9, PySem.W.fnOf "places_below" "places_below" (defArgs s_places_below) (defBody s_places_below) (defScope s_places_below) .none kV9 dc9 pm9 an9 cd9 ct9, f10, PySem.W.fnOf "places_up_to" "places_up_to" (defArgs s_places_up_to) (defBody s_places_up_to) (defScope s_places_up_to) .none kV10 dc10 pm10 an10 cd10 ct10, f11, PySem.W.fnOf "makings_of" "makings_of" (defArgs s_makings_of) (defBody s_makings_of) (defScope s_makings_of) .none kV11 dc11 pm11 an11 cd11 ct11, f12, PySem.W.fnOf "makable" "makable" (defArgs s_makable) (defBody s_makable) (defScope s_makable) .none kV12 dc12 pm12 an12 cd12 ct12, f13, PySem.W.fnOf "made" "made" (defArgs s_made) (defBody s_made) (defScope s_made) .none kV13 dc13 pm13 an13 cd13 ct13, f14, PySem.W.fnOf "_law_cell_at" "_law_cell_at" (defArgs s_law_cell_at) (defBody s_law_cell_at) (defScope s_law_cell_at) .none kV14 dc14 pm14 an14 cd14 ct14, f15, PySem.W.fnOf "_law_whole" "_law_whole" (defArgs s_law_whole) (defBody s_law_whole) (defScope s_law_whole) .none kV15 dc15 pm15 an15 cd15 ct15, f16, PySem.W.fnOf "_law_next" "_law_next" (defArgs s_law_next) (defBody s_law_next) (defScope s_law_next) .none kV16 dc16 pm16 an16 cd16 ct16, f17, PySem.W.fnOf "_law_gate" "_law_gate" (defArgs s_law_gate) (defBody s_law_gate) (defScope s_law_gate) .none kV17 dc17 pm17 an17 cd17 ct17, f18, PySem.W.fnOf "_law_gates" "_law_gates" (defArgs s_law_gates) (defBody s_law_gates) (defScope s_law_gates) .none kV18 dc18 pm18 an18 cd18 ct18, f19, PySem.W.fnOf "_law_wide" "_law_wide" (defArgs s_law_wide) (defBody s_law_wide) (defScope s_law_wide) .none kV19 dc19 pm19 an19 cd19 ct19, f20, PySem.W.fnOf "_law_kind" "_law_kind" (defArgs s_law_kind) (defBody s_law_kind) (defScope s_law_kind) .none kV20 dc20 pm20 an20 cd20 ct20, f21, PySem.W.fnOf "_law_answered" "_law_answered" (defArgs s_law_answered) (defBody s_law_answered) (defScope s_law_answered) .none kV21 dc21 pm21 an21 cd21 ct21, f22, PySem.W.fnOf "_law_stepped" "_law_stepped" (defArgs s_law_stepped) (defBody s_law_stepped) (defScope s_law_stepped) .none kV22 dc22 pm22 an22 cd22 ct22, f23, PySem.W.fnOf "_law_makes" "_law_makes" (defArgs s_law_makes) (defBody s_law_makes) (defScope s_law_makes) .none kV23 dc23 pm23 an23 cd23 ct23, f24, PySem.W.fnOf "_law_tried" "_law_tried" (defArgs s_law_tried) (defBody s_law_tried) (defScope s_law_tried) .none kV24 dc24 pm24 an24 cd24 ct24, f25, PySem.W.fnOf "law" "law" (defArgs s_law) (defBody s_law) (defScope s_law) .none kV25 dc25 pm25 an25 cd25 ct25, gLENGTHS, gMOST_GATES, gWEIGHTS, gROWS, gALL_TABLES⟩ := ⟨(fun_mk (st := s_check_gate) l0 c0 k0), PySem.W.mg_of X G a0, (Fun.binds (ps := ["gate"]) (fun_mk (st := s_check_gate) l0 c0 k0) fun _ _ _ _ _ _ => sz1 fun _ => rfl), (fun_mk (st := s_check_gates) l1 c1 k1), PySem.W.mg_of X G a1, (Fun.binds (ps := ["gates"]) (fun_mk (st := s_check_gates) l1 c1 k1) fun _ _ _ _ _ _ => sz1 fun _ => rfl), (fun_mk (st := s_row_of) l2 c2 k2), PySem.W.mg_of X G a2, (Fun.binds (ps := ["inputs"]) (fun_mk (st := s_row_of) l2 c2 k2) fun _ _ _ _ _ _ => sz1 fun _ => rfl), (fun_mk (st := s_weights_of) l3 c3 k3), PySem.W.mg_of X G a3, (Fun.binds (ps := ["gate"]) (fun_mk (st := s_weights_of) l3 c3 k3) fun _ _ _ _ _ _ => sz1 fun _ => rfl), (fun_mk (st := s_inputs_of) l4 c4 k4), PySem.W.mg_of X G a4, (Fun.binds (ps := ["gate"]) (fun_mk (st := s_inputs_of) l4 c4 k4) fun _ _ _ _ _ _ => sz1 fun _ => rfl), (fun_mk (st := s_answers_to) l5 c5 k5), PySem.W.mg_of X G a5, (Fun.binds (ps := ["gate", "tables"]) (fun_mk (st := s_answers_to) l5 c5 k5) fun _ _ _ _ _ _ => sz2 fun _ _ => rfl), (fun_mk (st := s_table_of_input) l6 c6 k6), PySem.W.mg_of X G a6, (Fun.binds (ps := ["number", "many"]) (fun_mk (st := s_table_of_input) l6 c6 k6) fun _ _ _ _ _ _ => sz2 fun _ _ => rfl), (fun_mk (st := s_tables_of_inputs) l7 c7 k7), PySem.W.mg_of X G a7, (Fun.binds (ps := ["many"]) (fun_mk (st := s_tables_of_inputs) l7 c7 k7) fun _ _ _ _ _ _ => sz1 fun _ => rfl), (fun_mk (st := s_check_table) l8 c8 k8), PySem.W.mg_of X G a8, (Fun.binds (ps := ["table"]) (fun_mk (st := s_check_table) l8 c8 k8) fun _ _ _ _ _ _ => sz1 fun _ => rfl), (fun_mk (st := s_places_below) l9 c9 k9), PySem.W.mg_of X G a9, (Fun.binds (ps := ["end", "many"]) (fun_mk (st := s_places_below) l9 c9 k9) fun _ _ _ _ _ _ => sz2 fun _ _ => rfl), (fun_mk (st := s_places_up_to) l10 c10 k10), PySem.W.mg_of X G a10, (Fun.binds (ps := ["last", "many"]) (fun_mk (st := s_places_up_to) l10 c10 k10) fun _ _ _ _ _ _ => sz2 fun _ _ => rfl), (fun_mk (st := s_makings_of) l11 c11 k11), PySem.W.mg_of X G a11, (Fun.binds (ps := ["gates"]) (fun_mk (st := s_makings_of) l11 c11 k11) fun _ _ _ _ _ _ => sz1 fun _ => rfl), (fun_mk (st := s_makable) l12 c12 k12), PySem.W.mg_of X G a12, (Fun.binds (ps := ["gates"]) (fun_mk (st := s_makable) l12 c12 k12) fun _ _ _ _ _ _ => sz1 fun _ => rfl), (fun_mk (st := s_made) l13 c13 k13), PySem.W.mg_of X G a13, (Fun.binds (ps := ["gates", "table"]) (fun_mk (st := s_made) l13 c13 k13) fun _ _ _ _ _ _ => sz2 fun _ _ => rfl), (fun_mk (st := s_law_cell_at) l14 c14 k14), PySem.W.mg_of X G a14, (Fun.binds (ps := ["script", "k"]) (fun_mk (st := s_law_cell_at) l14 c14 k14) fun _ _ _ _ _ _ => sz2 fun _ _ => rfl), (fun_mk (st := s_law_whole) l15 c15 k15), PySem.W.mg_of X G a15, (Fun.binds (ps := ["found"]) (fun_mk (st := s_law_whole) l15 c15 k15) fun _ _ _ _ _ _ => sz1 fun _ => rfl), (fun_mk (st := s_law_next) l16 c16 k16), PySem.W.mg_of X G a16, (Fun.binds (ps := ["seed"]) (fun_mk (st := s_law_next) l16 c16 k16) fun _ _ _ _ _ _ => sz1 fun _ => rfl), (fun_mk (st := s_law_gate) l17 c17 k17), PySem.W.mg_of X G a17, (Fun.binds (ps := ["seed", "most"]) (fun_mk (st := s_law_gate) l17 c17 k17) fun _ _ _ _ _ _ => sz2 fun _ _ => rfl), (fun_mk (st := s_law_gates) l18 c18 k18), PySem.W.mg_of X G a18, (Fun.binds (ps := ["script", "most"]) (fun_mk (st := s_law_gates) l18 c18 k18) fun _ _ _ _ _ _ => sz2 fun _ _ => rfl), (fun_mk (st := s_law_wide) l19 c19 k19), PySem.W.mg_of X G a19, (Fun.binds (ps := ["gate"]) (fun_mk (st := s_law_wide) l19 c19 k19) fun _ _ _ _ _ _ => sz1 fun _ => rfl), (fun_mk (st := s_law_kind) l20 c20 k20), PySem.W.mg_of X G a20, (Fun.binds (ps := ["e"]) (fun_mk (st := s_law_kind) l20 c20 k20) fun _ _ _ _ _ _ => sz1 fun _ => rfl), (fun_mk (st := s_law_answered) l21 c21 k21), PySem.W.mg_of X G a21, (Fun.binds (ps := ["gate", "tables"]) (fun_mk (st := s_law_answered) l21 c21 k21) fun _ _ _ _ _ _ => sz2 fun _ _ => rfl), (fun_mk (st := s_law_stepped) l22 c22 k22), PySem.W.mg_of X G a22, (Fun.binds (ps := ["gates", "step", "tables"]) (fun_mk (st := s_law_stepped) l22 c22 k22) fun _ _ _ _ _ _ => sz3 fun _ _ _ => rfl), (fun_mk (st := s_law_makes) l23 c23 k23), PySem.W.mg_of X G a23, (Fun.binds (ps := ["gates", "plan", "table"]) (fun_mk (st := s_law_makes) l23 c23 k23) fun _ _ _ _ _ _ => sz3 fun _ _ _ => rfl), (fun_mk (st := s_law_tried) l24 c24 k24), PySem.W.mg_of X G a24, (Fun.binds (ps := ["gates", "table"]) (fun_mk (st := s_law_tried) l24 c24 k24) fun _ _ _ _ _ _ => sz2 fun _ _ => rfl), (fun_mk (st := s_law) l25 c25 k25), PySem.W.mg_of X G a25, (Fun.binds (ps := ["script"]) (fun_mk (st := s_law) l25 c25 k25) fun _ _ _ _ _ _ => sz1 fun _ => rfl), ⟨pgMakings, hdMakings, poMakings, saMakings⟩, PySem.W.mg_of X G aCMakings, ⟨mkMakings, ma0, mi0, kcMakings⟩, naMakingsgates, naMakingstables, naMakingssteps, (fun_mk (st := s_mk_init) ml0 mc0 mp0), (Fun.binds (ps := ["self", "gates"]) (fun_mk (st := s_mk_init) ml0 mc0 mp0) fun _ _ _ _ _ _ => sz2 fun _ _ => rfl), (fun_mk (st := s_mk_take_step) ml1 mc1 mp1), (Fun.binds (ps := ["self", "number", "places"]) (fun_mk (st := s_mk_take_step) ml1 mc1 mp1) fun _ _ _ _ _ _ => sz3 fun _ _ _ => rfl), ⟨ma1, mi1, mp1⟩, (fun_mk (st := s_mk_take_steps_up_to) ml2 mc2 mp2), (Fun.binds (ps := ["self", "last"]) (fun_mk (st := s_mk_take_steps_up_to) ml2 mc2 mp2) fun _ _ _ _ _ _ => sz2 fun _ _ => rfl), ⟨ma2, mi2, mp2⟩, PySem.W.mg_of X G eaGateError, eaGateError, PySem.W.mg_of X G eaNoGate, eaNoGate, PySem.W.mg_of X G eaNoClass, eaNoClass, PySem.W.mg_of X G eaNoInputs, eaNoInputs, PySem.W.mg_of X G eaNoFormula, eaNoFormula, PySem.W.mg_of X G eaNoTable, eaNoTable, PySem.W.mg_of X G eaNotMade, eaNotMade, PySem.W.mg_of X G eaNoNote, eaNoNote, ⟨exGateError⟩, ⟨exNoGate⟩, kitCls_of esNoGate enNoGate, ⟨⟨xgNoGate, xhNoGate, exc_cls exNoGate, xfNoGate, xsErr, xtErr, xmNoGate, xbNoGate⟩, xvNoGate, by decide, fun i c h => by rcases i with _ | _ | _ | _ | _ | _ | _ | i <;> first | (cases h; first | exact xi0NoGate | exact xi1NoGate | exact xi2NoGate | exact xi3NoGate | exact xi4NoGate | exact xi5NoGate | exact xi6NoGate) | (simp at h)⟩, ⟨exNoTable⟩, kitCls_of esNoTable enNoTable, ⟨⟨xgNoTable, xhNoTable, exc_cls exNoTable, xfNoTable, xsErr, xtErr, xmNoTable, xbNoTable⟩, xvNoTable, by decide, fun i c h => by rcases i with _ | _ | _ | _ | _ | _ | _ | i <;> first | (cases h; first | exact xi0NoTable | exact xi1NoTable | exact xi2NoTable | exact xi3NoTable | exact xi4NoTable | exact xi5NoTable | exact xi6NoTable) | (simp at h)⟩, ⟨exNotMade⟩, kitCls_of esNotMade enNotMade, ⟨⟨xgNotMade, xhNotMade, exc_cls exNotMade, xfNotMade, xsErr, xtErr, xmNotMade, xbNotMade⟩, xvNotMade, by decide, fun i c h => by rcases i with _ | _ | _ | _ | _ | _ | _ | i <;> first | (cases h; first | exact xi0NotMade | exact xi1NotMade | exact xi2NotMade | exact xi3NotMade | exact xi4NotMade | exact xi5NotMade | exact xi6NotMade) | (simp at h)⟩, PySem.W.mg_of X G gaLENGTHS, fun H W => con_tup (xs := [(.int 2), (.int 4), (.int 8)]) (.inr ⟨_, _, _, glLENGTHS, rfl, rfl, (show (3 : Nat) ≤ sizeLine by decide), .cons ⟨_, rfl⟩ (.cons ⟨_, rfl⟩ (.cons ⟨_, rfl⟩ (.nil)))⟩) (by simp only [con_LENGTHS, DWs, DW]; trivial), PySem.W.mg_of X G gaMOST_GATES, PySem.W.mg_of X G gaWEIGHTS, fun H W => con_tup (xs := [(.int 1), (.int 2), (.int 4)]) (.inr ⟨_, _, _, glWEIGHTS, rfl, rfl, (show (3 : Nat) ≤ sizeLine by decide), .cons ⟨_, rfl⟩ (.cons ⟨_, rfl⟩ (.cons ⟨_, rfl⟩ (.nil)))⟩) (by simp only [con_WEIGHTS, DWs, DW]; trivial), PySem.W.mg_of X G gaROWS, PySem.W.mg_of X G gaALL_TABLES, PySem.W.mg_none_of X G zValueError, PySem.W.mg_none_of X G zbool, PySem.W.mg_none_of X G zenumerate, PySem.W.mg_none_of X G zint, PySem.W.mg_none_of X G zisinstance, PySem.W.mg_none_of X G zlen, PySem.W.mg_none_of X G zlist, PySem.W.mg_none_of X G zrange, PySem.W.mg_none_of X G zsorted, PySem.W.mg_none_of X G zsum, PySem.W.mg_none_of X G ztuple, PySem.W.mg_none_of X G zzip⟩
  exact ⟨_, fun s v => .of_eq rfl, fun base _ _ => (ok_law T).imp fun vs H Q E h => law_sp law_true h⟩
theorem walk {l : PySem.W.OpenLaw} {q : Program} {loose : List Str} {XP : (Str → Option Value) → Heap → Prop} {YP : World → Heap → Prop} {d : DefRec} {K : Params → PySem.W.Frag} (hn : l.most = some 63) (hdf : d.params.defaults = [])
    (hY : ∀ (w : World) (h : Heap), YP w h → (K w.params).In h)
    (F : ∀ (w : World) (mg : Str → Option Value) (fa : Addr) (h : Heap), (K w.params).In h → h.Ns mainGlobals mg → mg d.name = some (.ref fa) →
      ∃ fd : FuncData, (∀ (s : Shared) (u : Value), BindsTo s fd ⟨[u], []⟩ [("script", u)]) ∧ ∀ base : Heap, (K w.params).In base → base.Ns mainGlobals mg → FnOk l.prog w (K w.params) mg base CX0 46 fa fd ["script"] (sp_law (K w.params))) :
    PySem.W.WalkO q loose XP YP l.row.toRowW d [] (fun f vs => PySem.call f vs) :=
  L2.walk_of (n := 63) (k := 46) (x := "script") (CX := fun _ => CX0) (sp := fun w => sp_law (K w.params)) hn (by decide) hdf ⟨rfl, by decide, by decide⟩ hY F (fun _ _ a ns hl _ hS => ⟨a, ns, rfl, hS, hl, fun _ => rfl⟩) fun _ _ _ _ _ z => z
end Gw
open PySem PySem.W PyProof.Rows
set_option maxRecDepth 100000 in
set_option maxHeartbeats 0 in
theorem PySem.Challenge.cw_gatewhole_k13_whole_made_holds : PySem.Challenge.rw_gatewhole_k13_whole_made.Holds := by
  w_on; o_law; k_head; (case hw => w_witness2)
  k_fill
  refine Gw.walk (l := PySem.Challenge.rw_gatewhole_k13_whole_made) rfl rfl (fun w h Y => PySem.W.kIn_of Y) ?F
  case F =>
    intro w mg fa h KX G hmg
    refine' Gw.all_mk KX G hmg ?a0 ?l0 ?c0 ?k0 ?a1 ?l1 ?c1 ?k1 ?a2 ?l2 ?c2 ?k2 ?a3 ?l3 ?c3 ?k3 ?a4 ?l4 ?c4 ?k4 ?a5 ?l5 ?c5 ?k5 ?a6 ?l6 ?c6 ?k6 ?a7 ?l7 ?c7 ?k7 ?a8 ?l8 ?c8 ?k8 ?a9 ?l9 ?c9 ?k9 ?a10 ?l10 ?c10 ?k10 ?a11 ?l11 ?c11 ?k11 ?a12 ?l12 ?c12 ?k12 ?a13 ?l13 ?c13 ?k13 ?a14 ?l14 ?c14 ?k14 ?a15 ?l15 ?c15 ?k15 ?a16 ?l16 ?c16 ?k16 ?a17 ?l17 ?c17 ?k17 ?a18 ?l18 ?c18 ?k18 ?a19 ?l19 ?c19 ?k19 ?a20 ?l20 ?c20 ?k20 ?a21 ?l21 ?c21 ?k21 ?a22 ?l22 ?c22 ?k22 ?a23 ?l23 ?c23 ?k23 ?a24 ?l24 ?c24 ?k24 ?a25 ?l25 ?c25 ?k25 ?eaGateError ?eaNoGate ?eaNoClass ?eaNoInputs ?eaNoFormula ?eaNoTable ?eaNotMade ?eaNoNote ?exGateError ?exNoGate ?esNoGate ?enNoGate ?xgNoGate ?xhNoGate ?xbNoGate ?xfNoGate ?xmNoGate ?xvNoGate ?xi0NoGate ?xi1NoGate ?xi2NoGate ?xi3NoGate ?xi4NoGate ?xi5NoGate ?xi6NoGate ?exNoTable ?esNoTable ?enNoTable ?xgNoTable ?xhNoTable ?xbNoTable ?xfNoTable ?xmNoTable ?xvNoTable ?xi0NoTable ?xi1NoTable ?xi2NoTable ?xi3NoTable ?xi4NoTable ?xi5NoTable ?xi6NoTable ?exNotMade ?esNotMade ?enNotMade ?xgNotMade ?xhNotMade ?xbNotMade ?xfNotMade ?xmNotMade ?xvNotMade ?xi0NotMade ?xi1NotMade ?xi2NotMade ?xi3NotMade ?xi4NotMade ?xi5NotMade ?xi6NotMade ?xsErr ?xtErr ?aCMakings ?pgMakings ?hdMakings ?poMakings ?saMakings ?mkMakings ?kcMakings ?naMakingsgates ?naMakingstables ?naMakingssteps ?ma0 ?mi0 ?ml0 ?mc0 ?mp0 ?ma1 ?mi1 ?ml1 ?mc1 ?mp1 ?ma2 ?mi2 ?ml2 ?mc2 ?mp2 ?gaLENGTHS ?glLENGTHS ?gaMOST_GATES ?gaWEIGHTS ?glWEIGHTS ?gaROWS ?gaALL_TABLES ?zValueError ?zbool ?zenumerate ?zint ?zisinstance ?zlen ?zlist ?zrange ?zsorted ?zsum ?ztuple ?zzip
    (case a0 => k_is)
    (case l0 => k_is)
    (case c0 => k_is)
    (case k0 => k_is)
    (case a1 => k_is)
    (case l1 => k_is)
    (case c1 => k_is)
    (case k1 => k_is)
    (case a2 => k_is)
    (case l2 => k_is)
    (case c2 => k_is)
    (case k2 => k_is)
    (case a3 => k_is)
    (case l3 => k_is)
    (case c3 => k_is)
    (case k3 => k_is)
    (case a4 => k_is)
    (case l4 => k_is)
    (case c4 => k_is)
    (case k4 => k_is)
    (case a5 => k_is)
    (case l5 => k_is)
    (case c5 => k_is)
    (case k5 => k_is)
    (case a6 => k_is)
    (case l6 => k_is)
    (case c6 => k_is)
    (case k6 => k_is)
    (case a7 => k_is)
    (case l7 => k_is)
    (case c7 => k_is)
    (case k7 => k_is)
    (case a8 => k_is)
    (case l8 => k_is)
    (case c8 => k_is)
    (case k8 => k_is)
    (case a9 => k_is)
    (case l9 => k_is)
    (case c9 => k_is)
    (case k9 => k_is)
    (case a10 => k_is)
    (case l10 => k_is)
    (case c10 => k_is)
    (case k10 => k_is)
    (case a11 => k_is)
    (case l11 => k_is)
    (case c11 => k_is)
    (case k11 => k_is)
    (case a12 => k_is)
    (case l12 => k_is)
    (case c12 => k_is)
    (case k12 => k_is)
    (case a13 => k_is)
    (case l13 => k_is)
    (case c13 => k_is)
    (case k13 => k_is)
    (case a14 => k_is)
    (case l14 => k_is)
    (case c14 => k_is)
    (case k14 => k_is)
    (case a15 => k_is)
    (case l15 => k_is)
    (case c15 => k_is)
    (case k15 => k_is)
    (case a16 => k_is)
    (case l16 => k_is)
    (case c16 => k_is)
    (case k16 => k_is)
    (case a17 => k_is)
    (case l17 => k_is)
    (case c17 => k_is)
    (case k17 => k_is)
    (case a18 => k_is)
    (case l18 => k_is)
    (case c18 => k_is)
    (case k18 => k_is)
    (case a19 => k_is)
    (case l19 => k_is)
    (case c19 => k_is)
    (case k19 => k_is)
    (case a20 => k_is)
    (case l20 => k_is)
    (case c20 => k_is)
    (case k20 => k_is)
    (case a21 => k_is)
    (case l21 => k_is)
    (case c21 => k_is)
    (case k21 => k_is)
    (case a22 => k_is)
    (case l22 => k_is)
    (case c22 => k_is)
    (case k22 => k_is)
    (case a23 => k_is)
    (case l23 => k_is)
    (case c23 => k_is)
    (case k23 => k_is)
    (case a24 => k_is)
    (case l24 => k_is)
    (case c24 => k_is)
    (case k24 => k_is)
    (case a25 => k_is)
    (case l25 => k_is)
    (case c25 => k_is)
    (case k25 => k_is)
    (case eaGateError => k_is)
    (case eaNoGate => k_is)
    (case eaNoClass => k_is)
    (case eaNoInputs => k_is)
    (case eaNoFormula => k_is)
    (case eaNoTable => k_is)
    (case eaNotMade => k_is)
    (case eaNoNote => k_is)
    (case exGateError => k_exc)
    (case exNoGate => k_exc)
    (case esNoGate => kit_is)
    (case enNoGate => decide)
    (case xgNoGate => k_is)
    (case xhNoGate => k_is)
    (case xbNoGate => k_is)
    (case xfNoGate => k_is)
    (case xmNoGate => k_is)
    (case xvNoGate => kit_is)
    (case xi0NoGate => kit_is)
    (case xi1NoGate => kit_is)
    (case xi2NoGate => kit_is)
    (case xi3NoGate => kit_is)
    (case xi4NoGate => kit_is)
    (case xi5NoGate => kit_is)
    (case xi6NoGate => kit_is)
    (case exNoTable => k_exc)
    (case esNoTable => kit_is)
    (case enNoTable => decide)
    (case xgNoTable => k_is)
    (case xhNoTable => k_is)
    (case xbNoTable => k_is)
    (case xfNoTable => k_is)
    (case xmNoTable => k_is)
    (case xvNoTable => kit_is)
    (case xi0NoTable => kit_is)
    (case xi1NoTable => kit_is)
    (case xi2NoTable => kit_is)
    (case xi3NoTable => kit_is)
    (case xi4NoTable => kit_is)
    (case xi5NoTable => kit_is)
    (case xi6NoTable => kit_is)
    (case exNotMade => k_exc)
    (case esNotMade => kit_is)
    (case enNotMade => decide)
    (case xgNotMade => k_is)
    (case xhNotMade => k_is)
    (case xbNotMade => k_is)
    (case xfNotMade => k_is)
    (case xmNotMade => k_is)
    (case xvNotMade => kit_is)
    (case xi0NotMade => kit_is)
    (case xi1NotMade => kit_is)
    (case xi2NotMade => kit_is)
    (case xi3NotMade => kit_is)
    (case xi4NotMade => kit_is)
    (case xi5NotMade => kit_is)
    (case xi6NotMade => kit_is)
    (case xsErr => k_is)
    (case xtErr => k_is)
    (case aCMakings => k_is)
    (case pgMakings => k_is)
    (case hdMakings => k_is)
    (case poMakings => k_is)
    (case saMakings => k_is)
    (case mkMakings => k_is)
    (case kcMakings => k_is)
    (case naMakingsgates => k_is)
    (case naMakingstables => k_is)
    (case naMakingssteps => k_is)
    (case ma0 => k_is)
    (case mi0 => k_is)
    (case ml0 => k_is)
    (case mc0 => k_is)
    (case mp0 => k_is)
    (case ma1 => k_is)
    (case mi1 => k_is)
    (case ml1 => k_is)
    (case mc1 => k_is)
    (case mp1 => k_is)
    (case ma2 => k_is)
    (case mi2 => k_is)
    (case ml2 => k_is)
    (case mc2 => k_is)
    (case mp2 => k_is)
    (case gaLENGTHS => k_is)
    (case glLENGTHS => k_is)
    (case gaMOST_GATES => k_is)
    (case gaWEIGHTS => k_is)
    (case glWEIGHTS => k_is)
    (case gaROWS => k_is)
    (case gaALL_TABLES => k_is)
    (case zValueError => k_is)
    (case zbool => k_is)
    (case zenumerate => k_is)
    (case zint => k_is)
    (case zisinstance => k_is)
    (case zlen => k_is)
    (case zlist => k_is)
    (case zrange => k_is)
    (case zsorted => k_is)
    (case zsum => k_is)
    (case ztuple => k_is)
    (case zzip => k_is)
