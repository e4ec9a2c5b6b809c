import PyProof.Rows.All
import Wide.All
import OpenK.AllK
import Wide.FinOn
import Lean
import PyProof.EqAt
import PyProof.EqKinds
import PyProof.TupleCall
import KE.KEqDeep
import PyProof.Rows.SortRuns
import KE.KRevIter
import PyProof.StrLawsTight
import PyProof.StrCalls2
import PyProof.Conv_int
import PySem.Challenge.RW_pourhall_k11_bodies_as_text
set_option bootstrap.genMatcherCode false
set_option compiler.extract_closed false
set_option Elab.async false
set_option linter.all false
set_option maxRecDepth 100000
namespace L2
open PySem PySem.Spec PyProof.Rows
noncomputable abbrev Key := Sum Int Str
noncomputable def keyIs : Key → Value → Bool
  | .inl k, v => Value.isInt k v
  | .inr x, v => Value.isStrOf x v
noncomputable def keyH (w : World) : Key → Int
  | .inl k => hashInt k
  | .inr x => hashStr w x
theorem keyIs_shape : ∀ {k : Key} {v : Value}, keyIs k v = true → (∃ i t, k = Sum.inl i ∧ v = Value.int i t) ∨ (∃ x t, k = Sum.inr x ∧ v = Value.str x t)
  | .inl i, v, h => by
    obtain ⟨t, e⟩ := Value.isInt_shape (k := i) (v := v) h
    exact .inl ⟨i, t, rfl, e⟩
  | .inr x, v, h => by
    obtain ⟨t, e⟩ := Value.isStrOf_shape (x := x) (v := v) h
    exact .inr ⟨x, t, rfl, e⟩
theorem keyIs_int (i : Int) (t : Tok) : keyIs (.inl i) (.int i t) = true := by simp [keyIs, Value.isInt]
theorem keyIs_str (x : Str) (t : Tok) : keyIs (.inr x) (.str x t) = true := by simp [keyIs, Value.isStrOf]
theorem key_ll (a b : Int) : decide ((Sum.inl a : Key) = Sum.inl b) = (a == b) := by
  by_cases e : a = b
  · subst e; simp
  · have h : ¬ (Sum.inl a : Key) = Sum.inl b := fun q => e (Sum.inl.inj q)
    rw [decide_eq_false h]
    exact (beq_eq_false_iff_ne.mpr e).symm
theorem key_rr (a b : Str) : decide ((Sum.inr a : Key) = Sum.inr b) = decide (a = b) := by
  by_cases e : a = b
  · subst e; simp
  · have h : ¬ (Sum.inr a : Key) = Sum.inr b := fun q => e (Sum.inr.inj q)
    rw [decide_eq_false h, decide_eq_false e]
theorem key_lr (a : Int) (b : Str) : decide ((Sum.inl a : Key) = Sum.inr b) = false := decide_eq_false (fun q => nomatch q)
theorem key_rl (a : Str) (b : Int) : decide ((Sum.inr a : Key) = Sum.inl b) = false := decide_eq_false (fun q => nomatch q)
noncomputable def mixKind (prog : Program) (w : World) : PySem.KeyKind prog w Key where
  is := keyIs
  hash := keyH w
  inj := fun v a b ha hb => by
    rcases keyIs_shape ha with ⟨i, t, rfl, rfl⟩ | ⟨x, t, rfl, rfl⟩
    · rcases keyIs_shape hb with ⟨j, u, rfl, e⟩ | ⟨y, u, rfl, e⟩
      · injection e with e1 _; rw [e1]
      · exact nomatch e
    · rcases keyIs_shape hb with ⟨j, u, rfl, e⟩ | ⟨y, u, rfl, e⟩
      · exact nomatch e
      · injection e with e1 _; rw [e1]
  byValue := fun k v h => by
    rcases keyIs_shape h with ⟨i, t, rfl, rfl⟩ | ⟨x, t, rfl, rfl⟩ <;> rfl
  pyHash := fun hv h => by
    rcases keyIs_shape hv with ⟨i, t, rfl, rfl⟩ | ⟨x, t, rfl, rfl⟩
    · exact wpAny_pyHash_int h
    · exact wpAny_pyHash_str h
  eqBool := fun hu hv h => by
    rcases keyIs_shape hu with ⟨i, t, rfl, rfl⟩ | ⟨x, t, rfl, rfl⟩
    · rcases keyIs_shape hv with ⟨j, u, rfl, rfl⟩ | ⟨y, u, rfl, rfl⟩
      · rw [key_ll] at h; exact wpAny_eqBool_int h
      · rw [key_lr] at h; exact SeqAt.EqAt.int_str i t y u _ _ _ _ h
    · rcases keyIs_shape hv with ⟨j, u, rfl, rfl⟩ | ⟨y, u, rfl, rfl⟩
      · rw [key_rl] at h; exact SeqAt.EqAt.str_int x t j u _ _ _ _ h
      · rw [key_rr] at h; exact wpAny_eqBool_str h
  «strs» := fun k x t v h => by
    rcases keyIs_shape h with ⟨i, u, rfl, e⟩ | ⟨y, u, rfl, e⟩
    · exact nomatch e
    · injection e with e1 _
      subst e1
      cases v <;> rfl
theorem mixKind_int (prog : Program) (w : World) (i : Int) (t : Tok) : (mixKind prog w).is (.inl i) (.int i t) = true := keyIs_int i t
theorem mixKind_str (prog : Program) (w : World) (x : Str) (t : Tok) : (mixKind prog w).is (.inr x) (.str x t) = true := keyIs_str x t
end L2
namespace L2
open PySem PySem.Spec PyProof.Rows
inductive V where
  | non | bl (b : Bool) | int (i : Int) | str (x : Str) | byt (b : Array UInt8) | flt (b : UInt64) | ref (a : Addr) | ty (n : String)
  deriving DecidableEq
noncomputable def RelV : V → Value → Prop
  | .non, u => u = Value.none
  | .bl b, u => u = Value.bool b
  | .int i, u => ∃ t, u = Value.int i t
  | .str x, u => ∃ t, u = Value.str x t
  | .byt b, u => ∃ t, u = Value.bytes b t
  | .flt b, u => ∃ t, u = Value.float b t
  | .ref a, u => u = Value.ref a
  | .ty n, u => u = Value.type n
noncomputable abbrev Vals : List V → List Value → Prop := Paired RelV
theorem Vals.length {xs : List V} {us : List Value} (r : Vals xs us) : xs.length = us.length := Paired.length r
theorem Vals.get : ∀ {xs : List V} {us : List Value} {i : Nat} {x : V}, Vals xs us → xs[i]? = some x → ∃ u, us[i]? = some u ∧ RelV x u
  | _, _, _, _, .nil, e => by simp at e
  | _, _, 0, _, .cons r _, e => by simp at e; subst e; exact ⟨_, rfl, r⟩
  | _, _, i + 1, x, .cons _ t, e => by
    obtain ⟨u, h1, h2⟩ := Vals.get (i := i) (x := x) t (by simpa using e)
    exact ⟨u, by simpa using h1, h2⟩
theorem Vals.append : ∀ {xs ys : List V} {us ws : List Value}, Vals xs us → Vals ys ws → Vals (xs ++ ys) (us ++ ws)
  | _, _, _, _, .nil, s => s
  | _, _, _, _, .cons r t, s => .cons r (Vals.append t s)
theorem Vals.take : ∀ {xs : List V} {us : List Value} (n : Nat), Vals xs us → Vals (xs.take n) (us.take n)
  | _, _, 0, _ => .nil
  | _, _, _ + 1, .nil => .nil
  | _, _, n + 1, .cons r t => .cons r (Vals.take n t)
theorem Vals.drop : ∀ {xs : List V} {us : List Value} (n : Nat), Vals xs us → Vals (xs.drop n) (us.drop n)
  | _, _, 0, r => r
  | _, _, _ + 1, .nil => .nil
  | _, _, n + 1, .cons _ t => Vals.drop n t
noncomputable def RelO : Option V → Option Value → Prop
  | some v, some u => RelV v u
  | none, none => True
  | _, _ => False
noncomputable def KV {κ : Type} : List (κ × V) → List (κ × Value) → Prop := Paired fun (p : κ × V) (q : κ × Value) => p.1 = q.1 ∧ RelV p.2 q.2
noncomputable def kV : Key → V
  | .inl i => .int i
  | .inr x => .str x
inductive HO where
  | lst (xs : List V)
  | tup (xs : List V)
  | dK (kvs : List (Key × V)) | dT (kvs : List (List Key × V))
  | set (S : Int → Bool) (n : Nat)
  | ins (C dx : Addr) (fs : List (Str × V))
  | own (x : Addr)
  | xd (fs : List (Str × V))
  | met (f x : Addr)
  | rng (lo hi : Int)
  | frz (o : Obj) (u : HO)
  | tbl (ps : Array Value)
  | ext (φ : Heap → Prop)
noncomputable abbrev Hp := Addr → Option HO
noncomputable def upd (H : Hp) (a : Addr) (o : HO) : Hp := fun b => if b = a then some o else H b
theorem upd_same {H : Hp} {a : Addr} {o : HO} : upd H a o a = some o := by unfold upd; rw [if_pos rfl]
theorem upd_ne {H : Hp} {a b : Addr} {o : HO} (h : b ≠ a) : upd H a o b = H b := by unfold upd; rw [if_neg h]
theorem ne_of {H : Hp} {a b : Addr} {o u : HO} (h : H a = some o) (h' : H b = some u) (d : o ≠ u) : a ≠ b := by
  intro e; subst e; rw [h] at h'; exact d (Option.some.inj h')
theorem ne_of_none {H : Hp} {a b : Addr} {o : HO} (h : H a = some o) (h' : H b = none) : a ≠ b := by
  intro e; subst e; rw [h] at h'; cases h'
section
variable (P : Program) (w : World)
noncomputable def ObjOk (H : Hp) (h : Heap) (a : Addr) : HO → Prop
  | .lst xs => xs.length ≤ sizeLine ∧ ∃ (its : List Value) (n : Nat), Vals xs its ∧ h.get? a = some { cls := .type "list", data := .seq its.toArray n }
  | .tup xs => xs.length ≤ sizeLine ∧ ∃ its : List Value, Vals xs its ∧ IsTup h a its.toArray
  | .dK kvs => kvs.length ≤ sizeLine ∧ (a == sysModules) = false ∧ ∃ vs, KV kvs vs ∧ h.DictOf (mixKind P w) a vs
  | .dT kvs => kvs.length ≤ sizeLine ∧ (a == sysModules) = false ∧ ∃ xs : List (List Key × Addr × Value),
      Paired (fun (p : List Key × V) (q : List Key × Addr × Value) => p.1 = q.1 ∧ H q.2.1 = some (.tup (p.1.map kV)) ∧ RelV p.2 q.2.2) kvs xs ∧
      ∃ o es ep, h.get? a = some o ∧ o.ExactDict ∧ o.data = .dict es ep ∧ es.toList = xs.map (entryOfKey (tupleKind (mixKind P w))) ∧ (xs.map (·.1)).Nodup
  | .set S n => h.SetOf (intKind P w) a S n
  | .ins C dx fs => H dx = some (.own a) ∧ fs.length ≤ 1000 ∧ dx ≠ a ∧ h.get? a = some (PySem.W.instObj C dx) ∧
      ∃ mA, h.Ns1 dx mA ∧ (∀ f, RelO (fs.lookup f) (mA f)) ∧ PySem.Within mA (fs.map (·.1))
  | .own _ => ∃ o, h.get? a = some o
  | .xd fs => ∃ mA, h.Ns1 a mA ∧ ∀ f, RelO (fs.lookup f) (mA f)
  | .rng lo hi => ∃ t u v, h.get? a = some { cls := .type "range", data := .fields #[.int lo t, .int hi u, .int 1 v] }
  | .frz o u => h.get? a = some o ∧ ObjOk H h a u
  | .tbl ps => h.get? a = some { cls := .none, data := .fields ps }
  | .met f x => h.get? a = some (PySem.W.methodObj (.ref f) (.ref x))
  | .ext φ => φ h ∧ (∃ o, h.get? a = some o) ∧ ∀ h1 h2 : Heap, φ h1 → (∀ o, h1.get? a = some o → h2.get? a = some o) → φ h2
noncomputable def HOk (H : Hp) (h : Heap) : Prop := ∀ a o, H a = some o → ObjOk P w H h a o
end
section
variable {P : Program} {w : World} {H H' : Hp} {h h' : Heap} {a : Addr} {o : HO}
theorem ObjOk.lt (x : ObjOk P w H h a o) : a < h.objs.size := by
  cases o with
  | lst xs => obtain ⟨_, _, _, _, e⟩ := x; exact Heap.lt_size e
  | tup xs => obtain ⟨_, _, _, p⟩ := x; exact p.lt
  | dK kvs => obtain ⟨_, _, _, _, o, _, _, e, _⟩ := x; exact Heap.lt_size e
  | dT kvs => obtain ⟨_, _, _, _, o, _, _, e, _⟩ := x; exact Heap.lt_size e
  | set S n => obtain ⟨o, _, _, _, e, _⟩ := x; exact Heap.lt_size e
  | ins C dx fs => obtain ⟨_, _, _, e, _⟩ := x; exact Heap.lt_size e
  | own y => obtain ⟨_, e⟩ := x; exact Heap.lt_size e
  | xd fs => obtain ⟨_, ⟨_, _, _, e, _⟩, _⟩ := x; exact Heap.lt_size e
  | rng lo hi => obtain ⟨_, _, _, e⟩ := x; exact Heap.lt_size e
  | frz ob u => obtain ⟨e, _⟩ := x; exact Heap.lt_size e
  | tbl ps => exact Heap.lt_size (show h.get? a = some _ from x)
  | met f y => exact Heap.lt_size (show h.get? a = some _ from x)
  | ext φ => obtain ⟨_, ⟨_, e⟩, _⟩ := x; exact Heap.lt_size e
theorem Paired.mapP {α β : Type} {F G : α → β → Prop} : ∀ {l₁ : List α} {l₂ : List β}, Paired F l₁ l₂ → (∀ a b, F a b → G a b) → Paired G l₁ l₂
  | _, _, .nil, _ => .nil
  | _, _, .cons r t, f => .cons (f _ _ r) (Paired.mapP t f)
theorem ObjOk.stay (x : ObjOk P w H h a o) (k : ∀ b u, (b = a ∨ H b = some (.own a)) → h.get? b = some u → h'.get? b = some u)
    (ho : ∀ b, H b = some (.own a) → H' b = some (.own a)) (ht : ∀ b xs, H b = some (.tup xs) → H' b = some (.tup xs)) : ObjOk P w H' h' a o := by
  induction o with
  | lst xs => obtain ⟨z, its, n, r, e⟩ := x; exact ⟨z, its, n, r, k _ _ (.inl rfl) e⟩
  | tup xs => obtain ⟨z, its, r, ob, e, c⟩ := x; exact ⟨z, its, r, ob, k _ _ (.inl rfl) e, c⟩
  | dK kvs => obtain ⟨z, y, vs, r, ob, es, ep, e, c⟩ := x; exact ⟨z, y, vs, r, ob, es, ep, k _ _ (.inl rfl) e, c⟩
  | dT kvs =>
    obtain ⟨z, y, xs, r, ob, es, ep, e, c⟩ := x
    exact ⟨z, y, xs, Paired.mapP r fun p q z => ⟨z.1, ht _ _ z.2.1, z.2.2⟩, ob, es, ep, k _ _ (.inl rfl) e, c⟩
  | set S n => obtain ⟨ob, es, ep, t, e, c⟩ := x; exact ⟨ob, es, ep, t, k _ _ (.inl rfl) e, c⟩
  | ins C dx fs =>
    obtain ⟨d, z, ne, e, mA, ⟨od, es, ep, e2, c⟩, r⟩ := x
    exact ⟨ho _ d, z, ne, k _ _ (.inl rfl) e, mA, ⟨od, es, ep, k _ _ (.inr d) e2, c⟩, r⟩
  | own y => obtain ⟨ob, e⟩ := x; exact ⟨ob, k _ _ (.inl rfl) e⟩
  | xd fs => obtain ⟨mA, ⟨od, es, ep, e, c⟩, r⟩ := x; exact ⟨mA, ⟨od, es, ep, k _ _ (.inl rfl) e, c⟩, r⟩
  | rng lo hi => obtain ⟨t, u, v, e⟩ := x; exact ⟨t, u, v, k _ _ (.inl rfl) e⟩
  | frz ob u ih => obtain ⟨e, q⟩ := x; exact ⟨k _ _ (.inl rfl) e, ih q⟩
  | tbl ps =>
    have e : h.get? a = some { cls := .none, data := .fields ps } := x
    show h'.get? a = some { cls := .none, data := .fields ps }
    exact k a _ (.inl rfl) e
  | met f y =>
    have e : h.get? a = some (PySem.W.methodObj (.ref f) (.ref y)) := x
    show h'.get? a = some (PySem.W.methodObj (.ref f) (.ref y))
    exact k a _ (.inl rfl) e
  | ext φ => obtain ⟨p, ⟨o, e⟩, st⟩ := x; exact ⟨st _ _ p fun o q => k _ _ (.inl rfl) q, ⟨o, k _ _ (.inl rfl) e⟩, st⟩
theorem HOk.lt (x : HOk P w H h) (e : H a = some o) : a < h.objs.size := (x a o e).lt
theorem HOk.fresh (x : HOk P w H h) (e : h.objs.size ≤ a) : H a = none := by
  cases q : H a with
  | none => rfl
  | some u => exact absurd (Nat.lt_of_lt_of_le (x.lt q) e) (Nat.lt_irrefl _)
theorem HOk.kept (x : HOk P w H h) (k : ∀ b u, h.get? b = some u → h'.get? b = some u) : HOk P w H h' := fun a o e =>
  (x a o e).stay (fun b u _ q => k b u q) (fun _ q => q) fun _ _ q => q
theorem HOk.laid (x : HOk P w H h) (k : ∀ b u, h.get? b = some u → h'.get? b = some u) (hp : h.objs.size ≤ a) (new : ObjOk P w (upd H a o) h' a o) : HOk P w (upd H a o) h' := fun b u e => by
  have hn := x.fresh hp
  by_cases hb : b = a
  · subst hb; rw [upd_same] at e; cases e; exact new
  · rw [upd_ne hb] at e
    exact (x b u e).stay (fun c v _ q => k c v q) (fun c q => by rw [upd_ne (ne_of_none q hn)]; exact q) fun c xs q => by rw [upd_ne (ne_of_none q hn)]; exact q
end
noncomputable def Rd (H : Hp) (a : Addr) (u : HO) : Prop := H a = some u ∨ ∃ o, H a = some (.frz o u)
theorem Rd.ok {P : Program} {w : World} {H : Hp} {h : Heap} {a : Addr} {u : HO} (r : Rd H a u) (x : HOk P w H h) : ObjOk P w H h a u := by
  rcases r with r | ⟨o, r⟩
  · exact x a u r
  · obtain ⟨_, q⟩ := x a _ r
    exact q
noncomputable def Mut : Option HO → Prop
  | some (.lst _) => True
  | some (.dK _) => True
  | some (.dT _) => True
  | some (.set _ _) => True
  | some (.ins _ _ _) => True
  | some (.ext _) => True
  | _ => False
section
variable {P : Program} {w : World} {H : Hp} {h h' : Heap} {x e : Addr} {o' : HO}
theorem HOk.write (ok : HOk P w H h) (mu : Mut (H x)) (he : e = x ∨ H e = some (.own x)) (k : ∀ b u, b ≠ e → h.get? b = some u → h'.get? b = some u) (heo : ∃ u, h'.get? e = some u)
    (new : ObjOk P w (upd H x o') h' x o') : HOk P w (upd H x o') h' := fun b u q => by
  have nown : ∀ c y, H c = some (.own y) → c ≠ x := fun c y r z => by subst z; rw [r] at mu; exact mu
  have ntup : ∀ c xs, H c = some (.tup xs) → c ≠ x := fun c xs r z => by subst z; rw [r] at mu; exact mu
  by_cases hb : b = x
  · subst hb; rw [upd_same] at q; cases q; exact new
  · rw [upd_ne hb] at q
    by_cases hbe : b = e
    · have q' : H b = some (.own x) := by
        rcases he with z | z
        · exact absurd (hbe.trans z) hb
        · rw [hbe]; exact z
      rw [q] at q'; cases q'
      obtain ⟨v, hv⟩ := heo
      exact ⟨v, by rw [hbe]; exact hv⟩
    · refine (ok b u q).stay (fun c v hc r => k c v ?_ r) (fun c r => by rw [upd_ne (nown c b r)]; exact r) fun c xs r => by rw [upd_ne (ntup c xs r)]; exact r
      rcases hc with rfl | hc
      · exact hbe
      · rintro rfl
        rcases he with z | z
        · exact nown c b hc z
        · rw [hc] at z; cases z; exact hb rfl
end
structure Un (fs ex : List Addr) (H H' : Hp) (h h' : Heap) : Prop where
  keep : ∀ b o, h.get? b = some o → H b = none → b ∉ fs → b ∉ ex → h'.get? b = some o
  slot : ∀ b o, h.get? b = some o → H b = none → b ∈ fs → b ∉ ex → ∃ sl, h'.get? b = some { o with slots := sl }
  free : ∀ b o, h.get? b = some o → H b = none → b ∉ ex → H' b = none
  there : ∀ b o, h.get? b = some o → b ∉ ex → ∃ o', h'.get? b = some o'
  tups : ∀ b xs, H b = some (.tup xs) → H' b = some (.tup xs)
  frzs : ∀ b o u, H b = some (.frz o u) → H' b = some (.frz o u)
  tbls : ∀ b ps, H b = some (.tbl ps) → ∃ more, H' b = some (.tbl (ps ++ more))
section
variable {fs fs' ex ex' : List Addr} {H H1 H2 : Hp} {h h1 h2 h' : Heap} {a x e : Addr} {o : HO}
theorem Un.any (u : Un fs ex H H1 h h1) {b : Addr} {ob : Obj} (q : h.get? b = some ob) (n : H b = none) (hx : b ∉ ex) : ∃ sl, h1.get? b = some { ob with slots := sl } := by
  by_cases hb : b ∈ fs
  · exact u.slot b ob q n hb hx
  · exact ⟨ob.slots, u.keep b ob q n hb hx⟩
theorem Un.kept (k : ∀ b u, h.get? b = some u → h'.get? b = some u) : Un fs ex H H h h' :=
  ⟨fun b ob q _ _ _ => k b ob q, fun b ob q _ _ _ => ⟨ob.slots, k b ob q⟩, fun _ _ _ n _ => n, fun b ob q _ => ⟨ob, k b ob q⟩, fun _ _ q => q, fun _ _ _ q => q, fun _ ps q => ⟨#[], by rw [q]; simp⟩⟩
theorem Un.refl : Un fs ex H H h h := Un.kept fun _ _ q => q
theorem Un.laid (k : ∀ b u, h.get? b = some u → h'.get? b = some u) (hp : h.objs.size ≤ a) (hn : H a = none) : Un fs ex H (upd H a o) h h' where
  keep := fun b u q _ _ _ => k b u q
  slot := fun b u q _ _ _ => ⟨u.slots, k b u q⟩
  free := fun b u q n _ => by rw [upd_ne (Nat.ne_of_lt (Nat.lt_of_lt_of_le (Heap.lt_size q) hp))]; exact n
  there := fun b u q _ => ⟨u, k b u q⟩
  tups := fun b xs q => by rw [upd_ne (ne_of_none q hn)]; exact q
  frzs := fun b u xs q => by rw [upd_ne (ne_of_none q hn)]; exact q
  tbls := fun b ps q => ⟨#[], by rw [upd_ne (ne_of_none q hn), q]; simp⟩
theorem Un.write (mu : Mut (H x)) (he : e = x ∨ H e = some (.own x)) (k : ∀ b u, b ≠ e → h.get? b = some u → h'.get? b = some u) (heo : ∃ u, h'.get? e = some u) : Un fs ex H (upd H x o) h h' := by
  have hx : ∀ b, H b = none → b ≠ x := fun b n z => by subst z; rw [n] at mu; exact mu
  have hb : ∀ b, H b = none → b ≠ e := fun b n z => by
    subst z
    rcases he with r | r
    · exact hx b n r
    · rw [n] at r; cases r
  have hm : ∀ b u, H b = some u → ¬ Mut (some u) → b ≠ x := fun b u q nm z => by subst z; rw [q] at mu; exact nm mu
  refine ⟨fun b u q n _ _ => k b u (hb b n) q, fun b u q n _ _ => ⟨u.slots, k b u (hb b n) q⟩, fun b u q n _ => by rw [upd_ne (hx b n)]; exact n, fun b u q _ => ?_,
    fun b xs q => by rw [upd_ne (hm b _ q fun z => z)]; exact q, fun b u xs q => by rw [upd_ne (hm b _ q fun z => z)]; exact q, fun b ps q => ⟨#[], by rw [upd_ne (hm b _ q fun z => z), q]; simp⟩⟩
  by_cases hbe : b = e
  · subst hbe; exact heo
  · exact ⟨u, k b u hbe q⟩
end
noncomputable def trk (h : Heap) (H : Hp) : List Addr := (List.range h.objs.size).filter fun a => (H a).isSome
noncomputable def hidT (h : Heap) (H : Hp) : Heap := PySem.W.hideAll h (trk h H)
theorem hidT_size (h : Heap) (H : Hp) : (hidT h H).objs.size = h.objs.size := PySem.W.hideAll_size _ _
theorem hidT_get {h : Heap} {H : Hp} {b : Addr} {o : Obj} (e : h.get? b = some o) (n : H b = none) : (hidT h H).get? b = some o :=
  PySem.W.hideAll_get _ e fun hm => by
    have q : (H b).isSome = true := (List.mem_filter.mp hm).2
    rw [n] at q; simp at q
theorem of_hidT {h : Heap} {H : Hp} {b : Addr} {o : Obj} (e : (hidT h H).get? b = some o) : h.get? b = some o ∧ H b = none := by
  have e' : h.get? b = some o := PySem.W.of_hideAll (trk h H) e
  refine ⟨e', ?_⟩
  cases q : H b with
  | none => rfl
  | some x =>
    have hm : b ∈ trk h H := List.mem_filter.mpr ⟨List.mem_range.mpr (Heap.lt_size e'), by simp [q]⟩
    have z : (hidT h H).get? b = none := PySem.W.hideAll_none (trk h H) hm
    rw [z] at e; cases e
noncomputable def allNews (g h : Heap) (L : Addr) : List (Addr × Obj) := (List.range h.objs.size).filterMap fun a => if a = L ∨ (g.get? a).isSome = true then none else (h.get? a).map fun o => (a, o)
noncomputable def rest (g h : Heap) (L d : Addr) : List (Addr × Obj) := (allNews g h L).filter fun p => decide (p.1 ≠ d)
end L2
namespace L2
open PySem PySem.Spec PyProof.Rows
structure Mod (K : PySem.W.Frag) (mg : Str → Option Value) (base : Heap) : Prop where
  kin : K.In base
  glob : base.Ns mainGlobals mg
  blt : ∃ mb, base.Ns builtinsNs mb ∧ ∀ x : Str, x ≠ "__name__" → mb x = bootBuiltins x
  nolimit : base.NoLimit
set_option genInjectivity false in
set_option genSizeOf false in
structure Cx where
  prog : Program
  w : World
  K : PySem.W.Frag
  mg : Str → Option Value
  base : Heap
  A : Around
  N : List Str
  s₀ : Shared
  H₀ : Hp
  env : Env
  outer : List Env
  stack : List Env
  ex : List Addr
  fn : Str → Bool
  calm : Bool
  pn : List (Addr × Obj)
  xe : Value → Shared → Prop
noncomputable def frs (l : List Env) : List Addr := l.filterMap (·.frame)
noncomputable abbrev Cx.fs (X : Cx) : List Addr := frs X.outer
noncomputable def Vis (sc : Scope) (x : Str) : Prop := sc.names.lookup x = some .local ∨ sc.names.lookup x = some .cell ∨ sc.names.lookup x = some .free
noncomputable def Loc (sc : Scope) (x : Str) : Prop := sc.names.lookup x = some .local ∨ sc.names.lookup x = some .cell
noncomputable def Look (env : Env) (h : Heap) (m : Str → Option Value) (x : Str) (u : Value) : Prop :=
  (env.kindOf x = some .local ∧ m x = some u) ∨ ((env.kindOf x = some .cell ∨ env.kindOf x = some .free) ∧ ∃ c, env.cells.lookup x = some c ∧ h.IsCell c (some u))
structure Cx.Ok (X : Cx) : Prop where
  mod : Mod X.K X.mg X.base
  kind : X.env.scope.kind = .function
  glob : X.env.globals = mainGlobals
  blt : X.env.builtins = builtinsNs
  above : X.s₀.heap.objs.size ≤ X.env.locals
  inj : ∀ x y c, X.env.cells.lookup x = some c → X.env.cells.lookup y = some c → x = y
  has : ∀ x, (X.env.kindOf x = some .cell ∨ X.env.kindOf x = some .free) → ∃ c, X.env.cells.lookup x = some c
  cab : ∀ x c, X.fn x = true → X.env.cells.lookup x = some c → X.s₀.heap.objs.size ≤ c
  hd : X.calm = true → X.A.handled = none
  frames : X.A.frames = some X.stack
  stk : X.stack = X.outer ∨ (X.stack = X.env :: X.outer ∧ X.env.frame = some X.env.locals)
  exf : ∀ b ∈ X.ex, b ≠ X.env.locals ∧ ∀ x c, X.env.cells.lookup x = some c → c ≠ b
  bs : ∀ b o, X.base.get? b = some o → X.s₀.heap.get? b = some o ∧ X.H₀ b = none
  bsz : X.base.objs.size ≤ X.s₀.heap.objs.size
  noex : ∀ b o, X.base.get? b = some o → b ∉ X.ex
  exfs : ∀ b ∈ X.ex, b ∉ X.fs
  funs : X.s₀.heap.FunFrames X.base X.outer
  frf : ∀ b ∈ X.fs, X.H₀ b = none
structure Inv (X : Cx) (pins : List (Addr × Obj)) (σ : List (Option V)) (H : Hp) (s : Shared) : Prop where
  ok : X.Ok
  os : s.os = X.s₀.os
  bare : AllBare s.gens
  base : Un X.fs X.ex X.H₀ H X.s₀.heap s.heap
  loc : ∃ m, s.heap.Ns X.env.locals m ∧ ∀ (i : Nat) (x : Str) (v : V), X.N[i]? = some x → σ[i]? = some (some v) → Vis X.env.scope x → ∃ u, RelV v u ∧ Look X.env s.heap m x u
  cell : ∀ x c, X.env.cells.lookup x = some c → ∃ v, s.heap.IsCell c v
  free : H X.env.locals = none
  freeC : ∀ x c, X.env.cells.lookup x = some c → H c = none
  pin : ∀ p ∈ X.pn ++ pins, s.heap.get? p.1 = some p.2 ∧ H p.1 = none ∧ p.1 ≠ X.env.locals ∧ p.1 ∉ X.fs ∧ ∀ v, p.2.data ≠ .cell v
  hok : HOk X.prog X.w H s.heap
  len : σ.length = X.N.length
section
variable {X : Cx} {pins : List (Addr × Obj)} {σ : List (Option V)} {H H' : Hp} {s : Shared} {h' : Heap}
theorem Cx.Ok.nofr (ok : X.Ok) {b : Addr} {o : Obj} (e : X.base.get? b = some o) : b ∉ X.fs := fun hb => by
  have := (ok.funs.mem hb).1
  rw [e] at this; cases this
theorem Inv.bs (I : Inv X pins σ H s) : ∀ b o, X.base.get? b = some o → s.heap.get? b = some o ∧ H b = none := fun b o e =>
  ⟨I.base.keep b o (I.ok.bs b o e).1 (I.ok.bs b o e).2 (I.ok.nofr e) (I.ok.noex b o e), I.base.free b o (I.ok.bs b o e).1 (I.ok.bs b o e).2 (I.ok.noex b o e)⟩
theorem Inv.bk (I : Inv X pins σ H s) : ∀ b o, X.base.get? b = some o → s.heap.get? b = some o := fun b o e => (I.bs b o e).1
theorem Inv.mod (I : Inv X pins σ H s) : Mod X.K X.mg X.base := I.ok.mod
theorem Inv.kIn (I : Inv X pins σ H s) : X.K.In s.heap := I.ok.mod.kin.keeps I.bk
theorem Inv.fr (I : Inv X pins σ H s) : ∃ m, Fr X.base X.env.locals s.heap m :=
  let ⟨m, hn, _⟩ := I.loc
  ⟨m, hn, I.bk, Nat.le_trans I.ok.bsz I.ok.above⟩
theorem Inv.lt (I : Inv X pins σ H s) : X.env.locals < s.heap.objs.size := let ⟨_, hn, _⟩ := I.loc; hn.lt
theorem Inv.sz (I : Inv X pins σ H s) : X.s₀.heap.objs.size ≤ s.heap.objs.size := Nat.le_trans I.ok.above (Nat.le_of_lt I.lt)
theorem Inv.nofs (I : Inv X pins σ H s) {a : Addr} (h : s.heap.objs.size ≤ a) : a ∉ X.fs := fun hb => by
  obtain ⟨_, o, ho, _⟩ := I.ok.funs.mem hb
  exact absurd (Nat.lt_of_lt_of_le (Heap.lt_size ho) (Nat.le_trans I.sz h)) (Nat.lt_irrefl _)
theorem Inv.cne (I : Inv X pins σ H s) : ∀ x c, X.env.cells.lookup x = some c → c ≠ X.env.locals := fun x c e z => by
  obtain ⟨v, o, ho, hd⟩ := I.cell x c e
  obtain ⟨m, ⟨o', es, ep, ho', hd', _⟩, _⟩ := I.loc
  rw [z, ho'] at ho; cases ho; rw [hd'] at hd; cases hd
theorem Inv.funs (I : Inv X pins σ H s) : s.heap.FunFrames X.base X.outer := by
  have all : ∀ (l : List Env), (∀ b ∈ frs l, b ∈ X.fs) → X.s₀.heap.FunFrames X.base l → s.heap.FunFrames X.base l := by
    intro l
    induction l with
    | nil => intro _ _; trivial
    | cons env r ih =>
      intro hs hl
      obtain ⟨hk, ⟨L, o, hf, hn, ho, hd⟩, hr⟩ := hl
      have hL : L ∈ X.fs := hs L (by unfold frs; rw [List.filterMap_cons, hf]; exact List.mem_cons_self)
      obtain ⟨sl, e⟩ := I.base.slot L o ho (I.ok.frf L hL) hL fun z => I.ok.exfs L z hL
      exact ⟨hk, ⟨L, _, hf, hn, e, hd⟩, ih (fun b hb => hs b (by unfold frs; rw [List.filterMap_cons, hf]; exact List.mem_cons_of_mem _ hb)) hr⟩
  exact all X.outer (fun _ hb => hb) I.ok.funs
theorem Inv.stack (I : Inv X pins σ H s) : s.heap.FunFrames X.base X.stack := by
  rcases I.ok.stk with e | ⟨e, hf⟩
  · rw [e]; exact I.funs
  · rw [e]
    obtain ⟨m, hn, _⟩ := I.loc
    refine .cons (by rw [I.ok.kind]; decide) hf hn ?_ I.funs
    exact Heap.get?_none_of_le (Nat.le_trans I.ok.bsz I.ok.above)
theorem Inv.stkSub (I : Inv X pins σ H s) : ∀ b ∈ frs X.stack, b ∈ X.env.locals :: X.fs := fun b hb => by
  rcases I.ok.stk with e | ⟨e, hf⟩
  · rw [e] at hb; exact List.mem_cons_of_mem _ hb
  · rw [e] at hb
    unfold frs at hb
    rw [List.filterMap_cons, hf] at hb
    exact hb
theorem Inv.stkFree (I : Inv X pins σ H s) : ∀ b ∈ frs X.stack, H b = none := fun b hb => by
  rcases List.mem_cons.mp (I.stkSub b hb) with e | hb
  · rw [e]; exact I.free
  · obtain ⟨_, o, ho, _⟩ := I.ok.funs.mem hb
    exact I.base.free b o ho (I.ok.frf b hb) fun z => I.ok.exfs b z hb
theorem Inv.step {g' : Array GenState} {t' : Nat} {d' : Drawn} {ch : List Addr} (I : Inv X pins σ H s)
    (hch : ∀ b ∈ ch, (b ∈ X.ex ∨ X.s₀.heap.objs.size ≤ b) ∧ b ≠ X.env.locals ∧ (∀ x c, X.env.cells.lookup x = some c → c ≠ b) ∧ ∀ p ∈ X.pn ++ pins, p.1 ≠ b)
    (keep : ∀ b o, b ≠ X.env.locals → b ∉ X.fs → b ∉ ch → s.heap.get? b = some o → H b = none → h'.get? b = some o)
    (slot : ∀ b o, b ≠ X.env.locals → b ∈ X.fs → b ∉ ch → s.heap.get? b = some o → H b = none → ∃ sl, h'.get? b = some { o with slots := sl }) (free : ∀ b o, b ∉ ch → s.heap.get? b = some o → H b = none → H' b = none)
    (there : ∀ b o, b ∉ ch → s.heap.get? b = some o → ∃ o', h'.get? b = some o')
    (tups : ∀ b xs, H b = some (.tup xs) → H' b = some (.tup xs)) (frzs : ∀ b o u, H b = some (.frz o u) → H' b = some (.frz o u)) (tbls : ∀ b ps, H b = some (.tbl ps) → ∃ more, H' b = some (.tbl (ps ++ more)))
    (ns : ∀ m, s.heap.Ns X.env.locals m → h'.Ns X.env.locals m) (hok : HOk X.prog X.w H' h') (hg : AllBare g') :
    Inv X pins σ H' { s with heap := h', gens := g', drawn := d', toks := t' } := by
  have neL : ∀ b o, X.s₀.heap.get? b = some o → b ≠ X.env.locals := fun b o e => Nat.ne_of_lt (Nat.lt_of_lt_of_le (Heap.lt_size e) I.ok.above)
  have neC : ∀ b o, X.s₀.heap.get? b = some o → b ∉ X.ex → b ∉ ch := fun b o e hx hb => by
    rcases (hch b hb).1 with z | z
    · exact hx z
    · exact absurd (Nat.lt_of_lt_of_le (Heap.lt_size e) z) (Nat.lt_irrefl _)
  have cellK : ∀ x c, X.env.cells.lookup x = some c → ∀ v, s.heap.IsCell c v → h'.IsCell c v := fun x c e v ⟨o, ho, hd⟩ => by
    have nch : c ∉ ch := fun z => (hch c z).2.2.1 x c e rfl
    by_cases hc : c ∈ X.fs
    · obtain ⟨sl, q⟩ := slot c o (I.cne x c e) hc nch ho (I.freeC x c e)
      exact ⟨_, q, hd⟩
    · exact ⟨o, keep c o (I.cne x c e) hc nch ho (I.freeC x c e), hd⟩
  refine ⟨I.ok, I.os, hg, ⟨fun b o e n hb hx => ?_, fun b o e n hb hx => ?_, fun b o e n hx => ?_, fun b o e hx => ?_, fun b xs e => tups b xs (I.base.tups b xs e), fun b o xs e => frzs b o xs (I.base.frzs b o xs e), fun b ps e => ?_⟩, ?_, fun x c e => ?_, ?_, fun x c e => ?_, fun p hp => ?_, hok, I.len⟩
  · exact keep b o (neL b o e) hb (neC b o e hx) (I.base.keep b o e n hb hx) (I.base.free b o e n hx)
  · obtain ⟨sl, e1⟩ := I.base.slot b o e n hb hx
    obtain ⟨sl', e2⟩ := slot b _ (neL b o e) hb (neC b o e hx) e1 (I.base.free b o e n hx)
    exact ⟨sl', e2⟩
  · obtain ⟨o', e1⟩ := I.base.there b o e hx
    exact free b o' (neC b o e hx) e1 (I.base.free b o e n hx)
  · obtain ⟨o', e1⟩ := I.base.there b o e hx
    exact there b o' (neC b o e hx) e1
  · obtain ⟨m1, e1⟩ := I.base.tbls b ps e
    obtain ⟨m2, e2⟩ := tbls b _ e1
    exact ⟨m1 ++ m2, by rw [e2, Array.append_assoc]⟩
  · obtain ⟨m, hn, hl⟩ := I.loc
    refine ⟨m, ns m hn, fun i x v e1 e2 e3 => ?_⟩
    obtain ⟨u, r, l⟩ := hl i x v e1 e2 e3
    refine ⟨u, r, ?_⟩
    rcases l with l | ⟨k, c, e, z⟩
    · exact .inl l
    · exact .inr ⟨k, c, e, cellK x c e _ z⟩
  · obtain ⟨v, z⟩ := I.cell x c e
    exact ⟨v, cellK x c e v z⟩
  · obtain ⟨m, ⟨o, _, _, ho, _⟩, _⟩ := I.loc
    exact free _ o (fun z => (hch _ z).2.1 rfl) ho I.free
  · obtain ⟨v, o, ho, hd⟩ := I.cell x c e
    exact free c o (fun z => (hch c z).2.2.1 x c e rfl) ho (I.freeC x c e)
  · obtain ⟨e, n, ne, nf, d⟩ := I.pin p hp
    have nch : p.1 ∉ ch := fun z => (hch p.1 z).2.2.2 p hp rfl
    exact ⟨keep p.1 p.2 ne nf nch e n, free p.1 p.2 nch e n, ne, nf, d⟩
theorem Inv.un {t' : Nat} (I : Inv X pins σ H s) (u : Un X.fs [] H H' s.heap h') (hok : HOk X.prog X.w H' h') : Inv X pins σ H' { s with heap := h', toks := t' } := by
  obtain ⟨m, ⟨o, es, ep, ho, r⟩, _⟩ := id I.loc
  obtain ⟨sl, hL⟩ := u.any ho I.free (by simp)
  exact I.step (g' := s.gens) (d' := s.drawn) (ch := []) (fun _ z => nomatch z) (fun b o _ hb _ e n => u.keep b o e n hb (by simp)) (fun b o _ hb _ e n => u.slot b o e n hb (by simp)) (fun b o _ e n => u.free b o e n (by simp)) (fun b o _ e => u.there b o e (by simp)) u.tups u.frzs u.tbls (fun m' hm => by
    obtain ⟨o', es', ep', ho', r'⟩ := hm
    rw [ho] at ho'; cases ho'
    exact ⟨_, es', ep', hL, r'⟩) hok I.bare
theorem Inv.call {g' : Array GenState} {t' : Nat} {d' : Drawn} {ch : List Addr} (I : Inv X pins σ H s) (u : Un (frs X.stack) ch H H' s.heap h') (hok : HOk X.prog X.w H' h') (hg : AllBare g')
    (hch : ∀ b ∈ ch, (b ∈ X.ex ∨ X.s₀.heap.objs.size ≤ b) ∧ b ≠ X.env.locals ∧ (∀ x c, X.env.cells.lookup x = some c → c ≠ b) ∧ ∀ p ∈ X.pn ++ pins, p.1 ≠ b) :
    Inv X pins σ H' { s with heap := h', gens := g', drawn := d', toks := t' } := by
  obtain ⟨m, ⟨o, es, ep, ho, r⟩, _⟩ := id I.loc
  obtain ⟨sl, hL⟩ := u.any ho I.free fun z => (hch _ z).2.1 rfl
  exact I.step (ch := ch) hch (fun b o hL hb hc e n => u.keep b o e n (fun z => (List.mem_cons.mp (I.stkSub b z)).elim hL hb) hc) (fun b o _ _ hc e n => u.any e n hc) (fun b o hc e n => u.free b o e n hc) (fun b o hc e => u.there b o e hc) u.tups u.frzs u.tbls (fun m' hm => by
    obtain ⟨o', es', ep', ho', r'⟩ := hm
    rw [ho] at ho'; cases ho'
    exact ⟨_, es', ep', hL, r'⟩) hok hg
theorem Inv.turned {t' : Nat} {it : Addr} (I : Inv X pins σ H s) (k : ∀ b o, b ≠ it → s.heap.get? b = some o → h'.get? b = some o) (hn : H it = none) (hL : it ≠ X.env.locals)
    (h1 : it ∈ X.ex ∨ X.s₀.heap.objs.size ≤ it) (h2 : ∀ x c, X.env.cells.lookup x = some c → c ≠ it) (h3 : ∀ p ∈ X.pn ++ pins, p.1 ≠ it) : Inv X pins σ H { s with heap := h', toks := t' } := by
  have nit : ∀ b u, H b = some u → b ≠ it := fun b u e z => by rw [z, hn] at e; cases e
  refine I.step (g' := s.gens) (d' := s.drawn) (ch := [it]) (fun b hb => ?_) (fun b o _ _ hc e _ => k b o (fun z => hc (by simp [z])) e) (fun b o _ _ hc e _ => ⟨o.slots, k b o (fun z => hc (by simp [z])) e⟩) (fun _ _ _ _ n => n)
    (fun b o hc e => ⟨o, k b o (fun z => hc (by simp [z])) e⟩) (fun _ _ e => e) (fun _ _ _ e => e) (fun b ps e => ⟨#[], by rw [e]; simp⟩) (fun m hm => ?_) (fun b u e => ?_) I.bare
  · have e : b = it := by simpa using hb
    subst e
    exact ⟨h1, hL, h2, h3⟩
  · obtain ⟨o, es, ep, ho, r⟩ := hm
    exact ⟨o, es, ep, k _ o (Ne.symm hL) ho, r⟩
  · refine (I.hok b u e).stay (fun c v hc q => k c v ?_ q) (fun _ q => q) fun _ _ q => q
    rcases hc with z | z
    · rw [z]; exact nit b u e
    · exact nit c _ z
theorem Inv.tok (I : Inv X pins σ H s) (t : Nat) : Inv X pins σ H { s with toks := t } := I.un (h' := s.heap) (t' := t) Un.refl I.hok
theorem Inv.kept {t' : Nat} (I : Inv X pins σ H s) (k : ∀ b u, s.heap.get? b = some u → h'.get? b = some u) : Inv X pins σ H { s with heap := h', toks := t' } := I.un (Un.kept k) (I.hok.kept k)
theorem Inv.laid {a : Addr} {o : HO} {t' : Nat} (I : Inv X pins σ H s) (k : ∀ b u, s.heap.get? b = some u → h'.get? b = some u) (hp : s.heap.objs.size ≤ a) (new : ObjOk X.prog X.w (upd H a o) h' a o) :
    Inv X pins σ (upd H a o) { s with heap := h', toks := t' } := I.un (Un.laid k hp (I.hok.fresh hp)) (I.hok.laid k hp new)
theorem Inv.write {x e : Addr} {o : HO} {t' : Nat} (I : Inv X pins σ H s) (mu : Mut (H x)) (he : e = x ∨ H e = some (.own x)) (k : ∀ b u, b ≠ e → s.heap.get? b = some u → h'.get? b = some u) (heo : ∃ u, h'.get? e = some u)
    (new : ObjOk X.prog X.w (upd H x o) h' x o) : Inv X pins σ (upd H x o) { s with heap := h', toks := t' } := I.un (Un.write mu he k heo) (I.hok.write mu he k heo new)
theorem Inv.pins_of {pins' : List (Addr × Obj)} (I : Inv X pins σ H s) (h : ∀ p ∈ pins', s.heap.get? p.1 = some p.2 ∧ H p.1 = none ∧ p.1 ≠ X.env.locals ∧ p.1 ∉ X.fs ∧ ∀ v, p.2.data ≠ .cell v) : Inv X pins' σ H s :=
  ⟨I.ok, I.os, I.bare, I.base, I.loc, I.cell, I.free, I.freeC, fun p hp => (List.mem_append.mp hp).elim (fun z => I.pin p (List.mem_append_left _ z)) (h p), I.hok, I.len⟩
theorem nodup_ix {N : List Str} (hN : N.Nodup) {i j : Nat} {x : Str} (a : N[i]? = some x) (b : N[j]? = some x) : i = j := by
  obtain ⟨h1, e1⟩ := List.getElem?_eq_some_iff.mp a
  obtain ⟨h2, e2⟩ := List.getElem?_eq_some_iff.mp b
  exact (List.getElem_inj hN).mp (e1.trans e2.symm)
theorem store_ok2 {M : Model} {A : Around} {E : Value → Shared → Prop} {i : Nat} {x : Str} {v : V} {u : Value} {Q : Unit → Shared → Prop} (I : Inv X pins σ H s) (hN : X.N.Nodup) (hi : X.N[i]? = some x) (hx : Loc X.env.scope x) (r : RelV v u)
    (h : ∀ s', Inv X pins (σ.set i (some v)) H s' → (∃ a, Heap.SameBut a s.heap s'.heap ∧ (a = X.env.locals ∨ X.env.cells.lookup x = some a)) → Q () s') (hf : X.fn x = true ∨ X.env.scope.names.lookup x = some .local := by first | exact .inl rfl | exact .inr rfl | assumption) : wpAny M A (storeName X.env x u) Q E s := by
  obtain ⟨m, hn, hl⟩ := id I.loc
  have hcls : (X.env.scope.kind == .class || (X.env.scope.kind == .module && X.env.locals != X.env.globals)) = false := by rw [I.ok.kind]; rfl
  have hiσ : i < σ.length := by rw [I.len]; exact (List.getElem?_eq_some_iff.mp hi).1
  have cne := I.cne
  have tracked : ∀ {a : Addr} {h' : Heap}, (∃ o, s.heap.get? a = some o ∧ H a = none) → Heap.SameBut a s.heap h' → HOk X.prog X.w H h' := fun {a h'} ha hs b ob e => by
    obtain ⟨_, _, hfree⟩ := ha
    refine (I.hok b ob e).stay (fun c w' hc q => (hs.2 c ?_).trans q) (fun _ q => q) fun _ _ q => q
    rintro rfl
    rcases hc with rfl | hc
    · rw [hfree] at e; cases e
    · rw [hfree] at hc; cases hc
  rcases hx with hk | hk
  · refine wpAny_storeName_local hk hn (fun h' hn' hs => ?_) hcls
    obtain ⟨oL, _, _, hoL, _⟩ := id hn
    refine h _ ⟨I.ok, I.os, I.bare, ⟨fun b o e n hb hx => ?_, fun b o e n hb hx => ?_, I.base.free, fun b o e hx => ?_, I.base.tups, I.base.frzs, I.base.tbls⟩, ⟨_, hn', fun j y v' e1 e2 e3 => ?_⟩, fun y c e => ?_, I.free, I.freeC, fun p hp => ?_, tracked ⟨oL, hoL, I.free⟩ hs, by simpa using I.len⟩ ⟨_, hs, .inl rfl⟩
    · exact (hs.2 b (Nat.ne_of_lt (Nat.lt_of_lt_of_le (Heap.lt_size e) I.ok.above))).trans (I.base.keep b o e n hb hx)
    · obtain ⟨sl, e1⟩ := I.base.slot b o e n hb hx
      exact ⟨sl, (hs.2 b (Nat.ne_of_lt (Nat.lt_of_lt_of_le (Heap.lt_size e) I.ok.above))).trans e1⟩
    · obtain ⟨o', e1⟩ := I.base.there b o e hx
      exact ⟨o', (hs.2 b (Nat.ne_of_lt (Nat.lt_of_lt_of_le (Heap.lt_size e) I.ok.above))).trans e1⟩
    · by_cases hj : j = i
      · subst hj
        rw [hi] at e1; cases e1
        rw [List.getElem?_set_self hiσ] at e2
        cases e2
        exact ⟨u, r, .inl ⟨hk, by simp⟩⟩
      · rw [List.getElem?_set_ne (Ne.symm hj)] at e2
        obtain ⟨u', r', q⟩ := hl j y v' e1 e2 e3
        refine ⟨u', r', ?_⟩
        rcases q with ⟨k, e⟩ | ⟨k, c, e, z⟩
        · refine .inl ⟨k, ?_⟩
          have : y ≠ x := fun e => hj (nodup_ix hN e1 (e ▸ hi))
          simp [this, e]
        · exact .inr ⟨k, c, e, z.sameBut hs (cne y c e)⟩
    · obtain ⟨w', z⟩ := I.cell y c e
      exact ⟨w', z.sameBut hs (cne y c e)⟩
    · obtain ⟨e, n, ne, nf, d⟩ := I.pin p hp
      exact ⟨(hs.2 p.1 ne).trans e, n, ne, nf, d⟩
  · have hfn : X.fn x = true := by
      rcases hf with z | z
      · exact z
      · rw [z] at hk; cases hk
    obtain ⟨c, hc⟩ := I.ok.has x (.inl hk)
    obtain ⟨w', z⟩ := I.cell x c hc
    refine wpAny_storeName_cell I.ok.kind hk hc z (fun h' hc' hs => ?_)
    obtain ⟨oc, hoc, hocd⟩ := id z
    refine h { s with heap := h' } ⟨I.ok, I.os, I.bare, ⟨fun b o e n hb hx => ?_, fun b o e n hb hx => ?_, I.base.free, fun b o e hx => ?_, I.base.tups, I.base.frzs, I.base.tbls⟩, ⟨m, hn.sameBut hs (Ne.symm (cne x c hc)), fun j y v' e1 e2 e3 => ?_⟩, fun y c' e => ?_, I.free, I.freeC, fun p hp => ?_, tracked ⟨oc, hoc, I.freeC x c hc⟩ hs, by simpa using I.len⟩ ⟨c, hs, .inr hc⟩
    · exact (hs.2 b (Nat.ne_of_lt (Nat.lt_of_lt_of_le (Heap.lt_size e) (I.ok.cab x c hfn hc)))).trans (I.base.keep b o e n hb hx)
    · obtain ⟨sl, e1⟩ := I.base.slot b o e n hb hx
      exact ⟨sl, (hs.2 b (Nat.ne_of_lt (Nat.lt_of_lt_of_le (Heap.lt_size e) (I.ok.cab x c hfn hc)))).trans e1⟩
    · obtain ⟨o', e1⟩ := I.base.there b o e hx
      exact ⟨o', (hs.2 b (Nat.ne_of_lt (Nat.lt_of_lt_of_le (Heap.lt_size e) (I.ok.cab x c hfn hc)))).trans e1⟩
    · by_cases hj : j = i
      · subst hj
        rw [hi] at e1; cases e1
        rw [List.getElem?_set_self hiσ] at e2
        cases e2
        exact ⟨u, r, .inr ⟨.inl hk, c, hc, hc'⟩⟩
      · rw [List.getElem?_set_ne (Ne.symm hj)] at e2
        obtain ⟨u', r', q⟩ := hl j y v' e1 e2 e3
        refine ⟨u', r', ?_⟩
        rcases q with q | ⟨k, c', e, z'⟩
        · exact .inl q
        · refine .inr ⟨k, c', e, z'.sameBut hs ?_⟩
          rintro rfl
          exact hj (nodup_ix hN e1 (I.ok.inj _ _ _ e hc ▸ hi))
    · by_cases hcc : c' = c
      · subst hcc; exact ⟨_, hc'⟩
      · obtain ⟨w2, z2⟩ := I.cell y c' e
        exact ⟨w2, z2.sameBut hs hcc⟩
    · obtain ⟨e, n, ne, nf, d⟩ := I.pin p hp
      refine ⟨(hs.2 p.1 ?_).trans e, n, ne, nf, d⟩
      intro q
      rw [q, hoc] at e
      have q' : oc = p.2 := Option.some.inj e
      exact d w' (by rw [← q']; exact hocd)
theorem store_ok {M : Model} {A : Around} {E : Value → Shared → Prop} {i : Nat} {x : Str} {v : V} {u : Value} {Q : Unit → Shared → Prop} (I : Inv X pins σ H s) (hN : X.N.Nodup) (hi : X.N[i]? = some x) (hx : Loc X.env.scope x) (r : RelV v u)
    (h : ∀ s', Inv X pins (σ.set i (some v)) H s' → Q () s') (hf : X.fn x = true ∨ X.env.scope.names.lookup x = some .local := by first | exact .inl rfl | exact .inr rfl | assumption) : wpAny M A (storeName X.env x u) Q E s :=
  store_ok2 I hN hi hx r (fun s' I' _ => h s' I') hf
theorem Inv.call' {s' : Shared} {ch : List Addr} (I : Inv X pins σ H s) (ho : s'.os = s.os) (u : Un (frs X.stack) ch H H' s.heap s'.heap) (hok : HOk X.prog X.w H' s'.heap) (hg : AllBare s'.gens)
    (hch : ∀ b ∈ ch, (b ∈ X.ex ∨ X.s₀.heap.objs.size ≤ b) ∧ b ≠ X.env.locals ∧ (∀ x c, X.env.cells.lookup x = some c → c ≠ b) ∧ ∀ p ∈ X.pn ++ pins, p.1 ≠ b) : Inv X pins σ H' s' := by
  obtain ⟨h', g', d', t', o'⟩ := s'
  have e : o' = s.os := ho
  subst e
  exact I.call (g' := g') (t' := t') (d' := d') u hok hg hch
end
noncomputable abbrev XK := Value → Option Addr → Hp → Prop
noncomputable abbrev St := List (Option V)
noncomputable abbrev VK := V → Hp → Prop
noncomputable abbrev TE := St → Hp → VK → Prop
noncomputable abbrev TT := St → Hp → (Bool → Hp → Prop) → Prop
noncomputable abbrev TA := St → Hp → (List V → Hp → Prop) → Prop
set_option genInjectivity false in
set_option genSizeOf false in
structure Ends where
  nx : St → Hp → Prop
  rt : VK
  bk : St → Hp → Prop := fun _ _ => False
  ct : St → Hp → Prop := fun _ _ => False
noncomputable abbrev TS := Ends → St → Hp → Prop
noncomputable def EP (X : Cx) (pins : List (Addr × Obj)) (σ : St) (Q : VK) (u : Value) (s' : Shared) : Prop := ∃ v H', Inv X pins σ H' s' ∧ RelV v u ∧ Q v H'
noncomputable def TP (X : Cx) (pins : List (Addr × Obj)) (σ : St) (Q : Bool → Hp → Prop) (b : Bool) (s' : Shared) : Prop := ∃ H', Inv X pins σ H' s' ∧ Q b H'
noncomputable def AP (X : Cx) (pins : List (Addr × Obj)) (σ : St) (Q : List V → Hp → Prop) (us : List Value) (s' : Shared) : Prop := ∃ vs H', Inv X pins σ H' s' ∧ Vals vs us ∧ Q vs H'
noncomputable def SP (X : Cx) (pins : List (Addr × Obj)) (D : Ends) (f : Flow) (s' : Shared) : Prop :=
  match f with
  | .next => ∃ σ' H', Inv X pins σ' H' s' ∧ D.nx σ' H'
  | .brk => ∃ σ' H', Inv X pins σ' H' s' ∧ D.bk σ' H'
  | .cont => ∃ σ' H', Inv X pins σ' H' s' ∧ D.ct σ' H'
  | .ret u => ∃ v σ' H', Inv X pins σ' H' s' ∧ RelV v u ∧ D.rt v H'
noncomputable def PE (X : Cx) (e : Expr) (t : TE) : Prop :=
  ∀ (pins : List (Addr × Obj)) (s : Shared) (σ : St) (H : Hp) (Q : VK), Inv X pins σ H s → t σ H Q → wpAny (model X.prog X.w) X.A (eval e X.env) (EP X pins σ Q) X.xe s
noncomputable def PT (X : Cx) (e : Expr) (t : TT) : Prop :=
  ∀ (pins : List (Addr × Obj)) (s : Shared) (σ : St) (H : Hp) (Q : Bool → Hp → Prop), Inv X pins σ H s → t σ H Q → wpAny (model X.prog X.w) X.A (isTrue e X.env (eval e X.env)) (TP X pins σ Q) X.xe s
noncomputable def PW (X : Cx) (e : Expr) (t : TT) : Prop :=
  ∀ (whole : Sem Value) (pins : List (Addr × Obj)) (s : Shared) (σ : St) (H : Hp) (Q : Bool → Hp → Prop), Inv X pins σ H s → t σ H Q → wpAny (model X.prog X.w) X.A (isTrue e X.env whole) (TP X pins σ Q) X.xe s
theorem PW.pt {X : Cx} {e : Expr} {t : TT} (h : PW X e t) : PT X e t := h _
noncomputable def PA (X : Cx) (es : List Expr) (t : TA) : Prop :=
  ∀ (pos : Pos) (pins : List (Addr × Obj)) (s : Shared) (σ : St) (H : Hp) (Q : List V → Hp → Prop), Inv X pins σ H s → t σ H Q → wpAny (model X.prog X.w) X.A (spliced (backTo pos (starEach es X.env))) (AP X pins σ Q) X.xe s
noncomputable def PS (X : Cx) (st : Stmt) (t : TS) : Prop :=
  ∀ (pins : List (Addr × Obj)) (s : Shared) (σ : St) (H : Hp) (D : Ends), Inv X pins σ H s → t D σ H → wpAny (model X.prog X.w) X.A (exec st X.env) (SP X pins D) X.xe s
noncomputable def PSs (X : Cx) (st : List Stmt) (t : TS) : Prop :=
  ∀ (pins : List (Addr × Obj)) (s : Shared) (σ : St) (H : Hp) (D : Ends), Inv X pins σ H s → t D σ H → wpAny (model X.prog X.w) X.A (execs st X.env) (SP X pins D) X.xe s
theorem thn {α : Type} {t : Sem α} {Q Q' : α → Shared → Prop} {M : Model} {A : Around} {E : Value → Shared → Prop} {s : Shared} (h : wpAny M A t Q E s) (hQ : ∀ a s, Q a s → Q' a s) : wpAny M A t Q' E s := wpAny_mono h hQ fun _ _ x => x
end L2
namespace L2
open PySem PySem.Spec PyProof.Rows
section
variable {X : Cx}
noncomputable def tVar (i : Nat) : TE := fun σ H Q => ∃ v, σ[i]? = some (some v) ∧ Q v H
noncomputable def tC (v : V) : TE := fun _ H Q => Q v H
theorem pe_var {i : Nat} {x : Str} {pos : Pos} (hN : X.N[i]? = some x) (hv : Vis X.env.scope x) (hd : (x == ("__debug__" : Str)) = false := by decide) (hcd : (x == ("__classdict__" : Str)) = false := by decide) : PE X (.Name x pos) (tVar i) := by
  intro pins s σ H Q I h
  obtain ⟨v, e, h⟩ := h
  obtain ⟨m, hn, hl⟩ := I.loc
  obtain ⟨u, r, l⟩ := hl i x v hN e hv
  have fin : EP X pins σ Q u s := ⟨v, H, I, r, h⟩
  rcases l with ⟨hk, hm⟩ | ⟨hk, c, hc, hcell⟩
  · exact wpAny_Name (wpAny_loadName_local I.ok.kind hk hn hm fin) hd
  · rcases hk with hk | hk
    · exact wpAny_Name (wpAny_loadName_cell I.ok.kind hk hc hcell fin) hd
    · exact wpAny_Name (wpAny_loadName_free I.ok.kind hk hc hcell fin hcd) hd
theorem pe_int {i j pos} : PE X (.Constant (.int i) j pos) (tC (.int i)) := fun _ _ _ H _ I h => wpAny_Constant_int ⟨.int i, H, I.tok _, ⟨_, rfl⟩, h⟩
theorem pe_bl {b j pos} : PE X (.Constant (.bool b) j pos) (tC (.bl b)) := fun _ _ _ H _ I h => Constant_bool ⟨.bl b, H, I, rfl, h⟩
theorem pe_non {j pos} : PE X (.Constant .none j pos) (tC .non) := fun _ _ _ H _ I h => Constant_none ⟨.non, H, I, rfl, h⟩
theorem pe_str {x j pos} : PE X (.Constant (.str x) j pos) (tC (.str x)) := fun _ _ _ H _ I h => Calls.Constant_str ⟨.str x, H, I.tok _, ⟨_, rfl⟩, h⟩
noncomputable def Gl (X : Cx) (x : Str) : Prop := X.env.kindOf x = some .globalImplicit
theorem ld_glob {E : Value → Shared → Prop} {pins : List (Addr × Obj)} {s : Shared} {σ : St} {H : Hp} {x : Str} {u : Value} {pos : Pos} {Q : Value → Shared → Prop} (I : Inv X pins σ H s) (hg : Gl X x) (hm : X.mg x = some u) (h : Q u s)
    (hd : (x == ("__debug__" : Str)) = false := by decide) : wpAny (model X.prog X.w) X.A (eval (.Name x pos) X.env) Q E s :=
  Calls.Name_function_global I.ok.kind hg (Calls.loadGlobal_global (by rw [I.ok.glob]; exact I.mod.glob.keeps I.bk) hm h) hd
theorem ld_blt {E : Value → Shared → Prop} {pins : List (Addr × Obj)} {s : Shared} {σ : St} {H : Hp} {x : Str} {u : Value} {pos : Pos} {Q : Value → Shared → Prop} (I : Inv X pins σ H s) (hg : Gl X x) (hm : X.mg x = none) (hv : bootBuiltins x = some u) (h : Q u s)
    (hn : x ≠ "__name__" := by decide) (hd : (x == ("__debug__" : Str)) = false := by decide) : wpAny (model X.prog X.w) X.A (eval (.Name x pos) X.env) Q E s := by
  obtain ⟨mb, h1, h2⟩ := I.mod.blt
  exact Calls.Name_function_global I.ok.kind hg (Calls.loadGlobal_builtin (by rw [I.ok.glob]; exact I.mod.glob.keeps I.bk) hm (by rw [I.ok.blt]; exact h1.keeps I.bk) ((h2 x hn).trans hv) h) hd
theorem pe_glob {x : Str} {v : V} {u : Value} {pos : Pos} (hg : Gl X x) (hm : X.mg x = some u) (r : RelV v u) (hd : (x == ("__debug__" : Str)) = false := by decide) : PE X (.Name x pos) (tC v) :=
  fun _ _ _ H _ I h => ld_glob I hg hm ⟨v, H, I, r, h⟩ hd
theorem pe_bltn {x : Str} {v : V} {u : Value} {pos : Pos} (hg : Gl X x) (hm : X.mg x = none) (hv : bootBuiltins x = some u) (r : RelV v u) (hn : x ≠ "__name__" := by decide) (hd : (x == ("__debug__" : Str)) = false := by decide) : PE X (.Name x pos) (tC v) :=
  fun _ _ _ H _ I h => ld_blt I hg hm hv ⟨v, H, I, r, h⟩ hn hd
variable {a b : Expr} {ta tb : TE} {pos : Pos}
noncomputable def PC (X : Cx) (op : CmpOp) (a b : Expr) (t : TE) : Prop :=
  ∀ (pins : List (Addr × Obj)) (s : Shared) (σ : St) (H : Hp) (Q : VK), Inv X pins σ H s → t σ H Q →
    wpAny (model X.prog X.w) X.A (eval a X.env) (fun v s₁ => wpAny (model X.prog X.w) X.A (eval b X.env) (fun u s₂ => wpAny (model X.prog X.w) X.A (compareOp op v u) (EP X pins σ Q) X.xe s₂) X.xe s₁) X.xe s
noncomputable def tB (t : TE) : TT := fun σ H Q => t σ H fun x H1 => ∃ c, x = .bl c ∧ Q c H1
theorem pe_cmp {op : CmpOp} {t : TE} (h : PC X op a b t) (h1 : behindInMarks op b = false := by first | exact nobehind _ (by decide) (by decide) | rfl) : PE X (.Compare a [op] [b] pos) t := fun pins s σ H Q I hw => wpAny_Compare1 (h pins s σ H Q I hw) h1
theorem pt_cmp {op : CmpOp} {t : TE} (h : PC X op a b t) (h1 : behindInMarks op b = false := by first | exact nobehind _ (by decide) (by decide) | rfl) : PT X (.Compare a [op] [b] pos) (tB t) := by
  intro pins s σ H Q I hw
  refine wpAny_isTrue_Compare1 (thn (h pins s σ H _ I hw) fun v s1 h1 => thn h1 fun u s2 h2 => thn h2 fun c s3 ⟨x, H1, I1, r1, q1⟩ => ?_) h1
  obtain ⟨d, rfl, q⟩ := q1
  cases r1
  exact wpAny_truthy_bool ⟨H1, I1, q⟩
theorem pt_val {e : Expr} {t : TE} (h : PE X e t) (he : ∀ whole, isTrue e X.env whole = (do let v ← whole; standAt e.pos; holding [v] (truthy v)) := by intro _; rfl) : PT X e (tB t) := by
  intro pins s σ H Q I hw
  refine isTrue_plain (thn (h pins s σ H _ I hw) fun v s1 ⟨x, H1, I1, r1, q1⟩ => ?_) (he _)
  obtain ⟨d, rfl, q⟩ := q1
  cases r1
  exact wpAny_truthy_bool ⟨H1, I1, q⟩
variable {tA tB' : TT} {rest : List Expr}
noncomputable def tAnd (t u : TT) : TT := fun σ H Q => t σ H fun c H1 => if c = true then u σ H1 Q else Q false H1
noncomputable def tOr (t u : TT) : TT := fun σ H Q => t σ H fun c H1 => if c = true then Q true H1 else u σ H1 Q
noncomputable def tNot (t : TT) : TT := fun σ H Q => t σ H fun c H1 => Q (!c) H1
theorem pw_and1 (ha : PT X a tA) : PW X (.BoolOp .And [a] pos) tA := by
  intro wh pins s σ H Q I h
  refine isTrue_and (thn (ha pins s σ H Q I h) fun c s1 e => ?_)
  cases c with
  | true => exact isTrue_and_nil e
  | false => exact e
theorem pw_or1 (ha : PT X a tA) : PW X (.BoolOp .Or [a] pos) tA := by
  intro wh pins s σ H Q I h
  refine isTrue_or (thn (ha pins s σ H Q I h) fun c s1 e => ?_)
  cases c with
  | false => exact isTrue_or_nil e
  | true => exact e
theorem pw_and (ha : PT X a tA) (hb : PW X (.BoolOp .And (b :: rest) pos) tB') : PW X (.BoolOp .And (a :: b :: rest) pos) (tAnd tA tB') := by
  intro wh pins s σ H Q I h
  refine isTrue_and (thn (ha pins s σ H _ I h) fun c s1 ⟨H1, I1, q1⟩ => ?_)
  cases c with
  | true => exact hb wh pins s1 σ H1 Q I1 q1
  | false => exact ⟨H1, I1, q1⟩
theorem pw_or (ha : PT X a tA) (hb : PW X (.BoolOp .Or (b :: rest) pos) tB') : PW X (.BoolOp .Or (a :: b :: rest) pos) (tOr tA tB') := by
  intro wh pins s σ H Q I h
  refine isTrue_or (thn (ha pins s σ H _ I h) fun c s1 ⟨H1, I1, q1⟩ => ?_)
  cases c with
  | true => exact ⟨H1, I1, q1⟩
  | false => exact hb wh pins s1 σ H1 Q I1 q1
theorem pt_not (ha : PT X a tA) : PT X (.UnaryOp .Not a pos) (tNot tA) := by
  intro pins s σ H Q I h
  exact isTrue_not (ha pins s σ H (fun c H1 => Q (!c) H1) I h)
noncomputable def tAndV (ta tb : TE) : TE := fun σ H Q => ta σ H fun x H1 => ∃ c, x = .bl c ∧ if c = true then tb σ H1 Q else Q (.bl false) H1
noncomputable def tNotV (ta : TE) : TE := fun σ H Q => ta σ H fun x H1 => ∃ c, x = .bl c ∧ Q (.bl (!c)) H1
theorem pe_one {op} {t : TE} (h : PE X a t) : PE X (.BoolOp op [a] pos) t := fun pins s σ H Q I hw => BoolOp_one (h pins s σ H Q I hw)
theorem pe_and (ha : PE X a ta) (hb : PE X (.BoolOp .And (b :: rest) pos) tb) : PE X (.BoolOp .And (a :: b :: rest) pos) (tAndV ta tb) := by
  intro pins s σ H Q I h
  refine BoolOp_and (thn (ha pins s σ H _ I h) fun v s1 ⟨x, H1, I1, r1, q1⟩ => ?_)
  obtain ⟨c, rfl, q1⟩ := q1
  cases r1
  refine wpAny_truthy_bool ?_
  cases c with
  | true => exact hb pins s1 σ H1 Q I1 q1
  | false => exact ⟨.bl false, H1, I1, rfl, q1⟩
theorem pe_not (ha : PE X a ta) : PE X (.UnaryOp .Not a pos) (tNotV ta) := by
  intro pins s σ H Q I h
  refine UnaryOp_ (thn (ha pins s σ H _ I h) fun v s1 ⟨x, H1, I1, r1, q1⟩ => ?_)
  obtain ⟨c, rfl, q1⟩ := q1
  cases r1
  exact not_of (wpAny_truthy_bool ⟨.bl (!c), H1, I1, rfl, q1⟩)
noncomputable def tIf (t : TT) (ta tb : TE) : TE := fun σ H Q => t σ H fun c H1 => if c = true then ta σ H1 Q else tb σ H1 Q
theorem pe_ifExp {c : Expr} (hc : PT X c tA) (ha : PE X a ta) (hb : PE X b tb) : PE X (.IfExp c a b pos) (tIf tA ta tb) := by
  intro pins s σ H Q I h
  refine wpAny_IfExp (thn (hc pins s σ H _ I h) fun d s1 ⟨H1, I1, q1⟩ => ?_)
  cases d with
  | true => exact ha pins s1 σ H1 Q I1 q1
  | false => exact hb pins s1 σ H1 Q I1 q1
end
end L2
namespace L2
open PySem PySem.Spec PyProof.Rows
noncomputable def SqL (K : PySem.W.Frag) (H : Hp) (a : Addr) (xs : List V) : Prop :=
  Rd H a (.lst xs) ∨
    ∃ (o : Obj) (its : Array Value) (n : Nat), K.lookup a = some o ∧ o.cls = .type "list" ∧ o.dict = none ∧ o.data = .seq its n ∧ its.size ≤ sizeLine ∧ Vals xs its.toList
noncomputable def SqT (K : PySem.W.Frag) (H : Hp) (a : Addr) (xs : List V) : Prop :=
  Rd H a (.tup xs) ∨
    ∃ (o : Obj) (its : Array Value) (n : Nat), K.lookup a = some o ∧ o.cls = .type "tuple" ∧ o.data = .seq its n ∧ its.size ≤ sizeLine ∧ Vals xs its.toList
noncomputable def absV : Value → Option V
  | .none => some .non
  | .bool b => some (.bl b)
  | .int i _ => some (.int i)
  | .str x _ => some (.str x)
  | .bytes b _ => some (.byt b)
  | .float b _ => some (.flt b)
  | .ref a => some (.ref a)
  | .type n => some (.ty n)
  | _ => none
theorem RelV.abs {x : V} {u : Value} (r : RelV x u) : absV u = some x := by
  cases x with
  | non => cases r; rfl
  | bl _ => cases r; rfl
  | int _ => obtain ⟨t, rfl⟩ := r; rfl
  | str _ => obtain ⟨t, rfl⟩ := r; rfl
  | byt _ => obtain ⟨t, rfl⟩ := r; rfl
  | flt _ => obtain ⟨t, rfl⟩ := r; rfl
  | ref _ => cases r; rfl
  | ty _ => cases r; rfl
theorem RelV.inj {x y : V} {u : Value} (r : RelV x u) (q : RelV y u) : x = y := Option.some.inj (r.abs.symm.trans q.abs)
theorem Vals.inj : ∀ {xs ys : List V} {us : List Value}, Vals xs us → Vals ys us → xs = ys
  | _, _, _, .nil, .nil => rfl
  | _, _, _, .cons r t, .cons r' t' => by rw [r.inj r', Vals.inj t t']
section
variable {X : Cx} {pins : List (Addr × Obj)} {σ : St} {H : Hp} {s : Shared} {a : Addr} {xs ys : List V}
theorem SqL.of {K : PySem.W.Frag} (h : H a = some (.lst xs)) : SqL K H a xs := .inl (.inl h)
theorem SqT.of {K : PySem.W.Frag} (h : H a = some (.tup xs)) : SqT K H a xs := .inl (.inl h)
theorem Inv.list (I : Inv X pins σ H s) (h : SqL X.K H a xs) : ∃ its : List Value, Vals xs its ∧ PlainL s.heap a its.toArray ∧ xs.length ≤ sizeLine := by
  rcases h with h | ⟨o, its, n, hk, hc, hd, hs, hz, r⟩
  · obtain ⟨z, its, n, r, e⟩ := h.ok I.hok
    exact ⟨its, r, ⟨_, n, e, rfl, rfl, rfl⟩, z⟩
  · refine ⟨its.toList, r, ⟨o, n, I.kIn a o hk, hc, hd, by simpa using hs⟩, ?_⟩
    have e := r.length
    simp only [Array.length_toList] at e
    lia
theorem Inv.tuple (I : Inv X pins σ H s) (h : SqT X.K H a xs) : ∃ its : List Value, Vals xs its ∧ IsTup s.heap a its.toArray ∧ xs.length ≤ sizeLine := by
  rcases h with h | ⟨o, its, n, hk, hc, hs, hz, r⟩
  · obtain ⟨z, its, r, p⟩ := h.ok I.hok
    exact ⟨its, r, p, z⟩
  · refine ⟨its.toList, r, ⟨o, I.kIn a o hk, hc, n, by simpa using hs⟩, ?_⟩
    have e := r.length
    simp only [Array.length_toList] at e
    lia
theorem Inv.list_inj (I : Inv X pins σ H s) (h : SqL X.K H a xs) (h' : SqL X.K H a ys) : xs = ys := by
  obtain ⟨its, r, ⟨o, n, e, _, _, d⟩, _⟩ := I.list h
  obtain ⟨its', r', ⟨o', n', e', _, _, d'⟩, _⟩ := I.list h'
  rw [e] at e'; cases e'
  rw [d] at d'
  injection d' with d1 _
  have : its = its' := by simpa using congrArg Array.toList d1
  subst this
  exact r.inj r'
theorem Inv.tuple_inj (I : Inv X pins σ H s) (h : SqT X.K H a xs) (h' : SqT X.K H a ys) : xs = ys := by
  obtain ⟨its, r, ⟨o, e, _, n, d⟩, _⟩ := I.tuple h
  obtain ⟨its', r', ⟨o', e', _, n', d'⟩, _⟩ := I.tuple h'
  rw [e] at e'; cases e'
  rw [d] at d'
  injection d' with d1 _
  have : its = its' := by simpa using congrArg Array.toList d1
  subst this
  exact r.inj r'
end
noncomputable abbrev Cx.wish (X : Cx) (E : Value → Shared → Prop) : Cx := { X with xe := E }
noncomputable abbrev Cx.nox (X : Cx) : Cx := X.wish fun _ _ => False
theorem Cx.Ok.wish {X : Cx} (ok : X.Ok) (E : Value → Shared → Prop) : (X.wish E).Ok :=
  ⟨ok.mod, ok.kind, ok.glob, ok.blt, ok.above, ok.inj, ok.has, ok.cab, ok.hd, ok.frames, ok.stk, ok.exf, ok.bs, ok.bsz, ok.noex, ok.exfs, ok.funs, ok.frf⟩
theorem Cx.Ok.unwish {X : Cx} {E : Value → Shared → Prop} (ok : (X.wish E).Ok) : X.Ok :=
  ⟨ok.mod, ok.kind, ok.glob, ok.blt, ok.above, ok.inj, ok.has, ok.cab, ok.hd, ok.frames, ok.stk, ok.exf, ok.bs, ok.bsz, ok.noex, ok.exfs, ok.funs, ok.frf⟩
section
variable {X : Cx} {pins : List (Addr × Obj)} {σ : St} {H : Hp} {s : Shared} {E : Value → Shared → Prop}
theorem Inv.wish (I : Inv X pins σ H s) (E : Value → Shared → Prop) : Inv (X.wish E) pins σ H s := ⟨I.ok.wish E, I.os, I.bare, I.base, I.loc, I.cell, I.free, I.freeC, I.pin, I.hok, I.len⟩
theorem Inv.unwish (I : Inv (X.wish E) pins σ H s) : Inv X pins σ H s := ⟨I.ok.unwish, I.os, I.bare, I.base, I.loc, I.cell, I.free, I.freeC, I.pin, I.hok, I.len⟩
theorem SP.unwish {D : Ends} {f : Flow} {s' : Shared} (h : SP (X.wish E) pins D f s') : SP X pins D f s' := by
  cases f with
  | next => obtain ⟨σ', H', I, q⟩ := h; exact ⟨σ', H', I.unwish, q⟩
  | brk => obtain ⟨σ', H', I, q⟩ := h; exact ⟨σ', H', I.unwish, q⟩
  | cont => obtain ⟨σ', H', I, q⟩ := h; exact ⟨σ', H', I.unwish, q⟩
  | ret u => obtain ⟨v, σ', H', I, r, q⟩ := h; exact ⟨v, σ', H', I.unwish, r, q⟩
theorem PSs.nox {st : List Stmt} {t : TS} (h : PSs X.nox st t) : PSs X st t := fun pins s σ H D I hw =>
  wpAny_mono (h pins s σ H D (I.wish _) hw) (fun _ _ q => q.unwish) fun _ _ z => False.elim z
end
section
variable {X : Cx} {st : Stmt} {rest : List Stmt} {t u : TS} {e : Expr} {te : TE} {pos : Pos}
noncomputable def tNext : TS := fun D σ H => D.nx σ H
noncomputable def tSeq (t u : TS) : TS := fun D σ H => t { D with nx := u D } σ H
theorem pss_nil : PSs X [] tNext := fun _ _ σ H _ I h => wpAny_execs_nil ⟨σ, H, I, h⟩
theorem pss_cons (h1 : PS X st t) (h2 : PSs X rest u) : PSs X (st :: rest) (tSeq t u) := by
  intro pins s σ H D I h
  refine wpAny_execs_cons (thn (h1 pins s σ H { D with nx := u D } I h) fun f s1 q => ?_)
  cases f with
  | next =>
    obtain ⟨σ', H', I', q⟩ := q
    exact h2 pins s1 σ' H' D I' q
  | ret v => exact q
  | brk => exact q
  | cont => exact q
theorem pss_one (h1 : PS X st t) : PSs X [st] t := by
  intro pins s σ H D I h
  refine wpAny_execs_cons (thn (h1 pins s σ H D I h) fun f s1 q => ?_)
  cases f with
  | next => exact wpAny_execs_nil q
  | ret v => exact q
  | brk => exact q
  | cont => exact q
theorem Inv.quiet {pins : List (Addr × Obj)} {σ : St} {H : Hp} {s : Shared} (I : Inv X pins σ H s) : interactive X.env = false := by simp [interactive, I.ok.kind]
noncomputable def tDrop (te : TE) : TS := fun D σ H => te σ H fun _ H1 => D.nx σ H1
theorem ps_expr (he : PE X e te) (hs : swapsWith e none pos.line X.env = pure false := by rfl) : PS X (.Expr e pos) (tDrop te) := by
  intro pins s σ H D I h
  exact wpAny_Expr_any (thn (he pins s σ H _ I h) fun v s1 ⟨x, H1, I1, r1, q1⟩ => ⟨σ, H1, I1, q1⟩) I.quiet hs
noncomputable def tRet (te : TE) : TS := fun D σ H => te σ H D.rt
theorem ps_ret (he : PE X e te) : PS X (.Return (some e) pos) (tRet te) := by
  intro pins s σ H D I h
  exact wpAny_Return_some (thn (he pins s σ H _ I h) fun v s1 ⟨x, H1, I1, r1, q1⟩ => ⟨x, σ, H1, I1, r1, q1⟩)
noncomputable def tIfS (c : TT) (t u : TS) : TS := fun D σ H => c σ H fun b H1 => if b = true then t D σ H1 else u D σ H1
theorem ps_if {c : Expr} {a b : List Stmt} {tc : TT} (hc : PT X c tc) (ha : PSs X a t) (hb : PSs X b u) : PS X (.If c a b pos) (tIfS tc t u) := by
  intro pins s σ H D I h
  refine wpAny_If (thn (hc pins s σ H _ I h) fun d s1 ⟨H1, I1, q1⟩ => ?_)
  cases d with
  | true => exact ha pins s1 σ H1 D I1 q1
  | false => exact hb pins s1 σ H1 D I1 q1
end
noncomputable abbrev TG := V → St → Hp → (St → Hp → Prop) → Prop
noncomputable abbrev TGs := List V → St → Hp → (St → Hp → Prop) → Prop
noncomputable def PG (X : Cx) (target : Expr) (t : TG) : Prop :=
  ∀ (pins : List (Addr × Obj)) (s : Shared) (σ : St) (H : Hp) (v : V) (u : Value) (Q : St → Hp → Prop), Inv X pins σ H s → RelV v u → t v σ H Q →
    wpAny (model X.prog X.w) X.A (assign target X.env u) (fun _ s' => ∃ σ' H', Inv X pins σ' H' s' ∧ Q σ' H') X.xe s
noncomputable def PGs (X : Cx) (ts : List Expr) (t : TGs) : Prop :=
  ∀ (pins : List (Addr × Obj)) (s : Shared) (σ : St) (H : Hp) (vs : List V) (us : List Value) (Q : St → Hp → Prop), Inv X pins σ H s → Vals vs us → t vs σ H Q →
    wpAny (model X.prog X.w) X.A (assignInOrder ((assignEach ts X.env).map (·.2)) us) (fun _ s' => ∃ σ' H', Inv X pins σ' H' s' ∧ Q σ' H') X.xe s
section
variable {X : Cx} {pos : Pos}
noncomputable def gName (i : Nat) : TG := fun v σ H Q => Q (σ.set i (some v)) H
theorem pg_name {i : Nat} {x : Str} (hN : X.N.Nodup) (hi : X.N[i]? = some x) (hx : Loc X.env.scope x) (hf : X.fn x = true ∨ X.env.scope.names.lookup x = some .local := by first | exact .inl rfl | exact .inr rfl | assumption) : PG X (.Name x pos) (gName i) := by
  intro pins s σ H v u Q I r h
  exact wpAny_assign_Name (store_ok I hN hi hx r (fun s' I' => ⟨_, H, I', h⟩) hf)
noncomputable def gNil : TGs := fun vs σ H Q => vs = [] ∧ Q σ H
noncomputable def gCons (t : TG) (u : TGs) : TGs := fun vs σ H Q => ∃ v r, vs = v :: r ∧ t v σ H fun σ' H' => u r σ' H' Q
theorem pgs_nil : PGs X [] gNil := by
  intro pins s σ H vs us Q I r h
  obtain ⟨e, h⟩ := h
  subst e
  cases r
  exact assignInOrder_nil ⟨σ, H, I, h⟩
theorem pgs_cons {e : Expr} {es : List Expr} {t : TG} {u : TGs} (h1 : PG X e t) (h2 : PGs X es u)
    (hs : (assignEach (e :: es) X.env).map (·.2) = assign e X.env :: (assignEach es X.env).map (·.2) := by rfl) : PGs X (e :: es) (gCons t u) := by
  intro pins s σ H vs us Q I r h
  obtain ⟨v, vr, e1, h⟩ := h
  subst e1
  cases r with
  | cons r rr =>
    rw [hs]
    refine assignInOrder_cons (thn (h1 pins s σ H _ _ _ I r h) fun _ s1 ⟨σ1, H1, I1, q1⟩ => ?_)
    exact h2 pins s1 σ1 H1 _ _ Q I1 rr q1
noncomputable def gTup (K : PySem.W.Frag) (n : Nat) (t : TGs) : TG := fun v σ H Q => ∃ a xs, v = .ref a ∧ SqT K H a xs ∧ xs.length = n ∧ t xs σ H Q
theorem pg_tup {es : List Expr} {k : Nat} {t : TGs} {n : Nat} (hc : X.calm = true) (h : PGs X es t)
    (hn : (assignEach es X.env).length = n := by rfl) (hst : (assignEach es X.env).findIdx? (·.1) = none := by rfl) : PG X (.Tuple es k pos) (gTup X.K n t) := by
  intro pins s σ H v u Q I r hw
  obtain ⟨a, xs, e1, hq, hl, hw⟩ := hw
  subst e1
  cases r
  obtain ⟨its, rv, ht, hz⟩ := I.tuple hq
  refine assign_Tuple_tuple (I.ok.hd hc) ht (by simp [hn, ← hl, rv.length]) hst fun h' hx => ?_
  have I1 : Inv X pins σ H { s with heap := h' } := I.kept (t' := s.toks) fun b o e => hx b o (Nat.ne_of_lt (Heap.lt_size e)) e
  exact h pins _ σ H xs _ Q I1 (by simpa using rv) hw
noncomputable def tAsg (te : TE) (g : TG) : TS := fun D σ H => te σ H fun x H1 => g x σ H1 D.nx
theorem ps_set {i : Nat} {x : Str} {e : Expr} {te : TE} {pos' : Pos} (hN : X.N.Nodup) (hi : X.N[i]? = some x) (hx : Loc X.env.scope x) (he : PE X e te) (hs : swapsWith e (some (.Name x pos')) pos.line X.env = pure false := by rfl) (hf : X.fn x = true ∨ X.env.scope.names.lookup x = some .local := by first | exact .inl rfl | exact .inr rfl | assumption) :
    PS X (.Assign [.Name x pos'] e pos) (tAsg te (gName i)) := by
  intro pins s σ H D I h
  refine wpAny_Assign_Name (thn (he pins s σ H _ I h) fun v s1 ⟨y, H1, I1, r1, q1⟩ => ?_) hs
  exact store_ok I1 hN hi hx r1 (fun s2 I2 => ⟨_, H1, I2, q1⟩) hf
end
section
variable {X : Cx} {pos : Pos}
end
set_option genInjectivity false in
set_option genSizeOf false in
structure It where
  go : Nat → Hp → Prop
  yld : Nat → Hp → V → Hp → Prop
  stop : Nat → Hp → Prop
noncomputable def FpOk (X : Cx) (pins : List (Addr × Obj)) (H : Hp) (b : Addr) : Prop :=
  H b = none ∧ b ≠ X.env.locals ∧ b ∉ X.fs ∧ (b ∈ X.ex ∨ X.s₀.heap.objs.size ≤ b) ∧ (∀ x c, X.env.cells.lookup x = some c → c ≠ b) ∧ ∀ p ∈ X.pn ++ pins, p.1 ≠ b
theorem Inv.fpOk {X : Cx} {pins : List (Addr × Obj)} {σ : St} {H H' : Hp} {s : Shared} {b : Addr} (I : Inv X pins σ H s) (hb : s.heap.objs.size ≤ b) (hn : H' b = none) : FpOk X pins H' b := by
  refine ⟨hn, Nat.ne_of_gt (Nat.lt_of_lt_of_le I.lt hb), I.nofs hb, .inr (Nat.le_trans I.sz hb), fun x c e z => ?_, fun p hp z => ?_⟩
  · obtain ⟨v, q⟩ := I.cell x c e
    exact absurd (Nat.lt_of_lt_of_le q.lt (by rw [z]; exact hb)) (Nat.lt_irrefl _)
  · exact absurd (Nat.lt_of_lt_of_le (Heap.lt_size (I.pin p hp).1) (by rw [z]; exact hb)) (Nat.lt_irrefl _)
structure Turn (P : Program) (w : World) (K : PySem.W.Frag) (tg : Expr) (J : It) (fp : List Addr) (it : Addr) (tn : Nat → Heap → Prop) : Prop where
  mem : it ∈ fp
  obj : ∀ i h, tn i h → ∀ b ∈ fp, ∃ o, h.get? b = some o ∧ ∀ v, o.data ≠ .cell v
  keep : ∀ i h h', tn i h → (∀ b ∈ fp, ∀ o, h.get? b = some o → h'.get? b = some o) → tn i h'
  item : ∀ (X : Cx), X.prog = P → X.w = w → X.K = K → X.calm = true → ∀ (i : Nat) (pins : List (Addr × Obj)) (s : Shared) (σ : St) (H : Hp) (E : Value → Shared → Prop), Inv X pins σ H s → (∀ b ∈ fp, FpOk X pins H b) → tn i s.heap → J.go i H →
    wpAny (model P w) X.A (pyNext (.ref it)) (fun r s1 => ∃ u, r = some u ∧
      wpAny (model P w) X.A (letOwnedTupleGo tg (.ref it) u) (fun _ s2 => ∃ x H', Inv X pins σ H' s2 ∧ RelV x u ∧ J.yld i H x H' ∧ tn (i + 1) s2.heap ∧ ∀ b ∈ fp, H' b = none) E s1) E s
  done : ∀ (X : Cx), X.prog = P → X.w = w → X.K = K → X.calm = true → ∀ (i : Nat) (pins : List (Addr × Obj)) (s : Shared) (σ : St) (H : Hp) (E : Value → Shared → Prop), Inv X pins σ H s → (∀ b ∈ fp, FpOk X pins H b) → tn i s.heap → J.stop i H →
    wpAny (model P w) X.A (pyNext (.ref it)) (fun r s1 => r = none ∧ Inv X pins σ H s1) E s
  self : ∀ (A : Around) (i : Nat) (s : Shared) (Q : Value → Shared → Prop) (E : Value → Shared → Prop), tn i s.heap → Q (.ref it) s → wpAny (model P w) A (pyIter (.ref it)) Q E s
noncomputable abbrev TI := St → Hp → (It → Hp → Prop) → Prop
noncomputable def PIE (X : Cx) (pins : List (Addr × Obj)) (σ : St) (tg : Expr) (R : It → Hp → Prop) (itv : Value) (s2 : Shared) : Prop :=
  ∃ (it : Addr) (fp : List Addr) (tn : Nat → Heap → Prop) (J : It) (H' : Hp), itv = .ref it ∧ Inv X pins σ H' s2 ∧ Turn X.prog X.w X.K tg J fp it tn ∧ tn 0 s2.heap ∧ (∀ b ∈ fp, FpOk X pins H' b) ∧ R J H'
noncomputable def PI (X : Cx) (tg iter : Expr) (wi : TI) : Prop :=
  ∀ (pins : List (Addr × Obj)) (s : Shared) (σ : St) (H : Hp) (R : It → Hp → Prop), Inv X pins σ H s → wi σ H R →
    wpAny (model X.prog X.w) X.A (eval iter X.env) (fun v s1 => wpAny (model X.prog X.w) X.A (pyIter v) (PIE X pins σ tg R) X.xe s1) X.xe s
theorem go_of {M : Model} {A : Around} {E : Value → Shared → Prop} {s : Shared} {tg : Expr} {it : Addr} {u : Value} {o : Obj} {n : String} {vs : Array Value} {Q : Unit → Shared → Prop} (ho : s.heap.get? it = some o) (hc : o.cls = .type n) (hd : o.data = .fields vs)
    (hn : ["enumerate", "zip", "dict_itemiterator", "dict_reverseitemiterator", "odict_iterator", "itertools.zip_longest", "itertools.pairwise"].contains n = false) (hQ : Q () s) : wpAny M A (letOwnedTupleGo tg (.ref it) u) Q E s := by
  unfold letOwnedTupleGo
  cases tg <;> first
    | exact wpAny_pure hQ
    | (cases u <;> first
        | exact wpAny_pure hQ
        | (refine wpAny_bind (wpAny_load ho ?_)
           rw [hc, hd]
           show wpAny M A (if (["enumerate", "zip", "dict_itemiterator", "dict_reverseitemiterator", "odict_iterator", "itertools.zip_longest", "itertools.pairwise"].contains n && vs[0]? == some (rawInt _)) = true then _ else _) Q E s
           rw [if_neg (by intro h; rw [hn, Bool.false_and] at h; cases h)]
           exact wpAny_pure hQ))
noncomputable def Itl (K : PySem.W.Frag) (a : Addr) : It :=
  ⟨fun i H => ∃ xs x, SqL K H a xs ∧ xs[i]? = some x, fun i H x H' => H' = H ∧ ∀ xs, SqL K H a xs → xs[i]? = some x, fun i H => ∃ xs, SqL K H a xs ∧ xs.length ≤ i⟩
noncomputable def Itt (K : PySem.W.Frag) (a : Addr) : It :=
  ⟨fun i H => ∃ xs x, SqT K H a xs ∧ xs[i]? = some x, fun i H x H' => H' = H ∧ ∀ xs, SqT K H a xs → xs[i]? = some x, fun i H => ∃ xs, SqT K H a xs ∧ xs.length ≤ i⟩
noncomputable def Itr (lo : Int) (n : Nat) : It := ⟨fun i _ => i < n, fun i H x H' => H' = H ∧ x = .int (lo + i), fun i _ => n ≤ i⟩
theorem turn_list {P : Program} {w : World} {K : PySem.W.Frag} {tg : Expr} (a it : Addr) : Turn P w K tg (Itl K a) [it] it (fun i h => h.IsListIter it a i) where
  mem := by simp
  obj := fun i h st b hb => by
    have e : b = it := by simpa using hb
    subst e
    obtain ⟨o, e, c, d⟩ := st
    exact ⟨o, e, fun v z => by rw [d] at z; cases z⟩
  keep := fun i h h' st k => st.at fun o e => k it (by simp) o e
  item := by
    intro X hP hw hK hc i pins s σ H E I hf st hg
    subst hP hw hK
    obtain ⟨xs, x, hq, hx⟩ := hg
    obtain ⟨its, rv, p, hz⟩ := I.list hq
    obtain ⟨u, hu, ru⟩ := rv.get hx
    obtain ⟨f0, f1, f2, f3, f4, f5⟩ := hf it (by simp)
    refine wpAny_pyNext_list_item st p.isList (x := u) (by simpa using hu) fun h' st' sb => ?_
    have I1 : Inv X pins σ H { s with heap := h' } := I.turned (t' := s.toks) (fun b o hb e => (sb.2 b hb).trans e) f0 f1 f3 f4 f5
    obtain ⟨o, e, c, d⟩ := id st'
    exact ⟨u, rfl, go_of (s := { s with heap := h' }) e c d (by decide) ⟨x, H, I1, ru, ⟨rfl, fun ys hy => by rw [I.list_inj hy hq]; exact hx⟩, st', fun b hb => (hf b hb).1⟩⟩
  done := by
    intro X hP hw hK hc i pins s σ H E I hf st hg
    subst hP hw hK
    obtain ⟨xs, hq, hx⟩ := hg
    obtain ⟨its, rv, p, hz⟩ := I.list hq
    obtain ⟨f0, f1, f2, f3, f4, f5⟩ := hf it (by simp)
    have hl := rv.length
    exact wpAny_pyNext_list_end (I.ok.hd hc) st p.isList (by simp; lia) fun h' eb => ⟨rfl, I.turned (t' := s.toks) (fun b o hb e => eb b o hb e) f0 f1 f3 f4 f5⟩
  self := fun _ _ _ _ _ st h => wpAny_pyIter_listiter st h
theorem turn_tuple {P : Program} {w : World} {K : PySem.W.Frag} {tg : Expr} (a it : Addr) : Turn P w K tg (Itt K a) [it] it (fun i h => h.IsTupleIter it a i) where
  mem := by simp
  obj := fun i h st b hb => by
    have e : b = it := by simpa using hb
    subst e
    obtain ⟨o, e, c, d⟩ := st
    exact ⟨o, e, fun v z => by rw [d] at z; cases z⟩
  keep := fun i h h' st k => st.at fun o e => k it (by simp) o e
  item := by
    intro X hP hw hK hc i pins s σ H E I hf st hg
    subst hP hw hK
    obtain ⟨xs, x, hq, hx⟩ := hg
    obtain ⟨its, rv, p, hz⟩ := I.tuple hq
    obtain ⟨u, hu, ru⟩ := rv.get hx
    obtain ⟨f0, f1, f2, f3, f4, f5⟩ := hf it (by simp)
    refine wpAny_pyNext_tuple_item st (show s.heap.IsTuple a its.toArray from p) (x := u) (by simpa using hu) fun h' st' sb => ?_
    have I1 : Inv X pins σ H { s with heap := h' } := I.turned (t' := s.toks) (fun b o hb e => (sb.2 b hb).trans e) f0 f1 f3 f4 f5
    obtain ⟨o, e, c, d⟩ := id st'
    exact ⟨u, rfl, go_of (s := { s with heap := h' }) e c d (by decide) ⟨x, H, I1, ru, ⟨rfl, fun ys hy => by rw [I.tuple_inj hy hq]; exact hx⟩, st', fun b hb => (hf b hb).1⟩⟩
  done := by
    intro X hP hw hK hc i pins s σ H E I hf st hg
    subst hP hw hK
    obtain ⟨xs, hq, hx⟩ := hg
    obtain ⟨its, rv, p, hz⟩ := I.tuple hq
    obtain ⟨f0, f1, f2, f3, f4, f5⟩ := hf it (by simp)
    have hl := rv.length
    exact wpAny_pyNext_tuple_end (I.ok.hd hc) st (show s.heap.IsTuple a its.toArray from p) (by simp; lia) fun h' eb => ⟨rfl, I.turned (t' := s.toks) (fun b o hb e => eb b o hb e) f0 f1 f3 f4 f5⟩
  self := fun _ _ _ _ _ st h => wpAny_pyIter_tupleiter st h
theorem turn_range {P : Program} {w : World} {K : PySem.W.Frag} {tg : Expr} (it : Addr) (lo : Int) (n : Nat) : Turn P w K tg (Itr lo n) [it] it (fun i h => IsRangeIter h it (lo + (i : Nat) * 1) ((n : Int) - (i : Nat)) 1) where
  mem := by simp
  obj := fun i h st b hb => by
    have e : b = it := by simpa using hb
    subst e
    exact ⟨_, st, fun v z => by
      have z' : Data.fields _ = Data.cell v := z
      cases z'⟩
  keep := fun i h h' st k => k it (by simp) _ st
  item := by
    intro X hP hw hK hc i pins s σ H E I hf st hg
    subst hP hw hK
    obtain ⟨f0, f1, f2, f3, f4, f5⟩ := hf it (by simp)
    have W := Walks.range (prog := X.prog) (w := X.w) (I.ok.hd hc) it lo 1 n
    refine W.item i s _ _ hg st fun v h' tk hv st' kk => ?_
    obtain ⟨t, rfl⟩ := hv
    have I1 : Inv X pins σ H { s with heap := h', toks := tk } := I.turned (fun b o hb e => kk b o (by simpa using hb) e) f0 f1 f3 f4 f5
    refine ⟨_, rfl, go_of (s := { s with heap := h', toks := tk }) (n := "range_iterator") st' rfl rfl (by decide) ⟨.int (lo + i), H, I1, ⟨t, ?_⟩, ⟨rfl, rfl⟩, st', fun b hb => (hf b hb).1⟩⟩
    rw [Int.mul_one]
  done := by
    intro X hP hw hK hc i pins s σ H E I hf st hg
    subst hP hw hK
    obtain ⟨f0, f1, f2, f3, f4, f5⟩ := hf it (by simp)
    exact wpAny_pyNext_range_end (I.ok.hd hc) st (by have : n ≤ i := hg; lia) fun h' eb => ⟨rfl, I.turned (t' := s.toks) (fun b o hb e => eb b o hb e) f0 f1 f3 f4 f5⟩
  self := fun _ _ _ _ _ st h => wpAny_pyIter_rangeiter st h
end L2
namespace L2
open PySem PySem.Spec PyProof.Rows
section
variable {X : Cx} {tg : Expr}
noncomputable def iList (K : PySem.W.Frag) (tl : TE) : TI := fun σ H R => tl σ H fun x H1 => ∃ a, x = .ref a ∧ (∃ xs, SqL K H1 a xs) ∧ R (Itl K a) H1
noncomputable def iTup (K : PySem.W.Frag) (tl : TE) : TI := fun σ H R => tl σ H fun x H1 => ∃ a, x = .ref a ∧ (∃ xs, SqT K H1 a xs) ∧ R (Itt K a) H1
theorem pi_list {l : Expr} {tl : TE} (hl : PE X l tl) : PI X tg l (iList X.K tl) := by
  intro pins s σ H R I h
  refine thn (hl pins s σ H _ I h) fun v s1 ⟨x, H1, I1, r1, q1⟩ => ?_
  obtain ⟨a, e, ⟨xs, hq⟩, q⟩ := q1
  subst e
  cases r1
  obtain ⟨its, rv, p, hz⟩ := I1.list hq
  refine wpAny_pyIter_list p.isList ?_
  refine ⟨s1.heap.objs.size, [s1.heap.objs.size], _, _, H1, rfl, I1.kept (t' := s1.toks) fun b o e => Heap.get?_push_of_some _ e, turn_list a _, ⟨_, Heap.get?_push_size _ rfl, rfl, rfl⟩, fun b hb => ?_, q⟩
  have e : b = s1.heap.objs.size := by simpa using hb
  subst e
  exact I1.fpOk (Nat.le_refl _) (I1.hok.fresh (Nat.le_refl _))
theorem pi_tup {l : Expr} {tl : TE} (hl : PE X l tl) : PI X tg l (iTup X.K tl) := by
  intro pins s σ H R I h
  refine thn (hl pins s σ H _ I h) fun v s1 ⟨x, H1, I1, r1, q1⟩ => ?_
  obtain ⟨a, e, ⟨xs, hq⟩, q⟩ := q1
  subst e
  cases r1
  obtain ⟨its, rv, p, hz⟩ := I1.tuple hq
  refine wpAny_pyIter_tuple (show s1.heap.IsTuple a its.toArray from p) ?_
  refine ⟨s1.heap.objs.size, [s1.heap.objs.size], _, _, H1, rfl, I1.kept (t' := s1.toks) fun b o e => Heap.get?_push_of_some _ e, turn_tuple a _, ⟨_, Heap.get?_push_size _ rfl, rfl, rfl⟩, fun b hb => ?_, q⟩
  have e : b = s1.heap.objs.size := by simpa using hb
  subst e
  exact I1.fpOk (Nat.le_refl _) (I1.hok.fresh (Nat.le_refl _))
theorem range_it {pins : List (Addr × Obj)} {σ : St} {H : Hp} {s : Shared} {R : It → Hp → Prop} {E : Value → Shared → Prop} {lo hi : Int} {t u v : Tok} {tk : Nat} (I : Inv X pins σ H s) (h1 : -(2 ^ 62) ≤ lo) (h2 : lo < 2 ^ 62) (h3 : -(2 ^ 62) ≤ hi) (h4 : hi < 2 ^ 62)
    (q : R (Itr lo (hi - lo).toNat) H) : wpAny (model X.prog X.w) X.A (pyIter (.ref s.heap.objs.size)) (PIE X pins σ tg R) E { s with heap := s.heap.push { cls := .type "range", data := .fields #[.int lo t, .int hi u, .int 1 v] }, toks := tk } := by
  refine wpAny_pyIter_range (IsRange.new ..) (small_one h1 h2 h3 h4) ?_
  have I1 : Inv X pins σ H { s with heap := s.heap.push { cls := .type "range", data := .fields #[.int lo t, .int hi u, .int 1 v] }, toks := tk } := I.kept fun b o e => Heap.get?_push_of_some _ e
  refine ⟨(s.heap.push { cls := .type "range", data := .fields #[.int lo t, .int hi u, .int 1 v] }).objs.size, [(s.heap.push { cls := .type "range", data := .fields #[.int lo t, .int hi u, .int 1 v] }).objs.size], _, _, H, rfl,
    I1.kept (t' := tk) fun b o e => Heap.get?_push_of_some _ e, turn_range _ lo (hi - lo).toNat, ?_, fun b hb => ?_, q⟩
  · have e1 : lo + ((0 : Nat) : Int) * 1 = lo := by simp
    have e2 : (((hi - lo).toNat : Nat) : Int) - ((0 : Nat) : Int) = Builtin.Range.rangeSize lo hi 1 := by rw [rangeSize_one]; split <;> lia
    show IsRangeIter _ _ (lo + ((0 : Nat) : Int) * 1) ((((hi - lo).toNat : Nat) : Int) - ((0 : Nat) : Int)) 1
    rw [e1, e2]
    exact Heap.get?_push_size _ rfl
  · have e : b = (s.heap.push { cls := .type "range", data := .fields #[.int lo t, .int hi u, .int 1 v] }).objs.size := by simpa using hb
    subst e
    exact I1.fpOk (Nat.le_refl _) (I1.hok.fresh (Nat.le_refl _))
noncomputable def iRng1 (ta : TA) : TI := fun σ H R => ta σ H fun vs H1 => ∃ j : Int, vs = [.int j] ∧ -(2 ^ 62) ≤ j ∧ j < 2 ^ 62 ∧ R (Itr 0 j.toNat) H1
noncomputable def iRng2 (ta : TA) : TI := fun σ H R => ta σ H fun vs H1 => ∃ i j : Int, vs = [.int i, .int j] ∧ (-(2 ^ 62) ≤ i ∧ i < 2 ^ 62 ∧ -(2 ^ 62) ≤ j ∧ j < 2 ^ 62) ∧ R (Itr i (j - i).toNat) H1
theorem pi_range1 {a : Expr} {ta : TA} {p pos : Pos} (hg : Gl X "range") (hm : X.mg "range" = none) (ha : PA X [a] ta) (hs : starEach [a] X.env = [(false, eval a X.env)] := by rfl) : PI X tg (.Call (.Name "range" p) [a] [] pos) (iRng1 ta) := by
  intro pins s σ H R I h
  refine Call_ (ld_blt I hg hm boot_range (PyProof.Rows.callWith_type1 (thn (ha pos pins s σ H _ I h) fun us s1 ⟨vs, H1, I1, r1, q1⟩ => ?_) hs rfl))
  obtain ⟨j, e, q1, q2, q⟩ := q1
  subst e
  cases r1 with
  | cons r rr =>
    cases rr
    obtain ⟨t, rfl⟩ := r
    exact call_range_1 (range_it I1 (by lia) (by lia) q1 q2 (by simpa using q))
theorem pi_range2 {a b : Expr} {ta : TA} {p pos : Pos} (hg : Gl X "range") (hm : X.mg "range" = none) (ha : PA X [a, b] ta) (hs : starEach [a, b] X.env = [(false, eval a X.env), (false, eval b X.env)] := by rfl) (hs2 : starEach [b] X.env = [(false, eval b X.env)] := by rfl) :
    PI X tg (.Call (.Name "range" p) [a, b] [] pos) (iRng2 ta) := by
  intro pins s σ H R I h
  refine Call_ (ld_blt I hg hm boot_range (PyProof.Rows.callWith_type1 (thn (ha pos pins s σ H _ I h) fun us s1 ⟨vs, H1, I1, r1, q1⟩ => ?_) (by rw [hs, hs2]) (by rw [hs2]; rfl)))
  obtain ⟨i, j, e, ⟨q1, q2, q3, q4⟩, q⟩ := q1
  subst e
  cases r1 with
  | cons r rr =>
    cases rr with
    | cons r' rr =>
      cases rr
      obtain ⟨t, rfl⟩ := r
      obtain ⟨t', rfl⟩ := r'
      exact call_range_2 (range_it I1 q1 q2 q3 q4 q)
noncomputable def tFor (wi : TI) (g : TG) (tb : TS) : TS := fun D σ H => wi σ H fun J H1 => ∃ W : Nat → Nat → St → Hp → Prop, (∃ m, W 0 m σ H1) ∧ ∀ i m σ H, W i m σ H →
  (J.stop i H ∧ D.nx σ H) ∨ (J.go i H ∧ ∃ N : St → Hp → Prop, (∀ σ' H', N σ' H' → ∃ m', m' < m ∧ W (i + 1) m' σ' H') ∧ ∀ x H', J.yld i H x H' → g x σ H' fun σ2 H2 => tb { D with nx := N, ct := N, bk := D.nx } σ2 H2)
noncomputable def pinsAt (fp : List Addr) (h : Heap) : List (Addr × Obj) := fp.filterMap fun b => (h.get? b).map fun o => (b, o)
theorem mem_pinsAt {fp : List Addr} {h : Heap} {b : Addr} {o : Obj} (hb : b ∈ fp) (e : h.get? b = some o) : (b, o) ∈ pinsAt fp h := List.mem_filterMap.mpr ⟨b, hb, by rw [e]; rfl⟩
theorem of_pinsAt {fp : List Addr} {h : Heap} {p : Addr × Obj} (hp : p ∈ pinsAt fp h) : p.1 ∈ fp ∧ h.get? p.1 = some p.2 := by
  obtain ⟨b, hb, e⟩ := List.mem_filterMap.mp hp
  cases q : h.get? b with
  | none => rw [q] at e; cases e
  | some o =>
    rw [q] at e
    have e' : (b, o) = p := Option.some.inj e
    subst e'
    exact ⟨hb, q⟩
theorem Inv.pinned {pins : List (Addr × Obj)} {σ : St} {H : Hp} {s : Shared} {fp : List Addr} (I : Inv X pins σ H s) (hf : ∀ b ∈ fp, FpOk X pins H b) (ho : ∀ b ∈ fp, ∃ o, s.heap.get? b = some o ∧ ∀ v, o.data ≠ .cell v) : Inv X (pins ++ pinsAt fp s.heap) σ H s :=
  I.pins_of fun p hp => (List.mem_append.mp hp).elim (fun z => I.pin p (List.mem_append_right _ z)) fun z => by
    obtain ⟨hb, e⟩ := of_pinsAt z
    obtain ⟨f0, f1, f2, _⟩ := hf p.1 hb
    obtain ⟨o, e', d⟩ := ho p.1 hb
    rw [e] at e'; cases e'
    exact ⟨e, f0, f1, f2, d⟩
theorem Inv.unpinned {pins pl : List (Addr × Obj)} {σ : St} {H : Hp} {s : Shared} (I : Inv X (pins ++ pl) σ H s) : Inv X pins σ H s := I.pins_of fun p hp => I.pin p (List.mem_append_right _ (List.mem_append_left _ hp))
theorem ps_for {iter : Expr} {body : List Stmt} {wi : TI} {g : TG} {tb : TS} {pos : Pos} (hp : PassesOwn (model X.prog X.w) X.A X.env X.xe) (hc : X.calm = true) (hi : PI X tg iter wi) (hg : PG X tg g) (hb : PSs X body tb)
    (hs : ∀ x, foldedSetIterable iter X.env x = pure x := by intro _; rfl) : PS X (.For tg iter body [] pos) (tFor wi g tb) := by
  intro pins s σ H D I h
  refine wpAny_For (thn (hi pins s σ H _ I h) fun v s1 h1 => thn h1 fun itv s2 h2 => ?_) hs
  obtain ⟨it, fp, tn, J, H2, e, I2, T, st2, f2, W, ⟨m0, w0⟩, turn⟩ := h2
  subst e
  have stat : ∀ {H' : Hp}, (∀ b ∈ fp, H' b = none) → ∀ b ∈ fp, FpOk X pins H' b := fun hn b hb => ⟨hn b hb, (f2 b hb).2⟩
  refine codeAny_forLoop_any (fun n s' => ∃ i σ' H', Inv X pins σ' H' s' ∧ tn i s'.heap ∧ (∀ b ∈ fp, H' b = none) ∧ W i n σ' H') ?_ m0 ⟨0, σ, H2, I2, st2, fun b hb => (f2 b hb).1, w0⟩
  rintro n s3 ⟨i, σ3, H3, I3, st3, fr3, w3⟩
  rcases turn i n σ3 H3 w3 with ⟨stop, qn⟩ | ⟨go, N, hN, step⟩
  · refine wpAny_passesOwn hp (thn (T.done X rfl rfl rfl hc i pins s3 σ3 H3 X.xe I3 (stat fr3) st3 stop) fun r s4 ⟨hr, I4⟩ => ?_)
    subst hr
    exact wpAny_execs_nil ⟨σ3, H3, I4, qn⟩
  · refine wpAny_passesOwn hp (thn (T.item X rfl rfl rfl hc i pins s3 σ3 H3 X.xe I3 (stat fr3) st3 go) fun r s4 ⟨u, hr, h4⟩ => ?_)
    subst hr
    refine wpAny_passesOwn hp (thn h4 fun _ s5 ⟨x, H5, I5, r5, y5, st5, fr5⟩ => ?_)
    have I5' := I5.pinned (stat fr5) (T.obj _ _ st5)
    refine wpAny_passesOwn hp (thn (hg _ s5 σ3 H5 x u _ I5' r5 (step x H5 y5)) fun _ s6 ⟨σ6, H6, I6, q6⟩ => ?_)
    refine wpAny_passesOwn hp (thn (hb _ s6 σ6 H6 _ I6 q6) fun f s7 q7 => ?_)
    have again : ∀ {σ7 : St} {H7 : Hp}, Inv X (pins ++ pinsAt fp s5.heap) σ7 H7 s7 → N σ7 H7 → ∃ m, m < n ∧ ∃ i σ' H', Inv X pins σ' H' s7 ∧ tn i s7.heap ∧ (∀ b ∈ fp, H' b = none) ∧ W i m σ' H' := fun {σ7 H7} I7 n7 => by
      obtain ⟨m', hm, w7⟩ := hN σ7 H7 n7
      refine ⟨m', hm, i + 1, σ7, H7, I7.unpinned, T.keep _ _ _ st5 fun b hb o e => (I7.pin (b, o) (List.mem_append_right _ (List.mem_append_right _ (mem_pinsAt hb e)))).1, fun b hb => ?_, w7⟩
      obtain ⟨o, e, d⟩ := T.obj _ _ st5 b hb
      exact (I7.pin (b, o) (List.mem_append_right _ (List.mem_append_right _ (mem_pinsAt hb e)))).2.1
    cases f with
    | next => obtain ⟨σ7, H7, I7, n7⟩ := q7; exact again I7 n7
    | cont => obtain ⟨σ7, H7, I7, n7⟩ := q7; exact again I7 n7
    | brk => obtain ⟨σ7, H7, I7, q7⟩ := q7; exact ⟨σ7, H7, I7.unpinned, q7⟩
    | ret v => obtain ⟨x7, σ7, H7, I7, r7, q7⟩ := q7; exact ⟨x7, σ7, H7, I7.unpinned, r7, q7⟩
end
end L2
namespace L2
open PySem PySem.Spec PyProof.Rows
noncomputable abbrev R2 := V → V → Hp → VK → Prop
noncomputable def OpR (X : Cx) (f : Value → Value → Sem Value) (r : R2) : Prop :=
  ∀ (pins : List (Addr × Obj)) (s : Shared) (σ : St) (H : Hp) (x y : V) (v u : Value) (Q : VK), Inv X pins σ H s → RelV x v → RelV y u → r x y H Q →
    wpAny (model X.prog X.w) X.A (f v u) (EP X pins σ Q) X.xe s
noncomputable def UnR (X : Cx) (f : Value → Sem Value) (r : V → Hp → VK → Prop) : Prop :=
  ∀ (pins : List (Addr × Obj)) (s : Shared) (σ : St) (H : Hp) (x : V) (v : Value) (Q : VK), Inv X pins σ H s → RelV x v → r x H Q →
    wpAny (model X.prog X.w) X.A (f v) (EP X pins σ Q) X.xe s
noncomputable def CallR (X : Cx) (f : Value) (r : List V → Hp → VK → Prop) : Prop :=
  ∀ (pins : List (Addr × Obj)) (s : Shared) (σ : St) (H : Hp) (xs : List V) (us : List Value) (Q : VK), Inv X pins σ H s → Vals xs us → r xs H Q →
    wpAny (model X.prog X.w) X.A (call f us) (EP X pins σ Q) X.xe s
noncomputable def TruR (X : Cx) (r : V → Hp → (Bool → Hp → Prop) → Prop) : Prop :=
  ∀ (pins : List (Addr × Obj)) (s : Shared) (σ : St) (H : Hp) (x : V) (v : Value) (Q : Bool → Hp → Prop), Inv X pins σ H s → RelV x v → r x H Q →
    wpAny (model X.prog X.w) X.A (truthy v) (TP X pins σ Q) X.xe s
noncomputable def tOp (r : R2) (ta tb : TE) : TE := fun σ H Q => ta σ H fun x H1 => tb σ H1 fun y H2 => r x y H2 Q
noncomputable def tUn (r : V → Hp → VK → Prop) (ta : TE) : TE := fun σ H Q => ta σ H fun x H1 => r x H1 Q
noncomputable def rI (C : Int → Int → Prop) (g : Int → Int → V) : R2 := fun x y H Q => ∃ i j, x = .int i ∧ y = .int j ∧ C i j ∧ Q (g i j) H
noncomputable def rI0 (g : Int → Int → V) : R2 := fun x y H Q => ∃ i j, x = .int i ∧ y = .int j ∧ Q (g i j) H
noncomputable def rU (g : Int → V) : V → Hp → VK → Prop := fun x H Q => ∃ i, x = .int i ∧ Q (g i) H
section
variable {X : Cx} {a b c : Expr} {ta tb tc : TE} {pos : Pos}
theorem binT (ha : PE X a ta) (hb : PE X b tb) {pins : List (Addr × Obj)} {s : Shared} {σ : St} {H : Hp} {R : V → V → Hp → Prop} (I : Inv X pins σ H s)
    (h : ta σ H fun x H1 => tb σ H1 fun y H2 => R x y H2) {Q : Value → Shared → Prop} {f : Value → Value → Sem Value}
    (hf : ∀ v u s2 x y H2, Inv X pins σ H2 s2 → RelV x v → RelV y u → R x y H2 → wpAny (model X.prog X.w) X.A (f v u) Q X.xe s2) :
    wpAny (model X.prog X.w) X.A (eval a X.env) (fun v s₁ => wpAny (model X.prog X.w) X.A (eval b X.env) (fun u s₂ => wpAny (model X.prog X.w) X.A (f v u) Q X.xe s₂) X.xe s₁) X.xe s := by
  refine thn (ha pins s σ H _ I h) fun v s1 ⟨x, H1, I1, r1, q1⟩ => ?_
  refine thn (hb pins s1 σ H1 _ I1 q1) fun u s2 ⟨y, H2, I2, r2, q2⟩ => ?_
  exact hf v u s2 x y H2 I2 r1 r2 q2
theorem pe_op {op : Operator} {r : R2} (ho : OpR X (binaryOp op) r) (ha : PE X a ta) (hb : PE X b tb) : PE X (.BinOp a op b pos) (tOp r ta tb) := by
  intro pins s σ H Q I h
  exact wpAny_BinOp (binT ha hb I h fun v u s2 x y H2 I2 rx ry q => ho pins s2 σ H2 x y v u Q I2 rx ry q)
theorem pe_un {op : UnaryOp} {r : V → Hp → VK → Prop} (ho : UnR X (unaryOp op) r) (ha : PE X a ta) : PE X (.UnaryOp op a pos) (tUn r ta) := by
  intro pins s σ H Q I h
  exact UnaryOp_ (thn (ha pins s σ H _ I h) fun v s1 ⟨x, H1, I1, r1, q1⟩ => ho pins s1 σ H1 x v Q I1 r1 q1)
theorem opI {f : Value → Value → Sem Value} {C : Int → Int → Prop} {g : Int → Int → Int}
    (rule : ∀ (i j : Int) (t u : Tok) (s : Shared) (Q : Value → Shared → Prop) (E : Value → Shared → Prop), C i j → Q (.int (g i j) s.toks) { s with toks := s.toks + 1 } → wpAny (model X.prog X.w) X.A (f (.int i t) (.int j u)) Q E s) :
    OpR X f (rI C fun i j => .int (g i j)) := by
  intro pins s σ H x y v u Q I rx ry h
  obtain ⟨i, j, rfl, rfl, hc, q⟩ := h
  obtain ⟨t, rfl⟩ := rx
  obtain ⟨t', rfl⟩ := ry
  exact rule i j t t' s _ _ hc ⟨.int (g i j), H, I.tok _, ⟨_, rfl⟩, q⟩
theorem opI0 {f : Value → Value → Sem Value} {g : Int → Int → Int}
    (rule : ∀ (i j : Int) (t u : Tok) (s : Shared) (Q : Value → Shared → Prop) (E : Value → Shared → Prop), Q (.int (g i j) s.toks) { s with toks := s.toks + 1 } → wpAny (model X.prog X.w) X.A (f (.int i t) (.int j u)) Q E s) :
    OpR X f (rI0 fun i j => .int (g i j)) := by
  intro pins s σ H x y v u Q I rx ry h
  obtain ⟨i, j, rfl, rfl, q⟩ := h
  obtain ⟨t, rfl⟩ := rx
  obtain ⟨t', rfl⟩ := ry
  exact rule i j t t' s _ _ ⟨.int (g i j), H, I.tok _, ⟨_, rfl⟩, q⟩
theorem opB0 {f : Value → Value → Sem Value} {g : Int → Int → Bool}
    (rule : ∀ (i j : Int) (t u : Tok) (s : Shared) (Q : Value → Shared → Prop) (E : Value → Shared → Prop), Q (.bool (g i j)) s → wpAny (model X.prog X.w) X.A (f (.int i t) (.int j u)) Q E s) :
    OpR X f (rI0 fun i j => .bl (g i j)) := by
  intro pins s σ H x y v u Q I rx ry h
  obtain ⟨i, j, rfl, rfl, q⟩ := h
  obtain ⟨t, rfl⟩ := rx
  obtain ⟨t', rfl⟩ := ry
  exact rule i j t t' s _ _ ⟨.bl (g i j), H, I, rfl, q⟩
noncomputable def CDiv (i j : Int) : Prop := 0 < j ∧ j < 1073741824
noncomputable def CMul (i j : Int) : Prop := (-(2 ^ 64) < i ∧ i < 2 ^ 64) ∨ (-(2 ^ 64) < j ∧ j < 2 ^ 64)
theorem CMul.ok {i j : Int} (h : CMul i j) : IntMulOk i j := by
  rcases h with ⟨h1, h2⟩ | ⟨h1, h2⟩
  · exact .of_left (intBits_le_64 h1 h2)
  · exact .of_right (intBits_le_64 h1 h2)
theorem op_add : OpR X (binaryOp .Add) (rI0 fun i j => .int (i + j)) := opI0 fun _ _ _ _ _ _ _ q => add_int q
theorem op_sub : OpR X (binaryOp .Sub) (rI0 fun i j => .int (i - j)) := opI0 fun _ _ _ _ _ _ _ q => sub_int q
theorem op_mul : OpR X (binaryOp .Mult) (rI CMul fun i j => .int (i * j)) := opI fun _ _ _ _ _ _ _ hc q => mul_int q hc.ok
theorem op_fdiv : OpR X (binaryOp .FloorDiv) (rI CDiv fun i j => .int (i / j)) := opI fun i j _ _ _ _ _ hc q => by
  have h1 : (0 : Int) < j := hc.1
  have h2 : j < 1073741824 := hc.2
  exact floordiv_int (by lia) (by rw [Int.fdiv_eq_ediv_of_nonneg i (by lia)]; exact q) (.inl (PyProof.noPylong_small (by omega)))
theorem op_mod : OpR X (binaryOp .Mod) (rI (fun _ j => 0 < j) fun i j => .int (i % j)) := opI fun i j _ _ _ _ _ hc q => by
  have h1 : (0 : Int) < j := hc
  exact mod_int' (by lia) (by rw [Int.fmod_eq_emod_of_nonneg i (by lia)]; exact q)
theorem unI {f : Value → Sem Value} {g : Int → Int}
    (rule : ∀ (i : Int) (t : Tok) (s : Shared) (Q : Value → Shared → Prop) (E : Value → Shared → Prop), Q (.int (g i) s.toks) { s with toks := s.toks + 1 } → wpAny (model X.prog X.w) X.A (f (.int i t)) Q E s) :
    UnR X f (rU fun i => .int (g i)) := by
  intro pins s σ H x v Q I rx h
  obtain ⟨i, rfl, q⟩ := h
  obtain ⟨t, rfl⟩ := rx
  exact rule i t s _ _ ⟨.int (g i), H, I.tok _, ⟨_, rfl⟩, q⟩
theorem un_neg : UnR X (unaryOp .USub) (rU fun i => .int (-i)) := unI fun _ _ _ _ _ q => neg_int q
end
noncomputable def scal : V → V → Bool
  | .non, .non => true | .non, .int _ => true | .int _, .non => true | .non, .bl _ => true | .bl _, .non => true | .non, .str _ => true | .str _, .non => true
  | .int _, .int _ => true | .bl _, .bl _ => true | .str _, .str _ => true | .byt _, .byt _ => true
  | .int _, .str _ => true | .str _, .int _ => true | .bl _, .str _ => true | .str _, .bl _ => true
  | _, _ => false
noncomputable def rEq : R2 := fun x y H Q => scal x y = true ∧ Q (.bl (decide (x = y))) H
noncomputable def rNe : R2 := fun x y H Q => scal x y = true ∧ Q (.bl (!decide (x = y))) H
theorem dec_int {i j : Int} : decide (V.int i = V.int j) = (i == j) := by
  rw [Bool.eq_iff_iff]
  simp
theorem dec_bl {i j : Bool} : decide (V.bl i = V.bl j) = (i == j) := by
  rw [Bool.eq_iff_iff]
  simp
theorem dec_str {i j : Str} : decide (V.str i = V.str j) = (i == j) := by
  rw [Bool.eq_iff_iff]
  simp
theorem dec_byt {i j : Array UInt8} : decide (V.byt i = V.byt j) = (i.toList == j.toList) := by
  rw [Bool.eq_iff_iff]
  cases i
  cases j
  simp
section
variable {X : Cx} {a b c : Expr} {ta tb tc : TE} {pos : Pos}
theorem fin_bl {pins : List (Addr × Obj)} {σ : St} {H : Hp} {s : Shared} {Q : VK} {k k' : Bool} (I : Inv X pins σ H s) (q : Q (.bl k) H) (e : k = k') : EP X pins σ Q (.bool k') s := by
  subst e
  exact ⟨.bl k, H, I, rfl, q⟩
theorem op_eq : OpR X (compareOp .Eq) rEq := by
  intro pins s σ H x y v u Q I rx ry h
  obtain ⟨hs, q⟩ := h
  cases x with
  | non =>
    cases rx
    cases y with
    | non => cases ry; exact PySem.EqNone.eq_none_none (fin_bl I q (by simp))
    | bl j => cases ry; exact PySem.EqNone.eq_none_bool (fin_bl I q (by simp))
    | int j => obtain ⟨t', rfl⟩ := ry; exact PySem.EqNone.eq_none_int (fin_bl I q (by simp))
    | str j => obtain ⟨t', rfl⟩ := ry; exact PySem.EqNone.eq_none_str (fin_bl I q (by simp))
    | _ => exact absurd (show false = true from hs) Bool.false_ne_true
  | bl i =>
    cases rx
    cases y with
    | non => cases ry; exact PySem.EqNone.eq_bool_none (fin_bl I q (by simp))
    | bl j => cases ry; exact eq_bool (fin_bl I q dec_bl)
    | str j => obtain ⟨t', rfl⟩ := ry; exact PySem.EqMixed.eq_bool_str (fin_bl I q (by simp))
    | _ => exact absurd (show false = true from hs) Bool.false_ne_true
  | int i =>
    obtain ⟨t, rfl⟩ := rx
    cases y with
    | non => cases ry; exact PySem.EqNone.eq_int_none (fin_bl I q (by simp))
    | int j => obtain ⟨t', rfl⟩ := ry; exact eq_int (fin_bl I q dec_int)
    | str j => obtain ⟨t', rfl⟩ := ry; exact PySem.EqMixed.eq_int_str (fin_bl I q (by simp))
    | _ => exact absurd (show false = true from hs) Bool.false_ne_true
  | str i =>
    obtain ⟨t, rfl⟩ := rx
    cases y with
    | non => cases ry; exact PySem.EqNone.eq_str_none (fin_bl I q (by simp))
    | bl j => cases ry; exact PySem.EqMixed.eq_str_bool (fin_bl I q (by simp))
    | int j => obtain ⟨t', rfl⟩ := ry; exact PySem.EqMixed.eq_str_int (fin_bl I q (by simp))
    | str j => obtain ⟨t', rfl⟩ := ry; exact eq_str (fin_bl I q dec_str)
    | _ => exact absurd (show false = true from hs) Bool.false_ne_true
  | byt i =>
    obtain ⟨t, rfl⟩ := rx
    cases y with
    | byt j => obtain ⟨t', rfl⟩ := ry; exact PySem.W.eq_bytes (fin_bl I q dec_byt)
    | _ => exact absurd (show false = true from hs) Bool.false_ne_true
  | _ => cases y <;> exact absurd (show false = true from hs) Bool.false_ne_true
theorem op_ne : OpR X (compareOp .NotEq) rNe := by
  intro pins s σ H x y v u Q I rx ry h
  obtain ⟨hs, q⟩ := h
  cases x with
  | non =>
    cases rx
    cases y with
    | non => cases ry; exact PySem.EqNone.ne_none_none (fin_bl I q (by simp))
    | bl j => cases ry; exact PySem.EqNone.ne_none_bool (fin_bl I q (by simp))
    | int j => obtain ⟨t', rfl⟩ := ry; exact PySem.EqNone.ne_none_int (fin_bl I q (by simp))
    | str j => obtain ⟨t', rfl⟩ := ry; exact PySem.EqNone.ne_none_str (fin_bl I q (by simp))
    | _ => exact absurd (show false = true from hs) Bool.false_ne_true
  | bl i =>
    cases rx
    cases y with
    | non => cases ry; exact PySem.EqNone.ne_bool_none (fin_bl I q (by simp))
    | bl j => cases ry; exact ne_bool (fin_bl I q (congrArg not dec_bl))
    | str j => obtain ⟨t', rfl⟩ := ry; exact PySem.EqMixed.ne_bool_str (fin_bl I q (by simp))
    | _ => exact absurd (show false = true from hs) Bool.false_ne_true
  | int i =>
    obtain ⟨t, rfl⟩ := rx
    cases y with
    | non => cases ry; exact PySem.EqNone.ne_int_none (fin_bl I q (by simp))
    | int j => obtain ⟨t', rfl⟩ := ry; exact ne_int (fin_bl I q (congrArg not dec_int))
    | str j => obtain ⟨t', rfl⟩ := ry; exact PySem.EqMixed.ne_int_str (fin_bl I q (by simp))
    | _ => exact absurd (show false = true from hs) Bool.false_ne_true
  | str i =>
    obtain ⟨t, rfl⟩ := rx
    cases y with
    | non => cases ry; exact PySem.EqNone.ne_str_none (fin_bl I q (by simp))
    | bl j => cases ry; exact PySem.EqMixed.ne_str_bool (fin_bl I q (by simp))
    | int j => obtain ⟨t', rfl⟩ := ry; exact PySem.EqMixed.ne_str_int (fin_bl I q (by simp))
    | str j => obtain ⟨t', rfl⟩ := ry; exact ne_str (fin_bl I q (congrArg not dec_str))
    | _ => exact absurd (show false = true from hs) Bool.false_ne_true
  | byt i =>
    obtain ⟨t, rfl⟩ := rx
    cases y with
    | byt j => obtain ⟨t', rfl⟩ := ry; exact PySem.W.ne_bytes (fin_bl I q (congrArg not dec_byt))
    | _ => exact absurd (show false = true from hs) Bool.false_ne_true
  | _ => cases y <;> exact absurd (show false = true from hs) Bool.false_ne_true
theorem op_lt : OpR X (compareOp .Lt) (rI0 fun i j => .bl (decide (i < j))) := opB0 fun _ _ _ _ _ _ _ q => lt_int q
theorem op_le : OpR X (compareOp .LtE) (rI0 fun i j => .bl (decide (i ≤ j))) := opB0 fun _ _ _ _ _ _ _ q => le_int q
theorem op_gt : OpR X (compareOp .Gt) (rI0 fun i j => .bl (decide (j < i))) := opB0 fun _ _ _ _ _ _ _ q => gt_int q
theorem op_in_str : OpR X (compareOp .In) (fun x y H Q => ∃ i j, x = .str i ∧ y = .str j ∧ Q (.bl (!(Builtin.Str.occurrences j i 0 j.length 1).isEmpty)) H) := by
  intro pins s σ H x y v u Q I rx ry h
  obtain ⟨i, j, rfl, rfl, q⟩ := h
  obtain ⟨t, rfl⟩ := rx
  obtain ⟨t', rfl⟩ := ry
  exact in_str (fin_bl I q rfl)
theorem op_isN : OpR X (compareOp .Is) (fun x y H Q => y = .non ∧ Q (.bl (decide (x = .non))) H) := by
  intro pins s σ H x y v u Q I rx ry h
  obtain ⟨rfl, q⟩ := h
  cases ry
  refine is_none_gen (fin_bl I q ?_)
  cases x <;> first
    | (cases rx; rfl)
    | (obtain ⟨t, rfl⟩ := rx; rfl)
theorem nomark (b : Expr) {op : CmpOp} (h : op ≠ .In := by decide) (h2 : op ≠ .NotIn := by decide) : behindInMarks op b = false := by
  have e1 : (op == CmpOp.In) = false := by cases op <;> first | rfl | exact absurd rfl h
  have e2 : (op == CmpOp.NotIn) = false := by cases op <;> first | rfl | exact absurd rfl h2
  cases b <;> simp [behindInMarks, e1, e2]
theorem pe_cmpR {op : CmpOp} {r : R2} (ho : OpR X (compareOp op) r) (ha : PE X a ta) (hb : PE X b tb) (hm : behindInMarks op b = false) : PE X (.Compare a [op] [b] pos) (tOp r ta tb) := by
  intro pins s σ H Q I h
  exact wpAny_Compare1 (binT ha hb I h fun v u s2 x y H2 I2 rx ry q => ho pins s2 σ H2 x y v u Q I2 rx ry q) hm
noncomputable def tTest (t : TE) : TT := fun σ H Q => t σ H fun x H' => ∃ k, x = .bl k ∧ Q k H'
theorem pt_cmpR {op : CmpOp} {r : R2} (ho : OpR X (compareOp op) r) (ha : PE X a ta) (hb : PE X b tb) (hm : behindInMarks op b = false) : PT X (.Compare a [op] [b] pos) (tTest (tOp r ta tb)) := by
  intro pins s σ H Q I h
  refine wpAny_isTrue_Compare1 (thn (ha pins s σ H _ I h) fun v s1 ⟨x, H1, I1, r1, q1⟩ => thn (hb pins s1 σ H1 _ I1 q1) fun u s2 ⟨y, H2, I2, r2, q2⟩ =>
    thn (ho pins s2 σ H2 x y v u _ I2 r1 r2 q2) fun c s3 ⟨z, H3, I3, r3, k, e, q3⟩ => ?_) hm
  subst e
  cases r3
  exact wpAny_truthy_bool ⟨H3, I3, q3⟩
noncomputable def tChain (r r' : R2) (ta tb tc : TE) : TE := fun σ H Q => ta σ H fun x H1 => tb σ H1 fun y H2 => r x y H2 fun z H3 => ∃ k, z = .bl k ∧
  (if k = true then tc σ H3 fun w' H4 => r' y w' H4 Q else Q (.bl false) H3)
theorem pe_chain {op op' : CmpOp} {r r' : R2} (ho : OpR X (compareOp op) r) (ho' : OpR X (compareOp op') r') (ha : PE X a ta) (hb : PE X b tb) (hc : PE X c tc)
    (hm : lastMarks [op, op'] [b, c] = false := by with_unfolding_all rfl) : PE X (.Compare a [op, op'] [b, c] pos) (tChain r r' ta tb tc) := by
  intro pins s σ H Q I h
  refine Compare_chain (thn (ha pins s σ H _ I h) fun v s1 ⟨x, H1, I1, r1, q1⟩ => chain_link (thn (hb pins s1 σ H1 _ I1 q1) fun u s2 ⟨y, H2, I2, r2, q2⟩ =>
    thn (ho pins s2 σ H2 x y v u _ I2 r1 r2 q2) fun d s3 ⟨z, H3, I3, r3, k, e, q3⟩ => ?_)) hm
  subst e
  cases r3
  refine wpAny_truthy_bool ?_
  cases k with
  | false => exact ite_ff ⟨.bl false, H3, I3, rfl, q3⟩
  | true => exact ite_tt (chain_last (thn (hc pins s3 σ H3 _ I3 q3) fun w' s4 ⟨z', H4, I4, r4, q4⟩ => ho' pins s4 σ H4 y z' u w' Q I4 r2 r4 q4))
noncomputable def TruV (K : PySem.W.Frag) (x : V) (H : Hp) (k : Bool) : Prop :=
  match x with
  | .non => k = false
  | .bl b => k = b
  | .int i => k = (i != 0)
  | .str y => y.length ≤ sizeLine ∧ k = ((y.length : Int) != 0)
  | .byt y => y.size ≤ sizeLine ∧ k = ((y.size : Int) != 0)
  | .ref p => (∃ xs, SqL K H p xs ∧ k = !xs.isEmpty) ∨ (∃ xs, SqT K H p xs ∧ k = !xs.isEmpty) ∨ ∃ kvs, H p = some (.dK kvs) ∧ k = !kvs.isEmpty
  | _ => False
theorem isEmpty_kv {κ : Type} {kvs : List (κ × V)} {vs : List (κ × Value)} (r : KV kvs vs) : (!vs.isEmpty) = !kvs.isEmpty := by
  cases r <;> rfl
theorem isEmpty_of {xs : List V} {its : List Value} (r : Vals xs its) : (!its.toArray.isEmpty) = !xs.isEmpty := by
  cases r <;> simp
theorem line63 : (sizeLine : Nat) < 2 ^ 63 := by rw [sizeLine_eq]; decide
theorem tru_ok : TruR X (fun x H Q => ∃ k, TruV X.K x H k ∧ Q k H) := by
  intro pins s σ H x v Q I rx h
  obtain ⟨k, e, q⟩ := h
  have hl := line63
  have hs : sizeLine = 16777216 := sizeLine_eq
  cases x with
  | non =>
    cases rx
    have e' : k = false := e
    subst e'
    exact truthy_none ⟨H, I, q⟩
  | bl b =>
    cases rx
    have e' : k = b := e
    subst e'
    exact wpAny_truthy_bool ⟨H, I, q⟩
  | int i =>
    obtain ⟨t, rfl⟩ := rx
    have e' : k = (i != 0) := e
    subst e'
    exact PySem.P.truthy_int ⟨H, I, q⟩
  | str y =>
    obtain ⟨t, rfl⟩ := rx
    obtain ⟨hy, e'⟩ : y.length ≤ sizeLine ∧ k = ((y.length : Int) != 0) := e
    subst e'
    exact PySem.P.truthy_str (by lia) ⟨H, I.tok _, q⟩
  | byt y =>
    obtain ⟨t, rfl⟩ := rx
    obtain ⟨hy, e'⟩ : y.size ≤ sizeLine ∧ k = ((y.size : Int) != 0) := e
    subst e'
    exact PySem.W.truthy_bytes (by lia) ⟨H, I.tok _, q⟩
  | ref p =>
    cases rx
    have e' : (∃ xs, SqL X.K H p xs ∧ k = !xs.isEmpty) ∨ (∃ xs, SqT X.K H p xs ∧ k = !xs.isEmpty) ∨ ∃ kvs, H p = some (.dK kvs) ∧ k = !kvs.isEmpty := e
    rcases e' with ⟨xs, hx, e'⟩ | ⟨xs, hx, e'⟩ | ⟨kvs, hx, e'⟩
    · subst e'
      obtain ⟨its, r, pl, hz⟩ := I.list hx
      have hlen := r.length
      exact wpAny_truthy_list pl.isList (by simp only [List.size_toArray]; lia) ⟨H, I.tok _, by rw [isEmpty_of r]; exact q⟩
    · subst e'
      obtain ⟨its, r, pl, hz⟩ := I.tuple hx
      have hlen := r.length
      exact truthy_tuple pl (by simp only [List.size_toArray]; lia) ⟨H, I.tok _, by rw [isEmpty_of r]; exact q⟩
    · subst e'
      obtain ⟨hz, hS, vs, r, m⟩ : kvs.length ≤ sizeLine ∧ (p == sysModules) = false ∧ ∃ vs, KV kvs vs ∧ s.heap.DictOf (mixKind X.prog X.w) p vs := I.hok p _ hx
      have hlen : kvs.length = vs.length := Paired.length r
      exact wpAny_truthy_dict hS m (by lia) ⟨H, I.tok _, by rw [isEmpty_kv r]; exact q⟩
  | _ => exact (show False from e).elim
theorem pt_truth (ha : PE X a ta) (he : ∀ whole, isTrue a X.env whole = (do let v ← whole; standAt a.pos; holding [v] (truthy v))) :
    PT X a (fun σ H Q => ta σ H fun x H' => ∃ k, TruV X.K x H' k ∧ Q k H') := by
  intro pins s σ H Q I h
  exact isTrue_plain (thn (ha pins s σ H _ I h) fun v s1 ⟨x, H1, I1, r1, q1⟩ => tru_ok pins s1 σ H1 x v Q I1 r1 q1) (he _)
theorem op_add_str : OpR X (binaryOp .Add) (fun x y H Q => ∃ i j, x = .str i ∧ y = .str j ∧ i.length + j.length ≤ sizeLine ∧ Q (.str (i ++ j)) H) := by
  intro pins s σ H x y v u Q I rx ry h
  obtain ⟨i, j, rfl, rfl, hz, q⟩ := h
  obtain ⟨t, rfl⟩ := rx
  obtain ⟨t', rfl⟩ := ry
  exact add_str (fun t' tk => ⟨.str (i ++ j), H, I.tok _, ⟨_, rfl⟩, q⟩) hz
theorem vals1 {x : V} {us : List Value} (r : Vals [x] us) : ∃ u, us = [u] ∧ RelV x u := by
  cases r with
  | cons r1 r2 => cases r2; exact ⟨_, rfl, r1⟩
theorem vals2 {x y : V} {us : List Value} (r : Vals [x, y] us) : ∃ u w', us = [u, w'] ∧ RelV x u ∧ RelV y w' := by
  cases r with
  | cons r1 r2 =>
    cases r2 with
    | cons r3 r4 => cases r4; exact ⟨_, _, rfl, r1, r3⟩
theorem call_abs : CallR X (.builtin "abs") (fun xs H Q => ∃ i, xs = [.int i] ∧ Q (.int (if i < 0 then -i else i)) H) := by
  intro pins s σ H xs us Q I r h
  obtain ⟨i, rfl, q⟩ := h
  obtain ⟨u, rfl, t, rfl⟩ := vals1 r
  exact call_abs_int fun u tk => ⟨.int (if i < 0 then -i else i), H, I.tok _, ⟨_, rfl⟩, q⟩
theorem call_int1 : CallR X (.type "int") (fun xs H Q => (∃ i, xs = [.int i] ∧ Q (.int i) H) ∨ ∃ k, xs = [.bl k] ∧ Q (.int (if k then 1 else 0)) H) := by
  intro pins s σ H xs us Q I r h
  rcases h with ⟨i, rfl, q⟩ | ⟨k, rfl, q⟩
  · obtain ⟨u, rfl, t, rfl⟩ := vals1 r
    exact call_int_int ⟨.int i, H, I, ⟨_, rfl⟩, q⟩
  · obtain ⟨u, rfl, r1⟩ := vals1 r
    cases r1
    exact call_int_bool ⟨.int (if k then 1 else 0), H, I.tok _, ⟨_, rfl⟩, q⟩
theorem call_str_int : CallR X (.type "str") (fun xs H Q => ∃ i, xs = [.int i] ∧ i.natAbs.log2 < 1920 ∧ Q (.str (toString i)) H) := by
  intro pins s σ H xs us Q I r h
  obtain ⟨i, rfl, hz, q⟩ := h
  obtain ⟨u, rfl, t, rfl⟩ := vals1 r
  exact PySem.P.str_of_int hz ⟨.str _, H, I.tok _, ⟨_, rfl⟩, q⟩
noncomputable def LenV (K : PySem.W.Frag) (x : V) (H : Hp) (n : Nat) : Prop :=
  match x with
  | .str y => y.length ≤ sizeLine ∧ n = y.length
  | .byt y => y.size ≤ sizeLine ∧ n = y.size
  | .ref p => (∃ xs, SqL K H p xs ∧ n = xs.length) ∨ ∃ xs, SqT K H p xs ∧ n = xs.length
  | _ => False
theorem call_len : CallR X (.builtin "len") (fun xs H Q => ∃ x n, xs = [x] ∧ LenV X.K x H n ∧ Q (.int n) H) := by
  intro pins s σ H xs us Q I r h
  obtain ⟨x, n, rfl, e, q⟩ := h
  obtain ⟨u, rfl, rx⟩ := vals1 r
  have hl := line63
  have hs : sizeLine = 16777216 := sizeLine_eq
  cases x with
  | str y =>
    obtain ⟨t, rfl⟩ := rx
    obtain ⟨hy, e'⟩ : y.length ≤ sizeLine ∧ n = y.length := e
    subst e'
    exact len_str (by lia) ⟨.int _, H, I.tok _, ⟨_, rfl⟩, q⟩
  | byt y =>
    obtain ⟨t, rfl⟩ := rx
    obtain ⟨hy, e'⟩ : y.size ≤ sizeLine ∧ n = y.size := e
    subst e'
    exact PySem.W.len_bytes (by lia) ⟨.int _, H, I.tok _, ⟨_, rfl⟩, q⟩
  | ref p =>
    cases rx
    have e' : (∃ xs, SqL X.K H p xs ∧ n = xs.length) ∨ ∃ xs, SqT X.K H p xs ∧ n = xs.length := e
    rcases e' with ⟨xs, hx, e'⟩ | ⟨xs, hx, e'⟩
    · subst e'
      obtain ⟨its, r', pl, hz⟩ := I.list hx
      have hlen := r'.length
      exact Calls.call_len_list pl.isList (by simp only [List.size_toArray]; lia) ⟨.int xs.length, H, I.tok _, ⟨_, by simp only [List.size_toArray]; rw [hlen]⟩, q⟩
    · subst e'
      obtain ⟨its, r', pl, hz⟩ := I.tuple hx
      have hlen := r'.length
      exact len_tuple pl (by simp only [List.size_toArray]; lia) ⟨.int xs.length, H, I.tok _, ⟨_, by simp only [List.size_toArray]; rw [hlen]⟩, q⟩
  | _ => exact (show False from e).elim
end
end L2
namespace L2
open PySem PySem.Spec PyProof.Rows
structure ObjM (h : Heap) (x dx C : Addr) (mA : Str → Option Value) : Prop where
  obj : h.get? x = some (PySem.W.instObj C dx)
  ns : h.Ns1 dx mA
  ne : dx ≠ x
theorem lookIn_ns {h : Heap} {dx : Addr} {mA : Str → Option Value} (n : h.Ns1 dx mA) : ∃ od, h.get? dx = some od ∧ ∀ name, PySem.W.lookIn name od = some (mA name) := by
  obtain ⟨o, es, ep, ho, hd, hk, _, hm⟩ := n
  refine ⟨o, ho, fun name => ?_⟩
  have e := hm name
  unfold nsFind findBy at e
  rw [← Array.find?_toList] at e
  unfold PySem.W.lookIn
  rw [hd]
  dsimp only
  split
  · rename_i y q
    rw [q] at e
    exact congrArg some e
  · rename_i q
    rw [q] at e
    have a : es.toList.any (·.refKey) = false := by
      rw [List.any_eq_false]
      intro y hy
      obtain ⟨z, t, hkey⟩ := hk y (Array.mem_toList_iff.mp hy)
      simp [DictEntry.refKey, hkey]
    have a' : ¬ es.toList.any (·.refKey) = true := by rw [a]; exact Bool.false_ne_true
    rw [if_neg a']
    exact congrArg some e
theorem ObjM.look {h : Heap} {x dx C : Addr} {mA : Str → Option Value} (I : ObjM h x dx C mA) : ∃ od, PySem.W.InstAt h x (PySem.W.instObj C dx) C (some od) ∧ ∀ name, PySem.W.lookIn name od = some (mA name) :=
  let ⟨od, ho, hl⟩ := lookIn_ns I.ns
  ⟨od, ⟨I.obj, rfl, rfl, ho⟩, hl⟩
section
variable {prog : Program} {w : World} {A : Around} {E : Value → Shared → Prop} {s : Shared} {K : PySem.W.Frag} {x dx C f : Addr} {mA : Str → Option Value} {name : Str} {v : Value}
end
section
variable {P : Program} {w : World} {H H' : Hp} {h h' : Heap} {a C dx : Addr} {fs fs' : List (Str × V)}
theorem ins_get (hok : HOk P w H h) (e : H a = some (.ins C dx fs)) : ∃ mA, ObjM h a dx C mA ∧ (∀ f, RelO (fs.lookup f) (mA f)) ∧ PySem.Within mA (fs.map (·.1)) ∧ fs.length ≤ 1000 ∧ H dx = some (.own a) := by
  obtain ⟨d, z, ne, ob, mA, n, r, q⟩ := (show ObjOk P w H h a (.ins C dx fs) from hok a _ e)
  exact ⟨mA, ⟨ob, n, ne⟩, r, q, z, d⟩
end
structure Cls (K : PySem.W.Frag) (C : Addr) : Prop where
  pg : PySem.W.plainGet K C Str.empty = true
  hd : PySem.W.hasDictIn K C = true
  po : PySem.W.plainOver K C = true
  sa : PySem.W.findIn K (.ref C) "__setattr__" = some (some (.builtin "object.__setattr__"))
theorem Cls.get {K : PySem.W.Frag} {C : Addr} (c : Cls K C) (f : Str) : PySem.W.plainGet K C f = true := c.pg
section
variable {X : Cx} {pins : List (Addr × Obj)} {σ : St} {H : Hp} {s : Shared} {a C dx : Addr} {fs : List (Str × V)} {f : Str} {v : V} {A : Around} {E : Value → Shared → Prop}
end
section
variable {X : Cx} {o e value : Expr} {f : Str} {pos pos' tpos : Pos} {ta tv : TE}
end
section
variable {X : Cx} {pins : List (Addr × Obj)} {σ : St} {H : Hp} {s : Shared} {A : Around} {E : Value → Shared → Prop} {Q : Value → Shared → Prop} {c : Value} {b : Bool}
inductive TyOf (K : PySem.W.Frag) (H : Hp) : V → Value → Prop where
  | non : TyOf K H .non (.type "NoneType")
  | bl (x : Bool) : TyOf K H (.bl x) (.type "bool")
  | int (i : Int) : TyOf K H (.int i) (.type "int")
  | str (x : Str) : TyOf K H (.str x) (.type "str")
  | flt (x : UInt64) : TyOf K H (.flt x) (.type "float")
  | lst {a : Addr} {xs : List V} (e : H a = some (.lst xs)) : TyOf K H (.ref a) (.type "list")
  | frz {a : Addr} {o : Obj} {xs : List V} (e : H a = some (.frz o (.lst xs))) : TyOf K H (.ref a) (.type "list")
  | tup {a : Addr} {xs : List V} (e : H a = some (.tup xs)) : TyOf K H (.ref a) (.type "tuple")
  | dK {a : Addr} {kvs : List (Key × V)} (e : H a = some (.dK kvs)) : TyOf K H (.ref a) (.type "dict")
  | dT {a : Addr} {kvs : List (List Key × V)} (e : H a = some (.dT kvs)) : TyOf K H (.ref a) (.type "dict")
  | ins {a C dx : Addr} {fs : List (Str × V)} (e : H a = some (.ins C dx fs)) (cl : Cls K C) (ha : PySem.W.findIn K (.ref C) "__class__" = some (some (.builtin "object.__class__")))
      (hn : PySem.W.specialIn K (.builtin "object.__class__") "__get__" = some (some (.builtin "getset_descriptor.__get__"))) (htk : PySem.W.takesIn K (.builtin "object.__class__") = some true)
      (hm : PySem.W.mroIn K C (.type "object") = some true) : TyOf K H (.ref a) (.ref C)
theorem isinst_ok {x : V} {u t : Value} (I : Inv X pins σ H s) (rx : RelV x u) (ty : TyOf X.K H x t) (e : PySem.W.kitOne X.K t c = some b) (h : ∀ tk, Q (.bool b) { s with toks := tk }) :
    wpAny (model X.prog X.w) A (call (.builtin "isinstance") [u, c]) Q E s := by
  cases ty with
  | non => cases (show u = Value.none from rx); exact PySem.W.kia_one PySem.W.kitx_none I.kIn True.intro e (fun z => nomatch z) h
  | bl y => cases (show u = Value.bool y from rx); exact PySem.W.kia_one PySem.W.kitx_bool I.kIn True.intro e (fun z => nomatch z) h
  | int i => obtain ⟨t, q⟩ := (show ∃ t, u = Value.int i t from rx); cases q; exact PySem.W.kia_one PySem.W.kitx_int I.kIn True.intro e (fun z => nomatch z) h
  | str y => obtain ⟨t, q⟩ := (show ∃ t, u = Value.str y t from rx); cases q; exact PySem.W.kia_one PySem.W.kitx_str I.kIn True.intro e (fun z => nomatch z) h
  | flt y => obtain ⟨t, q⟩ := (show ∃ t, u = Value.float y t from rx); cases q; exact PySem.W.kia_one PySem.W.kitx_float I.kIn True.intro e (fun z => nomatch z) h
  | @lst a xs ea =>
    cases (show u = Value.ref a from rx)
    obtain ⟨_, _, n, _, h1⟩ := (show ObjOk X.prog X.w H s.heap a (.lst xs) from I.hok a _ ea)
    exact PySem.W.kia_one PySem.W.kitx_list I.kIn ⟨_, h1, rfl⟩ e (fun z => nomatch z) h
  | @frz a ob xs ea =>
    cases (show u = Value.ref a from rx)
    obtain ⟨_, _, _, n, _, h1⟩ := (show ObjOk X.prog X.w H s.heap a (.frz ob (.lst xs)) from I.hok a _ ea)
    exact PySem.W.kia_one PySem.W.kitx_list I.kIn ⟨_, h1, rfl⟩ e (fun z => nomatch z) h
  | @tup a xs ea =>
    cases (show u = Value.ref a from rx)
    obtain ⟨_, _, _, p⟩ := (show ObjOk X.prog X.w H s.heap a (.tup xs) from I.hok a _ ea)
    obtain ⟨o, h1, h2, _⟩ := p
    exact PySem.W.kia_one PySem.W.kitx_tuple I.kIn ⟨o, h1, h2⟩ e (fun z => nomatch z) h
  | @dK a kvs ea =>
    cases (show u = Value.ref a from rx)
    obtain ⟨_, _, vs, _, p⟩ := (show ObjOk X.prog X.w H s.heap a (.dK kvs) from I.hok a _ ea)
    obtain ⟨o, es, ep, h1, h2, _⟩ := p
    exact PySem.W.kia_one PySem.W.kitx_dict I.kIn ⟨o, h1, h2.1⟩ e (fun z => nomatch z) h
  | @dT a kvs ea =>
    cases (show u = Value.ref a from rx)
    obtain ⟨_, _, xs, _, o, es, ep, h1, h2, _⟩ := (show ObjOk X.prog X.w H s.heap a (.dT kvs) from I.hok a _ ea)
    exact PySem.W.kia_one PySem.W.kitx_dict I.kIn ⟨o, h1, h2.1⟩ e (fun z => nomatch z) h
  | @ins a C dx fs ea cl ha hn htk hm =>
    cases (show u = Value.ref a from rx)
    obtain ⟨mA, O, _⟩ := ins_get I.hok ea
    obtain ⟨od, J, _⟩ := O.look
    exact PySem.W.kia_one (PySem.W.kitx_own (cl.get _) cl.hd ha hn htk hm) I.kIn J e (fun z => nomatch z) h
end
end L2
namespace L2
open PySem PySem.Spec PyProof.Rows
structure Room (k : Nat) (A : Around) : Prop where
  hd : A.handled = none
  dp : A.depth + 3 * k + 5 < recursionLimit
  un : A.units + 16 * k + 200 < cLine
  gd : A.guards = some []
theorem Room.mono {j k : Nat} {A : Around} (r : Room k A) (h : j ≤ k) : Room j A := ⟨r.hd, by have := r.dp; lia, by have := r.un; lia, r.gd⟩
theorem Room.deeper {k : Nat} {A : Around} (r : Room (k + 1) A) (env : Env) : Room k (A.deeper env) :=
  ⟨r.hd, by have := r.dp; show A.depth + 1 + 3 * k + 5 < _; lia, by have := r.un; show A.units + 3 + 16 * k + 200 < _; lia, r.gd⟩
theorem Room.depth {k : Nat} {A : Around} (r : Room k A) : A.depth < recursionLimit := by have := r.dp; lia
theorem Room.units {k : Nat} {A : Around} (r : Room k A) : A.units + 64 < cLine := by have := r.un; lia
noncomputable def tNil : TA := fun _ H Q => Q [] H
noncomputable def tCons (ta : TE) (tr : TA) : TA := fun σ H Q => ta σ H fun x H1 => tr σ H1 fun xs H2 => Q (x :: xs) H2
section
variable {X : Cx} {e : Expr} {es : List Expr} {te : TE} {t : TA} {pos : Pos}
theorem pa_nil : PA X [] tNil := fun _ _ _ _ H Q I h => Calls.spliced_nil ⟨[], H, I, .nil, h⟩
theorem pa_cons (ha : PE X e te) (hr : PA X es t) (hs : starEach (e :: es) X.env = (false, eval e X.env) :: starEach es X.env := by rfl) : PA X (e :: es) (tCons te t) := by
  intro pos pins s σ H Q I h
  rw [hs]
  show wpAny _ _ (spliced ((false, eval e X.env) :: backTo pos (starEach es X.env))) _ _ s
  refine Calls.spliced_cons (thn (ha pins s σ H _ I h) fun u s1 ⟨x, H1, I1, r1, q1⟩ => ?_)
  exact thn (hr pos pins s1 σ H1 _ I1 q1) fun us s2 ⟨xs, H2, I2, r2, q2⟩ => ⟨x :: xs, H2, I2, .cons r1 r2, q2⟩
noncomputable def tTup (t : TA) : TE := fun σ H Q => t σ H fun xs H1 => xs.length ≤ sizeLine ∧ ∀ p, H1 p = none → Q (.ref p) (upd H1 p (.tup xs))
noncomputable def tLst (t : TA) : TE := fun σ H Q => t σ H fun xs H1 => xs.length ≤ sizeLine ∧ ∀ p, H1 p = none → Q (.ref p) (upd H1 p (.lst xs))
theorem pe_tup {x1} (h : PA X es t) : PE X (.Tuple es x1 pos) (tTup t) := by
  intro pins s σ H Q I hq
  refine wpAny_Tuple_spliced (thn (h pos pins s σ H _ I hq) fun us s1 ⟨xs, H1, I1, r, z, q⟩ => ⟨by rw [← r.length]; exact z, ?_⟩)
  have hf : H1 s1.heap.objs.size = none := I1.hok.fresh (Nat.le_refl _)
  refine ⟨.ref s1.heap.objs.size, upd H1 s1.heap.objs.size (.tup xs), I1.laid (t' := s1.toks) (fun b u e => Heap.get?_push_of_some _ e) (Nat.le_refl _) ?_, rfl, q _ hf⟩
  exact ⟨z, us, r, ⟨_, Heap.get?_push_size _ rfl, rfl, _, rfl⟩⟩
theorem pe_lst (h : PA X es t) : PE X (.List es pos) (tLst t) := by
  intro pins s σ H Q I hq
  refine wpAny_List_spliced (thn (h pos pins s σ H _ I hq) fun us s1 ⟨xs, H1, I1, r, z, q⟩ => ⟨by rw [← r.length]; exact z, ?_⟩)
  have hf : H1 s1.heap.objs.size = none := I1.hok.fresh (Nat.le_refl _)
  refine ⟨.ref s1.heap.objs.size, upd H1 s1.heap.objs.size (.lst xs), I1.laid (t' := s1.toks) (fun b u e => Heap.get?_push_of_some _ e) (Nat.le_refl _) ?_, rfl, q _ hf⟩
  exact ⟨z, us, 0, r, Heap.get?_push_size _ rfl⟩
end
noncomputable abbrev Sp := List V → Hp → VK → XK → Prop
noncomputable abbrev CXT := List Env → Hp → Shared → XK → Value → Shared → Prop
structure Env0 (P : Program) (w : World) (K : PySem.W.Frag) (mg : Str → Option Value) (base : Heap) (A : Around) (outer : List Env) (s : Shared) (H : Hp) : Prop where
  frames : A.frames = some outer
  mod : Mod K mg base
  bs : ∀ b o, base.get? b = some o → s.heap.get? b = some o ∧ H b = none
  bsz : base.objs.size ≤ s.heap.objs.size
  funs : s.heap.FunFrames base outer
  frf : ∀ b ∈ frs outer, H b = none
  hok : HOk P w H s.heap
  bare : AllBare s.gens
noncomputable def CE (outer : List Env) (P : Program) (w : World) (H : Hp) (s : Shared) (Q : VK) (u : Value) (s' : Shared) : Prop :=
  ∃ v H', s'.os = s.os ∧ AllBare s'.gens ∧ Un (frs outer) [] H H' s.heap s'.heap ∧ HOk P w H' s'.heap ∧ RelV v u ∧ Q v H'
noncomputable def CR (CX : CXT) (outer : List Env) (P : Program) (w : World) (H : Hp) (s : Shared) (Q : VK) (E : XK) (r : Result) (s' : Shared) : Prop :=
  match r with
  | .ok (.ret u) => CE outer P w H s Q u s'
  | .ok _ => False
  | .error e => CX outer H s E e s'
structure FnOk (P : Program) (w : World) (K : PySem.W.Frag) (mg : Str → Option Value) (base : Heap) (CX : CXT) (k : Nat) (f : Addr) (fd : FuncData) (ps : List Str) (sp : Sp) : Prop where
  len : ∀ vs H Q E, sp vs H Q E → vs.length = ps.length
  run : ∀ (A : Around) (outer : List Env) (s : Shared) (H : Hp) (args : Args) (us : List Value) (vs : List V) (Q : VK) (E : XK), Room k A → Env0 P w K mg base A outer s H → BindsTo s fd args (ps.zip us) → Vals vs us → sp vs H Q E →
    codeAny (model P w) A (.call (.ref f) args) (CR CX outer P w H s Q E) s
theorem FnOk.mono {P : Program} {w : World} {K : PySem.W.Frag} {mg : Str → Option Value} {base : Heap} {CX : CXT} {j k : Nat} {f : Addr} {fd : FuncData} {ps : List Str} {sp : Sp} (F : FnOk P w K mg base CX j f fd ps sp) (h : j ≤ k) :
    FnOk P w K mg base CX k f fd ps sp := ⟨F.len, fun A outer s H args us vs Q E hr => F.run A outer s H args us vs Q E (hr.mono h)⟩
section
variable {X : Cx} {pins : List (Addr × Obj)} {σ : St} {H : Hp} {s s' : Shared}
theorem Inv.env0 (I : Inv X pins σ H s) : Env0 X.prog X.w X.K X.mg X.base X.A X.stack s H :=
  ⟨I.ok.frames, I.ok.mod, I.bs, Nat.le_trans I.ok.bsz I.sz, I.stack, I.stkFree, I.hok, I.bare⟩
theorem Inv.after {Q : VK} {u : Value} (I : Inv X pins σ H s) (h : CE X.stack X.prog X.w H s Q u s') : EP X pins σ Q u s' := by
  obtain ⟨v, H', os, bare, un, hok, r, q⟩ := h
  obtain ⟨hh, g, d, t, os'⟩ := s'
  obtain rfl : os' = s.os := os
  exact ⟨v, H', I.call (h' := hh) (g' := g) (d' := d) (t' := t) (ch := []) un hok bare (fun b z => absurd z (by simp)), r, q⟩
end
noncomputable def tCall (sp : Sp) (dvs : List V) (E : XK) (t : TA) : TE := fun σ H Q => t σ H fun vs H1 => sp (vs ++ dvs) H1 Q E
noncomputable def Binds (K : PySem.W.Frag) (fd : FuncData) (ps : List Str) (ds : List Value) : Prop :=
  ∀ (s : Shared) (us : List Value), K.In s.heap → (us ++ ds).length = ps.length → BindsTo s fd ⟨us, []⟩ (ps.zip (us ++ ds))
theorem Binds.all {K : PySem.W.Frag} {fd : FuncData} {ps : List Str} (h : ∀ us : List Value, us.length = ps.length → bindArgs fd ⟨us, []⟩ = pure (ps.zip us)) : Binds K fd ps [] := fun s us _ hl => by
  rw [List.append_nil] at hl ⊢
  exact .of_eq (h us hl)
noncomputable def Passes (CX : CXT) (X : Cx) (E : XK) : Prop := ∀ (pins : List (Addr × Obj)) (σ : St) (H : Hp) (s : Shared) (e : Value) (s' : Shared), Inv X pins σ H s → CX X.stack H s E e s' → X.xe e s'
section
variable {X : Cx} {CX : CXT} {k : Nat} {f C : Addr} {fd : FuncData} {ps : List Str} {sp : Sp} {dvs : List V} {ds : List Value} {E : XK} {x m : Str} {p pos apos : Pos} {e o : Expr} {es : List Expr} {ta : TE} {t : TA}
theorem run_fn {pins : List (Addr × Obj)} {σ : St} {H : Hp} {s : Shared} {Q : VK} {us : List Value} {vs : List V} (F : FnOk X.prog X.w X.K X.mg X.base CX k f fd ps sp) (hr : Room k X.A) (hb : Binds X.K fd ps ds) (hd : Vals dvs ds) (hx : Passes CX X E)
    (I : Inv X pins σ H s) (r : Vals vs us) (h : sp (vs ++ dvs) H Q E) : wpAny (model X.prog X.w) X.A (call (.ref f) us) (EP X pins σ Q) X.xe s := by
  have r2 : Vals (vs ++ dvs) (us ++ ds) := r.append hd
  have hl : (us ++ ds).length = ps.length := by rw [← r2.length]; exact F.len _ _ _ _ h
  refine wpAny_call (codeAny_mono (F.run X.A X.stack s H ⟨us, []⟩ (us ++ ds) (vs ++ dvs) Q E hr I.env0 (hb s us I.kIn hl) r2 h) fun r s' hq => ?_)
  cases r with
  | error e => exact hx pins σ H s e s' I hq
  | ok fl =>
    cases fl with
    | ret u => exact I.after hq
    | next => exact False.elim hq
    | brk => exact False.elim hq
    | cont => exact False.elim hq
theorem pe_call (F : FnOk X.prog X.w X.K X.mg X.base CX k f fd ps sp) (hr : Room k X.A) (hg : Gl X x) (hm : X.mg x = some (.ref f)) (hk : PySem.W.keepIn X.K (.ref f) = true) (hb : Binds X.K fd ps ds) (hd : Vals dvs ds) (hx : Passes CX X E)
    (ha : PA X (e :: es) t) (hdb : (x == ("__debug__" : Str)) = false := by decide) (he : starEach (e :: es) X.env = (false, eval e X.env) :: starEach es X.env := by rfl) (hpl : (backTo pos (starEach es X.env)).any (·.1) = false := by rfl) :
    PE X (.Call (.Name x p) (e :: es) [] pos) (tCall sp dvs E t) := by
  intro pins s σ H Q I h
  refine wpAny_Call_Name_kw (ld_glob I hg hm ?_ hdb)
  refine PySem.W.callWith_K (h₀ := X.base) I.ok.mod.kin hk (thn (ha pos pins s σ H _ I h) fun us s1 ⟨vs, H1, I1, r, q⟩ => ⟨I1.kIn, ?_⟩) he hpl
  exact run_fn F hr hb hd hx I1 r q
end
section
variable {X : Cx} {CX : CXT} {k : Nat} {f C : Addr} {fd : FuncData} {ps ks : List Str} {sp : Sp} {E : XK} {x m : Str} {p pos apos kpos : Pos} {e o : Expr} {es : List Expr} {kws : List Keyword} {te ta : TE} {t tk : TA} {nm : Option Str}
variable {g : List Value → List Value → List Value} {gV : List V → List V → List V}
end
structure FnScope (N P : List Str) (sc : Scope) : Prop where
  kind : sc.kind = .function
  co : sc.isCoroutine = false
  gen : sc.isGenerator = false
  nd : N.Nodup
  pre : N.take P.length = P
  par : ∀ x ∈ P, sc.names.lookup x = some .local ∨ sc.names.lookup x = some .cell
  nofree : ∀ y ∈ sc.names, y.2 ≠ .free
theorem bindL_out {kindOf : Str → Option NameKind} {x : Str} : ∀ {binds : List (Str × Value)} {m : Str → Option Value}, (∀ v, (x, v) ∉ binds) → bindL kindOf binds m x = m x
  | [], _, _ => rfl
  | (n, v) :: r, m, h => by
    unfold bindL
    rw [bindL_out fun w hw => h w (List.mem_cons_of_mem _ hw)]
    split
    · have : x ≠ n := by rintro rfl; exact h v List.mem_cons_self
      simp [this]
    · rfl
theorem bindC_out {kindOf : Str → Option NameKind} {x : Str} : ∀ {binds : List (Str × Value)} {m : Str → Option Value}, (∀ v, (x, v) ∉ binds) → bindC kindOf binds m x = m x
  | [], _, _ => rfl
  | (n, v) :: r, m, h => by
    unfold bindC
    rw [bindC_out fun w hw => h w (List.mem_cons_of_mem _ hw)]
    split
    · rfl
    · have : x ≠ n := by rintro rfl; exact h v List.mem_cons_self
      simp [this]
theorem bindL_get {kindOf : Str → Option NameKind} {x : Str} {v : Value} : ∀ {P : List Str} {vs : List Value} {i : Nat} {m : Str → Option Value}, P.Nodup → P[i]? = some x → vs[i]? = some v → kindOf x = some .local →
    bindL kindOf (P.zip vs) m x = some v
  | [], _, _, _, _, h, _, _ => by simp at h
  | _ :: _, [], _, _, _, _, h, _ => by simp at h
  | p :: P, w :: vs, 0, m, nd, h1, h2, hk => by
    simp at h1 h2; subst h1; subst h2
    show bindL kindOf ((p, w) :: P.zip vs) m p = _
    unfold bindL
    rw [bindL_out fun v hv => (List.nodup_cons.mp nd).1 (List.of_mem_zip hv).1, if_pos hk]
    simp
  | p :: P, w :: vs, i + 1, m, nd, h1, h2, hk => by
    show bindL kindOf ((p, w) :: P.zip vs) m x = _
    unfold bindL
    exact bindL_get (i := i) (List.nodup_cons.mp nd).2 (by simpa using h1) (by simpa using h2) hk
theorem bindC_get {kindOf : Str → Option NameKind} {x : Str} {v : Value} : ∀ {P : List Str} {vs : List Value} {i : Nat} {m : Str → Option Value}, P.Nodup → P[i]? = some x → vs[i]? = some v → kindOf x ≠ some .local →
    bindC kindOf (P.zip vs) m x = some v
  | [], _, _, _, _, h, _, _ => by simp at h
  | _ :: _, [], _, _, _, _, h, _ => by simp at h
  | p :: P, w :: vs, 0, m, nd, h1, h2, hk => by
    simp at h1 h2; subst h1; subst h2
    show bindC kindOf ((p, w) :: P.zip vs) m p = _
    unfold bindC
    rw [bindC_out fun v hv => (List.nodup_cons.mp nd).1 (List.of_mem_zip hv).1, if_neg hk]
    simp
  | p :: P, w :: vs, i + 1, m, nd, h1, h2, hk => by
    show bindC kindOf ((p, w) :: P.zip vs) m x = _
    unfold bindC
    exact bindC_get (i := i) (List.nodup_cons.mp nd).2 (by simpa using h1) (by simpa using h2) hk
noncomputable def start (N : List Str) (vs : List V) : St := vs.map some ++ List.replicate (N.length - vs.length) none
noncomputable def cxOf (CX : CXT) (P : Program) (w : World) (K : PySem.W.Frag) (mg : Str → Option Value) (base : Heap) (N : List Str) (qual : Str) (scope : Scope) (f : Addr) (cd : Value) (A : Around) (outer : List Env) (s : Shared) (H : Hp) (E : XK) : Cx where
  prog := P
  w := w
  K := K
  mg := mg
  base := base
  A := A.deeper (envOfC qual scope s.heap.objs.size f cd)
  N := N
  s₀ := s
  H₀ := H
  env := envOfC qual scope s.heap.objs.size f cd
  outer := outer
  stack := envOfC qual scope s.heap.objs.size f cd :: outer
  ex := []
  calm := true
  fn := fun _ => true
  pn := []
  xe := fun e s' => wpAny (model P w) (A.deeper (envOfC qual scope s.heap.objs.size f cd)) (leaving (envOfC qual scope s.heap.objs.size f cd) e) (fun _ s'' => CX outer H s E e s'') (fun e' s'' => CX outer H s E e' s'') s'
theorem cell_has {sc : Scope} {n : Nat} {x : Str} (h : sc.names.lookup x = some .cell) : ∃ c, (cellsFrom n sc.names []).lookup x = some c := by
  have q := PySem.W.cellsFrom_some sc.names n [] (.inl h)
  exact Option.isSome_iff_exists.mp q
theorem inv_start {CX : CXT} {P : Program} {w : World} {K : PySem.W.Frag} {mg : Str → Option Value} {base : Heap} {N ps : List Str} {qual : Str} {scope : Scope} {f : Addr} {cd : Value} {A : Around} {outer : List Env} {s s1 : Shared} {H : Hp} {E : XK} {us : List Value} {vs : List V}
    (S : FnScope N ps scope) (hd : A.handled = none) (e0 : Env0 P w K mg base A outer s H) (hl : vs.length = ps.length) (r : Vals vs us)
    (x : InCallC s s.heap.objs.size (bindL (envOfC qual scope s.heap.objs.size f cd).kindOf (ps.zip us) fun _ => none) (cellsFrom (s.heap.objs.size + 1) scope.names []) (bindC (envOfC qual scope s.heap.objs.size f cd).kindOf (ps.zip us) fun _ => none) s1) :
    Inv (cxOf CX P w K mg base N qual scope f cd A outer s H E) [] (start N vs) H s1 := by
  have hpl : ps.length ≤ N.length := by have := congrArg List.length S.pre; rw [List.length_take] at this; lia
  obtain ⟨h1, tk, rfl, hk⟩ := x.done
  have noA : ∀ b : Addr, b ∉ (cxOf CX P w K mg base N qual scope f cd A outer s H E).ex := fun b z => absurd (show b ∈ ([] : List Addr) from z) (by simp)
  refine ⟨⟨e0.mod, S.kind, rfl, rfl, Nat.le_refl _, fun y z c h1 h2 => ?_, fun y hy => ?_, fun y c _ h => ?_, fun _ => hd, Around.frames_deeper e0.frames, .inr ⟨rfl, rfl⟩, fun b z => absurd z (noA b), e0.bs, e0.bsz, fun b _ _ => noA b, fun b z => absurd z (noA b), e0.funs, e0.frf⟩,
    rfl, e0.bare, Un.kept hk, ⟨_, x.toInCall.ns, fun i y v h1 h2 h3 => ?_⟩, fun y c h => ⟨_, x.cell y c h⟩, e0.hok.fresh (Nat.le_refl _), fun y c h => ?_, fun p hp => absurd (show p ∈ ([] : List (Addr × Obj)) from hp) (by simp), e0.hok.kept hk, ?_⟩
  · exact name_of_addr x.apart (PySem.mem_of_lookup h1) (PySem.mem_of_lookup h2)
  · have hy : scope.names.lookup y = some .cell ∨ scope.names.lookup y = some .free := hy
    rcases hy with hy | hy
    · exact cell_has hy
    · exact absurd rfl (S.nofree _ (PySem.mem_of_lookup hy))
  · exact Nat.le_of_lt (x.above y c (PySem.mem_of_lookup h))
  · have hi : i < vs.length := by
      unfold start at h2
      by_cases hi : i < vs.length
      · exact hi
      · rw [List.getElem?_append_right (by simpa using hi)] at h2
        rw [List.getElem?_replicate] at h2
        split at h2 <;> cases h2
    have ha : vs[i]? = some v := by
      unfold start at h2
      rw [List.getElem?_append_left (by simpa using hi), List.getElem?_map] at h2
      cases e : vs[i]? with
      | none => rw [e] at h2; cases h2
      | some a => rw [e] at h2; cases h2; rfl
    obtain ⟨u, hu, rv⟩ := r.get ha
    have hp : ps[i]? = some y := by
      rw [← S.pre, List.getElem?_take_of_lt (by lia)]; exact h1
    have ndP : ps.Nodup := by rw [← S.pre]; exact S.nd.sublist (List.take_sublist _ _)
    refine ⟨u, rv, ?_⟩
    rcases S.par y (List.mem_of_getElem? hp) with k | k
    · exact .inl ⟨k, bindL_get ndP hp hu k⟩
    · obtain ⟨c, e⟩ := cell_has (n := s.heap.objs.size + 1) k
      refine .inr ⟨.inl k, c, e, ?_⟩
      have q := x.cell y c e
      rw [bindC_get ndP hp hu (by show scope.names.lookup y ≠ _; rw [k]; decide)] at q
      exact q
  · exact e0.hok.fresh (Nat.le_of_lt (x.above y c (PySem.mem_of_lookup h)))
  · unfold start
    show _ = N.length
    rw [List.length_append, List.length_map, List.length_replicate]
    lia
theorem fn_of {CX : CXT} {P : Program} {w : World} {K : PySem.W.Frag} {mg : Str → Option Value} {base : Heap} {k : Nat} {f : Addr} {name qual : Str} {params : Arguments} {body : List Stmt} {scope : Scope} {dV kV doc pm cdv ct oc : Value} {an od : Option Addr}
    {osl : Array (Option Value)} {N ps : List Str} {sp : Sp} (lk : K.lookup f = some ⟨oc, od, .func (PySem.W.fnOf name qual params body scope dV kV doc pm an cdv ct), osl⟩) (hcd : PySem.W.codeIn K cdv qual = true) (S : FnScope N ps scope)
    (len : ∀ vs H Q E, sp vs H Q E → vs.length = ps.length)
    (hbody : ∀ (A : Around) (outer : List Env) (s : Shared) (H : Hp) (vs : List V) (Q : VK) (E : XK), Room k (A.deeper (envOfC qual scope s.heap.objs.size f cdv)) → sp vs H Q E →
      ∃ t, PSs (cxOf CX P w K mg base N qual scope f cdv A outer s H E) body t ∧ t { nx := fun _ H' => Q .non H', rt := Q } (start N vs) H) :
    FnOk P w K mg base CX (k + 1) f (PySem.W.fnOf name qual params body scope dV kV doc pm an cdv ct) ps sp := by
  refine ⟨len, fun A outer s H args us vs Q E hr e0 hb r hsp => ?_⟩
  have hl := len _ _ _ _ hsp
  have KX : K.In s.heap := e0.mod.kin.keeps fun b o e => (e0.bs b o e).1
  have lim : s.heap.NoLimit := e0.mod.nolimit.keeps fun b o e => (e0.bs b o e).1
  have hkind : ∀ y ∈ ps.zip us, scope.names.lookup y.1 = some .local ∨ (scope.names.lookup y.1 = some .cell ∧ ((cellsFrom (s.heap.objs.size + 1) scope.names []).lookup y.1).isSome = true) := fun ⟨n, v⟩ hy => by
    rcases S.par n (List.of_mem_zip hy).1 with q | q
    · exact .inl q
    · exact .inr ⟨q, PySem.W.cellsFrom_some _ _ _ (.inl q)⟩
  refine codeAny_call_function hr.depth (KX _ _ lk) rfl S.co S.gen rfl (PySem.W.codeRec_of KX hcd) (hb _ _ _ _ ?_)
  refine wpAny_newFunctionEnv_cells S.kind hkind fun env he s1 x => ?_
  subst he
  refine ⟨lim.keeps x.toInCall.keep, codeAny_func ?_⟩
  obtain ⟨t, ht, hq⟩ := hbody A outer s H vs Q E (hr.deeper _) hsp
  have I : Inv (cxOf CX P w K mg base N qual scope f cdv A outer s H E) [] (start N vs) H s1 := inv_start S hr.hd e0 hl r x
  refine wpAny_mono (ht [] s1 (start N vs) H _ I hq) (fun fl s' hs => ?_) fun e s' hs => hs
  have fin : ∀ {σ' : St} {H' : Hp} {v : V} {u : Value}, Inv (cxOf CX P w K mg base N qual scope f cdv A outer s H E) [] σ' H' s' → RelV v u → Q v H' → CE outer P w H s Q u s' :=
    fun {σ' H' v u} J rv q => ⟨v, H', J.os, J.bare, J.base, J.hok, rv, q⟩
  cases fl with
  | ret u =>
    obtain ⟨v, σ', H', J, rv, q⟩ := hs
    exact fin J rv q
  | next =>
    obtain ⟨σ', H', J, q⟩ := hs
    exact fin (v := V.non) (u := Value.none) J rfl q
  | brk =>
    obtain ⟨_, _, _, q⟩ := hs
    exact False.elim q
  | cont =>
    obtain ⟨_, _, _, q⟩ := hs
    exact False.elim q
end L2
namespace L2
open PySem PySem.Spec PyProof.Rows
section
variable {X : Cx} {x : Str} {p pos : Pos} {e : Expr} {es : List Expr} {t : TA} {id T : String} {r : List V → Hp → VK → Prop}
noncomputable def tCB (r : List V → Hp → VK → Prop) (t : TA) : TE := fun σ H Q => t σ H fun vs H1 => r vs H1 Q
theorem pe_callB (hc : CallR X (.builtin id) r) (hg : Gl X x) (hm : X.mg x = none) (hv : bootBuiltins x = some (.builtin id)) (ha : PA X (e :: es) t) (hn : x ≠ "__name__" := by decide) (hdb : (x == ("__debug__" : Str)) = false := by decide)
    (he : starEach (e :: es) X.env = (false, eval e X.env) :: starEach es X.env := by rfl) (hpl : (backTo pos (starEach es X.env)).any (·.1) = false := by rfl) : PE X (.Call (.Name x p) (e :: es) [] pos) (tCB r t) := by
  intro pins s σ H Q I h
  refine wpAny_Call_Name_kw (ld_blt I hg hm hv ?_ hn hdb)
  exact PyProof.Rows.callWith_builtin1 (thn (ha pos pins s σ H _ I h) fun us s1 ⟨vs, H1, I1, r1, q1⟩ => hc pins s1 σ H1 vs us Q I1 r1 q1) he hpl
theorem pe_callTy (hc : CallR X (.type T) r) (hg : Gl X x) (hm : X.mg x = none) (hv : bootBuiltins x = some (.type T)) (ha : PA X (e :: es) t) (hn : x ≠ "__name__" := by decide) (hdb : (x == ("__debug__" : Str)) = false := by decide)
    (he : starEach (e :: es) X.env = (false, eval e X.env) :: starEach es X.env := by rfl) (hpl : (backTo pos (starEach es X.env)).any (·.1) = false := by rfl) : PE X (.Call (.Name x p) (e :: es) [] pos) (tCB r t) := by
  intro pins s σ H Q I h
  refine wpAny_Call_Name_kw (ld_blt I hg hm hv ?_ hn hdb)
  exact PyProof.Rows.callWith_type1 (thn (ha pos pins s σ H _ I h) fun us s1 ⟨vs, H1, I1, r1, q1⟩ => hc pins s1 σ H1 vs us Q I1 r1 q1) he hpl
end
end L2
namespace HT
open PySem PyProof.Rows
noncomputable def lexLt : List Int → List Int → Bool
  | [], [] => false
  | [], _ :: _ => true
  | _ :: _, [] => false
  | x :: xs, y :: ys => if x = y then lexLt xs ys else decide (x < y)
theorem lexLt_cons (x y : Int) (xs ys : List Int) : lexLt (x :: xs) (y :: ys) = if x = y then lexLt xs ys else decide (x < y) := rfl
theorem lexLt_nil_nil : lexLt [] [] = false := rfl
theorem lexLt_nil_cons (y : Int) (ys : List Int) : lexLt [] (y :: ys) = true := rfl
theorem lexLt_cons_nil (x : Int) (xs : List Int) : lexLt (x :: xs) [] = false := rfl
section
open PySem.SeqAt
open PySem.AutoSeq1 (wpAny_loadPart')
open PySem.MeetsSeq PySem.MeetsSeq2 PySem.MeetsSeq3
end
section
variable {prog : Program} {w : World} {A : Around} {E : Value → Shared → Prop} {s : Shared}
theorem cat_tup {t b : Addr} {vs ws : List Value} {Q : Value → Shared → Prop} (ht : IsTup s.heap t vs.toArray) (hb : IsTup s.heap b ws.toArray) (hv : vs ≠ [])
    (h1 : ws = [] → Q (.ref t) s) (h2 : ws ≠ [] → Q (.ref s.heap.objs.size) { s with heap := s.heap.push { cls := .type "tuple", data := .seq (vs ++ ws).toArray } })
    (hsz : vs.length + ws.length ≤ sizeLine) : wpAny (model prog w) A (binaryOp .Add (.ref t) (.ref b)) Q E s := by
  obtain ⟨⟨cls, dd, data, sl⟩, ho, hc, n, hd⟩ := id ht
  obtain ⟨⟨cls2, dd2, data2, sl2⟩, ho2, hc2, n2, hd2⟩ := id hb
  simp only at hc hd hc2 hd2
  subst hc hd hc2 hd2
  have e : vs.toArray ++ ws.toArray = (vs ++ ws).toArray := by simp
  by_cases hw : ws = []
  · exact concat_meets ⟨_, ho, rfl⟩ ⟨_, ho2, rfl⟩ noFill_tuple_add seq_tuple_add PySem.F.slot_tuple_add PySem.F.entry_tuple_add (PySem.F.args_tuple_add_2 _ _)
      (tuple_addW1 t b vs.toArray ws.toArray n n2 dd dd2 sl sl2 (by simpa using hv) (by simp [hw])) ⟨ho, ho2, h1 hw⟩
  · refine concat_meets ⟨_, ho, rfl⟩ ⟨_, ho2, rfl⟩ noFill_tuple_add seq_tuple_add PySem.F.slot_tuple_add PySem.F.entry_tuple_add (PySem.F.args_tuple_add_2 _ _)
      (tuple_addW2 t b vs.toArray ws.toArray n n2 dd dd2 sl sl2 (by simpa using hv) (by simpa using hw) (by rw [List.size_toArray, List.size_toArray]; exact hsz)) ⟨ho, ho2, ?_⟩
    rw [e]
    exact h2 hw
noncomputable def sIx (n d : Nat) : Option Int → Nat
  | none => d
  | some v => if v < 0 then (v + (n : Int)).toNat else min v.toNat n
theorem sIx_le (n d : Nat) (hd : d ≤ n) (o : Option Int) : sIx n d o ≤ n := by
  cases o with
  | none => exact hd
  | some v =>
    show (if v < 0 then (v + (n : Int)).toNat else min v.toNat n) ≤ n
    by_cases hv : v < 0
    · rw [if_pos hv]; lia
    · rw [if_neg hv]; exact Nat.min_le_right _ _
theorem clip_eq (v : Int) (n d : Nat) : (if v < 0 then max (v + (n : Int)) 0 else min v (n : Int)) = ((sIx n d (some v) : Nat) : Int) := by
  show (if v < 0 then max (v + (n : Int)) 0 else min v (n : Int)) = (((if v < 0 then (v + (n : Int)).toNat else min v.toNat n) : Nat) : Int)
  by_cases hv : v < 0
  · simp only [if_pos hv]; lia
  · simp only [if_neg hv]; lia
theorem adjust_gen (lo hi : Option Int) (n : Nat) : Builtin.Slice.sliceAdjust lo hi 1 (n : Int) = (((sIx n 0 lo : Nat) : Int), ((sIx n n hi : Nat) : Int)) := by
  have h1 : ¬ ((1 : Int) < 0) := by lia
  unfold Builtin.Slice.sliceAdjust
  simp only [h1, if_false]
  refine Prod.ext ?_ ?_
  · cases lo with
    | none => rfl
    | some v => exact clip_eq v n 0
  · cases hi with
    | none => rfl
    | some v => exact clip_eq v n n
theorem places_gen (i j : Nat) : Builtin.Slice.slicePlaces (i : Int) (j : Int) 1 = j - i := by
  unfold Builtin.Slice.slicePlaces
  have h1 : (1 : Int) > 0 := by lia
  simp only [h1, if_true, Int.ediv_one]
  split <;> lia
theorem slicePart_ {v : Value} {o : Option Int} {Q : Option Int → Shared → Prop} (p : IsPart v o) (h : Q o s) : wpAny (model prog w) A (Builtin.Slice.slicePartIndex v) Q E s := by
  cases p with
  | none => exact slicePart_none h
  | int i t => exact slicePart_int h
theorem sliceApplied_gen {sl : Addr} {vl vu : Value} {lo hi : Option Int} {n : Nat} {Q : Int × Int × Nat → Shared → Prop} (hs : s.heap.IsSliceOf sl vl vu .none) (pl : IsPart vl lo) (pu : IsPart vu hi)
    (h : Q (((sIx n 0 lo : Nat) : Int), 1, sIx n n hi - sIx n 0 lo) s) : wpAny (model prog w) A (Builtin.Slice.sliceApplied (.ref sl) (pure (n : Int))) Q E s := by
  obtain ⟨os, hos, hcs, hds⟩ := id hs
  unfold Builtin.Slice.sliceApplied Builtin.Slice.sliceFields
  refine wpAny_bind (wpAny_bind (wpAny_field hos hds (x := vl) rfl (wpAny_bind (wpAny_field hos hds (x := vu) rfl (wpAny_bind (wpAny_field hos hds (x := .none) rfl (wpAny_pure ?_)))))))
  refine wpAny_bind (slicePart_none ?_)
  show wpAny _ _ (if ((1 : Int) == 0) = true then _ else _) _ _ s
  rw [if_neg (by decide)]
  refine wpAny_bind (slicePart_ pl (wpAny_bind (slicePart_ pu (wpAny_bind (wpAny_pure ?_)))))
  show wpAny _ _ (match Builtin.Slice.sliceAdjust lo hi 1 (n : Int) with | (lo, hi) => pure (lo, (1 : Int), Builtin.Slice.slicePlaces lo hi 1)) _ _ s
  rw [adjust_gen lo hi n]
  show wpAny _ _ (pure (((sIx n 0 lo : Nat) : Int), (1 : Int), Builtin.Slice.slicePlaces ((sIx n 0 lo : Nat) : Int) ((sIx n n hi : Nat) : Int) 1)) _ _ s
  rw [places_gen]
  exact wpAny_pure h
theorem pick_gen (xs : Array Value) (i k : Nat) : ((List.range k).filterMap fun (m : Nat) => xs[((i : Int) + (m : Int) * 1).toNat]?).toArray = ((xs.toList.drop i).take k).toArray := by
  have e : (fun (m : Nat) => xs[((i : Int) + (m : Int) * 1).toNat]?) = fun m => xs[i + m]? := by
    funext m
    have : ((i : Int) + (m : Int) * 1).toNat = i + m := by lia
    rw [this]
  rw [e]
  have := pick_run xs i k
  rw [List.filterMap_map] at this
  have e2 : ((fun x => xs[x]?) ∘ fun x => i + x) = fun m => xs[i + m]? := rfl
  rw [e2] at this
  rw [this]
theorem getItem_tuple_cut {t sl : Addr} {items : Array Value} {vl vu : Value} {lo hi : Option Int} {Q : Value → Shared → Prop} (ht : IsTup s.heap t items) (hs : s.heap.IsSliceOf sl vl vu .none) (pl : IsPart vl lo) (pu : IsPart vu hi)
    (hw : ¬ (sIx items.size 0 lo = 0 ∧ sIx items.size items.size hi = items.size))
    (h : Q (.ref s.heap.objs.size) { s with heap := s.heap.push { cls := .type "tuple", data := .seq ((items.toList.drop (sIx items.size 0 lo)).take (sIx items.size items.size hi - sIx items.size 0 lo)).toArray } })
    (hsz : items.size ≤ sizeLine) : wpAny (model prog w) A (getItem (.ref t) (.ref sl)) Q E s := by
  have htake : sizeOk (.seq ((items.toList.drop (sIx items.size 0 lo)).take (sIx items.size items.size hi - sIx items.size 0 lo)).toArray) := by
    show ((items.toList.drop (sIx items.size 0 lo)).take (sIx items.size items.size hi - sIx items.size 0 lo)).toArray.size ≤ sizeLine
    rw [List.size_toArray, List.length_take, List.length_drop, Array.length_toList]
    omega
  have hj : sIx items.size items.size hi ≤ items.size := sIx_le _ _ (Nat.le_refl _) hi
  obtain ⟨os, hos, hcs, hds⟩ := id hs
  have hTs : s.TypeIs (.ref sl) "slice" := ⟨os, hos, hcs⟩
  unfold getItem
  try with_reducible refine wpAny_holding ?_
  first | refine wpAny_bind (wpAny_pure ?_) | skip
  refine wpAny_bind (wpAny_sequenceKey ht.typeIs (by decide) ?_)
  refine wpAny_bind (wpAny_callSpecial?_slot (name := Str.ofString "__getitem__") ht.typeIs PyProof.Rows.slot_tuple_getitem
    (wpAny_call_entry PyProof.Rows.slot_tuple_getitem ht.typeIs entry_tuple_getitem ?_ (args_tuple_getitem _ _)))
  show wpAny _ _ (Builtin.Tuple.tupleItemsOf (.ref t) >>= _) _ _ s
  refine wpAny_bind (tupleItemsOf_ ht ?_)
  refine wpAny_bind (wpAny_typeOf hTs ?_)
  rw [if_pos (by decide)]
  refine wpAny_bind (sliceApplied_gen hs pl pu ?_)
  have hno : ¬ ((((sIx items.size 0 lo : Nat) : Int) == 0 && (1 : Int) == 1 && (sIx items.size items.size hi - sIx items.size 0 lo) == items.size) = true) := by
    intro q
    rw [Bool.and_eq_true, Bool.and_eq_true] at q
    have q1 : ((sIx items.size 0 lo : Nat) : Int) = 0 := eq_of_beq q.1.1
    have q2 : sIx items.size items.size hi - sIx items.size 0 lo = items.size := eq_of_beq q.2
    exact hw ⟨by lia, by lia⟩
  show wpAny _ _ (if (((sIx items.size 0 lo : Nat) : Int) == 0 && (1 : Int) == 1 && (sIx items.size items.size hi - sIx items.size 0 lo) == items.size) = true then _ else _) _ _ s
  rw [if_neg hno, pick_gen]
  first
    | exact wpAny_bind (m := Builtin.Tuple.tupleExact _) (wpAny_newObj_type (wpAny_pure ⟨_, rfl, wpAny_pure h⟩) htake)
    | exact wpAny_bind (m := Builtin.Tuple.tupleExact _) (wpAny_newObj_type (wpAny_bind (wpAny_pure (wpAny_pure ⟨_, rfl, wpAny_pure h⟩))) htake)
    | exact wpAny_bind (wpAny_bind (m := Builtin.Tuple.tupleExact _) (wpAny_newObj_type (wpAny_pure (wpAny_pure ⟨_, rfl, wpAny_pure h⟩)) htake))
    | exact wpAny_bind (wpAny_bind (m := Builtin.Tuple.tupleExact _) (wpAny_newObj_type (wpAny_pure ⟨_, rfl, wpAny_pure h⟩) htake))
end
end HT
namespace L2
open PySem PySem.Spec PyProof.Rows
noncomputable abbrev TO := St → Hp → (Option Int → Hp → Prop) → Prop
noncomputable def PO (X : Cx) (e : Option Expr) (t : TO) : Prop :=
  ∀ (pins : List (Addr × Obj)) (s : Shared) (σ : St) (H : Hp) (Q : Option Int → Hp → Prop), Inv X pins σ H s → t σ H Q →
    wpAny (model X.prog X.w) X.A (evalPart e X.env) (fun u s' => ∃ o H', Inv X pins σ H' s' ∧ IsPart u o ∧ Q o H') X.xe s
noncomputable def tNoPart : TO := fun _ H Q => Q none H
noncomputable def tPart (t : TE) : TO := fun σ H Q => t σ H fun x H1 => ∃ i, x = .int i ∧ Q (some i) H1
theorem intsAre_of {ns : List Int} : ∀ {us : List Value}, Vals (ns.map V.int) us → IntsAre us ns := by
  induction ns with
  | nil => intro us r; rw [List.map_nil] at r; cases r; exact .nil
  | cons n ns ih =>
    intro us r
    rw [List.map_cons] at r
    cases r with
    | cons r1 r2 =>
      obtain ⟨t, e⟩ := r1
      subst e
      exact .cons n t (ih r2)
section
variable {X : Cx} {e : Expr} {te : TE} {lo hi : Option Expr} {tl th : TO} {pos p2 : Pos}
theorem po_none : PO X none tNoPart := by
  intro pins s σ H Q I h
  rw [evalPart_none]
  exact wpAny_pure ⟨none, H, I, .none, h⟩
theorem po_some (h : PE X e te) : PO X (some e) (tPart te) := by
  intro pins s σ H Q I hw
  rw [evalPart_some]
  refine thn (h pins s σ H _ I hw) fun u s1 ⟨x, H1, I1, r1, q1⟩ => ?_
  obtain ⟨i, rfl, q⟩ := q1
  obtain ⟨t, rfl⟩ := r1
  exact ⟨some i, H1, I1, .int i t, q⟩
noncomputable def SlR (X : Cx) (r : V → Option Int → Option Int → Hp → VK → Prop) : Prop :=
  ∀ (pins : List (Addr × Obj)) (s : Shared) (σ : St) (H : Hp) (x : V) (v vl vu : Value) (lo hi : Option Int) (sl : Addr) (Q : VK), Inv X pins σ H s → RelV x v → s.heap.IsSliceOf sl vl vu .none → IsPart vl lo → IsPart vu hi → r x lo hi H Q →
    ∃ T id, typeLookup (.type T) "__getitem__" = pure (some (.builtin id)) ∧ s.TypeIs v T ∧ wpAny (model X.prog X.w) X.A (getItem v (.ref sl)) (EP X pins σ Q) X.xe s
noncomputable def tSl (r : V → Option Int → Option Int → Hp → VK → Prop) (te : TE) (tl th : TO) : TE := fun σ H Q => te σ H fun x H1 => tl σ H1 fun l H2 => th σ H2 fun u H3 => r x l u H3 Q
theorem pe_slice {r : V → Option Int → Option Int → Hp → VK → Prop} (hr : SlR X r) (he : PE X e te) (hl : PO X lo tl) (hu : PO X hi th) : PE X (.Subscript e (.Slice lo hi none p2) pos) (tSl r te tl th) := by
  intro pins s σ H Q I h
  refine Subscript_ (thn (he pins s σ H _ I h) fun v s1 ⟨x, H1, I1, r1, q1⟩ => ?_)
  refine wpAny_Slice (thn (hl pins s1 σ H1 _ I1 q1) fun vl s2 ⟨l, H2, I2, pl, q2⟩ => thn (hu pins s2 σ H2 _ I2 q2) fun vu s3 ⟨u, H3, I3, pu, q3⟩ => ?_)
  rw [evalPart_none]
  refine wpAny_pure ?_
  have I4 : Inv X pins σ H3 { s3 with heap := s3.heap.push { cls := .type "slice", data := .fields #[vl, vu, .none] } } := I3.kept (t' := s3.toks) fun b ob q => Heap.get?_push_of_some _ q
  obtain ⟨T, id, hT, ht, hg⟩ := hr pins { s3 with heap := s3.heap.push { cls := .type "slice", data := .fields #[vl, vu, .none] } } σ H3 x v vl vu l u s3.heap.objs.size Q I4 r1 (Heap.IsSliceOf.new ..) pl pu q3
  show wpAny (model X.prog X.w) X.A (subscriptTail e (.Slice lo hi none p2) v (.ref s3.heap.objs.size)) (EP X pins σ Q) X.xe { s3 with heap := s3.heap.push { cls := .type "slice", data := .fields #[vl, vu, .none] } }
  exact tail_any (ops := [.ref s3.heap.objs.size, v]) ht hT hg (by with_unfolding_all rfl)
noncomputable def cutV (xs : List V) (lo hi : Option Int) : List V := (xs.drop (HT.sIx xs.length 0 lo)).take (HT.sIx xs.length xs.length hi - HT.sIx xs.length 0 lo)
theorem cutV_length (xs : List V) (lo hi : Option Int) : (cutV xs lo hi).length ≤ xs.length := by
  unfold cutV
  rw [List.length_take, List.length_drop]
  lia
noncomputable def rSlT (K : PySem.W.Frag) : V → Option Int → Option Int → Hp → VK → Prop := fun x lo hi H Q => ∃ a xs, x = .ref a ∧ SqT K H a xs ∧
  ¬ (HT.sIx xs.length 0 lo = 0 ∧ HT.sIx xs.length xs.length hi = xs.length) ∧ ∀ p, H p = none → Q (.ref p) (upd H p (.tup (cutV xs lo hi)))
theorem sl_tup : SlR X (rSlT X.K) := by
  intro pins s σ H x v vl vu lo hi sl Q I rx hs pl pu h
  obtain ⟨a, xs, rfl, hx, hw, q⟩ := h
  cases rx
  obtain ⟨its, r, ht, hz⟩ := I.tuple hx
  have hlen : its.toArray.size = xs.length := by rw [List.size_toArray]; exact r.length.symm
  refine ⟨"tuple", _, PyProof.Rows.slot_tuple_getitem.lookup, ht.typeIs, ?_⟩
  refine HT.getItem_tuple_cut ht hs pl pu (by rw [hlen]; exact hw) ?_ (by rw [hlen]; exact hz)
  rw [hlen]
  refine ⟨.ref s.heap.objs.size, _, I.laid (t' := s.toks) (o := .tup (cutV xs lo hi)) (fun b ob q => Heap.get?_push_of_some _ q) (Nat.le_refl _) ?_, rfl, q _ (I.hok.fresh (Nat.le_refl _))⟩
  exact ⟨Nat.le_trans (cutV_length xs lo hi) hz, _, (r.drop (HT.sIx xs.length 0 lo)).take (HT.sIx xs.length xs.length hi - HT.sIx xs.length 0 lo), IsTup.new _ _⟩
noncomputable def rCatT (K : PySem.W.Frag) : R2 := fun x y H Q => ∃ a b xs ys, x = .ref a ∧ y = .ref b ∧ SqT K H a xs ∧ SqT K H b ys ∧ xs ≠ [] ∧ xs.length + ys.length ≤ sizeLine ∧
  (ys = [] → Q (.ref a) H) ∧ (ys ≠ [] → ∀ p, H p = none → Q (.ref p) (upd H p (.tup (xs ++ ys))))
theorem Vals.nil_iff {xs : List V} {us : List Value} (r : Vals xs us) : us = [] ↔ xs = [] := by
  cases r with
  | nil => simp
  | cons _ _ => simp
theorem op_catT : OpR X (binaryOp .Add) (rCatT X.K) := by
  intro pins s σ H x y v u Q I rx ry h
  obtain ⟨a, b, xs, ys, rfl, rfl, ha, hb, hx, hz, q1, q2⟩ := h
  cases rx
  cases ry
  obtain ⟨its, r1, p1, _⟩ := I.tuple ha
  obtain ⟨its2, r2, p2, _⟩ := I.tuple hb
  refine HT.cat_tup p1 p2 (fun z => hx (r1.nil_iff.mp z)) (fun z => ⟨.ref a, H, I, rfl, q1 (r2.nil_iff.mp z)⟩) (fun z => ?_) (by rw [← r1.length, ← r2.length]; exact hz)
  refine ⟨.ref s.heap.objs.size, _, I.laid (t' := s.toks) (o := .tup (xs ++ ys)) (fun b ob q => Heap.get?_push_of_some _ q) (Nat.le_refl _) ?_, rfl, q2 (fun w => z (r2.nil_iff.mpr w)) _ (I.hok.fresh (Nat.le_refl _))⟩
  exact ⟨by rw [List.length_append]; exact hz, _, r1.append r2, IsTup.new _ _⟩
end
end L2
namespace L2
open PySem PySem.Spec PyProof.Rows
noncomputable def ixN (n : Nat) (i : Int) : Option Nat := if 0 ≤ i then (if i < n then some i.toNat else none) else if -(n : Int) ≤ i then some (i + n).toNat else none
noncomputable def atI {α : Type} (xs : List α) (i : Int) : Option α := (ixN xs.length i).bind fun j => xs[j]?
theorem ixN_seq {n : Nat} {i : Int} {j : Nat} (h : ixN n i = some j) : seqIndex? i n = some j ∧ j < n ∧ -(n : Int) ≤ i ∧ i < n := by
  unfold ixN at h
  by_cases h0 : 0 ≤ i
  · rw [if_pos h0] at h
    by_cases h1 : i < n
    · rw [if_pos h1] at h
      have e : i.toNat = j := Option.some.inj h
      exact ⟨by rw [seqIndex_of h0 h1, e], by lia, by lia, h1⟩
    · rw [if_neg h1] at h; cases h
  · rw [if_neg h0] at h
    by_cases h1 : -(n : Int) ≤ i
    · rw [if_pos h1] at h
      have e : (i + n).toNat = j := Option.some.inj h
      exact ⟨by rw [seqIndex_neg (by lia) h1, e], by lia, h1, by lia⟩
    · rw [if_neg h1] at h; cases h
theorem atI_get {α : Type} {xs : List α} {i : Int} {v : α} (h : atI xs i = some v) : ∃ j, seqIndex? i xs.length = some j ∧ xs[j]? = some v ∧ j < xs.length ∧ -(xs.length : Int) ≤ i ∧ i < xs.length := by
  unfold atI at h
  cases e : ixN xs.length i with
  | none => rw [e] at h; cases h
  | some j =>
    rw [e] at h
    obtain ⟨h1, h2, h3, h4⟩ := ixN_seq e
    exact ⟨j, h1, h, h2, h3, h4⟩
theorem atI_nat {α : Type} {xs : List α} {j : Nat} {v : α} (h : xs[j]? = some v) : atI xs (j : Int) = some v := by
  have hj : j < xs.length := (List.getElem?_eq_some_iff.mp h).1
  have e : ixN xs.length (j : Int) = some j := by
    unfold ixN
    rw [if_pos (by lia), if_pos (by lia)]; simp
  unfold atI; rw [e]; exact h
noncomputable def PlainIx (b : Expr) : Prop := ∀ o i, subscripted b false o i = operate [o, i] (getItem o i)
noncomputable def IxR (X : Cx) (r : R2) : Prop :=
  ∀ (value slice : Expr) (pins : List (Addr × Obj)) (s : Shared) (σ : St) (H : Hp) (x y : V) (v u : Value) (Q : VK), Inv X pins σ H s → RelV x v → RelV y u → r x y H Q →
    subscripted slice false v u = operate [v, u] (getItem v u) → wpAny (model X.prog X.w) X.A (subscriptTail value slice v u) (EP X pins σ Q) X.xe s
noncomputable def MtR (X : Cx) (id : String) (r : V → List V → Hp → VK → Prop) : Prop :=
  ∀ (pins : List (Addr × Obj)) (s : Shared) (σ : St) (H : Hp) (x : V) (xs : List V) (v : Value) (us : List Value) (Q : VK), Inv X pins σ H s → RelV x v → Vals xs us → r x xs H Q →
    wpAny (model X.prog X.w) X.A (call (.builtin id) (v :: us)) (EP X pins σ Q) X.xe s
section
variable {X : Cx} {a b : Expr} {ta tb : TE} {pos : Pos}
theorem pe_ix {r : R2} (hr : IxR X r) (ha : PE X a ta) (hb : PE X b tb) (hs : PlainIx b) : PE X (.Subscript a b pos) (tOp r ta tb) := by
  intro pins s σ H Q I h
  exact Subscript_ (binT ha hb I h fun v u s2 x y H2 I2 rx ry q => hr a b pins s2 σ H2 x y v u Q I2 rx ry q (hs _ _))
noncomputable def rIxL (K : PySem.W.Frag) : R2 := fun x y H Q => ∃ p xs i v, x = .ref p ∧ y = .int i ∧ SqL K H p xs ∧ atI xs i = some v ∧ Q v H
noncomputable def rIxT (K : PySem.W.Frag) : R2 := fun x y H Q => ∃ p xs i v, x = .ref p ∧ y = .int i ∧ SqT K H p xs ∧ atI xs i = some v ∧ Q v H
noncomputable def rIxS : R2 := fun x y H Q => ∃ z i c, x = .str z ∧ y = .int i ∧ z.length ≤ sizeLine ∧ atI z.cps.toList i = some c ∧ Q (.str ⟨#[c]⟩) H
theorem ix_list : IxR X (rIxL X.K) := by
  intro value slice pins s σ H x y v u Q I rx ry h hs
  obtain ⟨p, xs, i, z, rfl, rfl, hq, he, q⟩ := h
  cases rx
  obtain ⟨t, rfl⟩ := ry
  obtain ⟨its, r, pl, hz⟩ := I.list hq
  obtain ⟨j, h1, h2, h3, h4, h5⟩ := atI_get he
  obtain ⟨w, ew, rw'⟩ := r.get h2
  have hl := r.length
  have hn := line63
  have fin : EP X pins σ Q w s := ⟨z, H, I, rw', q⟩
  by_cases h0 : 0 ≤ i
  · have hj : i.toNat = j := by
      rw [seqIndex_of h0 h5] at h1
      exact Option.some.inj h1
    exact item_listR pl.isList h0 (by lia) (by rw [hj]; simpa using ew) fin hs
  · have hj : (i + (its.toArray.size : Int)).toNat = j := by
      rw [seqIndex_neg (by lia) h4] at h1
      rw [List.size_toArray, ← hl]
      exact Option.some.inj h1
    exact subscriptTail_builtinR (x := w) pl.isList.typeIs slot_list_getitem.lookup
      (wpAny_getItem_list_neg (Q := fun r s' => r = w ∧ EP X pins σ Q r s') pl.isList (by lia) (by rw [List.size_toArray] <;> lia) (by lia) (by rw [hj]; simpa using ew) ⟨rfl, fin⟩) hs
theorem ix_tup : IxR X (rIxT X.K) := by
  intro value slice pins s σ H x y v u Q I rx ry h hs
  obtain ⟨p, xs, i, z, rfl, rfl, hq, he, q⟩ := h
  cases rx
  obtain ⟨t, rfl⟩ := ry
  obtain ⟨its, r, pl, hz⟩ := I.tuple hq
  obtain ⟨j, h1, h2, h3, h4, h5⟩ := atI_get he
  obtain ⟨w, ew, rw'⟩ := r.get h2
  have hl := r.length
  have hn := line63
  have fin : EP X pins σ Q w s := ⟨z, H, I, rw', q⟩
  exact subscriptTail_builtinR (x := w) pl.typeIs slot_tuple_getitem.lookup
    (getItem_tuple (j := j) (Q := fun r s' => r = w ∧ EP X pins σ Q r s') pl (by lia) (by lia) (by rw [List.size_toArray, ← hl]; exact h1) (by simpa using ew) ⟨rfl, fin⟩) hs
theorem ix_str : IxR X rIxS := by
  intro value slice pins s σ H x y v u Q I rx ry h hs
  obtain ⟨z, i, c, rfl, rfl, hz, he, q⟩ := h
  obtain ⟨t, rfl⟩ := rx
  obtain ⟨t', rfl⟩ := ry
  obtain ⟨j, h1, h2, h3, h4, h5⟩ := atI_get he
  have hl : z.cps.toList.length = z.length := by simp [Str.length]
  rw [hl] at h1 h4 h5
  have hn := line63
  exact tail_any (typeIs_str s z t) slot_str_getitem.lookup (getItem_str (c := c) (by
    have e1 : decide (i < -(2 ^ 63 : Int)) = false := decide_eq_false (by lia)
    have e2 : decide (i ≥ 2 ^ 63) = false := decide_eq_false (by lia)
    rw [e1, e2, Bool.or_false]) (by rw [h1]; simpa using h2) ⟨.str ⟨#[c]⟩, H, I.tok _, ⟨_, rfl⟩, q⟩) hs
theorem slice_bounds (lo hi : Option Int) (n : Nat) : (sliceBounds lo hi none n).1 = ((HT.sIx n 0 lo : Nat) : Int) ∧ (sliceBounds lo hi none n).2.1 = ((HT.sIx n n hi : Nat) : Int) ∧ (sliceBounds lo hi none n).2.2 = 1 := by
  refine ⟨?_, ?_, rfl⟩
  · cases lo with
    | none => simp [sliceBounds, HT.sIx]
    | some i =>
      simp only [sliceBounds, HT.sIx, Option.getD_none, show (1 : Int) > 0 by decide, if_true]
      by_cases h : i < 0
      · simp only [h, if_true] <;> lia
      · simp only [h, if_false] <;> lia
  · cases hi with
    | none => simp [sliceBounds, HT.sIx]
    | some i =>
      simp only [sliceBounds, HT.sIx, Option.getD_none, show (1 : Int) > 0 by decide, if_true]
      by_cases h : i < 0
      · simp only [h, if_true] <;> lia
      · simp only [h, if_false] <;> lia
theorem slicePick_cut (its : List Value) (lo hi : Option Int) : slicePick its.toArray lo hi none = ((its.drop (HT.sIx its.length 0 lo)).take (HT.sIx its.length its.length hi - HT.sIx its.length 0 lo)).toArray := by
  obtain ⟨h1, h2, h3⟩ := slice_bounds lo hi its.toArray.size
  unfold slicePick
  rw [h1, h2, h3]
  simp only [sliceRange_one, pick_run, List.size_toArray] <;> rfl
noncomputable def rSlL (K : PySem.W.Frag) : V → Option Int → Option Int → Hp → VK → Prop := fun x lo hi H Q => ∃ a xs, x = .ref a ∧ SqL K H a xs ∧ ∀ p, H p = none → Q (.ref p) (upd H p (.lst (cutV xs lo hi)))
theorem sl_list : SlR X (rSlL X.K) := by
  intro pins s σ H x v vl vu lo hi sl Q I rx hs pl pu h
  obtain ⟨a, xs, rfl, hx, q⟩ := h
  cases rx
  obtain ⟨its, r, ht, hz⟩ := I.list hx
  have hlen := r.length
  refine ⟨"list", _, slot_list_getitem.lookup, ht.isList.typeIs, ?_⟩
  refine wpAny_getItem_list_slice ht.isList hs pl pu .none (by simp) ?_ (by rw [List.size_toArray] <;> lia)
  rw [slicePick_cut, ← hlen]
  refine ⟨.ref s.heap.objs.size, _, I.laid (t' := s.toks) (o := .lst (cutV xs lo hi)) (fun b ob q => Heap.get?_push_of_some _ q) (Nat.le_refl _) ?_, rfl, q _ (I.hok.fresh (Nat.le_refl _))⟩
  exact ⟨Nat.le_trans (cutV_length xs lo hi) hz, _, 0, (r.drop (HT.sIx xs.length 0 lo)).take (HT.sIx xs.length xs.length hi - HT.sIx xs.length 0 lo), Heap.get?_push_size _ rfl⟩
noncomputable def flatV : V → Bool
  | .non => true
  | .bl _ => true
  | .int _ => true
  | .str _ => true
  | _ => false
noncomputable def eqV : V → V → Bool
  | .non, .non => true
  | .bl a, .bl b => a == b
  | .bl a, .int b => (if a then 1 else 0) == b
  | .int a, .bl b => a == (if b then 1 else 0)
  | .int a, .int b => a == b
  | .str a, .str b => a == b
  | _, _ => false
theorem eqAt_V {A : Around} {s : Shared} {y x : V} {u v : Value} (ry : RelV y u) (rx : RelV x v) (fy : flatV y = true) (fx : flatV x = true) : SeqAt.EqAt A s u v (eqV y x) := by
  cases y with
  | non =>
    cases ry
    cases x with
    | non => cases rx; exact SeqAt.EqAt.same _
    | bl b => cases rx; exact SeqAt.EqAt.none_bool b
    | int b => obtain ⟨t, rfl⟩ := rx; exact SeqAt.EqAt.none_int b t
    | str b => obtain ⟨t, rfl⟩ := rx; exact SeqAt.EqAt.none_str b t
    | _ => exact absurd (show false = true from fx) Bool.false_ne_true
  | bl a =>
    cases ry
    cases x with
    | non => cases rx; exact SeqAt.EqAt.bool_none a
    | bl b => cases rx; exact SeqAt.EqAt.bool_bool a b
    | int b => obtain ⟨t, rfl⟩ := rx; exact SeqAt.EqAt.bool_int a b t
    | str b => obtain ⟨t, rfl⟩ := rx; exact SeqAt.EqAt.bool_str a b t
    | _ => exact absurd (show false = true from fx) Bool.false_ne_true
  | int a =>
    obtain ⟨t', rfl⟩ := ry
    cases x with
    | non => cases rx; exact SeqAt.EqAt.int_none a t'
    | bl b => cases rx; exact SeqAt.EqAt.int_bool a t' b
    | int b => obtain ⟨t, rfl⟩ := rx; exact SeqAt.EqAt.int_int a t' b t
    | str b => obtain ⟨t, rfl⟩ := rx; exact SeqAt.EqAt.int_str a t' b t
    | _ => exact absurd (show false = true from fx) Bool.false_ne_true
  | str a =>
    obtain ⟨t', rfl⟩ := ry
    cases x with
    | non => cases rx; exact SeqAt.EqAt.str_none a t'
    | bl b => cases rx; exact SeqAt.EqAt.str_bool a t' b
    | int b => obtain ⟨t, rfl⟩ := rx; exact SeqAt.EqAt.str_int a t' b t
    | str b => obtain ⟨t, rfl⟩ := rx; exact SeqAt.EqAt.str_str a t' b t
    | _ => exact absurd (show false = true from fx) Bool.false_ne_true
  | _ => exact absurd (show false = true from fy) Bool.false_ne_true
noncomputable def eqU (x : V) (u : Value) : Bool := match u with
  | .none => eqV .non x
  | .bool b => eqV (.bl b) x
  | .int i _ => eqV (.int i) x
  | .str z _ => eqV (.str z) x
  | _ => false
theorem eqU_of {x y : V} {u : Value} (r : RelV y u) (f : flatV y = true) : eqU x u = eqV y x := by
  cases y with
  | non => cases r; rfl
  | bl b => cases r; rfl
  | int i => obtain ⟨t, rfl⟩ := r; rfl
  | str z => obtain ⟨t, rfl⟩ := r; rfl
  | _ => exact absurd (show false = true from f) Bool.false_ne_true
theorem any_eqU {x : V} : ∀ {xs : List V} {us : List Value}, Vals xs us → xs.all flatV = true → us.any (eqU x) = xs.any fun y => eqV y x
  | _, _, .nil, _ => rfl
  | y :: xs, u :: us, .cons r t, f => by
    rw [List.all_cons, Bool.and_eq_true] at f
    rw [List.any_cons, List.any_cons, eqU_of r f.1, any_eqU t f.2]
theorem mem_eqAt {A : Around} {s : Shared} {x : V} {v : Value} (rx : RelV x v) (fx : flatV x = true) : ∀ {xs : List V} {us : List Value}, Vals xs us → xs.all flatV = true → ∀ u ∈ us, SeqAt.EqAt A s u v (eqU x u)
  | _, _, .nil, _ => fun u hu => by cases hu
  | y :: xs, u :: us, .cons r t, f => fun u' hu => by
    rw [List.all_cons, Bool.and_eq_true] at f
    rcases List.mem_cons.mp hu with rfl | hu
    · rw [eqU_of r f.1]; exact eqAt_V r rx f.1 fx
    · exact mem_eqAt rx fx t f.2 u' hu
noncomputable def inV (x : V) (xs : List V) : Bool := xs.any fun y => eqV y x
noncomputable def rIn (K : PySem.W.Frag) (neg : Bool) : R2 := fun x y H Q => ∃ p xs, y = .ref p ∧ (SqL K H p xs ∨ SqT K H p xs) ∧ flatV x = true ∧ xs.all flatV = true ∧ Q (.bl (if neg then !inV x xs else inV x xs)) H
theorem op_in_seq : OpR X (compareOp .In) (rIn X.K false) := by
  intro pins s σ H x y v u Q I rx ry h
  obtain ⟨p, xs, rfl, hq, fx, fs, q⟩ := h
  cases ry
  rcases hq with hq | hq
  · obtain ⟨its, r, pl, hz⟩ := I.list hq
    refine SeqAt.in_listAt (eqU x) pl.isList (fun w hw => mem_eqAt rx fx r fs w (by simpa using hw)) ⟨.bl _, H, I, rfl, ?_⟩
    rw [show its.toArray.any (eqU x) = its.any (eqU x) by simp, any_eqU r fs]
    exact q
  · obtain ⟨its, r, pl, hz⟩ := I.tuple hq
    refine SeqAt.in_tupleAt (eqU x) pl (fun w hw => mem_eqAt rx fx r fs w (by simpa using hw)) ⟨.bl _, H, I, rfl, ?_⟩
    rw [show its.toArray.any (eqU x) = its.any (eqU x) by simp, any_eqU r fs]
    exact q
theorem call_len_seq : CallR X (.builtin "len") (fun xs H Q => ∃ p ys, xs = [.ref p] ∧ (SqL X.K H p ys ∨ SqT X.K H p ys) ∧ Q (.int ys.length) H) := by
  intro pins s σ H xs us Q I r h
  obtain ⟨p, ys, rfl, hq, q⟩ := h
  obtain ⟨u, rfl, rx⟩ := vals1 r
  cases rx
  have hn := line63
  rcases hq with hq | hq
  · obtain ⟨its, r', pl, hz⟩ := I.list hq
    have hlen := r'.length
    exact Calls.call_len_list pl.isList (by simp only [List.size_toArray] <;> lia) ⟨.int ys.length, H, I.tok _, ⟨s.toks + 1, by rw [List.size_toArray, hlen]⟩, q⟩
  · obtain ⟨its, r', pl, hz⟩ := I.tuple hq
    have hlen := r'.length
    exact len_tuple pl (by simp only [List.size_toArray] <;> lia) ⟨.int ys.length, H, I.tok _, ⟨s.toks + 1, by rw [List.size_toArray, hlen]⟩, q⟩
theorem call_list_of : CallR X (.type "list") (fun xs H Q => ∃ p ys, xs = [.ref p] ∧ (SqL X.K H p ys ∨ SqT X.K H p ys) ∧ ∀ l, H l = none → Q (.ref l) (upd H l (.lst ys))) := by
  intro pins s σ H xs us Q I r h
  obtain ⟨p, ys, rfl, hq, q⟩ := h
  obtain ⟨u, rfl, rx⟩ := vals1 r
  cases rx
  have fin : ∀ (its : List Value), Vals ys its → ys.length ≤ sizeLine → ∀ (h' : Heap) (c' : Nat), (∀ b o', s.heap.get? b = some o' → h'.get? b = some o') →
      h'.get? s.heap.objs.size = some { cls := .type "list", dict := none, data := .seq its.toArray c', slots := #[] } → EP X pins σ Q (.ref s.heap.objs.size) { s with heap := h' } := fun its r' hz h' c' kp e =>
    ⟨.ref s.heap.objs.size, _, I.laid (t' := s.toks) kp (Nat.le_refl _) (show ObjOk X.prog X.w _ h' _ (.lst ys) from ⟨hz, its, c', r', e⟩), rfl, q _ (I.hok.fresh (Nat.le_refl _))⟩
  rcases hq with hq | hq
  · obtain ⟨its, r', pl, hz⟩ := I.list hq
    have hlen := r'.length
    obtain ⟨o, ho, hc, n, hd⟩ := pl.isList
    exact call_list_seq p (.inl rfl) ho hc hd (fun h' c' kp e => fin its r' hz h' c' kp e) (by simp only [List.size_toArray] <;> lia)
  · obtain ⟨its, r', pl, hz⟩ := I.tuple hq
    have hlen := r'.length
    obtain ⟨o, ho, hc, n, hd⟩ := pl
    exact call_list_seq p (.inr rfl) ho hc hd (fun h' c' kp e => fin its r' hz h' c' kp e) (by simp only [List.size_toArray] <;> lia)
theorem call_tuple_of : CallR X (.type "tuple") (fun xs H Q => ∃ p ys, xs = [.ref p] ∧ ((SqL X.K H p ys ∧ ∀ l, H l = none → Q (.ref l) (upd H l (.tup ys))) ∨ (SqT X.K H p ys ∧ Q (.ref p) H))) := by
  intro pins s σ H xs us Q I r h
  obtain ⟨p, ys, rfl, h⟩ := h
  obtain ⟨u, rfl, rx⟩ := vals1 r
  cases rx
  rcases h with ⟨hq, q⟩ | ⟨hq, q⟩
  · obtain ⟨its, r', pl, hz⟩ := I.list hq
    have hlen := r'.length
    refine call_tuple_list pl.isList (fun h' kp => ?_) (by simp only [List.size_toArray] <;> lia)
    have I1 : Inv X pins σ H { s with heap := h' } := I.kept (t' := s.toks) kp
    have I2 : Inv X pins σ (upd H h'.objs.size (.tup ys)) { s with heap := h'.push { cls := .type "tuple", data := .seq its.toArray } } :=
      I1.laid (t' := s.toks) (fun b o e => Heap.get?_push_of_some _ e) (Nat.le_refl _) (show ObjOk X.prog X.w _ _ _ (.tup ys) from ⟨hz, its, r', IsTup.new _ _⟩)
    exact ⟨.ref h'.objs.size, _, I2, rfl, q _ (I1.hok.fresh (Nat.le_refl _))⟩
  · obtain ⟨its, r', pl, hz⟩ := I.tuple hq
    exact call_tuple_same pl ⟨.ref p, H, I, rfl, q⟩
noncomputable def tyV (K : PySem.W.Frag) (T : String) (x : V) (H : Hp) : Prop := match x with
  | .str _ => T = "str"
  | .int _ => T = "int"
  | .ref p => (T = "list" ∧ ∃ xs, SqL K H p xs) ∨ (T = "tuple" ∧ ∃ o, K.lookup p = some o ∧ o.cls = .type "tuple" ∧ o.dict = none) ∨
      (T = "dict" ∧ ((∃ kvs, H p = some (.dK kvs)) ∨ ∃ kvs, H p = some (.dT kvs))) ∨ (T = "set" ∧ ∃ S n, H p = some (.set S n))
  | _ => False
theorem tyV_is {pins : List (Addr × Obj)} {σ : St} {H : Hp} {s : Shared} {T : String} {x : V} {v : Value} (I : Inv X pins σ H s) (r : RelV x v) (ty : tyV X.K T x H) :
    s.TypeIs v T ∧ ∀ a, v = .ref a → ∃ ob, s.heap.get? a = some ob ∧ ob.dict = none := by
  cases x with
  | str z =>
    obtain ⟨t, rfl⟩ := r
    cases (show T = "str" from ty)
    exact ⟨typeIs_str s z t, fun _ e => nomatch e⟩
  | int i =>
    obtain ⟨t, rfl⟩ := r
    cases (show T = "int" from ty)
    exact ⟨typeIs_int s i t, fun _ e => nomatch e⟩
  | ref p =>
    cases r
    rcases ty with ⟨rfl, xs, hq⟩ | ⟨rfl, o, hk, hc, hd⟩ | ⟨rfl, hk⟩ | ⟨rfl, S, n, hk⟩
    · obtain ⟨its, _, pl, _⟩ := I.list hq
      refine ⟨pl.isList.typeIs, fun a e => ?_⟩
      cases e
      obtain ⟨o, n, e, c, hd, _⟩ := pl
      exact ⟨o, e, hd⟩
    · refine ⟨⟨o, I.kIn p o hk, hc⟩, fun a e => ?_⟩
      cases e
      exact ⟨o, I.kIn _ o hk, hd⟩
    · have z : ∃ o, s.heap.get? p = some o ∧ o.ExactDict := by
        rcases hk with ⟨kvs, hk⟩ | ⟨kvs, hk⟩
        · obtain ⟨_, _, _, _, o, _, _, e, ex, _⟩ := I.hok p _ hk
          exact ⟨o, e, ex⟩
        · obtain ⟨_, _, _, _, o, _, _, e, ex, _⟩ := I.hok p _ hk
          exact ⟨o, e, ex⟩
      obtain ⟨o, e, ex⟩ := z
      refine ⟨⟨o, e, ex.1⟩, fun a e2 => ?_⟩
      cases e2
      exact ⟨o, e, ex.2.1⟩
    · obtain ⟨o, _, _, _, e, ex, _⟩ := I.hok p _ hk
      refine ⟨⟨o, e, ex.1⟩, fun a e2 => ?_⟩
      cases e2
      exact ⟨o, e, ex.2.1⟩
  | _ => exact False.elim ty
noncomputable def tBM (K : PySem.W.Frag) (T : String) (r : V → List V → Hp → VK → Prop) (to : TE) (t : TA) : TE := fun σ H Q => to σ H fun x H1 => tyV K T x H1 ∧ t σ H1 fun xs H2 => r x xs H2 Q
variable {o e : Expr} {es : List Expr} {to : TE} {t : TA} {name : Str} {apos cpos : Pos} {T id : String} {r : V → List V → Hp → VK → Prop}
theorem pe_bm (pa : PlainAttrs T) (slot : Slot T name id) (hty : typeOf (.builtin id) = pure (.type "method_descriptor")) (hm : MtR X id r) (ho : PE X o to) (ha : PA X (e :: es) t)
    (hbase : attributeBase o name X.env (eval o X.env) = eval o X.env := by rfl)
    (hfew : ((backTo cpos (starEach (e :: es) X.env)).all (fun x => !x.1) && (backToKw cpos (keywordEach [] X.env)).all (fun x => x.1.isSome)
      && decide ((e :: es).length + ([] : List Keyword).length + (if ([] : List Keyword).isEmpty then 0 else 1) < 30)) = true := by rfl)
    (hline : (apos.endLine == cpos.line) = true := by rfl) (hs : starEach (e :: es) X.env = (false, eval e X.env) :: starEach es X.env := by rfl) (hplain : (backTo cpos (starEach es X.env)).any (·.1) = false := by rfl) :
    PE X (.Call (.Attribute o name apos) (e :: es) [] cpos) (tBM X.K T r to t) := by
  intro pins s σ H Q I h
  refine wpAny_Call_method_late hbase hfew hline rfl (thn (ho pins s σ H _ I h) fun v s1 ⟨x, H1, I1, r1, ty, q1⟩ => ?_)
  obtain ⟨h1, h2⟩ := tyV_is I1 r1 ty
  refine ⟨T, id, pa, slot, hty, h1, h2, ?_⟩
  have hA := ha cpos pins s1 σ H1 _ I1 q1
  rw [hs] at hA ⊢
  refine Calls.callWith_builtin (by show (false || (backTo cpos (starEach es X.env)).any (·.1)) = false; rw [hplain] <;> rfl) (Calls.evalArgs_plain ?_)
  exact thn hA fun us s2 ⟨vs, H2, I2, r2, q2⟩ => hm pins s2 σ H2 x vs v us Q I2 r1 r2 q2
end
end L2
namespace L2
open PySem PySem.Spec PyProof.Rows
noncomputable def MtM (X : Cx) (id : String) (r : V → List V → Hp → VK → Prop) : Prop :=
  ∀ (pins : List (Addr × Obj)) (s : Shared) (σ : St) (H : Hp) (x : V) (xs : List V) (v : Value) (us : List Value) (Q : VK), Inv X pins σ H s → RelV x v → Vals xs us → r x xs H Q →
    wpAny (model X.prog X.w) X.A (call (.builtin id) (v :: us)) (EP X pins σ Q) X.xe s
theorem Vals.one : ∀ {x : V} {us : List Value}, Vals [x] us → ∃ u, us = [u] ∧ RelV x u
  | _, _, .cons r .nil => ⟨_, rfl, r⟩
section
variable {X : Cx} {pins : List (Addr × Obj)} {σ : St} {H : Hp} {s : Shared} {l b : Addr} {xs ys zs : List V}
theorem Inv.lset {its its' : List Value} {n : Nat} {f : Array Value → Array Value} {t' : Nat} (I : Inv X pins σ H s) (hH : H l = some (.lst xs))
    (e : s.heap.get? l = some { cls := .type "list", data := .seq its.toArray n }) (hf : f its.toArray = its'.toArray) (hv : Vals ys its') (hz : ys.length ≤ sizeLine) :
    Inv X pins σ (upd H l (.lst ys)) { s with heap := s.heap.update l (Obj.mapSeq f), toks := t' } := by
  have q := PySem.IsL.update e f
  rw [hf] at q
  refine I.write (x := l) (e := l) (by rw [hH]; exact trivial) (.inl rfl) (fun b' u hb hu => (Heap.get?_update_other s.heap (Obj.mapSeq f) (Ne.symm hb)).trans hu) ⟨_, q⟩ ?_
  exact ⟨hz, its', _, hv, q⟩
theorem Inv.lnew {its : List Value} {t' : Nat} (I : Inv X pins σ H s) (hv : Vals ys its) (hz : ys.length ≤ sizeLine) :
    Inv X pins σ (upd H s.heap.objs.size (.lst ys)) { s with heap := s.heap.push { cls := .type "list", data := .seq its.toArray }, toks := t' } :=
  I.laid (fun _ _ q => Heap.get?_push_of_some _ q) (Nat.le_refl _) ⟨hz, its, 0, hv, Heap.get?_push_size _ rfl⟩
theorem Inv.fresh (I : Inv X pins σ H s) : H s.heap.objs.size = none := I.hok.fresh (Nat.le_refl _)
theorem Inv.lstM (I : Inv X pins σ H s) (hH : H l = some (.lst xs)) : xs.length ≤ sizeLine ∧ ∃ (its : List Value) (n : Nat), Vals xs its ∧ xs.length = its.length ∧ s.heap.get? l = some { cls := .type "list", data := .seq its.toArray n } := by
  obtain ⟨z, its, n, r, e⟩ := I.hok l _ hH
  exact ⟨z, its, n, r, r.length, e⟩
end
section
variable {X : Cx}
noncomputable def rAppend : V → List V → Hp → VK → Prop := fun x vs H Q => ∃ l xs y, x = .ref l ∧ vs = [y] ∧ H l = some (.lst xs) ∧ xs.length < sizeLine ∧ Q .non (upd H l (.lst (xs ++ [y])))
theorem mt_append : MtM X "list.append" rAppend := by
  intro pins s σ H x vs v us Q I rx rv h
  obtain ⟨l, xs, y, rfl, rfl, hH, hz, q⟩ := h
  cases rx
  obtain ⟨u, rfl, ru⟩ := rv.one
  obtain ⟨z, its, n, r, hl, e⟩ := I.lstM hH
  refine call_meets F.slot_list_append ⟨_, e, rfl⟩ F.entry_list_append (F.args_list_append_2 _ _) (PySem.list_append l its.toArray n u (by rw [List.size_toArray]; lia)) ⟨e, ?_⟩
  refine ⟨.non, _, I.lset (its' := its ++ [u]) hH e (by simp) (r.append (.cons ru .nil)) ?_, rfl, q⟩
  rw [List.length_append, List.length_singleton]
  lia
end
section
variable {prog : Program} {w : World} {A : Around} {E : Value → Shared → Prop} {s : Shared}
end
section
variable {X : Cx}
end
end L2
namespace L2
open PySem PySem.Spec PyProof.Rows
section
variable {κ : Type} [DecidableEq κ]
noncomputable def valV (kvs : List (κ × V)) (k : κ) : Option V := (kvs.find? fun kv => decide (kv.1 = k)).map (·.2)
noncomputable def putK (kvs : List (κ × V)) (k : κ) (v : V) : List (κ × V) :=
  if (kvs.any fun kv => decide (kv.1 = k)) = true then kvs.map (fun kv => if kv.1 = k then (kv.1, v) else kv) else kvs ++ [(k, v)]
theorem valV_pos {p : κ × V} {r : List (κ × V)} {k : κ} (e : p.1 = k) : valV (p :: r) k = some p.2 := by simp [valV, List.find?_cons, e]
theorem valV_neg {p : κ × V} {r : List (κ × V)} {k : κ} (e : ¬ p.1 = k) : valV (p :: r) k = valV r k := by simp [valV, List.find?_cons, e]
theorem valV_any (k : κ) : ∀ kvs : List (κ × V), (kvs.any fun kv => decide (kv.1 = k)) = (valV kvs k).isSome
  | [] => rfl
  | p :: r => by
    rw [List.any_cons]
    by_cases e : p.1 = k
    · simp only [valV_pos e, decide_eq_true e, Bool.true_or, Option.isSome_some]
    · rw [valV_neg e, decide_eq_false e, Bool.false_or]; exact valV_any k r
theorem valV_map (k j : κ) (y : V) : ∀ kvs : List (κ × V), valV (kvs.map fun kv => if kv.1 = k then (kv.1, y) else kv) j = (valV kvs j).map fun x => if j = k then y else x
  | [] => rfl
  | p :: r => by
    have ih := valV_map k j y r
    rw [List.map_cons]
    by_cases h : p.1 = k
    · rw [if_pos h]
      by_cases e : p.1 = j
      · rw [valV_pos (p := (p.1, y)) e, valV_pos e, Option.map_some, if_pos (e.symm.trans h)]
      · rw [valV_neg (p := (p.1, y)) e, valV_neg e, ih]
    · rw [if_neg h]
      by_cases e : p.1 = j
      · rw [valV_pos (p := p) e, valV_pos e, Option.map_some, if_neg (fun z => h (e.trans z))]
      · rw [valV_neg (p := p) e, valV_neg e, ih]
theorem valV_snoc (k j : κ) (y : V) : ∀ kvs : List (κ × V), valV kvs k = none → valV (kvs ++ [(k, y)]) j = if j = k then some y else valV kvs j
  | [], _ => by
    by_cases e : k = j
    · rw [if_pos e.symm]; exact valV_pos (p := (k, y)) e
    · rw [if_neg (fun z => e z.symm)]; exact valV_neg (p := (k, y)) e
  | p :: r, hn => by
    rw [List.cons_append]
    have hk : ¬ p.1 = k := fun z => by rw [valV_pos z] at hn; cases hn
    rw [valV_neg hk] at hn
    have ih := valV_snoc k j y r hn
    by_cases e : p.1 = j
    · rw [valV_pos e, valV_pos e, if_neg (fun z => hk (e.trans z))]
    · rw [valV_neg e, valV_neg e, ih]
theorem valV_put (kvs : List (κ × V)) (k j : κ) (y : V) : valV (putK kvs k y) j = if j = k then some y else valV kvs j := by
  unfold putK
  by_cases a : (kvs.any fun kv => decide (kv.1 = k)) = true
  · rw [if_pos a, valV_map]
    rw [valV_any] at a
    by_cases e : j = k
    · obtain ⟨x, hx⟩ := Option.isSome_iff_exists.mp a
      rw [if_pos e, e, hx, Option.map_some, if_pos rfl]
    · rw [if_neg e]
      cases valV kvs j with
      | none => rfl
      | some x => rw [Option.map_some, if_neg e]
  · rw [if_neg a]
    refine valV_snoc k j y kvs ?_
    rw [valV_any] at a
    cases q : valV kvs k with
    | none => rfl
    | some x => rw [q] at a; exact (a rfl).elim
theorem length_putK (kvs : List (κ × V)) (k : κ) (v : V) : (putK kvs k v).length ≤ kvs.length + 1 := by
  unfold putK
  split
  · rw [List.length_map]; lia
  · rw [List.length_append, List.length_cons, List.length_nil]; lia
theorem RelO.isSome_eq {o : Option V} {u : Option Value} (r : RelO o u) : o.isSome = u.isSome := by
  cases o with
  | none => cases u with
    | none => rfl
    | some _ => exact (show False from r).elim
  | some _ => cases u with
    | none => exact (show False from r).elim
    | some _ => rfl
theorem KV.val {kvs : List (κ × V)} {vs : List (κ × Value)} (r : KV kvs vs) (k : κ) : RelO (valV kvs k) (valueAt vs k) := by
  unfold KV at r
  induction r with
  | nil => exact True.intro
  | @cons p q ps qs h t ih =>
    obtain ⟨h1, h2⟩ := h
    by_cases e : p.1 = k
    · have e' : q.1 = k := h1.symm.trans e
      have b : valueAt (q :: qs) k = some q.2 := by simp [valueAt, List.find?_cons, e']
      rw [valV_pos e, b]; exact h2
    · have e' : ¬ q.1 = k := fun z => e (h1.trans z)
      have b : valueAt (q :: qs) k = valueAt qs k := by simp [valueAt, List.find?_cons, e']
      rw [valV_neg e, b]; exact ih
theorem KV.any {kvs : List (κ × V)} {vs : List (κ × Value)} (r : KV kvs vs) (k : κ) : (kvs.any fun kv => decide (kv.1 = k)) = vs.any fun kv => decide (kv.1 = k) := by
  unfold KV at r
  induction r with
  | nil => rfl
  | cons h t ih => rw [List.any_cons, List.any_cons, ih, h.1]
theorem KV.repl {kvs : List (κ × V)} {vs : List (κ × Value)} (r : KV kvs vs) (k : κ) {y : V} {u : Value} (ry : RelV y u) :
    KV (kvs.map fun kv => if kv.1 = k then (kv.1, y) else kv) (vs.map fun kv => if kv.1 = k then (kv.1, u) else kv) := by
  unfold KV at r ⊢
  induction r with
  | nil => exact .nil
  | @cons p q ps qs h t ih =>
    rw [List.map_cons, List.map_cons]
    refine .cons ?_ ih
    obtain ⟨h1, h2⟩ := h
    by_cases e : p.1 = k
    · rw [if_pos e, if_pos (h1.symm.trans e)]; exact ⟨h1, ry⟩
    · rw [if_neg e, if_neg (fun z => e (h1.trans z))]; exact ⟨h1, h2⟩
theorem KV.put {kvs : List (κ × V)} {vs : List (κ × Value)} (r : KV kvs vs) (k : κ) {y : V} {u : Value} (ry : RelV y u) : KV (putK kvs k y) (stored vs k u) := by
  unfold putK stored
  rw [r.any k]
  by_cases e : (vs.any fun kv => decide (kv.1 = k)) = true
  · rw [if_pos e, if_pos e]; exact r.repl k ry
  · rw [if_neg e, if_neg e]; exact Paired.snoc r ⟨rfl, ry⟩
theorem KV.length {kvs : List (κ × V)} {vs : List (κ × Value)} (r : KV kvs vs) : kvs.length = vs.length := Paired.length r
end
theorem kV_is {P : Program} {w : World} {k : Key} {u : Value} (r : RelV (kV k) u) : (mixKind P w).is k u = true := by
  cases k with
  | inl i => obtain ⟨t, e⟩ := (show ∃ t, u = Value.int i t from r); subst e; exact mixKind_int P w i t
  | inr x => obtain ⟨t, e⟩ := (show ∃ t, u = Value.str x t from r); subst e; exact mixKind_str P w x t
theorem items_are {P : Program} {w : World} : ∀ {ks : List Key} {us : List Value}, Vals (ks.map kV) us → ItemsAre (mixKind P w) ks us
  | [], _, r => by rw [List.map_nil] at r; cases r; exact .nil
  | k :: ks, _, r => by
    rw [List.map_cons] at r
    cases r with
    | cons h t => exact .cons (kV_is h) (items_are t)
noncomputable abbrev KT (H : Hp) : List (List Key × V) → List (List Key × Addr × Value) → Prop := Paired fun p q => p.1 = q.1 ∧ H q.2.1 = some (.tup (p.1.map kV)) ∧ RelV p.2 q.2.2
theorem KT.val {H : Hp} {kvs : List (List Key × V)} {xs : List (List Key × Addr × Value)} (r : KT H kvs xs) (k : List Key) : RelO (valV kvs k) ((atKey xs k).map (·.2)) := by
  induction r with
  | nil => exact True.intro
  | @cons p q ps qs h t ih =>
    obtain ⟨h1, _, h2⟩ := h
    by_cases e : p.1 = k
    · have e' : q.1 = k := h1.symm.trans e
      have b : atKey (q :: qs) k = some q.2 := by simp [atKey, List.find?_cons, e']
      rw [valV_pos e, b]; exact h2
    · have e' : ¬ q.1 = k := fun z => e (h1.trans z)
      have b : atKey (q :: qs) k = atKey qs k := by simp [atKey, List.find?_cons, e']
      rw [valV_neg e, b]; exact ih
theorem KT.repl {H : Hp} {kvs : List (List Key × V)} {xs : List (List Key × Addr × Value)} (r : KT H kvs xs) (k : List Key) {y : V} {u : Value} (ry : RelV y u) :
    KT H (kvs.map fun kv => if kv.1 = k then (kv.1, y) else kv) (xs.map (putAt k u)) := by
  induction r with
  | nil => exact .nil
  | @cons p q ps qs h t ih =>
    rw [List.map_cons, List.map_cons]
    refine .cons ?_ ih
    obtain ⟨h1, h2, h3⟩ := h
    unfold putAt
    by_cases e : p.1 = k
    · rw [if_pos e, if_pos (h1.symm.trans e)]; exact ⟨h1, h2, ry⟩
    · rw [if_neg e, if_neg (fun z => e (h1.trans z))]; exact ⟨h1, h2, h3⟩
theorem KT.put {H : Hp} {kvs : List (List Key × V)} {xs : List (List Key × Addr × Value)} (r : KT H kvs xs) (k : List Key) {b : Addr} {y : V} {u : Value} (hb : H b = some (.tup (k.map kV))) (ry : RelV y u) :
    KT H (putK kvs k y) (storedH xs k b u) := by
  have e : (kvs.any fun kv => decide (kv.1 = k)) = (atKey xs k).isSome := by
    rw [valV_any, (r.val k).isSome_eq, Option.isSome_map]
  unfold putK storedH
  rw [e]
  by_cases q : (atKey xs k).isSome = true
  · rw [if_pos q, if_pos q]; exact r.repl k ry
  · rw [if_neg q, if_neg q]; exact Paired.snoc r ⟨rfl, hb, ry⟩
theorem KT.keeps {H H' : Hp} {kvs : List (List Key × V)} {xs : List (List Key × Addr × Value)} (r : KT H kvs xs) (ht : ∀ b ys, H b = some (.tup ys) → H' b = some (.tup ys)) : KT H' kvs xs :=
  Paired.mapP r fun _ _ z => ⟨z.1, ht _ _ z.2.1, z.2.2⟩
section
variable {P : Program} {w : World} {H : Hp} {h : Heap} {a : Addr}
theorem rd_of {u : HO} (ok : HOk P w H h) (e : Rd H a u) : ObjOk P w H h a u := e.ok ok
theorem dk_rd {kvs : List (Key × V)} (ok : HOk P w H h) (e : Rd H a (.dK kvs)) : kvs.length ≤ sizeLine ∧ (a == sysModules) = false ∧ ∃ vs, KV kvs vs ∧ h.DictOf (mixKind P w) a vs :=
  show ObjOk P w H h a (.dK kvs) from rd_of ok e
theorem dk_of {kvs : List (Key × V)} (ok : HOk P w H h) (e : H a = some (.dK kvs)) : kvs.length ≤ sizeLine ∧ (a == sysModules) = false ∧ ∃ vs, KV kvs vs ∧ h.DictOf (mixKind P w) a vs := dk_rd ok (.inl e)
theorem key_of {ks : List Key} (ok : HOk P w H h) (e : H a = some (.tup (ks.map kV))) : (tupleKind (mixKind P w)).is h ks a := by
  obtain ⟨_, its, r, o, h1, h2, n, h3⟩ := (show ObjOk P w H h a (.tup (ks.map kV)) from ok a _ e)
  exact ⟨o, its.toArray, n, h1, h2, h3, by simpa using items_are r⟩
theorem dt_rd {kvs : List (List Key × V)} (ok : HOk P w H h) (e : Rd H a (.dT kvs)) : kvs.length ≤ sizeLine ∧ (a == sysModules) = false ∧
    ∃ xs, KT H kvs xs ∧ h.DictOfH (tupleKind (mixKind P w)) a xs := by
  obtain ⟨z, y, xs, r, o, es, ep, h1, h2, h3, h4, h5⟩ := (show ObjOk P w H h a (.dT kvs) from rd_of ok e)
  refine ⟨z, y, xs, r, o, es, ep, h1, h2, h3, h4, fun x hx => ?_, h5⟩
  have all : ∀ {l : List (List Key × V)} {m : List (List Key × Addr × Value)}, KT H l m → ∀ x ∈ m, (tupleKind (mixKind P w)).is h x.1 x.2.1 := by
    intro l m q
    induction q with
    | nil => intro x hx; exact nomatch hx
    | @cons p q ps qs hq t ih =>
      intro x hx
      rcases List.mem_cons.mp hx with e | hx
      · subst e
        exact key_of ok (by rw [← hq.1]; exact hq.2.1)
      · exact ih x hx
  exact all r x hx
theorem dt_of {kvs : List (List Key × V)} (ok : HOk P w H h) (e : H a = some (.dT kvs)) : kvs.length ≤ sizeLine ∧ (a == sysModules) = false ∧
    ∃ xs, KT H kvs xs ∧ h.DictOfH (tupleKind (mixKind P w)) a xs := dt_rd ok (.inl e)
end
noncomputable def DGet (H : Hp) (a : Addr) (y : V) (r : Option V) : Prop :=
  (∃ kvs k, Rd H a (.dK kvs) ∧ y = kV k ∧ r = valV kvs k) ∨ ∃ kvs k b, Rd H a (.dT kvs) ∧ y = .ref b ∧ H b = some (.tup (k.map kV)) ∧ r = valV kvs k
noncomputable def DPut (H : Hp) (a : Addr) (y v : V) (H' : Hp) : Prop :=
  (∃ kvs k, H a = some (.dK kvs) ∧ y = kV k ∧ kvs.length < sizeLine ∧ H' = upd H a (.dK (putK kvs k v))) ∨
  ∃ kvs k b, H a = some (.dT kvs) ∧ y = .ref b ∧ H b = some (.tup (k.map kV)) ∧ kvs.length < sizeLine ∧ H' = upd H a (.dT (putK kvs k v))
theorem DGet.t {H : Hp} {a b : Addr} {kvs : List (List Key × V)} {k : List Key} (e : H a = some (.dT kvs)) (eb : H b = some (.tup (k.map kV))) : DGet H a (.ref b) (valV kvs k) := .inr ⟨kvs, k, b, .inl e, rfl, eb, rfl⟩
theorem DPut.t {H : Hp} {a b : Addr} {kvs : List (List Key × V)} {k : List Key} {v : V} (e : H a = some (.dT kvs)) (eb : H b = some (.tup (k.map kV))) (hl : kvs.length < sizeLine) :
    DPut H a (.ref b) v (upd H a (.dT (putK kvs k v))) := .inr ⟨kvs, k, b, e, rfl, eb, hl, rfl⟩
section
variable {X : Cx} {pins : List (Addr × Obj)} {σ : St} {H : Hp} {s : Shared} {a : Addr} {y v : V} {u r : Value} {o : Option V} {A : Around} {E : Value → Shared → Prop}
theorem Inv.big (I : Inv X pins σ H s) : sysModules < s.heap.objs.size := by
  have h : mainGlobals < s.heap.objs.size := (I.mod.glob.keeps I.bk).lt
  exact Nat.lt_trans (by decide) h
theorem d_in {Q : Value → Shared → Prop} (hu : A.units + 1 < cLine) (I : Inv X pins σ H s) (g : DGet H a y o) (ry : RelV y u) (h : ∀ s', Inv X pins σ H s' → Q (.bool o.isSome) s') :
    wpAny (model X.prog X.w) A (compareOp .In u (.ref a)) Q E s := by
  rcases g with ⟨kvs, k, e, ey, l⟩ | ⟨kvs, k, b, e, ey, eb, l⟩
  · subst ey
    obtain ⟨z, hd, vs, rel, dd⟩ := dk_rd I.hok e
    refine wpAny_in_of (kV_is ry) hd dd.mapOf ?_
    rw [← (rel.val k).isSome_eq, ← l]
    exact h _ (I.tok _)
  · subst ey
    cases (show u = Value.ref b from ry)
    obtain ⟨z, hd, xs, rel, dd⟩ := dt_rd I.hok e
    refine wpAny_in_heap (tupleKind_room_in1 hu) (key_of I.hok eb) hd dd ?_
    have q := (rel.val k).isSome_eq
    rw [Option.isSome_map] at q
    rw [← q, ← l]
    exact h _ (I.tok _)
theorem d_write {h' : Heap} {t' : Nat} {ob : HO} (I : Inv X pins σ H s) (mu : Mut (H a)) (hs : Heap.SameBut a s.heap h') (he : ∃ q, h'.get? a = some q) (new : ObjOk X.prog X.w (upd H a ob) h' a ob) :
    Inv X pins σ (upd H a ob) { s with heap := h', toks := t' } :=
  I.write (x := a) (e := a) mu (.inl rfl) (fun b q hb z => (hs.2 b hb).trans z) he new
theorem dk_new {P : Program} {w : World} {H' : Hp} {h' : Heap} {kvs : List (Key × V)} {vs : List (Key × Value)} (z : kvs.length ≤ sizeLine) (hd : (a == sysModules) = false) (rel : KV kvs vs) (dd : h'.DictOf (mixKind P w) a vs) :
    ObjOk P w H' h' a (.dK kvs) := ⟨z, hd, vs, rel, dd⟩
theorem d_setItem {H' : Hp} {Q : Unit → Shared → Prop} (hu : A.units + 1 < cLine) (I : Inv X pins σ H s) (g : DPut H a y v H') (ry : RelV y u) (rv : RelV v r) (h : ∀ s', Inv X pins σ H' s' → Q () s') :
    wpAny (model X.prog X.w) A (setItem (.ref a) u r) Q E s := by
  rcases g with ⟨kvs, k, e, ey, l, eH⟩ | ⟨kvs, k, b, e, ey, eb, l, eH⟩
  · subst ey eH
    obtain ⟨z, hd, vs, rel, dd⟩ := dk_of I.hok e
    have hz : vs.length ≤ sizeLine := by rw [← rel.length]; exact z
    have hl : (putK kvs k v).length ≤ sizeLine := by have := length_putK kvs k v; lia
    refine wpAny_setItem_pairs (hsz := hz) (kV_is ry) dd fun h' dd' hs => h _ ?_
    have he : ∃ q, h'.get? a = some q := let ⟨q, _, _, hq, _⟩ := dd'; ⟨q, hq⟩
    exact d_write I (by rw [e]; exact True.intro) hs he (dk_new hl hd (rel.put k rv) dd')
  · subst ey eH
    cases (show u = Value.ref b from ry)
    obtain ⟨z, hd, xs, rel, dd⟩ := dt_of I.hok e
    have hz : xs.length ≤ sizeLine := by rw [← Paired.length rel]; exact z
    have hl : (putK kvs k v).length ≤ sizeLine := by have := length_putK kvs k v; lia
    refine wpAny_setItem_heap (hsz := hz) (tupleKind_room_in1 hu) (key_of I.hok eb) dd fun h' dd' hs => h _ ?_
    obtain ⟨q, es, ep, hq, h2, h3, h4, _, h5⟩ := dd'
    refine d_write I (by rw [e]; exact True.intro) hs ⟨q, hq⟩ ⟨hl, hd, _, (rel.put k eb rv).keeps fun c ys ec => ?_, q, es, ep, hq, h2, h3, h4, h5⟩
    rw [upd_ne (ne_of ec e (fun z => nomatch z))]
    exact ec
end
section
variable {X : Cx} {pins : List (Addr × Obj)} {σ : St} {H : Hp} {s : Shared} {a : Addr} {kvs : List (Key × V)} {k : Key} {u : Value} {A : Around} {E : Value → Shared → Prop}
end
noncomputable def tDIn (ty td : TE) : TE := fun σ H Q => ty σ H fun y H1 => td σ H1 fun x H2 => ∃ a o, x = .ref a ∧ DGet H2 a y o ∧ Q (.bl o.isSome) H2
noncomputable def sDPut (td ty tv : TE) : TS := fun D σ H => tv σ H fun v H1 => td σ H1 fun x H2 => ty σ H2 fun y H3 => ∃ a H4, x = .ref a ∧ DPut H3 a y v H4 ∧ D.nx σ H4
section
variable {X : Cx} {o i e value : Expr} {pos pos' tpos : Pos} {td ty tv : TE}
theorem pc_din (hu : X.A.units + 1 < cLine) (hi : PE X i ty) (ho : PE X o td) : PC X .In i o (tDIn ty td) := by
  intro pins s σ H Q I h
  refine thn (hi pins s σ H _ I h) fun iv s1 ⟨y, H1, I1, ry, q1⟩ => thn (ho pins s1 σ H1 _ I1 q1) fun u s2 ⟨x, H2, I2, rx, a, ov, ex, g, q2⟩ => ?_
  subst ex
  obtain rfl : u = Value.ref a := rx
  exact d_in hu I2 g ry fun s3 I3 => ⟨.bl ov.isSome, H2, I3, rfl, q2⟩
theorem ps_dput (hu : X.A.units + 1 < cLine) (ho : PE X o td) (hi : PE X i ty) (hv : PE X value tv) (hs : swapsWith value (some (.Subscript o i pos')) pos.line X.env = pure false) :
    PS X (.Assign [.Subscript o i pos'] value pos) (sDPut td ty tv) := by
  intro pins s σ H D I h
  refine wpAny_Assign_Subscript (thn (hv pins s σ H _ I h) fun r s1 ⟨v, H1, I1, rv, q1⟩ => thn (ho pins s1 σ H1 _ I1 q1) fun u s2 ⟨x, H2, I2, rx, q2⟩ => thn (hi pins s2 σ H2 _ I2 q2) fun iv s3 ⟨y, H3, I3, ry, a, H4, ex, g, q3⟩ => ?_) hs
  subst ex
  obtain rfl : u = Value.ref a := rx
  exact d_setItem hu I3 g ry rv fun s4 I4 => ⟨σ, H4, I4, q3⟩
end
theorem dt_empty {P : Program} {w : World} {H : Hp} (h : Heap) (hb : sysModules < h.objs.size) : ObjOk P w H (h.push { cls := .type "dict", data := .dict #[] }) h.objs.size (.dT []) :=
  ⟨Nat.zero_le _, beq_eq_false_iff_ne.mpr (Ne.symm (Nat.ne_of_lt hb)), [], .nil, _, #[], 0, Heap.get?_push_size _ rfl, ⟨rfl, rfl, rfl⟩, rfl, rfl, List.nodup_nil⟩
noncomputable def tDNewT : TE := fun _ H Q => ∀ p, H p = none → Q (.ref p) (upd H p (.dT []))
section
variable {X : Cx} {pos : Pos}
theorem pe_dnewT : PE X (.Dict [] [] pos) tDNewT := fun pins s σ H Q I h =>
  wpAny_Dict_empty ⟨.ref s.heap.objs.size, _, I.laid (a := s.heap.objs.size) (o := .dT []) (t' := s.toks) (fun _ _ q => Heap.get?_push_of_some _ q) (Nat.le_refl _) (dt_empty s.heap I.big), rfl, h _ (I.hok.fresh (Nat.le_refl _))⟩
end
section
variable {X : Cx} {pins : List (Addr × Obj)} {σ : St} {H : Hp} {s : Shared} {a : Addr} {y d : V} {u r : Value} {o : Option V} {A : Around} {E : Value → Shared → Prop}
end
section
variable {X : Cx} {o e f : Expr} {apos cpos : Pos} {td ty tx : TE}
end
section
variable {X : Cx} {pins : List (Addr × Obj)} {σ : St} {H : Hp} {s : Shared} {a : Addr} {kvs : List (Key × V)} {A : Around} {E : Value → Shared → Prop}
end
section
variable {X : Cx} {pins : List (Addr × Obj)} {σ : St} {H : Hp} {s : Shared} {a : Addr} {y : V} {u : Value} {A : Around} {E : Value → Shared → Prop}
end
end L2
namespace Att
open PySem PySem.W PySem.Calls PyProof.Rows
theorem ints_of_wellAll {P : Params} {h : Heap} : ∀ (ns : List Int) (vs : List Value), WellAll P h vs (ns.map WData.int) → IntsAre vs ns := by
  intro ns
  induction ns with
  | nil =>
    intro vs w
    rw [List.map_nil] at w
    cases w
    exact .nil
  | cons n ns ih =>
    intro vs w
    rw [List.map_cons] at w
    cases w with
    | cons a b =>
      cases a
      exact .cons _ _ (ih _ b)
theorem script_of {l : OpenLaw} {n : Nat} (hn : l.most = some n) {P : Params} {h : Heap} {args : List WData} {vals : List Value}
    (hpre : l.row.toRowW.claim.pre args = true) (hwl : WellAll P h vals args) :
    ∃ a vs ns, vals = [Value.ref a] ∧ args = [WData.list (ns.map WData.int)] ∧ h.get? a = some { cls := .type "list", data := .seq vs.toArray } ∧ IntsAre vs ns ∧ ns.length ≤ n := by
  have hsh : WShape.hasAll [] args [.list .int] = true := (pre_splitW hpre).1
  have hc : l.pre.holds [] { args := args } = true := (pre_splitW hpre).2
  obtain ⟨d, r, rfl, h1, h2⟩ := hasAllW_cons hsh
  obtain rfl := hasAllW_nil h2
  obtain ⟨xs, rfl, h3⟩ := hasW_list h1
  obtain ⟨ns, rfl⟩ := items_int h3
  have hlen : ns.length ≤ n := by
    unfold OpenLaw.pre at hc
    have h4 : (WTm.not (.lt (.lit (.int (n : Int))) (.len (.arg 0)))).holds [] { args := [.list (ns.map .int)] } = true := by
      have h4 := (holds_andW hc).1
      rw [hn] at h4
      exact h4
    have h5 := condW_of h4 (w_not (w_lt w_lit (w_len_list (w_arg rfl))))
    rw [List.length_map] at h5
    refine Nat.le_of_not_lt fun q => ?_
    have q' : (n : Int) < ((ns.length : Nat) : Int) := by omega
    first
      | (rw [decide_eq_true q'] at h5; exact absurd h5 (by decide))
      | (simp at h5; lia)
  cases hwl with
  | cons w1 w2 =>
    cases w2
    cases w1 with
    | list ho hall => exact ⟨_, _, ns, rfl, rfl, ho, ints_of_wellAll ns _ hall, hlen⟩
theorem post_true (l : OpenLaw) (args : List WData) : l.row.toRowW.claim.post args (.bool true) args = true :=
  postW_of (r := l.row.toRowW) (X := (true == true))
    (show WShape.has [] (.bool true) .bool = true by first | rfl | decide | simp [WShape.has, WShape.arms, WShape.armsAll])
    (show (WTm.eq .res (.lit (.bool true))).value [] { args := args, res := some (.bool true), after := args } = some (.bool (true == true)) from w_eq_bool (w_res rfl) w_lit) rfl
theorem attach_call {l : OpenLaw} {n : Nat} {q : Program} {loose : List Str} {XP : (Str → Option Value) → Heap → Prop} {YP : World → Heap → Prop} {d : DefRec}
    (hn : l.most = some n) (hdf : d.params.defaults = [])
    (call : ∀ (w : World) (s₀ s₁ : Shared) (mg mb : Str → Option Value) (fa : Addr) (o : Obj) (pm cd doc : Value) (a : Addr) (vs : List Value) (ns : List Int),
      Ground q loose [] XP w s₀ mg mb s₁.heap → YP w s₁.heap →
      s₁.heap.get? fa = some o → o.data = .func (docDef d.name d.params d.body d.scope pm cd doc) → s₁.heap.CodeRec cd d.name → mg d.name = some (.ref fa) →
      s₁.heap.get? a = some { cls := .type "list", data := .seq vs.toArray } → IntsAre vs ns → ns.length ≤ n → s₁.gens = #[] →
      codeAny (model l.prog w) callerA (.call (.ref fa) ⟨[.ref a], []⟩) (fun r s' => r = .ok (.ret (.bool true)) ∧ OldK s₁.heap s'.heap ∧ s'.os = s₁.os ∧ AllBare s'.gens) s₁) :
    WalkO q loose XP YP l.row.toRowW d [] (fun f vs => PySem.call f vs) := by
  intro w s₀ s₁ mg mb G Y fa o pm cd doc dV kV ho hd hcd hD hmg hg args vals as hpre hlay hrd hwl hlo
  obtain rfl : dV = .none := Dflts.none hD hdf
  obtain rfl : kV = .none := Dflts.noKw hD
  obtain ⟨a, vs, ns, rfl, rfl, hobj, hints, hlen⟩ := script_of hn hpre hwl
  refine enter_call (codeAny_mono (call w s₀ s₁ mg mb fa o pm cd doc a vs ns G Y ho (fd_plain hd) hcd hmg hobj hints hlen hg) fun r s' hq => ?_)
  obtain ⟨rfl, h2, h3, h4⟩ := hq
  exact ⟨.inl ⟨.bool true, .bool true, [], rfl, fun _ => rfl, .bool true, post_true l _, fun _ => ⟨List.Pairwise.nil, fun _ hm => (nomatch hm)⟩⟩, h2, h3, h4⟩
section
variable {prog : Program} {w : World} {A : Around} {E : Value → Shared → Prop} {s : Shared} {K : Frag}
end
end Att
namespace L2
open PySem PySem.Spec PyProof.Rows
theorem vals_ints : ∀ {vs : List Value} {ns : List Int}, IntsAre vs ns → Vals (ns.map V.int) vs
  | _, _, .nil => .nil
  | _, _, .cons n t h => .cons ⟨t, rfl⟩ (vals_ints h)
noncomputable def Only (H : Hp) : Prop := ∀ b, H b = none ∨ ∃ o xs, H b = some (.frz o (.lst xs))
theorem law_call {P : Program} {w : World} {K : PySem.W.Frag} {mg mb : Str → Option Value} {CX : CXT} {k : Nat} {fa a : Addr} {fd : FuncData} {x : Str} {sp : Sp} {s₁ : Shared} {vs : List Value} {ns : List Int}
    (KX : K.In s₁.heap) (hns : s₁.heap.Ns mainGlobals mg) (hb : s₁.heap.Ns builtinsNs mb) (hbb : ∀ x : Str, x ≠ "__name__" → mb x = bootBuiltins x) (hlim : s₁.heap.NoLimit) (hg : s₁.gens = #[])
    (ha : s₁.heap.get? a = some { cls := .type "list", data := .seq vs.toArray }) (hi : IntsAre vs ns) (hl : ns.length ≤ sizeLine) (hr : Room k callerA)
    (F : ∀ base : Heap, K.In base → base.Ns mainGlobals mg → FnOk P w K mg base CX k fa fd [x] sp) (hbind : ∀ (s : Shared) (u : Value), BindsTo s fd ⟨[u], []⟩ [(x, u)])
    (hsp : ∀ H : Hp, Only H → SqL K H a (ns.map V.int) → sp [.ref a] H (fun v _ => v = .bl true) fun _ _ _ => False)
    (hCX : ∀ H e s', CX [] H s₁ (fun _ _ _ => False) e s' → False) :
    codeAny (model P w) callerA (.call (.ref fa) ⟨[.ref a], []⟩) (fun r s' => r = .ok (.ret (.bool true)) ∧ OldK s₁.heap s'.heap ∧ s'.os = s₁.os ∧ AllBare s'.gens) s₁ := by
  have rv := vals_ints hi
  have lenV := hi.length
  have core : ∀ H : Hp, Only H → SqL K H a (ns.map V.int) → HOk P w H s₁.heap → (∀ b, H b ≠ none → b = a) → (H a ≠ none → K.lookup a = none) →
      codeAny (model P w) callerA (.call (.ref fa) ⟨[.ref a], []⟩) (fun r s' => r = .ok (.ret (.bool true)) ∧ OldK s₁.heap s'.heap ∧ s'.os = s₁.os ∧ AllBare s'.gens) s₁ := by
    intro H hO hS hok hA hK
    have base_of : ∀ {b : Addr} {o : Obj}, s₁.heap.get? b = some o → H b = none → (hidT s₁.heap H).get? b = some o := fun e n => hidT_get e n
    have noA : ∀ {b : Addr} {o : Obj} {es : Array DictEntry} {ep : Nat}, s₁.heap.get? b = some o → o.data = .dict es ep → H b = none := fun {b o es ep} e d => by
      cases q : H b with
      | none => rfl
      | some u =>
        have e' : b = a := hA b (by rw [q]; simp)
        subst e'
        rw [ha] at e; cases e
        have d' : Data.seq vs.toArray _ = Data.dict es ep := d
        cases d'
    have nsK : ∀ {b : Addr} {m : Str → Option Value}, s₁.heap.Ns b m → (hidT s₁.heap H).Ns b m := fun {b m} ⟨o, es, ep, e, d, r⟩ => ⟨o, es, ep, base_of e (noA e d), d, r⟩
    have hKb : K.In (hidT s₁.heap H) := fun b o e => base_of (KX b o e) (by
      cases q : H b with
      | none => rfl
      | some u =>
        have e' : b = a := hA b (by rw [q]; simp)
        subst e'
        rw [hK (by rw [q]; simp)] at e; cases e)
    have hM : Mod K mg (hidT s₁.heap H) := ⟨hKb, nsK hns, ⟨mb, nsK hb, hbb⟩, let ⟨mc, h1, h2⟩ := hlim; ⟨mc, nsK h1, h2⟩⟩
    have e0 : Env0 P w K mg (hidT s₁.heap H) callerA [] s₁ H := ⟨rfl, hM, fun b o e => of_hidT e, Nat.le_of_eq (hidT_size _ _), trivial, fun b hb => absurd (show b ∈ ([] : List Addr) from hb) (by simp), hok, .of_eq hg⟩
    refine codeAny_mono ((F _ hKb (nsK hns)).run callerA [] s₁ H ⟨[.ref a], []⟩ [.ref a] [.ref a] _ _ hr e0 (hbind s₁ (.ref a)) (.cons rfl .nil) (hsp H hO hS)) fun r s' h => ?_
    cases r with
    | error e => exact (hCX H e s' h).elim
    | ok fl =>
      cases fl with
      | next => exact False.elim h
      | brk => exact False.elim h
      | cont => exact False.elim h
      | ret u =>
        obtain ⟨v, H', os, bare, un, hok', r', q⟩ := h
        have q' : v = .bl true := q
        subst q'
        obtain rfl : u = Value.bool true := r'
        refine ⟨rfl, OldK.of_keep fun b o e => ?_, os, bare⟩
        cases q : H b with
        | none => exact un.keep b o e q (by intro z; exact absurd (show b ∈ ([] : List Addr) from z) (by simp)) (by simp)
        | some u =>
          rcases hO b with z | ⟨ob, xs, z⟩
          · rw [q] at z; cases z
          · have z2 := un.frzs b ob _ z
            obtain ⟨e1, _⟩ := hok b _ z
            obtain ⟨e2, _⟩ := hok' b _ z2
            rw [e] at e1; cases e1
            exact e2
  cases hk : K.lookup a with
  | some o =>
    have e := KX a o hk
    rw [ha] at e
    cases e
    refine core (fun _ => none) (fun _ => .inl rfl) (.inr ⟨_, vs.toArray, _, hk, rfl, rfl, rfl, by rw [List.size_toArray, lenV]; exact hl, by simpa using rv⟩) (fun b u z => by have z' : (none : Option HO) = some u := z; cases z') (fun b z => absurd rfl z) fun z => absurd rfl z
  | none =>
    refine core (fun b => if b = a then some (.frz { cls := .type "list", data := .seq vs.toArray } (.lst (ns.map V.int))) else none) (fun b => ?_) (.inl (.inr ⟨{ cls := .type "list", data := .seq vs.toArray }, if_pos rfl⟩)) (fun b u z => ?_) (fun b z => ?_) fun _ => hk
    · by_cases hb : b = a
      · exact .inr ⟨_, _, if_pos hb⟩
      · exact .inl (if_neg hb)
    · by_cases hb : b = a
      · have z' := (if_pos hb).symm.trans z
        cases z'
        subst hb
        exact ⟨ha, by rw [List.length_map]; exact hl, vs, _, rv, ha⟩
      · have z' := (if_neg hb).symm.trans z
        cases z'
    · by_cases hb : b = a
      · exact hb
      · exact absurd (if_neg hb) z
end L2
namespace L2
open PySem PySem.Spec PyProof.Rows
noncomputable abbrev KOf {K : PySem.W.Frag} {h : Heap} (_ : K.In h) : PySem.W.Frag := K
theorem walk_of {l : PySem.W.OpenLaw} {n k : Nat} {q : Program} {loose : List Str} {XP : (Str → Option Value) → Heap → Prop} {YP : World → Heap → Prop} {d : DefRec} {K : Params → PySem.W.Frag} {CX : World → CXT} {sp : World → Sp} {x : Str}
    (hn : l.most = some n) (hn2 : n ≤ sizeLine) (hdf : d.params.defaults = []) (hr : Room k callerA)
    (hY : ∀ (w : World) (h : Heap), YP w h → (K w.params).In h)
    (F : ∀ (w : World) (mg : Str → Option Value) (fa : Addr) (h : Heap), (K w.params).In h → h.Ns mainGlobals mg → mg d.name = some (.ref fa) →
      ∃ fd : FuncData, (∀ (s : Shared) (u : Value), BindsTo s fd ⟨[u], []⟩ [(x, u)]) ∧
        ∀ base : Heap, (K w.params).In base → base.Ns mainGlobals mg → FnOk l.prog w (K w.params) mg base (CX w) k fa fd [x] (sp w))
    (hsp : ∀ (w : World) (H : Hp) (a : Addr) (ns : List Int), ns.length ≤ n → Only H → SqL (K w.params) H a (ns.map V.int) → sp w [.ref a] H (fun v _ => v = .bl true) fun _ _ _ => False)
    (hCX : ∀ (w : World) (H : Hp) (s : Shared) (e : Value) (s' : Shared), CX w [] H s (fun _ _ _ => False) e s' → False) :
    PySem.W.WalkO q loose XP YP l.row.toRowW d [] (fun f vs => PySem.call f vs) := by
  refine Att.attach_call hn hdf fun w s₀ s₁ mg mb fa o pm cd doc a vs ns G Y ho hd hcd hmg hobj hints hlen hg => ?_
  have KX := hY w _ Y
  obtain ⟨fd, hb, hF⟩ := F w mg fa _ KX G.T.g hmg
  exact law_call KX G.T.g G.T.b G.T.builtins G.T.nolimit hg hobj hints (Nat.le_trans hlen hn2) hr hF hb (fun H hO hS => hsp w H a ns hlen hO hS) fun H e s' => hCX w H s₁ e s'
end L2
namespace L2
open PySem PySem.Spec PyProof.Rows
noncomputable def defArgs (s : Stmt) : Arguments := match s with
  | .FunctionDef _ a _ _ _ _ _ _ _ _ => a
  | _ => { posonlyargs := [], args := [], vararg := none, kwonlyargs := [], kw_defaults := [], kwarg := none, defaults := [] }
noncomputable def defBody (s : Stmt) : List Stmt := match s with
  | .FunctionDef _ _ b _ _ _ _ _ _ _ => b
  | _ => []
noncomputable def defScope (s : Stmt) : Scope := match s with
  | .FunctionDef _ _ _ _ _ _ sc _ _ _ => sc
  | _ => { kind := .function, names := [], isGenerator := false, isCoroutine := false }
noncomputable abbrev CX0 : CXT := fun _ _ _ _ _ _ => False
noncomputable abbrev E0 : XK := fun _ _ _ => False
theorem pass0 {X : Cx} : Passes CX0 X E0 := fun _ _ _ _ _ _ _ h => h.elim
structure Fun (K : PySem.W.Frag) (x qual : Str) (st : Stmt) (f : Addr) (fd : FuncData) : Prop where
  ex : ∃ (oc : Value) (od : Option Addr) (kV doc pm : Value) (an : Option Addr) (cdv ct : Value) (osl : Array (Option Value)),
    fd = PySem.W.fnOf x qual (defArgs st) (defBody st) (defScope st) .none kV doc pm an cdv ct ∧ K.lookup f = some ⟨oc, od, .func fd, osl⟩ ∧ PySem.W.codeIn K cdv qual = true
  kp : PySem.W.keepIn K (.ref f) = true
section
variable {P : Program} {w : World} {K : PySem.W.Frag} {mg : Str → Option Value} {base : Heap}
theorem Fun.ok {x qual : Str} {st : Stmt} {f : Addr} {fd : FuncData} {N ps : List Str} {k : Nat} {sp : Sp} (F : Fun K x qual st f fd) (S : FnScope N ps (defScope st)) (len : ∀ vs H Q E, sp vs H Q E → vs.length = ps.length)
    (hbody : ∀ (cdv : Value) (A : Around) (outer : List Env) (s : Shared) (H : Hp) (vs : List V) (Q : VK) (E : XK), Room k (A.deeper (envOfC qual (defScope st) s.heap.objs.size f cdv)) → sp vs H Q E →
      ∃ t, PSs (cxOf CX0 P w K mg base N qual (defScope st) f cdv A outer s H E).nox (defBody st) t ∧ t { nx := fun _ H' => Q .non H', rt := Q } (start N vs) H) : FnOk P w K mg base CX0 (k + 1) f fd ps sp := by
  obtain ⟨oc, od, kV, doc, pm, an, cdv, ct, osl, rfl, lk, hcd⟩ := F.ex
  refine fn_of lk hcd S len fun A outer s H vs Q E hr hsp => ?_
  obtain ⟨t, h, q⟩ := hbody cdv A outer s H vs Q E hr hsp
  exact ⟨t, h.nox, q⟩
theorem Fun.binds {x qual : Str} {st : Stmt} {f : Addr} {fd : FuncData} {ps : List Str} (F : Fun K x qual st f fd)
    (h : ∀ (kV doc pm : Value) (an : Option Addr) (cdv ct : Value) (us : List Value), us.length = ps.length → bindArgs (PySem.W.fnOf x qual (defArgs st) (defBody st) (defScope st) .none kV doc pm an cdv ct) ⟨us, []⟩ = pure (ps.zip us)) : Binds K fd ps [] := by
  obtain ⟨oc, od, kV, doc, pm, an, cdv, ct, osl, rfl, lk, hcd⟩ := F.ex
  exact .all (h kV doc pm an cdv ct)
theorem fun_mk {x qual : Str} {st : Stmt} {f : Addr} {oc : Value} {od an : Option Addr} {osl : Array (Option Value)} {kV doc pm cdv ct : Value} (l : K.lookup f = some ⟨oc, od, .func (PySem.W.fnOf x qual (defArgs st) (defBody st) (defScope st) .none kV doc pm an cdv ct), osl⟩)
    (c : PySem.W.codeIn K cdv qual = true) (k : PySem.W.keepIn K (.ref f) = true) : Fun K x qual st f (PySem.W.fnOf x qual (defArgs st) (defBody st) (defScope st) .none kV doc pm an cdv ct) := ⟨⟨oc, od, kV, doc, pm, an, cdv, ct, osl, rfl, l, c⟩, k⟩
end
theorem hu_of {A : Around} {k : Nat} (hr : Room k A) : A.units + 1 < cLine := Nat.lt_of_le_of_lt (Nat.add_le_add_left (by decide : 1 ≤ 64) _) hr.units
theorem small1000 {n : Nat} (h : n ≤ 1000) : n < sizeLine := Nat.lt_of_le_of_lt h (by decide)
section
variable {X : Cx}
theorem pv (i : Nat) {x : Str} {pos : Pos} (hN : X.N[i]? = some x := by rfl) (hv : Vis X.env.scope x := by first | exact Or.inl rfl | exact Or.inr (Or.inl rfl) | exact Or.inr (Or.inr rfl)) (hd : (x == ("__debug__" : Str)) = false := by decide)
    (hcd : (x == ("__classdict__" : Str)) = false := by decide) : PE X (.Name x pos) (tVar i) := pe_var hN hv hd hcd
end
theorem iteF {A B : Prop} (h : B) : if false = true then A else B := by
  rw [if_neg Bool.false_ne_true]
  exact h
theorem iteT {A B : Prop} (h : A) : if true = true then A else B := by
  rw [if_pos rfl]
  exact h
theorem ite2 {c A B : Prop} [Decidable c] (h1 : c → A) (h2 : ¬ c → B) : if c then A else B := by
  by_cases h : c
  · rw [if_pos h]
    exact h1 h
  · rw [if_neg h]
    exact h2 h
noncomputable def Same (H H' : Hp) : Prop := ∀ b o, H b = some o → H' b = some o
theorem Same.refl (H : Hp) : Same H H := fun _ _ h => h
theorem Same.trans {H H1 H2 : Hp} (a : Same H H1) (b : Same H1 H2) : Same H H2 := fun c o h => b c o (a c o h)
theorem Same.free {H H' : Hp} (e : Same H H') {l : Addr} (h : H' l = Option.none) : H l = Option.none := by
  cases q : H l with
  | none => rfl
  | some o =>
    rw [e l o q] at h
    cases h
theorem Same.seq {K : PySem.W.Frag} {H H' : Hp} {a : Addr} {xs : List V} (e : Same H H') (h : SqL K H a xs) : SqL K H' a xs := by
  rcases h with (h | ⟨o, h⟩) | h
  · exact .inl (.inl (e _ _ h))
  · exact .inl (.inr ⟨o, e _ _ h⟩)
  · exact .inr h
end L2
namespace L2
open PySem PySem.Spec PyProof.Rows
section
variable {X : Cx}
end
section
variable {κ : Type} [DecidableEq κ]
end
end L2
set_option Elab.async false
set_option linter.all false
set_option maxRecDepth 100000
set_option maxHeartbeats 4000000
namespace L2
open PySem PySem.Spec PyProof.Rows
noncomputable def cloStep (env : Env) (x : Str × NameKind) (r : List (Str × Addr)) : Sem (ForInStep (List (Str × Addr))) :=
  if (x.2 == NameKind.free) = true then cellOf env x.1 >>= fun a => pure (.yield ((x.1, a) :: r)) else pure (.yield r)
theorem clo_look {y x : Str} {c : Addr} {acc : List (Str × Addr)} : ((y, c) :: acc).lookup x = if x = y then some c else acc.lookup x := by
  rw [List.lookup_cons]
  by_cases e : x = y
  · subst e; simp
  · have : (x == y) = false := by simpa using e
    rw [this, if_neg e]
theorem clo_go (env : Env) : ∀ (names : List (Str × NameKind)) (acc : List (Str × Addr)),
    (∀ y ∈ names, y.2 = .free → ∃ c, env.cells.lookup y.1 = some c) → (∀ x c, acc.lookup x = some c → env.cells.lookup x = some c) →
    ∃ cl, forIn names acc (cloStep env) = pure cl ∧ (∀ x c, cl.lookup x = some c → env.cells.lookup x = some c) ∧
      (∀ x, ((x, NameKind.free) ∈ names ∨ ∃ c, acc.lookup x = some c) → ∃ c, cl.lookup x = some c)
  | [], acc, _, ha => ⟨acc, by rw [List.forIn_nil], ha, fun x h => by
      rcases h with h | h
      · cases h
      · exact h⟩
  | y :: r, acc, hy, ha => by
    by_cases hk : y.2 = .free
    · obtain ⟨c, hc⟩ := hy y List.mem_cons_self hk
      have e : cloStep env y acc = pure (.yield ((y.1, c) :: acc)) := by
        unfold cloStep cellOf
        rw [if_pos (by rw [hk]; rfl), hc]
        exact pure_bind _ _
      have ha' : ∀ x d, ((y.1, c) :: acc).lookup x = some d → env.cells.lookup x = some d := fun x d h => by
        rw [clo_look] at h
        by_cases ex : x = y.1
        · rw [if_pos ex] at h; cases h; rw [ex]; exact hc
        · rw [if_neg ex] at h; exact ha x d h
      obtain ⟨cl, q1, q2, q3⟩ := clo_go env r ((y.1, c) :: acc) (fun z hz => hy z (List.mem_cons_of_mem _ hz)) ha'
      refine ⟨cl, ?_, q2, fun x h => q3 x ?_⟩
      · rw [List.forIn_cons, e, pure_bind]; exact q1
      · rcases h with h | ⟨d, h⟩
        · rcases List.mem_cons.mp h with h | h
          · refine .inr ⟨c, ?_⟩
            rw [clo_look, if_pos (by rw [← h])]
          · exact .inl h
        · refine .inr ?_
          by_cases ex : x = y.1
          · exact ⟨c, by rw [clo_look, if_pos ex]⟩
          · exact ⟨d, by rw [clo_look, if_neg ex]; exact h⟩
    · have e : cloStep env y acc = pure (.yield acc) := by
        unfold cloStep
        rw [if_neg (by simpa using hk)]
      obtain ⟨cl, q1, q2, q3⟩ := clo_go env r acc (fun z hz => hy z (List.mem_cons_of_mem _ hz)) ha
      refine ⟨cl, ?_, q2, fun x h => q3 x ?_⟩
      · rw [List.forIn_cons, e, pure_bind]; exact q1
      · rcases h with h | h
        · rcases List.mem_cons.mp h with h | h
          · exact absurd (by rw [← h]) hk
          · exact .inl h
        · exact .inr h
theorem closureFor_eq (scope : Scope) (env : Env) : closureFor scope env = forIn scope.names [] (cloStep env) := by
  unfold closureFor
  have e : (fun (x : Str × NameKind) (r : List (Str × Addr)) => cloStep env x r) = cloStep env := rfl
  simp only [bind_pure]
  rfl
noncomputable def blkOk (sc : Scope) (N : List Str) (scope : Scope) (caps : List Nat) : Bool :=
  scope.names.all (fun y => decide (scope.names.lookup y.1 = some y.2)) &&
  scope.names.all (fun y => decide (y.2 = .free → (sc.names.lookup y.1 = some .cell ∨ sc.names.lookup y.1 = some .free))) &&
  caps.all (fun j => match N[j]? with
    | some x => decide (scope.names.lookup x = some .free) && decide (sc.names.lookup x = some .cell ∨ sc.names.lookup x = some .free)
    | none => false)
noncomputable def blockSt (n : Nat) (caps : List Nat) (σ : St) : St := List.replicate n none ++ caps.map fun j => (σ[j]?).getD none
noncomputable def cxBlk (X : Cx) (N : List Str) (scope : Scope) (cl : List (Str × Addr)) (s₃ : Shared) (H₃ : Hp) (ch : List Addr) : Cx where
  prog := X.prog
  w := X.w
  K := X.K
  mg := X.mg
  base := X.base
  A := X.A
  N := N
  s₀ := s₃
  H₀ := H₃
  env := compEnvC scope cl s₃.heap.objs.size X.env
  outer := X.stack
  stack := X.stack
  ex := ch
  fn := fun x => match scope.names.lookup x with
    | some .cell => true
    | _ => false
  calm := X.calm
  pn := []
  xe := fun _ _ => False
theorem relabel_free {env : Env} : ∀ {names : List (Str × NameKind)} {x : Str}, names.lookup x = some .free →
    (names.map fun (n, k) => if (k == NameKind.free && env.scope.kind == .function && env.kindOf n == some .cell) then (n, NameKind.cell) else (n, k)).lookup x = some .cell ∨
    (names.map fun (n, k) => if (k == NameKind.free && env.scope.kind == .function && env.kindOf n == some .cell) then (n, NameKind.cell) else (n, k)).lookup x = some .free
  | [], _, h => by simp at h
  | (n, k) :: r, x, h => by
    have ih := @relabel_free env r x
    have two : ∀ l : List (Str × NameKind), List.lookup x ((if (k == NameKind.free && env.scope.kind == .function && env.kindOf n == some .cell) = true then (n, NameKind.cell) else (n, k)) :: l) = some .cell ∨
        List.lookup x ((if (k == NameKind.free && env.scope.kind == .function && env.kindOf n == some .cell) = true then (n, NameKind.cell) else (n, k)) :: l) = some .free ↔
        (if (x == n) = true then (k = .free ∨ k = .cell) else (l.lookup x = some .cell ∨ l.lookup x = some .free)) := by
      intro l
      cases hx : x == n with
      | true =>
        by_cases hc : (k == NameKind.free && env.scope.kind == .function && env.kindOf n == some .cell) = true
        · rw [if_pos hc]
          have hk : k = .free := by
            simp only [Bool.and_eq_true, beq_iff_eq] at hc
            exact hc.1.1
          simp [List.lookup_cons, hx, hk]
        · rw [if_neg hc]
          simp only [List.lookup_cons, hx, if_true, Option.some.injEq]
          exact Or.comm
      | false =>
        by_cases hc : (k == NameKind.free && env.scope.kind == .function && env.kindOf n == some .cell) = true
        · rw [if_pos hc]; simp [List.lookup_cons, hx]
        · rw [if_neg hc]; simp [List.lookup_cons, hx]
    refine (two _).mpr ?_
    cases hx : x == n with
    | true =>
      simp only [List.lookup_cons, hx] at h
      cases h
      simp
    | false =>
      simp only [List.lookup_cons, hx] at h
      simpa using ih h
theorem relabel_from {env : Env} : ∀ {names : List (Str × NameKind)} {x : Str} {k : NameKind}, k = .cell ∨ k = .free →
    (names.map fun (n, k) => if (k == NameKind.free && env.scope.kind == .function && env.kindOf n == some .cell) then (n, NameKind.cell) else (n, k)).lookup x = some k → names.lookup x = some .free ∨ names.lookup x = some .cell
  | [], _, _, _, h => by simp at h
  | (n, k0) :: r, x, k, hk, h => by
    rw [List.map_cons] at h
    dsimp only at h
    by_cases hq : (k0 == NameKind.free && env.scope.kind == .function && env.kindOf n == some .cell) = true
    · rw [if_pos hq] at h
      have h0 : k0 = .free := by
        simp only [Bool.and_eq_true, beq_iff_eq] at hq
        exact hq.1.1
      rw [List.lookup_cons] at h ⊢
      cases hx : x == n with
      | true => exact .inl (by rw [h0])
      | false => rw [hx] at h; exact relabel_from hk h
    · rw [if_neg hq] at h
      rw [List.lookup_cons] at h ⊢
      cases hx : x == n with
      | true =>
        rw [hx] at h
        dsimp only at h ⊢
        rcases hk with rfl | rfl
        · exact .inr h
        · exact .inl h
      | false => rw [hx] at h; exact relabel_from hk h
theorem cells_app : ∀ (names : List (Str × NameKind)) (n : Nat) (acc : List (Str × Addr)), cellsFrom n names acc = cellsFrom n names [] ++ acc
  | [], _, _ => rfl
  | (x, k) :: r, n, acc => by
    unfold cellsFrom
    split
    · rw [cells_app r (n + 1) ((x, n) :: acc), cells_app r (n + 1) [(x, n)], List.append_assoc]; rfl
    · exact cells_app r n acc
theorem cells_kind : ∀ (names : List (Str × NameKind)) (n : Nat) {x : Str} {c : Addr}, (x, c) ∈ cellsFrom n names [] → (x, NameKind.cell) ∈ names
  | [], _, _, _, h => by cases h
  | (y, k) :: r, n, x, c, h => by
    unfold cellsFrom at h
    split at h
    · rename_i hk
      rw [cells_app] at h
      rcases List.mem_append.mp h with h | h
      · exact List.mem_cons_of_mem _ (cells_kind r _ h)
      · rcases List.mem_singleton.mp h with h
        cases h
        rw [← eq_of_beq hk]; exact List.mem_cons_self
    · exact List.mem_cons_of_mem _ (cells_kind r _ h)
theorem newEnv_blk {M : Model} {A : Around} {E : Value → Shared → Prop} {s : Shared} {scope : Scope} {globals : Addr} {closure : List (Str × Addr)} {qual : Str} {func : Option Addr} {code : Value} {outer : Env} {builtins : Addr} {Q : Env → Shared → Prop}
    (hQ : ∀ h', h'.Ns s.heap.objs.size (fun _ => none) → (∀ b o, s.heap.get? b = some o → h'.get? b = some o) → CellsOk h' (s.heap.objs.size + 1) (cellsFrom (s.heap.objs.size + 1) scope.names []) →
      Q (newEnv scope s.heap.objs.size globals (cellsFrom (s.heap.objs.size + 1) scope.names closure) qual func code (some outer) builtins) { s with heap := h' }) :
    wpAny M A (newFunctionEnv scope globals closure [] qual func code (some outer) builtins) Q E s := by
  unfold newFunctionEnv
  simp only [Option.isSome_some, if_true]
  refine wpAny_bind (wpAny_alloc (wpAny_bind (wpAny_layCells _ (fun x k cs => ?_) _ _ _ _ ?_)))
  · cases h : k == NameKind.cell
    · simp [h]
    · simp [h]
  · have e1 : ∀ o : Obj, (s.heap.push o).objs.size = s.heap.objs.size + 1 := fun o => Heap.size_push ..
    dsimp only
    rw [e1, List.forIn_nil]
    refine wpAny_bind (wpAny_pure (wpAny_pure (hQ _ ((Heap.Ns.new s.heap (.type "dict")).keeps (pushCells_keeps _ _)) (fun b o e => pushCells_keeps _ _ b o (Heap.get?_push_of_some _ e)) ?_)))
    have q := cellsFrom_ok scope.names (s.heap.push { cls := .type "dict", data := .dict #[] }) (s.heap.objs.size + 1) [] ⟨fun _ _ z => (nomatch z), .nil⟩ (Nat.le_of_eq (e1 _).symm)
    rw [e1] at q
    exact q
section
variable {X : Cx} {pins : List (Addr × Obj)} {σ : St} {H₃ : Hp} {s₃ : Shared} {N own : List Str} {caps : List Nat} {scope : Scope} {cl : List (Str × Addr)} {ch : List Addr}
structure BlkOk (sc : Scope) (N : List Str) (scope : Scope) (caps : List Nat) : Prop where
  one : ∀ y ∈ scope.names, scope.names.lookup y.1 = some y.2
  free : ∀ y ∈ scope.names, y.2 = .free → (sc.names.lookup y.1 = some .cell ∨ sc.names.lookup y.1 = some .free)
  cap : ∀ j ∈ caps, ∃ x, N[j]? = some x ∧ scope.names.lookup x = some .free ∧ (sc.names.lookup x = some .cell ∨ sc.names.lookup x = some .free)
theorem BlkOk.loc {sc : Scope} {N : List Str} (ok : BlkOk sc N scope caps) : ∀ y ∈ scope.names, y.2 = .local → scope.names.lookup y.1 = some .local := fun y hy e => e ▸ ok.one y hy
theorem blkOk_iff {sc : Scope} {N : List Str} (h : blkOk sc N scope caps = true) : BlkOk sc N scope caps := by
  unfold blkOk at h
  simp only [Bool.and_eq_true, List.all_eq_true, decide_eq_true_eq] at h
  obtain ⟨⟨h1, h3⟩, h4⟩ := h
  refine ⟨h1, h3, fun j hj => ?_⟩
  have q := h4 j hj
  cases e : N[j]? with
  | none => rw [e] at q; cases q
  | some x =>
    rw [e] at q
    simp only [Bool.and_eq_true, decide_eq_true_eq] at q
    exact ⟨x, rfl, q⟩
structure BlkCl (X : Cx) (scope : Scope) (cl : List (Str × Addr)) (n : Nat) (h1 : Heap) : Prop where
  src : ∀ x c, cl.lookup x = some c → (X.env.cells.lookup x = some c ∧ scope.names.lookup x ≠ some .cell) ∨ (scope.names.lookup x = some .cell ∧ n < c ∧ h1.IsCell c none)
  inj : ∀ x y c, cl.lookup x = some c → cl.lookup y = some c → x = y
  has : ∀ x, scope.names.lookup x = some .free ∨ scope.names.lookup x = some .cell → ∃ c, cl.lookup x = some c
theorem blkCl_of {sc : Scope} {M : List Str} {cl0 : List (Str × Addr)} {h1 : Heap} (ok : BlkOk sc M scope caps) (I3 : Inv X pins σ H₃ s₃) (hcl1 : ∀ x c, cl0.lookup x = some c → X.env.cells.lookup x = some c) (hcl2 : ∀ x, (x, NameKind.free) ∈ scope.names → ∃ c, cl0.lookup x = some c)
    (hc : CellsOk h1 (s₃.heap.objs.size + 1) (cellsFrom (s₃.heap.objs.size + 1) scope.names [])) : BlkCl X scope (cellsFrom (s₃.heap.objs.size + 1) scope.names cl0) s₃.heap.objs.size h1 := by
  have two : ∀ x c, (cellsFrom (s₃.heap.objs.size + 1) scope.names cl0).lookup x = some c → (X.env.cells.lookup x = some c ∧ scope.names.lookup x ≠ some .cell) ∨ ((x, c) ∈ cellsFrom (s₃.heap.objs.size + 1) scope.names [] ∧ scope.names.lookup x = some .cell) := fun x c e => by
    rw [cells_app, List.lookup_append] at e
    cases q : (cellsFrom (s₃.heap.objs.size + 1) scope.names []).lookup x with
    | some d =>
      rw [q] at e
      cases e
      have m := PySem.mem_of_lookup q
      exact .inr ⟨m, ok.one _ (cells_kind _ _ m)⟩
    | none =>
      rw [q] at e
      refine .inl ⟨hcl1 x c e, fun z => ?_⟩
      obtain ⟨d, hd⟩ := cell_has (n := s₃.heap.objs.size + 1) z
      rw [q] at hd; cases hd
  have low : ∀ x c, X.env.cells.lookup x = some c → c < s₃.heap.objs.size := fun x c e => by
    obtain ⟨v, o, ho, _⟩ := I3.cell x c e
    exact Heap.lt_size ho
  refine ⟨fun x c e => ?_, fun x y c e1 e2 => ?_, fun x hx => ?_⟩
  · rcases two x c e with h | ⟨m, k⟩
    · exact .inl h
    · exact .inr ⟨k, (hc.empty x c m).2, (hc.empty x c m).1⟩
  · rcases two x c e1 with ⟨h, _⟩ | ⟨m, _⟩ <;> rcases two y c e2 with ⟨h', _⟩ | ⟨m', _⟩
    · exact I3.ok.inj x y c h h'
    · exact absurd (Nat.lt_of_lt_of_le (low x c h) (Nat.le_of_succ_le (hc.empty y c m').2)) (Nat.lt_irrefl _)
    · exact absurd (Nat.lt_of_lt_of_le (low y c h') (Nat.le_of_succ_le (hc.empty x c m).2)) (Nat.lt_irrefl _)
    · exact name_of_addr hc.apart m m'
  · rw [cells_app, List.lookup_append]
    cases q : (cellsFrom (s₃.heap.objs.size + 1) scope.names []).lookup x with
    | some d => exact ⟨d, rfl⟩
    | none =>
      rcases hx with hx | hx
      · obtain ⟨c, hc⟩ := hcl2 x (PySem.mem_of_lookup hx)
        exact ⟨c, hc⟩
      · obtain ⟨d, hd⟩ := cell_has (n := s₃.heap.objs.size + 1) hx
        rw [q] at hd; cases hd
theorem blk_start {h1 : Heap} {m : Str → Option Value} {t1 : Nat} (I3 : Inv X pins σ H₃ s₃) (hf : ∀ b ∈ ch, FpOk X pins H₃ b) (hch : ∀ b ∈ ch, b < s₃.heap.objs.size)
    (hN : N = own ++ caps.map fun j => (X.N[j]?).getD (Str.ofString "")) (ok : BlkOk X.env.scope X.N scope caps) (hkind : scope.kind = .function)
    (hcl : BlkCl X scope cl s₃.heap.objs.size h1)
    (hns : h1.Ns s₃.heap.objs.size m) (keep : ∀ b o, s₃.heap.get? b = some o → h1.get? b = some o) :
    Inv (cxBlk X N scope cl s₃ H₃ ch) [] (blockSt own.length caps σ) H₃ { s₃ with heap := h1, toks := t1 } := by
  refine ⟨⟨I3.ok.mod, hkind, I3.ok.glob, I3.ok.blt, Nat.le_refl _, hcl.inj, fun x hx => ?_, fun x c e el => ?_, I3.ok.hd, I3.ok.frames, .inl rfl,
      fun b hb => ⟨Nat.ne_of_lt (hch b hb), fun x c e => ?_⟩, I3.bs, Nat.le_trans I3.ok.bsz I3.sz, fun b o e hb => ?_, fun b hb hz => ?_, I3.stack, I3.stkFree⟩,
    rfl, I3.bare, Un.kept keep, ⟨m, hns, fun i x v e1 e2 e3 => ?_⟩, fun x c e => ?_, I3.fresh, fun x c e => ?_, fun p hp => absurd (show p ∈ ([] : List (Addr × Obj)) from hp) (by simp), I3.hok.kept keep, ?_⟩
  · refine hcl.has x ?_
    rcases hx with hx | hx
    · exact relabel_from (.inl rfl) hx
    · exact relabel_from (.inr rfl) hx
  · rcases hcl.src x c el with ⟨_, z⟩ | ⟨_, z, _⟩
    · have e : (match scope.names.lookup x with
        | some .cell => true
        | _ => false) = true := e
      split at e
      · rename_i q; exact absurd q z
      · cases e
    · exact Nat.le_of_lt z
  · rcases hcl.src x c e with ⟨z, _⟩ | ⟨_, z, _⟩
    · exact (hf b hb).2.2.2.2.1 x c z
    · exact Nat.ne_of_gt (Nat.lt_trans (hch b hb) z)
  · rcases (hf b hb).2.2.2.1 with z | z
    · exact I3.ok.noex b o e z
    · exact absurd (Nat.lt_of_lt_of_le (show b < X.base.objs.size from Heap.lt_size e) I3.ok.bsz) (Nat.not_lt.mpr z)
  · rcases List.mem_cons.mp (I3.stkSub b hz) with z | z
    · exact (hf b hb).2.1 z
    · exact (hf b hb).2.2.1 z
  · have hi : own.length ≤ i := by
      rcases Nat.lt_or_ge i own.length with z | z
      · unfold blockSt at e2
        rw [List.getElem?_append_left (by simpa using z), List.getElem?_replicate, if_pos z] at e2
        cases e2
      · exact z
    have e2' : (caps.map fun j => (σ[j]?).getD none)[i - own.length]? = some (some v) := by
      unfold blockSt at e2
      rwa [List.getElem?_append_right (by simpa using hi), List.length_replicate] at e2
    have e1' : (caps.map fun j => (X.N[j]?).getD (Str.ofString ""))[i - own.length]? = some x := by
      have e1 : N[i]? = some x := e1
      rw [hN, List.getElem?_append_right hi] at e1
      exact e1
    rw [List.getElem?_map] at e1' e2'
    cases ej : caps[i - own.length]? with
    | none => rw [ej] at e2'; cases e2'
    | some j =>
      rw [ej] at e1' e2'
      have e1'' : (X.N[j]?).getD (Str.ofString "") = x := Option.some.inj e1'
      have e2'' : (σ[j]?).getD none = some v := Option.some.inj e2'
      obtain ⟨x', hx', hl, hsc⟩ := ok.cap j (List.mem_of_getElem? ej)
      rw [hx'] at e1''
      have ex : x' = x := e1''
      subst ex
      have hσ : σ[j]? = some (some v) := by
        cases q : σ[j]? with
        | none => rw [q] at e2''; cases e2''
        | some o => rw [q] at e2''; rw [show o = some v from e2'']
      obtain ⟨m3, hn3, hl3⟩ := I3.loc
      obtain ⟨u, r, lk⟩ := hl3 j x' v hx' hσ (.inr hsc)
      refine ⟨u, r, .inr ⟨relabel_free hl, ?_⟩⟩
      rcases lk with ⟨hk, _⟩ | ⟨_, c, hc, z⟩
      · have hk : X.env.scope.names.lookup x' = some .local := hk
        rcases hsc with q | q <;> rw [hk] at q <;> cases q
      · obtain ⟨c', hc'⟩ := hcl.has x' (.inl hl)
        have q : X.env.cells.lookup x' = some c' := by
          rcases hcl.src x' c' hc' with ⟨z, _⟩ | ⟨z, _⟩
          · exact z
          · rw [hl] at z; cases z
        rw [hc] at q
        cases q
        obtain ⟨o, ho, hd⟩ := z
        exact ⟨c, hc', o, keep c o ho, hd⟩
  · rcases hcl.src x c e with ⟨z, _⟩ | ⟨_, _, z⟩
    · obtain ⟨v, o, ho, hd⟩ := I3.cell x c z
      exact ⟨v, o, keep c o ho, hd⟩
    · exact ⟨none, z⟩
  · rcases hcl.src x c e with ⟨z, _⟩ | ⟨_, z, _⟩
    · exact I3.freeC x c z
    · exact I3.hok.fresh (Nat.le_of_lt z)
  · show (blockSt own.length caps σ).length = N.length
    rw [hN]
    simp [blockSt]
end
noncomputable def PIfs (X : Cx) (ifs : List Expr) (t : TT) : Prop :=
  ∀ (pins : List (Addr × Obj)) (s : Shared) (σ : St) (H : Hp) (Q : Bool → Hp → Prop), Inv X pins σ H s → t σ H Q →
    wpAny (model X.prog X.w) X.A (forIn ifs true fun c r => if r = true then do let ok ← isTrue c X.env (eval c X.env); pure (ForInStep.yield ok) else pure (ForInStep.yield r)) (TP X pins σ Q) X.xe s
noncomputable def tYes : TT := fun _ H Q => Q true H
theorem pifs_nil {X : Cx} : PIfs X [] tYes := fun _ _ _ H _ I h => wpAny_tests_nil ⟨H, I, h⟩
theorem compLoop_gen {prog : Program} {w : World} {A : Around} {R : Result → Shared → Prop} {s : Shared} {elt target iter : Expr} {ifs : List Expr} {scope : Scope} {pos : Pos} {it acc : Value} {env : Env} (I : Nat → Shared → Prop)
    (turn : ∀ n s, I n s → wpAny (model prog w) A (pyNext it) (fun r s₁ => match r with
      | none => R (.ok .next) s₁
      | some v => wpAny (model prog w) A (letOwnedTupleGo target it v) (fun _ s₁' => wpAny (model prog w) A (assign target env v) (fun _ s₂ =>
          wpAny (model prog w) A (forIn ifs true fun c r => if r = true then do let ok ← isTrue c env (eval c env); pure (ForInStep.yield ok) else pure (ForInStep.yield r)) (fun ok s₃ =>
            if ok = true then wpAny (model prog w) A (eval elt env) (fun x s₄ =>
              wpAny (model prog w) A (call (.builtin "list.append") [acc, x]) (fun _ s₅ => ∃ m, m < n ∧ I m s₅) (fun _ _ => False) s₄) (fun _ _ => False) s₃
            else ∃ m, m < n ∧ I m s₃) (fun _ _ => False) s₂) (fun _ _ => False) s₁') (fun _ _ => False) s₁) (fun _ _ => False) s)
    (n : Nat) (h : I n s) :
    codeAny (model prog w) A (.compLoop (.ListComp elt [⟨target, iter, ifs, 0⟩] scope pos) 0 it acc env) R s := by
  refine codeAny_loop rfl I (fun n s hI => ?_) n h
  show wpAny _ A ((compTurn (.ListComp elt [⟨target, iter, ifs, 0⟩] scope pos) 0 it acc env).onRaise (fun x => do noteFrame x env; theTreesLotGoes x)) _ _ s
  refine wpAny_noted ?_
  rw [compTurn_list]
  refine wpAny_bind (wpAny_standAt (wpAny_bind (wpAny_mono (turn n s hI) (fun r s₁ h₁ => ?_) fun _ _ h' => h'.elim)))
  cases r with
  | none => exact wpAny_pure h₁
  | some v =>
    refine wpAny_bind (wpAny_mono h₁ (fun _ s₁' h₁' => ?_) fun _ _ h' => h'.elim)
    refine wpAny_bind (wpAny_mono h₁' (fun _ s₂ h₂ => wpAny_bind (wpAny_mono h₂ (fun ok s₃ h₃ => ?_) fun _ _ h' => h'.elim)) fun _ _ h' => h'.elim)
    cases ok with
    | false => exact wpAny_pure ⟨rfl, h₃⟩
    | true =>
      exact wpAny_bind (wpAny_bind (wpAny_mono h₃ (fun x s₄ h₄ => wpAny_bind (wpAny_mono h₄ (fun _ s₅ h₅ => wpAny_pure (wpAny_pure ⟨rfl, h₅⟩)) fun _ _ h' => h'.elim)) fun _ _ h' => h'.elim))
noncomputable def CompGo (acc : Addr) (Q : VK) (g : TG) (tc : TT) (te : TE) (J : It) (σ : St) (H : Hp) : Prop :=
  ∃ W : Nat → Nat → St → Hp → Prop, (∃ m, W 0 m σ H) ∧ ∀ i m σ' H', W i m σ' H' →
    (J.stop i H' ∧ Q (.ref acc) H') ∨ (J.go i H' ∧ ∃ N : St → Hp → Prop, (∀ σ'' H'', N σ'' H'' → ∃ m', m' < m ∧ W (i + 1) m' σ'' H'') ∧ ∀ x H2, J.yld i H' x H2 → g x σ' H2 fun σ3 H3 => tc σ3 H3 fun b H4 =>
      if b = true then te σ3 H4 fun v H5 => ∃ ys, H5 acc = some (.lst ys) ∧ ys.length < sizeLine ∧ N σ3 (upd H5 acc (.lst (ys ++ [v])))
      else N σ3 H4)
noncomputable def tComp (n : Nat) (caps : List Nat) (wi : TI) (g : TG) (tc : TT) (te : TE) : TE := fun σ H Q => wi σ H fun J H1 => ∀ acc, H1 acc = none → CompGo acc Q g tc te J (blockSt n caps σ) (upd H1 acc (.lst []))
theorem comp_run {X : Cx} {pins : List (Addr × Obj)} {σ : St} {Q : VK} {tg elt iter : Expr} {ifs : List Expr} {scope : Scope} {pos : Pos} {N own : List Str} {caps : List Nat} {g : TG} {tc : TT} {te : TE} {cl : List (Str × Addr)} {it acc : Addr} {fp : List Addr} {tn : Nat → Heap → Prop} {J : It}
    {s3 : Shared} {H3 : Hp} {h1 : Heap} {m : Str → Option Value} {t1 m0 : Nat} {W : Nat → Nat → St → Hp → Prop} (hc : X.calm = true)
    (hN : N = own ++ caps.map fun j => (X.N[j]?).getD (Str.ofString "")) (ok : BlkOk X.env.scope X.N scope caps) (hkind : scope.kind = .function)
    (hcl : BlkCl X scope cl s3.heap.objs.size h1)
    (hg : PG (cxBlk X N scope cl s3 H3 fp) tg g) (hifs : PIfs (cxBlk X N scope cl s3 H3 fp) ifs tc) (he : PE (cxBlk X N scope cl s3 H3 fp) elt te)
    (I3 : Inv X pins σ H3 s3) (f3 : ∀ b ∈ fp, FpOk X pins H3 b) (flt : ∀ b ∈ fp, b < s3.heap.objs.size) (T : Turn X.prog X.w X.K tg J fp it tn) (st3 : tn 0 s3.heap)
    (hns : h1.Ns s3.heap.objs.size m) (keep : ∀ b o, s3.heap.get? b = some o → h1.get? b = some o) (w0 : W 0 m0 (blockSt own.length caps σ) H3)
    (turn : ∀ i m σ' H', W i m σ' H' →
      (J.stop i H' ∧ Q (.ref acc) H') ∨ (J.go i H' ∧ ∃ N : St → Hp → Prop, (∀ σ'' H'', N σ'' H'' → ∃ m', m' < m ∧ W (i + 1) m' σ'' H'') ∧ ∀ x H2, J.yld i H' x H2 → g x σ' H2 fun σ3 H3 => tc σ3 H3 fun b H4 =>
        if b = true then te σ3 H4 fun v H5 => ∃ ys, H5 acc = some (.lst ys) ∧ ys.length < sizeLine ∧ N σ3 (upd H5 acc (.lst (ys ++ [v])))
        else N σ3 H4)) :
    codeAny (model X.prog X.w) X.A (.compStart (.ListComp elt [⟨tg, iter, ifs, 0⟩] scope pos) 0 (.ref it) (.ref acc) (compEnvC scope cl s3.heap.objs.size X.env))
      (compPost (model X.prog X.w) X.A X.xe none (EP X pins σ Q) (.ref acc) s3.heap.objs.size) { s3 with heap := h1, toks := t1 } := by
  have IB := blk_start (t1 := t1) (own := own) I3 f3 flt hN ok hkind hcl hns keep
  have stat : ∀ {H' : Hp}, (∀ b ∈ fp, H' b = none) → ∀ b ∈ fp, FpOk (cxBlk X N scope cl s3 H3 fp) [] H' b := fun {H'} hn b hb =>
    ⟨hn b hb, (IB.ok.exf b hb).1, IB.ok.exfs b hb, .inl hb, (IB.ok.exf b hb).2, fun p hp => absurd (show p ∈ ([] : List (Addr × Obj)) from hp) (by simp)⟩
  have st4 : tn 0 h1 := T.keep _ _ _ st3 fun b _ o e => keep b o e
  have loop : codeAny (model X.prog X.w) X.A (.compLoop (.ListComp elt [⟨tg, iter, ifs, 0⟩] scope pos) 0 (.ref it) (.ref acc) (compEnvC scope cl s3.heap.objs.size X.env))
      (compPost (model X.prog X.w) X.A X.xe none (EP X pins σ Q) (.ref acc) s3.heap.objs.size) { s3 with heap := h1, toks := t1 } := by
    refine compLoop_gen (fun n s' => ∃ i σ' H', Inv (cxBlk X N scope cl s3 H3 fp) [] σ' H' s' ∧ tn i s'.heap ∧ (∀ b ∈ fp, H' b = none) ∧ W i n σ' H') ?_ m0 ⟨0, _, H3, IB, st4, fun b hb => (f3 b hb).1, w0⟩
    rintro n s5 ⟨i, σ5, H5, I5, st5, fr5, w5⟩
    rcases turn i n σ5 H5 w5 with ⟨stop, qn⟩ | ⟨go, Nx, hNx, step⟩
    · refine thn (T.done (cxBlk X N scope cl s3 H3 fp) rfl rfl rfl hc i [] s5 σ5 H5 _ I5 (stat fr5) st5 stop) fun r s6 ⟨hr, I6⟩ => ?_
      subst hr
      obtain ⟨m6, hn6, _⟩ := I6.loc
      refine ⟨m6, hn6, fun h' hs' => ?_⟩
      have IX : Inv X pins σ H5 s6 := I3.call' (ch := fp) I6.os I6.base I6.hok I6.bare fun b hb => ⟨(f3 b hb).2.2.2.1, (f3 b hb).2.1, (f3 b hb).2.2.2.2.1, (f3 b hb).2.2.2.2.2⟩
      refine ⟨.ref acc, H5, IX.turned (t' := s6.toks) (it := s3.heap.objs.size) (fun b o hb e => (hs'.2 b hb).trans e) I6.free (Nat.ne_of_gt I3.lt) (.inr I3.sz) (fun x c e => ?_) (fun p hp => ?_), rfl, qn⟩
      · obtain ⟨v, o, ho, _⟩ := I3.cell x c e
        exact Nat.ne_of_lt (Heap.lt_size ho)
      · exact Nat.ne_of_lt (Heap.lt_size (I3.pin p hp).1)
    · refine thn (T.item (cxBlk X N scope cl s3 H3 fp) rfl rfl rfl hc i [] s5 σ5 H5 _ I5 (stat fr5) st5 go) fun r s6 ⟨u, hr, h6⟩ => ?_
      subst hr
      refine thn h6 fun _ s7 ⟨x, H7, I7, r7, y7, st7, fr7⟩ => ?_
      have I7' := I7.pinned (stat fr7) (T.obj _ _ st7)
      refine thn (hg _ s7 σ5 H7 x u _ I7' r7 (step x H7 y7)) fun _ s8 ⟨σ8, H8, I8, q8⟩ => ?_
      have again : ∀ {s9 : Shared} {H9 : Hp}, Inv (cxBlk X N scope cl s3 H3 fp) ([] ++ pinsAt fp s7.heap) σ8 H9 s9 → Nx σ8 H9 →
          ∃ m, m < n ∧ ∃ i σ' H', Inv (cxBlk X N scope cl s3 H3 fp) [] σ' H' s9 ∧ tn i s9.heap ∧ (∀ b ∈ fp, H' b = none) ∧ W i m σ' H' := fun {s9 H9} I9 n9 => by
        obtain ⟨m', hm, w9⟩ := hNx σ8 H9 n9
        refine ⟨m', hm, i + 1, σ8, H9, I9.unpinned, T.keep _ _ _ st7 fun b hb o e => (I9.pin (b, o) (List.mem_append_right _ (List.mem_append_right _ (mem_pinsAt hb e)))).1, fun b hb => ?_, w9⟩
        obtain ⟨o, e, d⟩ := T.obj _ _ st7 b hb
        exact (I9.pin (b, o) (List.mem_append_right _ (List.mem_append_right _ (mem_pinsAt hb e)))).2.1
      refine thn (hifs _ s8 σ8 H8 _ I8 q8) fun b s9 ⟨H9, I9, q9⟩ => ?_
      cases b with
      | false =>
        rw [if_neg (by decide)] at q9 ⊢
        exact again I9 q9
      | true =>
        rw [if_pos rfl] at q9 ⊢
        refine thn (he _ s9 σ8 H9 _ I9 q9) fun xv s10 ⟨v, H10, I10, r10, ys, ey, hz, n10⟩ => ?_
        refine thn (mt_append (X := cxBlk X N scope cl s3 H3 fp) _ s10 σ8 H10 (.ref acc) [v] (.ref acc) [xv] (fun _ H' => H' = upd H10 acc (.lst (ys ++ [v]))) I10 rfl (.cons r10 .nil) ⟨acc, ys, v, rfl, rfl, ey, hz, rfl⟩) fun _ s11 ⟨_, H11, I11, _, e11⟩ => ?_
        subst e11
        exact again I11 n10
  exact codeAny_compStart_list loop (T.self _ _ _ _ _ st4 loop)
theorem pe_comp {X : Cx} {tg elt iter : Expr} {ifs : List Expr} {scope : Scope} {pos : Pos} {N : List Str} {wi : TI} {g : TG} {tc : TT} {te : TE} (own : List Str) (caps : List Nat) (hc : X.calm = true)
    (hN : N = own ++ caps.map fun j => (X.N[j]?).getD (Str.ofString "")) (hok : blkOk X.env.scope X.N scope caps = true) (hkind : scope.kind = .function)
    (hi : PI X tg iter wi) (hg : ∀ cl s₃ H₃ ch, PG (cxBlk X N scope cl s₃ H₃ ch) tg g) (hifs : ∀ cl s₃ H₃ ch, PIfs (cxBlk X N scope cl s₃ H₃ ch) ifs tc) (he : ∀ cl s₃ H₃ ch, PE (cxBlk X N scope cl s₃ H₃ ch) elt te)
    (hs : ∀ x, foldedSetIterable iter X.env x = pure x := by intro _; rfl) : PE X (.ListComp elt [⟨tg, iter, ifs, 0⟩] scope pos) (tComp own.length caps wi g tc te) := by
  intro pins s σ H Q I h
  have ok := blkOk_iff hok
  obtain ⟨cl, hclo, hcl1, hcl2'⟩ := clo_go X.env scope.names [] (fun y hy hk => I.ok.has y.1 (ok.free y hy hk)) (fun x c e => by simp at e)
  have hcl2 : ∀ x, (x, NameKind.free) ∈ scope.names → ∃ c, cl.lookup x = some c := fun x hx => hcl2' x (.inl hx)
  rw [← closureFor_eq] at hclo
  rw [eval_ListComp]
  refine wpAny_comprehension_free (use := none) rfl hs hclo hkind ok.loc (thn (hi pins s σ H _ I h) fun v s1 h1 => thn h1 fun itv s2 h2 => ?_)
  obtain ⟨it, fp, tn, J, H2, e, I2, T, st2, f2, R⟩ := h2
  subst e
  obtain ⟨W, ⟨m0, w0⟩, turn⟩ := R s2.heap.objs.size I2.fresh
  have flt : ∀ b ∈ fp, b < s2.heap.objs.size := fun b hb => let ⟨o, ho, _⟩ := T.obj 0 _ st2 b hb; Heap.lt_size ho
  have I3 : Inv X pins σ (upd H2 s2.heap.objs.size (.lst [])) { s2 with heap := s2.heap.push { cls := .type "list", dict := none, data := .seq ([] : List Value).toArray } } := I2.lnew (t' := s2.toks) (its := []) .nil (Nat.zero_le _)
  have f3 : ∀ b ∈ fp, FpOk X pins (upd H2 s2.heap.objs.size (.lst [])) b := fun b hb => ⟨by rw [upd_ne (Nat.ne_of_lt (flt b hb))]; exact (f2 b hb).1, (f2 b hb).2⟩
  refine wpAny_newObj_type (newEnv_blk fun h₁ hns₁ keep₁ cok => ?_)
  have flt3 : ∀ b ∈ fp, b < (s2.heap.push { cls := .type "list", dict := none, data := .seq ([] : List Value).toArray }).objs.size := fun b hb => by
    rw [Heap.size_push]
    exact Nat.lt_succ_of_lt (flt b hb)
  exact comp_run (own := own) hc hN ok hkind (blkCl_of ok I3 hcl1 hcl2 cok) (hg _ _ _ _) (hifs _ _ _ _) (he _ _ _ _) I3 f3 flt3 T (T.keep _ _ _ st2 fun b _ o e => Heap.get?_push_of_some _ e) hns₁ keep₁ w0 turn
theorem comp_turns {acc : Addr} {Q : VK} {g : TG} {tc : TT} {te : TE} {σ : St} {H : Hp} {J : It} {n : Nat} (Pv : Nat → St → Hp → Prop) (h0 : Pv 0 σ H) (hd : ∀ σ H, Pv n σ H → J.stop n H ∧ Q (.ref acc) H)
    (hgo : ∀ i σ H, i < n → Pv i σ H → J.go i H ∧ ∀ x H2, J.yld i H x H2 → g x σ H2 fun σ3 H3 => tc σ3 H3 fun b H4 =>
      if b = true then te σ3 H4 fun v H5 => ∃ ys, H5 acc = some (.lst ys) ∧ ys.length < sizeLine ∧ Pv (i + 1) σ3 (upd H5 acc (.lst (ys ++ [v]))) else Pv (i + 1) σ3 H4) :
    CompGo acc Q g tc te J σ H := by
  refine ⟨fun i m σ H => m = n - i ∧ i ≤ n ∧ Pv i σ H, ⟨n, by simp, Nat.zero_le _, h0⟩, ?_⟩
  rintro i m σ H ⟨rfl, hi, p⟩
  by_cases hlt : i < n
  · obtain ⟨q1, q2⟩ := hgo i σ H hlt p
    exact .inr ⟨q1, Pv (i + 1), fun σ' H' p' => ⟨n - (i + 1), by lia, rfl, hlt, p'⟩, q2⟩
  · have e : i = n := by lia
    subst e
    exact .inl (hd σ H p)
theorem itl_go {K : PySem.W.Frag} {a : Addr} {xs : List V} {i : Nat} {H : Hp} (q : SqL K H a xs) (hi : i < xs.length) : (Itl K a).go i H := ⟨xs, xs[i], q, by simp [hi]⟩
theorem itl_yld {K : PySem.W.Frag} {a : Addr} {xs : List V} {i : Nat} {H H' : Hp} {x : V} (q : SqL K H a xs) (y : (Itl K a).yld i H x H') : H' = H ∧ xs[i]? = some x := ⟨y.1, y.2 xs q⟩
theorem itl_stop {K : PySem.W.Frag} {a : Addr} {xs : List V} {H : Hp} (q : SqL K H a xs) : (Itl K a).stop xs.length H := ⟨xs, q, Nat.le_refl _⟩
theorem itt_go {K : PySem.W.Frag} {a : Addr} {xs : List V} {i : Nat} {H : Hp} (q : SqT K H a xs) (hi : i < xs.length) : (Itt K a).go i H := ⟨xs, xs[i], q, by simp [hi]⟩
theorem itt_yld {K : PySem.W.Frag} {a : Addr} {xs : List V} {i : Nat} {H H' : Hp} {x : V} (q : SqT K H a xs) (y : (Itt K a).yld i H x H') : H' = H ∧ xs[i]? = some x := ⟨y.1, y.2 xs q⟩
theorem itt_stop {K : PySem.W.Frag} {a : Addr} {xs : List V} {H : Hp} (q : SqT K H a xs) : (Itt K a).stop xs.length H := ⟨xs, q, Nat.le_refl _⟩
end L2
set_option Elab.async false
set_option linter.all false
set_option maxRecDepth 100000
set_option maxHeartbeats 4000000
namespace L2
open PySem PySem.Spec PyProof.Rows
structure TopD (K : PySem.W.Frag) (w : World) (a : Addr) (D : List (Str × V)) : Prop where
  ex : ∃ es n, K.lookup a = some ⟨.type "dict", none, .dict es n, #[]⟩ ∧ PySem.W.KeysLit w.params es.toList ∧ ∀ p ∈ D, ∃ u, PySem.W.nsIn K a p.1 = some (some u) ∧ RelV p.2 u
section
variable {X : Cx}
noncomputable def rIxTop (K : PySem.W.Frag) (w : World) : R2 := fun x y H Q => ∃ a D k v, x = .ref a ∧ y = .str k ∧ TopD K w a D ∧ (k, v) ∈ D ∧ Q v H
theorem ix_top : IxR X (rIxTop X.K X.w) := by
  intro value slice pins s σ H x y v u Q I rx ry h hs
  obtain ⟨a, D, k, z, rfl, rfl, ⟨es, n, hl, hk, hD⟩, hm, q⟩ := h
  cases rx
  obtain ⟨t, rfl⟩ := ry
  obtain ⟨z', e, r⟩ := hD _ hm
  obtain ⟨m, F⟩ := I.fr
  exact PySem.W.topItem_K F I.mod.kin hl hk e ⟨z, H, I.tok _, r, q⟩ hs
theorem readsAll_ints {h : Heap} : ∀ {ns : List Int} {us : List Value}, Vals (ns.map V.int) us → ReadsAll h us (ns.map PyData.int) []
  | [], _, r => by rw [List.map_nil] at r; cases r; exact .nil
  | n :: ns, _, r => by
    rw [List.map_cons] at r
    cases r with
    | cons r1 r2 =>
      obtain ⟨t, rfl⟩ := r1
      exact ReadsAll.cons (Reads.int n t) (readsAll_ints r2)
theorem Inv.readsT {pins : List (Addr × Obj)} {σ : St} {H : Hp} {s : Shared} {a : Addr} {ns : List Int} (I : Inv X pins σ H s) (h : SqT X.K H a (ns.map V.int)) : Reads s.heap (.ref a) (.tuple (ns.map PyData.int)) [] := by
  obtain ⟨its, r, ⟨o, ho, hc, n, hd⟩, _⟩ := I.tuple h
  exact reads_tuple_at ho hc hd (by simpa using readsAll_ints r)
noncomputable abbrev TupsI (K : PySem.W.Frag) (H : Hp) : List Addr → List (List Int) → Prop := Paired fun a ns => SqT K H a (ns.map V.int)
noncomputable def dTs (nss : List (List Int)) : List PyData := nss.map fun ns => PyData.tuple (ns.map PyData.int)
theorem readsAll_tups {pins : List (Addr × Obj)} {σ : St} {H : Hp} {s : Shared} (I : Inv X pins σ H s) : ∀ {as : List Addr} {nss : List (List Int)} {us : List Value}, TupsI X.K H as nss → Vals (as.map V.ref) us → ReadsAll s.heap us (dTs nss) []
  | [], _, _, t, r => by cases t; rw [List.map_nil] at r; cases r; exact .nil
  | a :: as, _, _, t, r => by
    rw [List.map_cons] at r
    cases t with
    | cons t1 t2 =>
      cases r with
      | cons r1 r2 =>
        cases r1
        exact ReadsAll.cons (I.readsT t1) (readsAll_tups I t2 r2)
theorem Inv.readsL {pins : List (Addr × Obj)} {σ : St} {H : Hp} {s : Shared} {a : Addr} {as : List Addr} {nss : List (List Int)} (I : Inv X pins σ H s) (h : SqL X.K H a (as.map V.ref)) (t : TupsI X.K H as nss) : Reads s.heap (.ref a) (.list (dTs nss)) [a] := by
  obtain ⟨its, r, ⟨o, n, ho, hc, _, hd⟩, _⟩ := I.list h
  exact reads_list_at ho hc hd (by simpa using readsAll_tups I t r)
theorem shaped_T (ns : List Int) : SeqAt.shaped (.tuple (ns.map PyData.int)) = true := by
  simp [SeqAt.shaped, PyData.canLay0, PyData.depth, PySem.W.ke_canLayAll0, PySem.W.ke_depthAll]
theorem canLay_Ts : ∀ nss : List (List Int), PyData.canLayAll0 (dTs nss) = true
  | [] => rfl
  | ns :: r => by
    show PyData.canLayAll0 (PyData.tuple (ns.map PyData.int) :: dTs r) = true
    simp [PyData.canLayAll0, PyData.canLay0, PySem.W.ke_canLayAll0, canLay_Ts r]
theorem depth_Ts : ∀ nss : List (List Int), PyData.depthAll (dTs nss) ≤ 1
  | [] => Nat.zero_le _
  | ns :: r => by
    show PyData.depthAll (PyData.tuple (ns.map PyData.int) :: dTs r) ≤ 1
    have := depth_Ts r
    simp [PyData.depthAll, PyData.depth, PySem.W.ke_depthAll]
    lia
theorem shaped_L (nss : List (List Int)) : SeqAt.shaped (.list (dTs nss)) = true := by
  have h := depth_Ts nss
  unfold SeqAt.shaped
  rw [Bool.and_eq_true]
  refine ⟨by simp [PyData.canLay0, canLay_Ts], decide_eq_true ?_⟩
  simp only [PyData.depth]
  lia
theorem eqv_T (ns ms : List Int) : PyData.eqv (.tuple (ns.map PyData.int)) (.tuple (ms.map PyData.int)) = decide (ns = ms) := by
  rw [← PySem.W.ked_eqvAll]
  simp [PyData.eqv]
theorem eqvAll_Ts : ∀ nss mss : List (List Int), PyData.eqvAll (dTs nss) (dTs mss) = decide (nss = mss)
  | [], [] => by simp [dTs, PyData.eqvAll]
  | [], _ :: _ => by simp [dTs, PyData.eqvAll]
  | _ :: _, [] => by simp [dTs, PyData.eqvAll]
  | ns :: r, ms :: t => by
    show PyData.eqvAll (PyData.tuple (ns.map PyData.int) :: dTs r) (PyData.tuple (ms.map PyData.int) :: dTs t) = _
    simp only [PyData.eqvAll, eqv_T, eqvAll_Ts r t]
    by_cases h : ns = ms <;> by_cases h' : r = t <;> simp [h, h']
theorem eqv_L (nss mss : List (List Int)) : PyData.eqv (.list (dTs nss)) (.list (dTs mss)) = decide (nss = mss) := by
  rw [← eqvAll_Ts]
  simp [PyData.eqv]
noncomputable def rEqL (K : PySem.W.Frag) (neg : Bool) : R2 := fun x y H Q => ∃ (a b : Addr) (as bs : List Addr) (nss mss : List (List Int)), x = .ref a ∧ y = .ref b ∧ SqL K H a (as.map V.ref) ∧ TupsI K H as nss ∧ SqL K H b (bs.map V.ref) ∧ TupsI K H bs mss ∧ Q (.bl (if neg then !decide (nss = mss) else decide (nss = mss))) H
theorem op_eqL (hu : X.A.units + 64 < cLine) : OpR X (compareOp .Eq) (rEqL X.K false) := by
  intro pins s σ H x y v u Q I rx ry h
  obtain ⟨a, b, as, bs, nss, mss, rfl, rfl, ha, ta, hb, tb, q⟩ := h
  cases rx
  cases ry
  refine eq_dataH (I.readsL ha ta) (I.readsL hb tb) (shaped_L _) (shaped_L _) hu ?_
  rw [eqv_L]
  exact ⟨.bl _, H, I, rfl, q⟩
theorem op_neL (hu : X.A.units + 64 < cLine) : OpR X (compareOp .NotEq) (rEqL X.K true) := by
  intro pins s σ H x y v u Q I rx ry h
  obtain ⟨a, b, as, bs, nss, mss, rfl, rfl, ha, ta, hb, tb, q⟩ := h
  cases rx
  cases ry
  refine ne_dataH (I.readsL ha ta) (I.readsL hb tb) (shaped_L _) (shaped_L _) hu ?_
  rw [eqv_L]
  exact ⟨.bl _, H, I, rfl, q⟩
theorem ix_tupK {K : PySem.W.Frag} (h : X.K = K) : IxR X (rIxT K) := h ▸ ix_tup
theorem ix_listK {K : PySem.W.Frag} (h : X.K = K) : IxR X (rIxL K) := h ▸ ix_list
noncomputable def rIsI (K : PySem.W.Frag) : List V → Hp → VK → Prop := fun xs H Q => ∃ x n t b, xs = [x, .ty n] ∧ TyOf K H x t ∧ PySem.W.kitOne K t (.type n) = some b ∧ Q (.bl b) H
theorem call_isI : CallR X (.builtin "isinstance") (rIsI X.K) := by
  intro pins s σ H xs us Q I r h
  obtain ⟨x, n, t, b, rfl, ty, e, q⟩ := h
  obtain ⟨u, w', rfl, ru, rw'⟩ := vals2 r
  cases (show w' = Value.type n from rw')
  exact isinst_ok I ru ty e fun tk => ⟨.bl b, H, I.tok _, rfl, q⟩
theorem kit_tuple_tuple (K : PySem.W.Frag) : PySem.W.kitOne K (.type "tuple") (.type "tuple") = some true := by rfl
theorem kit_int_int (K : PySem.W.Frag) : PySem.W.kitOne K (.type "int") (.type "int") = some true := by rfl
theorem kit_int_bool (K : PySem.W.Frag) : PySem.W.kitOne K (.type "int") (.type "bool") = some false := by rfl
theorem kit_bool_int (K : PySem.W.Frag) : PySem.W.kitOne K (.type "bool") (.type "int") = some true := by rfl
theorem kit_list_list (K : PySem.W.Frag) : PySem.W.kitOne K (.type "list") (.type "list") = some true := by rfl
end
end L2
set_option Elab.async false
set_option linter.all false
set_option maxRecDepth 100000
set_option maxHeartbeats 4000000
namespace Srt
open PySem PySem.W PyProof.Rows
structure Ordr {κ : Type} (lt : κ → κ → Bool) : Prop where
  rf : ∀ a, lt a a = false
  tr : ∀ a b c, lt b a = false → lt c b = false → lt c a = false
  an : ∀ a b, lt a b = false → lt b a = false → a = b
  as : ∀ a b, lt a b = true → lt b a = false
theorem Ordr.lt_le {κ : Type} {lt : κ → κ → Bool} (O : Ordr lt) {a b c : κ} (h : lt a b = true) (g : lt c b = false) : lt a c = true := by
  cases e : lt a c with
  | true => rfl
  | false =>
    have q := O.tr b c a g e
    rw [h] at q
    cases q
section
variable {κ : Type} {lt : κ → κ → Bool} {key : Nat → κ} {cmp : Nat → Nat → (Bool → Shared → Prop) → Shared → Prop} {N : Nat} {s : Shared}
noncomputable def kk (key : Nat → κ) (p : Array Nat) (k : Nat) : κ := key (p.getD k 0)
noncomputable def Low (N : Nat) (p : Array Nat) : Prop := p.size = N ∧ ∀ k, p.getD k 0 < N
end
end Srt
set_option Elab.async false
set_option linter.all false
set_option maxRecDepth 100000
set_option maxHeartbeats 4000000
namespace Srt
open PySem PySem.W PyProof.Rows
theorem lex_rf : ∀ a : List Int, HT.lexLt a a = false
  | [] => rfl
  | x :: r => by rw [HT.lexLt_cons, if_pos rfl]; exact lex_rf r
theorem lex_as : ∀ a b : List Int, HT.lexLt a b = true → HT.lexLt b a = false
  | [], [], h => by rw [HT.lexLt_nil_nil] at h; cases h
  | [], _ :: _, _ => rfl
  | _ :: _, [], h => by rw [HT.lexLt_cons_nil] at h; cases h
  | x :: r, y :: t, h => by
    rw [HT.lexLt_cons] at h ⊢
    by_cases e : x = y
    · rw [if_pos e] at h
      rw [if_pos e.symm]
      exact lex_as r t h
    · rw [if_neg e] at h
      rw [if_neg (Ne.symm e)]
      have := of_decide_eq_true h
      exact decide_eq_false (by lia)
theorem lex_an : ∀ a b : List Int, HT.lexLt a b = false → HT.lexLt b a = false → a = b
  | [], [], _, _ => rfl
  | [], _ :: _, h, _ => by rw [HT.lexLt_nil_cons] at h; cases h
  | _ :: _, [], _, h => by rw [HT.lexLt_nil_cons] at h; cases h
  | x :: r, y :: t, h, g => by
    rw [HT.lexLt_cons] at h g
    by_cases e : x = y
    · rw [if_pos e] at h
      rw [if_pos e.symm] at g
      rw [e, lex_an r t h g]
    · rw [if_neg e] at h
      rw [if_neg (Ne.symm e)] at g
      have h1 := of_decide_eq_false h
      have h2 := of_decide_eq_false g
      lia
theorem lex_tr : ∀ a b c : List Int, HT.lexLt b a = false → HT.lexLt c b = false → HT.lexLt c a = false
  | [], _, [], _, _ => rfl
  | [], [], _ :: _, _, _ => rfl
  | [], _ :: _, _ :: _, _, _ => rfl
  | _ :: _, [], _, h, _ => by rw [HT.lexLt_nil_cons] at h; cases h
  | _ :: _, _ :: _, [], _, h => by rw [HT.lexLt_nil_cons] at h; cases h
  | x :: r, y :: t, z :: u, h, g => by
    rw [HT.lexLt_cons] at h g ⊢
    by_cases e1 : y = x
    · rw [if_pos e1] at h
      by_cases e2 : z = y
      · rw [if_pos e2] at g
        rw [if_pos (e2.trans e1)]
        exact lex_tr r t u h g
      · rw [if_neg e2] at g
        have := of_decide_eq_false g
        rw [if_neg (by lia)]
        exact decide_eq_false (by lia)
    · rw [if_neg e1] at h
      have h1 := of_decide_eq_false h
      by_cases e2 : z = y
      · rw [if_neg (by lia)]
        exact decide_eq_false (by lia)
      · rw [if_neg e2] at g
        have h2 := of_decide_eq_false g
        rw [if_neg (by lia)]
        exact decide_eq_false (by omega)
theorem lexO : Ordr HT.lexLt := ⟨lex_rf, lex_tr, lex_an, lex_as⟩
end Srt
namespace L2
open PySem PySem.W PyProof.Rows Srt
section
variable {X : Cx} {pins : List (Addr × Obj)} {σ : St} {H : Hp} {s : Shared}
theorem lex_pairs {prog : Program} {w : World} {A : Around} {fin : Bool} {Q : Bool → Shared → Prop} {s : Shared} : ∀ {ns ms : List Int} {us vs : List Value} (i : Nat), Vals (ns.map V.int) us → Vals (ms.map V.int) vs → ns.length = ms.length → fin = false →
    Q (HT.lexLt ns ms) s → KatLex prog w A true fin Q (us.zip vs) i s
  | [], [], _, _, i, r, q, _, hf, h => by
    rw [List.map_nil] at r q
    cases r; cases q
    subst hf
    exact h
  | x :: ns, y :: ms, _, _, i, r, q, hl, hf, h => by
    rw [List.map_cons] at r q
    cases r with
    | cons r1 r2 =>
      cases q with
      | cons q1 q2 =>
        obtain ⟨t, rfl⟩ := r1
        obtain ⟨t', rfl⟩ := q1
        rw [List.zip_cons_cons]
        refine kat_cons (wpAny_eqBool_int ?_)
        rw [HT.lexLt_cons] at h
        by_cases e : x = y
        · rw [if_pos e] at h
          rw [beq_iff_eq.mpr e]
          exact kat_yes (lex_pairs (i + 1) r2 q2 (by simpa using hl) hf h)
        · rw [if_neg e] at h
          rw [beq_eq_false_iff_ne.mpr e]
          refine kat_no ?_
          cases i with
          | zero => exact oneLt_int h
          | succ i => exact kat_one _ _ (lt_int h)
  | [], _ :: _, _, _, _, _, _, hl, _, _ => by simp at hl
  | _ :: _, [], _, _, _, _, _, hl, _, _ => by simp at hl
end
end L2
set_option Elab.async false
set_option linter.all false
set_option maxRecDepth 100000
set_option maxHeartbeats 4000000
namespace L2
open PySem PySem.W PyProof.Rows Srt
noncomputable abbrev Prs := List (Addr × List Int)
noncomputable def Tps (K : PySem.W.Frag) (H : Hp) (ps : Prs) : Prop := ∀ q ∈ ps, SqT K H q.1 (q.2.map V.int)
noncomputable abbrev refs (ps : Prs) : List V := ps.map fun q => V.ref q.1
theorem firsts_of {h : Heap} : ∀ {ps : Prs} {its : List Value}, Vals (refs ps) its → (∀ q ∈ ps, q.2 ≠ [] ∧ ∃ vs : List Value, Vals (q.2.map V.int) vs ∧ IsTup h q.1 vs.toArray) → ∃ fs : List Value, KatTups h its fs ∧ fs.length = ps.length ∧ ∀ v ∈ fs, ∃ i t, v = Value.int i t
  | [], _, r, _ => by
    have r : Vals [] _ := r
    cases r
    exact ⟨[], KatTups.nil, rfl, fun _ z => nomatch z⟩
  | q :: ps, _, r, ht => by
    have r : Vals (V.ref q.1 :: refs ps) _ := r
    cases r with
    | cons r1 r2 =>
      cases r1
      obtain ⟨fs, k, e, hf⟩ := firsts_of r2 fun p hp => ht p (List.mem_cons_of_mem _ hp)
      obtain ⟨hne, vs, rv, ob, ho, hc, n, hd⟩ := ht q (List.mem_cons_self ..)
      obtain ⟨a, l⟩ := q
      cases l with
      | nil => exact absurd rfl hne
      | cons x l =>
        cases rv with
        | @cons _ f _ fr r3 r4 =>
          obtain ⟨t, rfl⟩ := r3
          refine ⟨.int x t :: fs, KatTups.cons ho hc hd (by simp) k, by simp [e], fun v hv => ?_⟩
          rcases List.mem_cons.mp hv with rfl | hv
          · exact ⟨x, t, rfl⟩
          · exact hf v hv
section
variable {X : Cx}
end
end L2
set_option Elab.async false
set_option linter.all false
set_option maxRecDepth 100000
set_option maxHeartbeats 4000000
namespace L2
open PySem PySem.Spec PyProof.Rows
section
variable {X : Cx}
theorem call_allB (hc : X.calm = true) : CallR X (.builtin "all") (fun xs H Q => ∃ (p : Addr) (bs : List Bool), xs = [.ref p] ∧ SqL X.K H p (bs.map V.bl) ∧ Q (.bl (bs.all id)) H) := by
  intro pins s σ H xs us Q I r h
  obtain ⟨p, bs, rfl, hp, q⟩ := h
  obtain ⟨u, rfl, ru⟩ := vals1 r
  cases ru
  obtain ⟨its, rv, pl, hz⟩ := I.list hp
  obtain ⟨o0, n0, ho0, _⟩ := id pl
  have hlt : p < s.heap.objs.size := Heap.lt_size ho0
  have hl : its.length = bs.length := by have := rv.length; simpa using this.symm
  refine call_all_walk (wpAny_pyIter_list pl.isList ?_)
  have hh : X.A.in1.handled = none := I.ok.hd hc
  refine ⟨s.heap.objs.size, _, _, _, _, _, fun i => bs.getD i true, rfl, Walks.list (prog := X.prog) (w := X.w) hh s.heap.objs.size p (Nat.ne_of_lt hlt) its.toArray, ⟨⟨_, Heap.get?_push_size _ rfl, rfl, rfl⟩, (pl.isList).push _⟩, ?_, fun h' tk k => ?_⟩
  · intro i v s' Q' E' hv hq
    have hi : i < bs.length := by
      have h1 : i < its.length := by
        rw [List.getElem?_toArray] at hv
        exact (List.getElem?_eq_some_iff.mp hv).1
      lia
    obtain ⟨u, hu, ru⟩ := rv.get (i := i) (x := .bl bs[i]) (by simp [hi])
    rw [List.getElem?_toArray, hu] at hv
    cases hv
    cases ru
    have e : bs.getD i true = bs[i] := by simp [List.getD, hi]
    have hq : Q' (bs.getD i true) s' := hq
    rw [e] at hq
    exact wpAny_truthy_bool hq
  · refine ⟨.bl (bs.all id), H, I.kept (h' := h') (t' := tk) fun b o e => k b o (fun z => ?_) (Heap.get?_push_of_some _ e), ?_, q⟩
    · have hb : b = s.heap.objs.size := by simpa using z
      exact absurd (Heap.lt_size e) (by rw [hb]; exact Nat.lt_irrefl _)
    · have e : ∀ bs : List Bool, (List.range bs.length).all (fun i => bs.getD i true) = bs.all id := by
        intro bs
        rw [Bool.eq_iff_iff, List.all_eq_true, List.all_eq_true]
        constructor
        · intro h b hb
          obtain ⟨i, hi, e⟩ := List.getElem_of_mem hb
          have := h i (List.mem_range.mpr hi)
          simp [List.getD, hi, e] at this
          exact this
        · intro h i hi
          have hi := List.mem_range.mp hi
          have := h bs[i] (List.getElem_mem hi)
          simpa [List.getD, hi] using this
      have hs : its.toArray.size = bs.length := by rw [List.size_toArray, hl]
      show Value.bool _ = Value.bool _
      rw [hs, e]
noncomputable def Itrs (lo c : Int) (n : Nat) : It := ⟨fun i _ => i < n, fun i H x H' => H' = H ∧ x = .int (lo + i * c), fun i _ => n ≤ i⟩
theorem turn_rangeS {P : Program} {w : World} {K : PySem.W.Frag} {tg : Expr} (it : Addr) (lo c : Int) (n : Nat) : Turn P w K tg (Itrs lo c n) [it] it (fun i h => IsRangeIter h it (lo + (i : Nat) * c) ((n : Int) - (i : Nat)) c) where
  mem := by simp
  obj := fun i h st b hb => by
    have e : b = it := by simpa using hb
    subst e
    exact ⟨_, st, fun v z => by
      have z' : Data.fields _ = Data.cell v := z
      cases z'⟩
  keep := fun i h h' st k => k it (by simp) _ st
  item := by
    intro X hP hw hK hc i pins s σ H E I hf st hg
    subst hP hw hK
    obtain ⟨f0, f1, f2, f3, f4, f5⟩ := hf it (by simp)
    refine (Walks.range (prog := X.prog) (w := X.w) (I.ok.hd hc) it lo c n).item i s _ _ hg st fun v h' tk hv st' kk => ?_
    obtain ⟨t, rfl⟩ := hv
    have I1 : Inv X pins σ H { s with heap := h', toks := tk } := I.turned (fun b o hb e => kk b o (by simpa using hb) e) f0 f1 f3 f4 f5
    exact ⟨_, rfl, go_of (s := { s with heap := h', toks := tk }) (n := "range_iterator") st' rfl rfl (by decide) ⟨.int (lo + i * c), H, I1, ⟨t, rfl⟩, ⟨rfl, rfl⟩, st', fun b hb => (hf b hb).1⟩⟩
  done := by
    intro X hP hw hK hc i pins s σ H E I hf st hg
    subst hP hw hK
    obtain ⟨f0, f1, f2, f3, f4, f5⟩ := hf it (by simp)
    exact wpAny_pyNext_range_end (I.ok.hd hc) st (by have : n ≤ i := hg; lia) fun h' eb => ⟨rfl, I.turned (t' := s.toks) (fun b o hb e => eb b o hb e) f0 f1 f3 f4 f5⟩
  self := fun _ _ _ _ _ st h => wpAny_pyIter_rangeiter st h
noncomputable def iRng3 (ta : TA) : TI := fun σ H R => ta σ H fun vs H1 => ∃ (i j k : Int) (n : Nat), vs = [.int i, .int j, .int k] ∧ (k ≠ 0 ∧ k.natAbs < 1073741824 ∧ Builtin.Range.small i j k = true ∧ Builtin.Range.rangeSize i j k = (n : Int)) ∧ R (Itrs i k n) H1
theorem pi_range3 {tg a b c : Expr} {ta : TA} {p pos : Pos} (hg : Gl X "range") (hm : X.mg "range" = none) (ha : PA X [a, b, c] ta) (hs : starEach [a, b, c] X.env = [(false, eval a X.env), (false, eval b X.env), (false, eval c X.env)] := by rfl)
    (hs2 : starEach [b, c] X.env = [(false, eval b X.env), (false, eval c X.env)] := by rfl) : PI X tg (.Call (.Name "range" p) [a, b, c] [] pos) (iRng3 ta) := by
  intro pins s σ H R I h
  refine Call_ (ld_blt I hg hm boot_range (PyProof.Rows.callWith_type1 (thn (ha pos pins s σ H _ I h) fun us s1 ⟨vs, H1, I1, r1, q1⟩ => ?_) (by rw [hs, hs2]) (by rw [hs2]; rfl)))
  obtain ⟨i, j, k, n, e, ⟨q1, q2, q3, q4⟩, q⟩ := q1
  subst e
  cases r1 with
  | cons r rr =>
    cases rr with
    | cons r' rr =>
      cases rr with
      | cons r'' rr =>
        cases rr
        obtain ⟨t, rfl⟩ := r
        obtain ⟨t', rfl⟩ := r'
        obtain ⟨t'', rfl⟩ := r''
        refine call_range_3 q1 (wpAny_pyIter_range (IsRange.new ..) q3 ?_) (.inl (PyProof.noPylong_small q2))
        have I2 : Inv X pins σ H1 { s1 with heap := s1.heap.push { cls := .type "range", data := .fields #[.int i t, .int j t', .int k t''] }, toks := s1.toks } := I1.kept fun b o e => Heap.get?_push_of_some _ e
        refine ⟨(s1.heap.push { cls := .type "range", data := .fields #[.int i t, .int j t', .int k t''] }).objs.size, [(s1.heap.push { cls := .type "range", data := .fields #[.int i t, .int j t', .int k t''] }).objs.size], _, _, H1, rfl,
          I2.kept (t' := s1.toks) fun b o e => Heap.get?_push_of_some _ e, turn_rangeS _ i k n, ?_, fun b hb => ?_, q⟩
        · have e1 : i + ((0 : Nat) : Int) * k = i := by simp
          have e2 : ((n : Nat) : Int) - ((0 : Nat) : Int) = Builtin.Range.rangeSize i j k := by rw [q4]; simp
          show IsRangeIter _ _ (i + ((0 : Nat) : Int) * k) (((n : Nat) : Int) - ((0 : Nat) : Int)) k
          rw [e1, e2]
          exact Heap.get?_push_size _ rfl
        · have e : b = (s1.heap.push { cls := .type "range", data := .fields #[.int i t, .int j t', .int k t''] }).objs.size := by simpa using hb
          subst e
          exact I2.fpOk (Nat.le_refl _) (I2.hok.fresh (Nat.le_refl _))
theorem Inv.turnNew {pins : List (Addr × Obj)} {σ : St} {H : Hp} {s : Shared} {h' : Heap} {t' : Nat} {fp : List Addr} {its : List Value} {xs : List V} {ob : Obj} {n : Nat} (I : Inv X pins σ H s) (hf : ∀ b ∈ fp, FpOk X pins H b) (k : ∀ b o, b ∉ fp → s.heap.get? b = some o → h'.get? b = some o)
    (hT : h'.get? s.heap.objs.size = some ob) (hc : ob.cls = .type "tuple") (hd : ob.data = .seq its.toArray n) (hv : Vals xs its) (hz : xs.length ≤ sizeLine) : Inv X pins σ (upd H s.heap.objs.size (.tup xs)) { s with heap := h', toks := t' } := by
  have hn : H s.heap.objs.size = none := I.fresh
  have nfp : ∀ b u, H b = some u → b ∉ fp := fun b u e z => by rw [(hf b z).1] at e; cases e
  refine I.step (g' := s.gens) (d' := s.drawn) (ch := fp) (fun b hb => ⟨(hf b hb).2.2.2.1, (hf b hb).2.1, (hf b hb).2.2.2.2.1, (hf b hb).2.2.2.2.2⟩) (fun b o _ _ hb e _ => k b o hb e) (fun b o _ _ hb e _ => ⟨o.slots, k b o hb e⟩)
    (fun b o _ e q => by rw [upd_ne (Nat.ne_of_lt (Heap.lt_size e))]; exact q) (fun b o hb e => ⟨o, k b o hb e⟩) (fun b ys e => by rw [upd_ne (ne_of_none e hn)]; exact e) (fun b o u e => by rw [upd_ne (ne_of_none e hn)]; exact e)
    (fun b ps e => ⟨#[], by rw [upd_ne (ne_of_none e hn), e]; simp⟩) (fun m hm => ?_) (fun b u e => ?_) I.bare
  · obtain ⟨o, es, ep, ho, r⟩ := hm
    refine ⟨o, es, ep, k _ o (fun z => (hf _ z).2.1 rfl) ho, r⟩
  · by_cases hb : b = s.heap.objs.size
    · subst hb
      rw [upd_same] at e
      cases e
      exact ⟨hz, its, hv, ob, hT, hc, n, hd⟩
    · rw [upd_ne hb] at e
      refine (I.hok b u e).stay (fun c v hc' q => k c v ?_ q) (fun c q => by rw [upd_ne (ne_of_none q hn)]; exact q) (fun c ys q => by rw [upd_ne (ne_of_none q hn)]; exact q)
      rcases hc' with rfl | hc'
      · exact nfp _ _ e
      · exact nfp _ _ hc'
end
end L2
set_option Elab.async false
set_option linter.all false
set_option maxRecDepth 100000
set_option maxHeartbeats 4000000
namespace Pc
open PySem L2
inductive Ax where
  | x | y | z
  deriving DecidableEq
structure C3 where
  x : Int
  y : Int
  z : Int
  deriving DecidableEq
noncomputable def C3.l (c : C3) : List Int := [c.x, c.y, c.z]
noncomputable abbrev C3.v (c : C3) : List V := c.l.map V.int
theorem C3.inj {c d : C3} : c.l = d.l ↔ c = d := by
  obtain ⟨a, b, e⟩ := c
  obtain ⟨a', b', e'⟩ := d
  simp [C3.l]
noncomputable def Ax.s : Ax → Str
  | .x => "x"
  | .y => "y"
  | .z => "z"
noncomputable def Ax.n : Ax → Int
  | .x => 0
  | .y => 1
  | .z => 2
noncomputable def Ax.at (a : Ax) (c : C3) : Int := match a with
  | .x => c.x
  | .y => c.y
  | .z => c.z
noncomputable def Ax.put (a : Ax) (v : Int) (c : C3) : C3 := match a with
  | .x => ⟨v, c.y, c.z⟩
  | .y => ⟨c.x, v, c.z⟩
  | .z => ⟨c.x, c.y, v⟩
structure Wy where
  ax : Ax
  up : Bool
  deriving DecidableEq
noncomputable def Wy.s : Wy → Str
  | ⟨.x, true⟩ => "+x"
  | ⟨.x, false⟩ => "-x"
  | ⟨.y, true⟩ => "+y"
  | ⟨.y, false⟩ => "-y"
  | ⟨.z, true⟩ => "+z"
  | ⟨.z, false⟩ => "-z"
noncomputable def sg (b : Bool) : Int := if b then 1 else -1
noncomputable def Wy.next (w : Wy) (c : C3) : C3 := w.ax.put (w.ax.at c + sg w.up) c
noncomputable def C3.o : C3 := ⟨0, 0, 0⟩
theorem at_ax (a : Ax) (c : C3) : atI c.v a.n = some (.int (a.at c)) := by
  obtain ⟨x, y, z⟩ := c
  cases a <;> rfl
noncomputable def plD : List (Str × V) := [("x", .int 0), ("y", .int 1), ("z", .int 2)]
theorem mem_ax (a : Ax) : (a.s, V.int a.n) ∈ plD := by
  cases a <;> simp [plD, Ax.s, Ax.n]
theorem same_up {H H1 : Hp} {l : Addr} {o : HO} (s : Same H H1) (h : H l = none) : Same H (upd H1 l o) := fun b u q => by rw [upd_ne (ne_of_none q h)]; exact s b u q
theorem same_nw {H H1 : Hp} {l : Addr} {o : HO} (s : Same H H1) (h : H1 l = none) : Same H (upd H1 l o) := same_up s (s.free h)
theorem same_tup {K : PySem.W.Frag} {H H' : Hp} {a : Addr} {xs : List V} (e : Same H H') (h : SqT K H a xs) : SqT K H' a xs := by
  rcases h with (h | ⟨o, h⟩) | h
  · exact .inl (.inl (e _ _ h))
  · exact .inl (.inr ⟨o, e _ _ h⟩)
  · exact .inr h
end Pc
set_option Elab.async false
set_option linter.all false
set_option maxRecDepth 100000
set_option maxHeartbeats 4000000
namespace L2
open PySem PySem.Spec PyProof.Rows
section
variable {X : Cx}
noncomputable def rCatG : R2 := fun x y H Q => ∃ a b xs ys, x = .ref a ∧ y = .ref b ∧ H a = some (.tup xs) ∧ H b = some (.tup ys) ∧ xs.length + ys.length ≤ sizeLine ∧ ∀ p H', Same H H' → H' p = some (.tup (xs ++ ys)) → Q (.ref p) H'
theorem op_catG : OpR X (binaryOp .Add) rCatG := by
  intro pins s σ H x y v u Q I rx ry h
  obtain ⟨a, b, xs, ys, rfl, rfl, ha, hb, hz, q⟩ := h
  by_cases hx : xs = []
  · subst hx
    cases rx
    cases ry
    obtain ⟨its, r1, p1, _⟩ := I.tuple (SqT.of ha)
    obtain ⟨its2, r2, p2, _⟩ := I.tuple (SqT.of hb)
    obtain ⟨⟨cls, dd, data, sl⟩, ho, hc, n, hd⟩ := id p1
    obtain ⟨⟨cls2, dd2, data2, sl2⟩, ho2, hc2, n2, hd2⟩ := id p2
    simp only at hc hd hc2 hd2
    subst hc hd hc2 hd2
    have e : its = [] := r1.nil_iff.mpr rfl
    exact concat_meets ⟨_, ho, rfl⟩ ⟨_, ho2, rfl⟩ noFill_tuple_add seq_tuple_add PySem.F.slot_tuple_add PySem.F.entry_tuple_add (PySem.F.args_tuple_add_2 _ _)
      (tuple_addW0 a b its.toArray its2.toArray n n2 dd dd2 sl sl2 (by rw [e]; rfl)) ⟨ho, ho2, ⟨.ref b, H, I, rfl, q b H (Same.refl H) (by simpa using hb)⟩⟩
  · refine op_catT pins s σ H (.ref a) (.ref b) v u Q I rx ry ⟨a, b, xs, ys, rfl, rfl, SqT.of ha, SqT.of hb, hx, hz, fun z => q a H (Same.refl H) (by rw [z, List.append_nil]; exact ha), fun _ p hp => q p _ (fun c o e => by rw [upd_ne (ne_of_none e hp)]; exact e) upd_same⟩
theorem for_turns {J : It} {n : Nat} {g : TG} {tb : TS} {D : Ends} {σ : St} {H : Hp} (Pv : Nat → St → Hp → Prop) (h0 : Pv 0 σ H) (hd : ∀ σ H, Pv n σ H → J.stop n H ∧ D.nx σ H)
    (hgo : ∀ i σ H, i < n → Pv i σ H → J.go i H ∧ ∀ x H', J.yld i H x H' → g x σ H' fun σ2 H2 => tb { D with nx := Pv (i + 1), ct := Pv (i + 1), bk := D.nx } σ2 H2) :
    ∃ W : Nat → Nat → St → Hp → Prop, (∃ m, W 0 m σ H) ∧ ∀ i m σ H, W i m σ H →
      (J.stop i H ∧ D.nx σ H) ∨ (J.go i H ∧ ∃ N : St → Hp → Prop, (∀ σ' H', N σ' H' → ∃ m', m' < m ∧ W (i + 1) m' σ' H') ∧ ∀ x H', J.yld i H x H' → g x σ H' fun σ2 H2 => tb { D with nx := N, ct := N, bk := D.nx } σ2 H2) := by
  refine ⟨fun i m σ H => m = n - i ∧ i ≤ n ∧ Pv i σ H, ⟨n, by simp, Nat.zero_le _, h0⟩, ?_⟩
  rintro i m σ H ⟨rfl, hi, p⟩
  by_cases hlt : i < n
  · obtain ⟨q1, q2⟩ := hgo i σ H hlt p
    exact .inr ⟨q1, Pv (i + 1), fun σ' H' p' => ⟨n - (i + 1), by lia, rfl, hlt, p'⟩, q2⟩
  · have e : i = n := by lia
    subst e
    exact .inl (hd σ H p)
end
end L2
namespace Pc
open PySem L2 Srt
noncomputable def smp : V → Bool
  | .non => true
  | .bl _ => true
  | .int _ => true
  | .str _ => true
  | _ => false
noncomputable def whole : V → Bool
  | .int _ => true
  | _ => false
noncomputable def near (n : Int) : Bool := decide (-60 ≤ n) && decide (n ≤ 60)
noncomputable def nearV : V → Bool
  | .int n => near n
  | _ => false
theorem kit_non_int (K : PySem.W.Frag) : PySem.W.kitOne K (.type "NoneType") (.type "int") = some false := by rfl
theorem kit_str_int (K : PySem.W.Frag) : PySem.W.kitOne K (.type "str") (.type "int") = some false := by rfl
theorem kit_bool_bool (K : PySem.W.Frag) : PySem.W.kitOne K (.type "bool") (.type "bool") = some true := by rfl
noncomputable def NoTup (K : PySem.W.Frag) (H : Hp) (x : V) : Prop := ∃ t, TyOf K H x t ∧ PySem.W.kitOne K t (.type "tuple") = some false
end Pc
set_option Elab.async false
set_option linter.all false
set_option maxRecDepth 100000
set_option maxHeartbeats 4000000
namespace Pc
open PySem L2 Srt
structure Fn (K : PySem.W.Frag) (mg : Str → Option Value) (x : Str) (st : Stmt) (f : Addr) (fd : FuncData) (ps : List Str) : Prop where
  F : Fun K x x st f fd
  b : Binds K fd ps []
  m : mg x = some (.ref f)
  bt : ∀ (s : Shared) (us : List Value), us.length = ps.length → BindsTo s fd ⟨us, []⟩ (ps.zip us)
theorem b_list : bootBuiltins "list" = some (.type "list") := by decide +kernel
theorem b_tuple : bootBuiltins "tuple" = some (.type "tuple") := by decide +kernel
theorem b_int : bootBuiltins "int" = some (.type "int") := by decide +kernel
theorem b_bool : bootBuiltins "bool" = some (.type "bool") := by decide +kernel
theorem b_str : bootBuiltins "str" = some (.type "str") := by decide +kernel
theorem b_dict : bootBuiltins "dict" = some (.type "dict") := by decide +kernel
theorem b_set : bootBuiltins "set" = some (.type "set") := by decide +kernel
theorem b_isinstance : bootBuiltins "isinstance" = some (.builtin "isinstance") := by decide +kernel
theorem b_all : bootBuiltins "all" = some (.builtin "all") := by decide +kernel
theorem b_sorted : bootBuiltins "sorted" = some (.builtin "sorted") := by decide +kernel
theorem b_min : bootBuiltins "min" = some (.builtin "min") := by decide +kernel
theorem b_max : bootBuiltins "max" = some (.builtin "max") := by decide +kernel
theorem b_abs : bootBuiltins "abs" = some (.builtin "abs") := by decide +kernel
theorem b_len : bootBuiltins "len" = some (.builtin "len") := by decide +kernel
theorem le1 : 1 ≤ sizeLine := by decide
theorem le2 : 2 ≤ sizeLine := by decide
theorem le3 : 3 ≤ sizeLine := by decide
theorem le0 : 0 ≤ sizeLine := by decide
theorem le4 : 4 ≤ sizeLine := by decide
theorem le6 : 6 ≤ sizeLine := by decide
theorem fn_mk {K : PySem.W.Frag} {h : Heap} {mg : Str → Option Value} {x : Str} {st : Stmt} {f : Addr} {oc kV dc pm cd ct : Value} {od an : Option Addr} {sl : Array (Option Value)} {ps : List Str} (X : K.In h) (G : h.Ns mainGlobals mg)
    (a : PySem.W.nsIn K mainGlobals x = some (some (.ref f))) (l : K.lookup f = some ⟨oc, od, .func (PySem.W.fnOf x x (defArgs st) (defBody st) (defScope st) .none kV dc pm an cd ct), sl⟩) (c : PySem.W.codeIn K cd x = true) (k : PySem.W.keepIn K (.ref f) = true)
    (b : ∀ (kV doc pm : Value) (an : Option Addr) (cdv ct : Value) (us : List Value), us.length = ps.length → bindArgs (PySem.W.fnOf x x (defArgs st) (defBody st) (defScope st) .none kV doc pm an cdv ct) ⟨us, []⟩ = pure (ps.zip us)) : ∃ f fd, Fn K mg x st f fd ps :=
  ⟨f, _, ⟨fun_mk l c k, (fun_mk l c k).binds b, PySem.W.mg_of X G a, fun s us hl => .of_eq (b _ _ _ _ _ _ us hl)⟩⟩
theorem place_mk {K : PySem.W.Frag} {w : World} {h : Heap} {mg : Str → Option Value} {a : Addr} {es : Array DictEntry} {n : Nat} {t0 t1 t2 : Tok} (X : K.In h) (G : h.Ns mainGlobals mg) (m : PySem.W.nsIn K mainGlobals "PLACES" = some (some (.ref a)))
    (l : K.lookup a = some ⟨.type "dict", none, .dict es n, #[]⟩) (k : PySem.W.KeysLit w.params es.toList) (x0 : PySem.W.nsIn K a "x" = some (some (.int 0 t0))) (x1 : PySem.W.nsIn K a "y" = some (some (.int 1 t1))) (x2 : PySem.W.nsIn K a "z" = some (some (.int 2 t2))) :
    ∃ a, mg "PLACES" = some (.ref a) ∧ TopD K w a plD := by
  refine ⟨a, PySem.W.mg_of X G m, ⟨es, n, l, k, fun p hp => ?_⟩⟩
  simp only [plD, List.mem_cons, List.not_mem_nil, or_false] at hp
  rcases hp with rfl | rfl | rfl
  · exact ⟨_, x0, t0, rfl⟩
  · exact ⟨_, x1, t1, rfl⟩
  · exact ⟨_, x2, t2, rfl⟩
noncomputable def spLaw (K : PySem.W.Frag) : Sp := fun vs H Q _ => ∃ (a : Addr) (ns : List Int), vs = [.ref a] ∧ SqL K H a (ns.map V.int) ∧ ns.length ≤ 63 ∧ ∀ H', Q (.bl true) H'
theorem walkK {l : PySem.W.OpenLaw} {q : Program} {loose : List Str} {XP : (Str → Option Value) → Heap → Prop} {YP : World → Heap → Prop} {d : DefRec} {K : Params → PySem.W.Frag} {k : Nat} (hk : k ≤ 40) (hn : l.most = some 63) (hdf : d.params.defaults = [])
    (hY : ∀ (w : World) (h : Heap), YP w h → (K w.params).In h)
    (F : ∀ (w : World) (mg : Str → Option Value) (fa : Addr) (h : Heap), (K w.params).In h → h.Ns mainGlobals mg → mg d.name = some (.ref fa) →
      ∃ fd : FuncData, (∀ (s : Shared) (u : Value), BindsTo s fd ⟨[u], []⟩ [("_law_script", u)]) ∧ ∀ base : Heap, (K w.params).In base → base.Ns mainGlobals mg → FnOk l.prog w (K w.params) mg base CX0 k fa fd ["_law_script"] (spLaw (K w.params))) :
    PySem.W.WalkO q loose XP YP l.row.toRowW d [] (fun f vs => PySem.call f vs) :=
  L2.walk_of (n := 63) (k := k) (x := "_law_script") (CX := fun _ => CX0) (sp := fun w => spLaw (K w.params)) hn (by decide) hdf (Room.mono (k := 40) ⟨rfl, by decide, by decide, rfl⟩ hk) hY F (fun _ _ a ns hl _ hS => ⟨a, ns, rfl, hS, hl, fun _ => rfl⟩) fun _ _ _ _ _ z => z
end Pc
set_option Elab.async false
set_option linter.all false
set_option maxRecDepth 100000
set_option maxHeartbeats 4000000
namespace L2
open PySem PySem.Spec PyProof.Rows
section
variable {σ : St} {H : Hp} {Q : VK} {D : Ends} {K : PySem.W.Frag}
theorem rd_seq {t u : TS} (h : t { D with nx := u D } σ H) : tSeq t u D σ H := h
theorem rd_asg {te : TE} {g : TG} (h : te σ H fun x H1 => g x σ H1 D.nx) : tAsg te g D σ H := h
theorem rd_gname {i : Nat} {v : V} {R : St → Hp → Prop} (h : R (σ.set i (some v)) H) : gName i v σ H R := h
theorem rd_var {i : Nat} {v : V} (e : σ[i]? = some (some v)) (h : Q v H) : tVar i σ H Q := ⟨v, e, h⟩
theorem rd_c {v : V} (h : Q v H) : tC v σ H Q := h
theorem rd_op {r : R2} {ta tb : TE} (h : ta σ H fun x H1 => tb σ H1 fun y H2 => r x y H2 Q) : tOp r ta tb σ H Q := h
theorem rd_un {r : V → Hp → VK → Prop} {ta : TE} (h : ta σ H fun x H1 => r x H1 Q) : tUn r ta σ H Q := h
theorem rd_i0 {g : Int → Int → V} {i j : Int} (h : Q (g i j) H) : rI0 g (.int i) (.int j) H Q := ⟨i, j, rfl, rfl, h⟩
theorem rd_mod {g : Int → Int → V} {i j : Int} (c : 0 < j) (h : Q (g i j) H) : rI (fun _ j => 0 < j) g (.int i) (.int j) H Q := ⟨i, j, rfl, rfl, c, h⟩
theorem rd_fdiv {g : Int → Int → V} {i j : Int} (c : 0 < j ∧ j < 1073741824) (h : Q (g i j) H) : rI CDiv g (.int i) (.int j) H Q := ⟨i, j, rfl, rfl, c, h⟩
theorem rd_mulR {g : Int → Int → V} {i j : Int} (c : -(2 ^ 64) < j ∧ j < 2 ^ 64) (h : Q (g i j) H) : rI CMul g (.int i) (.int j) H Q := ⟨i, j, rfl, rfl, .inr c, h⟩
theorem rd_u {g : Int → V} {i : Int} (h : Q (g i) H) : rU g (.int i) H Q := ⟨i, rfl, h⟩
theorem rd_eqI {i j : Int} (h : Q (.bl (decide (i = j))) H) : rEq (.int i) (.int j) H Q := ⟨rfl, by
  have e : decide (V.int i = V.int j) = decide (i = j) := by by_cases z : i = j <;> simp [z]
  rw [e]; exact h⟩
theorem rd_neI {i j : Int} (h : Q (.bl (!decide (i = j))) H) : rNe (.int i) (.int j) H Q := ⟨rfl, by
  have e : decide (V.int i = V.int j) = decide (i = j) := by by_cases z : i = j <;> simp [z]
  rw [e]; exact h⟩
theorem rd_eqS {i j : Str} (h : Q (.bl (decide (i = j))) H) : rEq (.str i) (.str j) H Q := ⟨rfl, by
  have e : decide (V.str i = V.str j) = decide (i = j) := by by_cases z : i = j <;> simp [z]
  rw [e]; exact h⟩
theorem rd_neS {i j : Str} (h : Q (.bl (!decide (i = j))) H) : rNe (.str i) (.str j) H Q := ⟨rfl, by
  have e : decide (V.str i = V.str j) = decide (i = j) := by by_cases z : i = j <;> simp [z]
  rw [e]; exact h⟩
theorem rd_test {t : TE} {R : Bool → Hp → Prop} (h : t σ H fun x H' => ∃ k, x = .bl k ∧ R k H') : tTest t σ H R := h
theorem rd_tb {t : TE} {R : Bool → Hp → Prop} (h : t σ H fun x H' => ∃ k, x = .bl k ∧ R k H') : tB t σ H R := h
theorem rd_bl {k : Bool} {R : Bool → Prop} (h : R k) : ∃ k', V.bl k = .bl k' ∧ R k' := ⟨k, rfl, h⟩
theorem rd_ifs {c : TT} {t u : TS} (h : c σ H fun b H1 => if b = true then t D σ H1 else u D σ H1) : tIfS c t u D σ H := h
theorem rd_ifx {c : TT} {ta tb : TE} (h : c σ H fun b H1 => if b = true then ta σ H1 Q else tb σ H1 Q) : tIf c ta tb σ H Q := h
theorem rd_and {t u : TT} {R : Bool → Hp → Prop} (h : t σ H fun c H1 => if c = true then u σ H1 R else R false H1) : tAnd t u σ H R := h
theorem rd_or {t u : TT} {R : Bool → Hp → Prop} (h : t σ H fun c H1 => if c = true then R true H1 else u σ H1 R) : tOr t u σ H R := h
theorem rd_not {t : TT} {R : Bool → Hp → Prop} (h : t σ H fun c H1 => R (!c) H1) : tNot t σ H R := h
theorem rd_andV {ta tb : TE} (h : ta σ H fun x H1 => ∃ c, x = .bl c ∧ if c = true then tb σ H1 Q else Q (.bl false) H1) : tAndV ta tb σ H Q := h
theorem rd_notV {ta : TE} (h : ta σ H fun x H1 => ∃ c, x = .bl c ∧ Q (.bl (!c)) H1) : tNotV ta σ H Q := h
theorem rd_next (h : D.nx σ H) : tNext D σ H := h
theorem rd_ret {te : TE} (h : te σ H D.rt) : tRet te D σ H := h
theorem rd_drop {te : TE} (h : te σ H fun _ H1 => D.nx σ H1) : tDrop te D σ H := h
theorem rd_nil {R : List V → Hp → Prop} (h : R [] H) : tNil σ H R := h
theorem rd_cons {ta : TE} {tr : TA} {R : List V → Hp → Prop} (h : ta σ H fun x H1 => tr σ H1 fun xs H2 => R (x :: xs) H2) : tCons ta tr σ H R := h
theorem rd_tup {t : TA} (h : t σ H fun xs H1 => xs.length ≤ sizeLine ∧ ∀ p, H1 p = none → Q (.ref p) (upd H1 p (.tup xs))) : tTup t σ H Q := h
theorem rd_lst {t : TA} (h : t σ H fun xs H1 => xs.length ≤ sizeLine ∧ ∀ p, H1 p = none → Q (.ref p) (upd H1 p (.lst xs))) : tLst t σ H Q := h
theorem rd_call {sp : Sp} {dvs : List V} {E : XK} {t : TA} (h : t σ H fun vs H1 => sp (vs ++ dvs) H1 Q E) : tCall sp dvs E t σ H Q := h
theorem rd_cb {r : List V → Hp → VK → Prop} {t : TA} (h : t σ H fun vs H1 => r vs H1 Q) : tCB r t σ H Q := h
theorem rd_bm {T : String} {r : V → List V → Hp → VK → Prop} {to : TE} {t : TA} (h : to σ H fun x H1 => tyV K T x H1 ∧ t σ H1 fun xs H2 => r x xs H2 Q) : tBM K T r to t σ H Q := h
theorem rd_sl {r : V → Option Int → Option Int → Hp → VK → Prop} {te : TE} {tl th : TO} (h : te σ H fun x H1 => tl σ H1 fun l H2 => th σ H2 fun u H3 => r x l u H3 Q) : tSl r te tl th σ H Q := h
theorem rd_nop {R : Option Int → Hp → Prop} (h : R none H) : tNoPart σ H R := h
theorem rd_part {t : TE} {R : Option Int → Hp → Prop} (h : t σ H fun x H1 => ∃ i, x = .int i ∧ R (some i) H1) : tPart t σ H R := h
theorem rd_int {i : Int} {R : Int → Prop} (h : R i) : ∃ k, V.int i = .int k ∧ R k := ⟨i, rfl, h⟩
theorem rd_ixL {p : Addr} {xs : List V} {i : Int} {v : V} (h : SqL K H p xs) (e : atI xs i = some v) (q : Q v H) : rIxL K (.ref p) (.int i) H Q := ⟨p, xs, i, v, rfl, rfl, h, e, q⟩
theorem rd_ixT {p : Addr} {xs : List V} {i : Int} {v : V} (h : SqT K H p xs) (e : atI xs i = some v) (q : Q v H) : rIxT K (.ref p) (.int i) H Q := ⟨p, xs, i, v, rfl, rfl, h, e, q⟩
theorem rd_sll {p : Addr} {xs : List V} {lo hi : Option Int} (h : SqL K H p xs) (q : ∀ l, H l = none → Q (.ref l) (upd H l (.lst (cutV xs lo hi)))) : rSlL K (.ref p) lo hi H Q := ⟨p, xs, rfl, h, q⟩
theorem rd_true {A B : Prop} (h : A) : if true = true then A else B := iteT h
theorem rd_false {A B : Prop} (h : B) : if false = true then A else B := iteF h
theorem rd_ntrue {A B : Prop} (h : B) : if (!true) = true then A else B := iteF h
theorem rd_nfalse {A B : Prop} (h : A) : if (!false) = true then A else B := iteT h
theorem rd_gtup {n : Nat} {t : TGs} {p : Addr} {xs : List V} {R : St → Hp → Prop} (h : SqT K H p xs) (e : xs.length = n) (q : t xs σ H R) : gTup K n t (.ref p) σ H R := ⟨p, xs, rfl, h, e, q⟩
theorem rd_gnil {R : St → Hp → Prop} (h : R σ H) : gNil [] σ H R := ⟨rfl, h⟩
theorem rd_gcons {t : TG} {u : TGs} {v : V} {r : List V} {R : St → Hp → Prop} (h : t v σ H fun σ' H' => u r σ' H' R) : gCons t u (v :: r) σ H R := ⟨v, r, rfl, h⟩
theorem pe_globI {X : Cx} {x : Str} {n : Int} {pos : Pos} (hm : ∃ t, X.mg x = some (.int n t)) (hg : Gl X x) (hd : (x == ("__debug__" : Str)) = false := by decide) : PE X (.Name x pos) (tC (.int n)) := by
  obtain ⟨t, hm⟩ := hm
  exact pe_glob hg hm ⟨t, rfl⟩ hd
theorem pe_globS {X : Cx} {x z : Str} {pos : Pos} (hm : ∃ t, X.mg x = some (.str z t)) (hg : Gl X x) (hd : (x == ("__debug__" : Str)) = false := by decide) : PE X (.Name x pos) (tC (.str z)) := by
  obtain ⟨t, hm⟩ := hm
  exact pe_glob hg hm ⟨t, rfl⟩ hd
theorem same_new {p : Addr} {o : HO} (h : H p = none) : Same H (upd H p o) := fun b u q => by rw [upd_ne (ne_of_none q h)]; exact q
theorem lk_old {p q : Addr} {o u : HO} (hn : H p = none) (h : H q = some u) : upd H p o q = some u := same_new hn q u h
theorem lk_same {H0 : Hp} {q : Addr} {u : HO} (s : Same H0 H) (h : H0 q = some u) : H q = some u := s q u h
theorem lk_kind {p q : Addr} {o u u' : HO} (h' : H p = some u') (hd : u ≠ u') (h : H q = some u) : upd H p o q = some u := by rw [upd_ne (ne_of h h' hd)]; exact h
theorem sqL_new {p q : Addr} {o : HO} {xs : List V} (hn : H p = none) (h : SqL K H q xs) : SqL K (upd H p o) q xs := (same_new hn).seq h
end
end L2
set_option Elab.async false
set_option linter.all false
set_option maxRecDepth 100000
set_option maxHeartbeats 4000000
namespace L2
open PySem PySem.Spec PyProof.Rows
structure QE (X : Cx) (e : Expr) (t : TE) : Prop where
  r : PE X e t
structure QT (X : Cx) (e : Expr) (t : TT) : Prop where
  r : PT X e t
structure QW (X : Cx) (e : Expr) (t : TT) : Prop where
  r : PW X e t
structure QA (X : Cx) (es : List Expr) (t : TA) : Prop where
  r : PA X es t
structure QS (X : Cx) (st : Stmt) (t : TS) : Prop where
  r : PS X st t
structure QSs (X : Cx) (sts : List Stmt) (t : TS) : Prop where
  r : PSs X sts t
structure QG (X : Cx) (e : Expr) (t : TG) : Prop where
  r : PG X e t
structure QGs (X : Cx) (es : List Expr) (t : TGs) : Prop where
  r : PGs X es t
structure QI (X : Cx) (tg it : Expr) (t : TI) : Prop where
  r : PI X tg it t
structure QO (X : Cx) (e : Option Expr) (t : TO) : Prop where
  r : PO X e t
structure QF (X : Cx) (ifs : List Expr) (t : TT) : Prop where
  r : PIfs X ifs t
structure QOp (X : Cx) (f : Value → Value → Sem Value) (r : R2) : Prop where
  r : OpR X f r
structure QIx (X : Cx) (r : R2) : Prop where
  r : IxR X r
structure QCl (X : Cx) (f : Value) (r : List V → Hp → VK → Prop) : Prop where
  r : CallR X f r
section
set_option autoImplicit true
set_option relaxedAutoImplicit true
variable {X : Cx}
theorem qv (i : Nat) {x : Str} {pos : Pos} (hN : X.N[i]? = some x := by rfl) (hv : Vis X.env.scope x := by first | exact Or.inl rfl | exact Or.inr (Or.inl rfl) | exact Or.inr (Or.inr rfl)) (hd : (x == ("__debug__" : Str)) = false := by decide)
    (hcd : (x == ("__classdict__" : Str)) = false := by decide) : QE X (.Name x pos) (tVar i) := ⟨pv i hN hv hd hcd⟩
theorem qe_int {i j pos} : QE X (.Constant (.int i) j pos) (tC (.int i)) := ⟨pe_int⟩
theorem qe_bl {b j pos} : QE X (.Constant (.bool b) j pos) (tC (.bl b)) := ⟨pe_bl⟩
theorem qe_non {j pos} : QE X (.Constant .none j pos) (tC .non) := ⟨pe_non⟩
theorem qe_str {x j pos} : QE X (.Constant (.str x) j pos) (tC (.str x)) := ⟨pe_str⟩
theorem qe_glob {x : Str} {v : V} {u : Value} {pos : Pos} (hg : Gl X x) (hm : X.mg x = some u) (r : RelV v u) (hd : (x == ("__debug__" : Str)) = false := by decide) : QE X (.Name x pos) (tC v) := ⟨pe_glob hg hm r hd⟩
theorem qe_globI {x : Str} {n : Int} {pos : Pos} (hm : ∃ t, X.mg x = some (.int n t)) (hg : Gl X x) (hd : (x == ("__debug__" : Str)) = false := by decide) : QE X (.Name x pos) (tC (.int n)) := ⟨pe_globI hm hg hd⟩
theorem qe_globS {x z : Str} {pos : Pos} (hm : ∃ t, X.mg x = some (.str z t)) (hg : Gl X x) (hd : (x == ("__debug__" : Str)) = false := by decide) : QE X (.Name x pos) (tC (.str z)) := ⟨pe_globS hm hg hd⟩
theorem qe_bltn {x : Str} {v : V} {u : Value} {pos : Pos} (hg : Gl X x) (hm : X.mg x = none) (hv : bootBuiltins x = some u) (r : RelV v u) (hn : x ≠ "__name__" := by decide) (hd : (x == ("__debug__" : Str)) = false := by decide) : QE X (.Name x pos) (tC v) := ⟨pe_bltn hg hm hv r hn hd⟩
theorem qe_op {op : Operator} {r : R2} (ho : QOp X (binaryOp op) r) (ha : QE X a ta) (hb : QE X b tb) : QE X (.BinOp a op b pos) (tOp r ta tb) := ⟨pe_op ho.r ha.r hb.r⟩
theorem qe_neg (ha : QE X a ta) : QE X (.UnaryOp .USub a pos) (tUn (rU fun i => .int (-i)) ta) := ⟨pe_un un_neg ha.r⟩
theorem qe_cmpR {op : CmpOp} {r : R2} (ho : QOp X (compareOp op) r) (ha : QE X a ta) (hb : QE X b tb) (hm : behindInMarks op b = false) : QE X (.Compare a [op] [b] pos) (tOp r ta tb) := ⟨pe_cmpR ho.r ha.r hb.r hm⟩
theorem qt_cmpR {op : CmpOp} {r : R2} (ho : QOp X (compareOp op) r) (ha : QE X a ta) (hb : QE X b tb) (hm : behindInMarks op b = false) : QT X (.Compare a [op] [b] pos) (tTest (tOp r ta tb)) := ⟨pt_cmpR ho.r ha.r hb.r hm⟩
theorem qe_chain {op op' : CmpOp} {r r' : R2} (ho : QOp X (compareOp op) r) (ho' : QOp X (compareOp op') r') (ha : QE X a ta) (hb : QE X b tb) (hc : QE X c tc)
    (hm : lastMarks [op, op'] [b, c] = false := by with_unfolding_all rfl) : QE X (.Compare a [op, op'] [b, c] pos) (tChain r r' ta tb tc) := ⟨pe_chain ho.r ho'.r ha.r hb.r hc.r hm⟩
theorem qe_din (hu : X.A.units + 1 < cLine) (hi : QE X i ty) (ho : QE X o td) (h1 : behindInMarks .In o = false) : QE X (.Compare i [.In] [o] pos) (tDIn ty td) := ⟨pe_cmp (pc_din hu hi.r ho.r) h1⟩
theorem qt_din (hu : X.A.units + 1 < cLine) (hi : QE X i ty) (ho : QE X o td) (h1 : behindInMarks .In o = false) : QT X (.Compare i [.In] [o] pos) (tB (tDIn ty td)) := ⟨pt_cmp (pc_din hu hi.r ho.r) h1⟩
theorem qe_not (ha : QE X a ta) : QE X (.UnaryOp .Not a pos) (tNotV ta) := ⟨pe_not ha.r⟩
theorem qt_not (ha : QT X a tA) : QT X (.UnaryOp .Not a pos) (tNot tA) := ⟨pt_not ha.r⟩
theorem qe_one {op} {t : TE} (h : QE X a t) : QE X (.BoolOp op [a] pos) t := ⟨pe_one h.r⟩
theorem qe_and {b : Expr} {rest : List Expr} (ha : QE X a ta) (hb : QE X (.BoolOp .And (b :: rest) pos) tb) : QE X (.BoolOp .And (a :: b :: rest) pos) (tAndV ta tb) := ⟨pe_and ha.r hb.r⟩
theorem qw_and1 (ha : QT X a tA) : QW X (.BoolOp .And [a] pos) tA := ⟨pw_and1 ha.r⟩
theorem qw_or1 (ha : QT X a tA) : QW X (.BoolOp .Or [a] pos) tA := ⟨pw_or1 ha.r⟩
theorem qw_and {b : Expr} {rest : List Expr} (ha : QT X a tA) (hb : QW X (.BoolOp .And (b :: rest) pos) tB') : QW X (.BoolOp .And (a :: b :: rest) pos) (tAnd tA tB') := ⟨pw_and ha.r hb.r⟩
theorem qw_or {b : Expr} {rest : List Expr} (ha : QT X a tA) (hb : QW X (.BoolOp .Or (b :: rest) pos) tB') : QW X (.BoolOp .Or (a :: b :: rest) pos) (tOr tA tB') := ⟨pw_or ha.r hb.r⟩
theorem QW.t {t : TT} (h : QW X e t) : QT X e t := ⟨PW.pt h.r⟩
theorem qe_ifExp {c : Expr} (hc : QT X c tA) (ha : QE X a ta) (hb : QE X b tb) : QE X (.IfExp c a b pos) (tIf tA ta tb) := ⟨pe_ifExp hc.r ha.r hb.r⟩
theorem qt_val {e : Expr} {t : TE} (h : QE X e t) (he : ∀ whole, isTrue e X.env whole = (do let v ← whole; standAt e.pos; holding [v] (truthy v)) := by intro _; rfl) : QT X e (tB t) := ⟨pt_val h.r he⟩
noncomputable def tTruth (K : PySem.W.Frag) (ta : TE) : TT := fun σ H Q => ta σ H fun x H' => ∃ k, TruV K x H' k ∧ Q k H'
theorem qt_truth {K : PySem.W.Frag} (ha : QE X a ta) (he : ∀ whole, isTrue a X.env whole = (do let v ← whole; standAt a.pos; holding [v] (truthy v))) (hK : X.K = K) : QT X a (tTruth K ta) := ⟨hK ▸ pt_truth ha.r he⟩
theorem qe_ix {r : R2} (hr : QIx X r) (ha : QE X a ta) (hb : QE X b tb) (hs : PlainIx b) : QE X (.Subscript a b pos) (tOp r ta tb) := ⟨pe_ix hr.r ha.r hb.r hs⟩
theorem qo_none : QO X none tNoPart := ⟨po_none⟩
theorem qo_some (h : QE X e te) : QO X (some e) (tPart te) := ⟨po_some h.r⟩
theorem qe_slL {K : PySem.W.Frag} {lo hi : Option Expr} (hK : X.K = K) (he : QE X e te) (hl : QO X lo tl) (hu : QO X hi th) : QE X (.Subscript e (.Slice lo hi none p2) pos) (tSl (rSlL K) te tl th) := ⟨hK ▸ pe_slice sl_list he.r hl.r hu.r⟩
theorem qe_slT {K : PySem.W.Frag} {lo hi : Option Expr} (hK : X.K = K) (he : QE X e te) (hl : QO X lo tl) (hu : QO X hi th) : QE X (.Subscript e (.Slice lo hi none p2) pos) (tSl (rSlT K) te tl th) := ⟨hK ▸ pe_slice sl_tup he.r hl.r hu.r⟩
theorem qe_lst (h : QA X es t) : QE X (.List es pos) (tLst t) := ⟨pe_lst h.r⟩
theorem qe_tup {x1} (h : QA X es t) : QE X (.Tuple es x1 pos) (tTup t) := ⟨pe_tup h.r⟩
theorem qa_nil : QA X [] tNil := ⟨pa_nil⟩
theorem qa_cons (ha : QE X e te) (hr : QA X es t) (hs : starEach (e :: es) X.env = (false, eval e X.env) :: starEach es X.env := by rfl) : QA X (e :: es) (tCons te t) := ⟨pa_cons ha.r hr.r hs⟩
theorem qe_dnewT : QE X (.Dict [] [] pos) tDNewT := ⟨pe_dnewT⟩
theorem qe_comp {tg elt iter : Expr} {ifs : List Expr} {scope : Scope} {pos : Pos} {N : List Str} {wi : TI} {g : TG} {tc : TT} {te : TE} (own : List Str) (caps : List Nat) (hc : X.calm = true)
    (hN : N = own ++ caps.map fun j => (X.N[j]?).getD (Str.ofString "")) (hok : blkOk X.env.scope X.N scope caps = true) (hkind : scope.kind = .function)
    (hi : QI X tg iter wi) (hg : ∀ cl s₃ H₃ ch, QG (cxBlk X N scope cl s₃ H₃ ch) tg g) (hifs : ∀ cl s₃ H₃ ch, QF (cxBlk X N scope cl s₃ H₃ ch) ifs tc) (he : ∀ cl s₃ H₃ ch, QE (cxBlk X N scope cl s₃ H₃ ch) elt te)
    (hs : ∀ x, foldedSetIterable iter X.env x = pure x := by intro _; rfl) : QE X (.ListComp elt [⟨tg, iter, ifs, 0⟩] scope pos) (tComp own.length caps wi g tc te) :=
  ⟨pe_comp own caps hc hN hok hkind hi.r (fun a b c d => (hg a b c d).r) (fun a b c d => (hifs a b c d).r) (fun a b c d => (he a b c d).r) hs⟩
theorem qf_nil : QF X [] tYes := ⟨pifs_nil⟩
theorem qe_call {CX : CXT} {k : Nat} {f : Addr} {fd : FuncData} {ps : List Str} {sp : Sp} {dvs : List V} {ds : List Value} {E : XK} {x : Str} {p pos : Pos} {e : Expr} {es : List Expr} {t : TA} (F : FnOk X.prog X.w X.K X.mg X.base CX k f fd ps sp) (hr : Room k X.A) (hg : Gl X x) (hm : X.mg x = some (.ref f)) (hk : PySem.W.keepIn X.K (.ref f) = true) (hb : Binds X.K fd ps ds) (hd : Vals dvs ds) (hx : Passes CX X E)
    (ha : QA X (e :: es) t) (hdb : (x == ("__debug__" : Str)) = false := by decide) (he : starEach (e :: es) X.env = (false, eval e X.env) :: starEach es X.env := by rfl) (hpl : (backTo pos (starEach es X.env)).any (·.1) = false := by rfl) :
    QE X (.Call (.Name x p) (e :: es) [] pos) (tCall sp dvs E t) := ⟨pe_call F hr hg hm hk hb hd hx ha.r hdb he hpl⟩
theorem qe_callB {id : String} {r : List V → Hp → VK → Prop} {x : Str} {p pos : Pos} {e : Expr} {es : List Expr} {t : TA} (hc : QCl X (.builtin id) r) (hg : Gl X x) (hm : X.mg x = none) (hv : bootBuiltins x = some (.builtin id)) (ha : QA X (e :: es) t) (hn : x ≠ "__name__" := by decide) (hdb : (x == ("__debug__" : Str)) = false := by decide)
    (he : starEach (e :: es) X.env = (false, eval e X.env) :: starEach es X.env := by rfl) (hpl : (backTo pos (starEach es X.env)).any (·.1) = false := by rfl) : QE X (.Call (.Name x p) (e :: es) [] pos) (tCB r t) := ⟨pe_callB hc.r hg hm hv ha.r hn hdb he hpl⟩
theorem qe_callTy {T : String} {r : List V → Hp → VK → Prop} {x : Str} {p pos : Pos} {e : Expr} {es : List Expr} {t : TA} (hc : QCl X (.type T) r) (hg : Gl X x) (hm : X.mg x = none) (hv : bootBuiltins x = some (.type T)) (ha : QA X (e :: es) t) (hn : x ≠ "__name__" := by decide) (hdb : (x == ("__debug__" : Str)) = false := by decide)
    (he : starEach (e :: es) X.env = (false, eval e X.env) :: starEach es X.env := by rfl) (hpl : (backTo pos (starEach es X.env)).any (·.1) = false := by rfl) : QE X (.Call (.Name x p) (e :: es) [] pos) (tCB r t) := ⟨pe_callTy hc.r hg hm hv ha.r hn hdb he hpl⟩
theorem qe_bm {K : PySem.W.Frag} {T : String} {name : Str} {id : String} {r : V → List V → Hp → VK → Prop} {o e : Expr} {es : List Expr} {to : TE} {t : TA} {apos cpos : Pos} (hK : X.K = K) (pa : PlainAttrs T) (slot : Slot T name id) (hty : typeOf (.builtin id) = pure (.type "method_descriptor")) (hm : MtR X id r) (ho : QE X o to) (ha : QA X (e :: es) t)
    (hbase : attributeBase o name X.env (eval o X.env) = eval o X.env := by rfl)
    (hfew : ((backTo cpos (starEach (e :: es) X.env)).all (fun x => !x.1) && (backToKw cpos (keywordEach [] X.env)).all (fun x => x.1.isSome)
      && decide ((e :: es).length + ([] : List Keyword).length + (if ([] : List Keyword).isEmpty then 0 else 1) < 30)) = true := by rfl)
    (hline : (apos.endLine == cpos.line) = true := by rfl) (hs : starEach (e :: es) X.env = (false, eval e X.env) :: starEach es X.env := by rfl) (hplain : (backTo cpos (starEach es X.env)).any (·.1) = false := by rfl) :
    QE X (.Call (.Attribute o name apos) (e :: es) [] cpos) (tBM K T r to t) := ⟨hK ▸ pe_bm pa slot hty hm ho.r ha.r hbase hfew hline hs hplain⟩
theorem qss_nil : QSs X [] tNext := ⟨pss_nil⟩
theorem qss_cons {st : Stmt} {rest : List Stmt} {t u : TS} (h1 : QS X st t) (h2 : QSs X rest u) : QSs X (st :: rest) (tSeq t u) := ⟨pss_cons h1.r h2.r⟩
theorem qss_one {st : Stmt} {t : TS} (h1 : QS X st t) : QSs X [st] t := ⟨pss_one h1.r⟩
theorem qs_expr {e : Expr} {te : TE} {pos : Pos} (he : QE X e te) (hs : swapsWith e none pos.line X.env = pure false := by rfl) : QS X (.Expr e pos) (tDrop te) := ⟨ps_expr he.r hs⟩
theorem qs_ret {te : TE} (he : QE X e te) : QS X (.Return (some e) pos) (tRet te) := ⟨ps_ret he.r⟩
theorem qs_if {c : Expr} {a b : List Stmt} {tc : TT} {t u : TS} (hc : QT X c tc) (ha : QSs X a t) (hb : QSs X b u) : QS X (.If c a b pos) (tIfS tc t u) := ⟨ps_if hc.r ha.r hb.r⟩
theorem qg_name {i : Nat} {x : Str} {pos : Pos} (hN : X.N.Nodup) (hi : X.N[i]? = some x) (hx : Loc X.env.scope x) (hf : X.fn x = true ∨ X.env.scope.names.lookup x = some .local := by first | exact .inl rfl | exact .inr rfl | assumption) : QG X (.Name x pos) (gName i) := ⟨pg_name hN hi hx hf⟩
theorem qgs_nil : QGs X [] gNil := ⟨pgs_nil⟩
theorem qgs_cons {e : Expr} {es : List Expr} {t : TG} {u : TGs} (h1 : QG X e t) (h2 : QGs X es u) (hs : (assignEach (e :: es) X.env).map (·.2) = assign e X.env :: (assignEach es X.env).map (·.2) := by rfl) : QGs X (e :: es) (gCons t u) := ⟨pgs_cons h1.r h2.r hs⟩
theorem qg_tup {K : PySem.W.Frag} {es : List Expr} {k : Nat} {t : TGs} {n : Nat} {pos : Pos} (hK : X.K = K) (hc : X.calm = true) (h : QGs X es t) (hn : (assignEach es X.env).length = n := by rfl) (hst : (assignEach es X.env).findIdx? (·.1) = none := by rfl) : QG X (.Tuple es k pos) (gTup K n t) := ⟨hK ▸ pg_tup hc h.r hn hst⟩
theorem qs_set {i : Nat} {x : Str} {e : Expr} {te : TE} {pos pos' : Pos} (hN : X.N.Nodup) (hi : X.N[i]? = some x) (hx : Loc X.env.scope x) (he : QE X e te) (hs : swapsWith e (some (.Name x pos')) pos.line X.env = pure false := by rfl) (hf : X.fn x = true ∨ X.env.scope.names.lookup x = some .local := by first | exact .inl rfl | exact .inr rfl | assumption) :
    QS X (.Assign [.Name x pos'] e pos) (tAsg te (gName i)) := ⟨ps_set hN hi hx he.r hs hf⟩
theorem qs_dput {o i value : Expr} {td ty tv : TE} {pos pos' : Pos} (hu : X.A.units + 1 < cLine) (ho : QE X o td) (hi : QE X i ty) (hv : QE X value tv) (hs : swapsWith value (some (.Subscript o i pos')) pos.line X.env = pure false) : QS X (.Assign [.Subscript o i pos'] value pos) (sDPut td ty tv) := ⟨ps_dput hu ho.r hi.r hv.r hs⟩
theorem qs_for {tg iter : Expr} {body : List Stmt} {wi : TI} {g : TG} {tb : TS} {pos : Pos} (hp : PassesOwn (model X.prog X.w) X.A X.env X.xe) (hc : X.calm = true) (hi : QI X tg iter wi) (hg : QG X tg g) (hb : QSs X body tb)
    (hs : ∀ x, foldedSetIterable iter X.env x = pure x := by intro _; rfl) : QS X (.For tg iter body [] pos) (tFor wi g tb) := ⟨ps_for hp hc hi.r hg.r hb.r hs⟩
theorem qi_list {K : PySem.W.Frag} {tg l : Expr} {tl : TE} (hK : X.K = K) (hl : QE X l tl) : QI X tg l (iList K tl) := ⟨hK ▸ pi_list hl.r⟩
theorem qi_tup {K : PySem.W.Frag} {tg l : Expr} {tl : TE} (hK : X.K = K) (hl : QE X l tl) : QI X tg l (iTup K tl) := ⟨hK ▸ pi_tup hl.r⟩
theorem qi_range1 {tg a : Expr} {ta : TA} {p pos : Pos} (hg : Gl X "range") (hm : X.mg "range" = none) (ha : QA X [a] ta) (hs : starEach [a] X.env = [(false, eval a X.env)] := by rfl) : QI X tg (.Call (.Name "range" p) [a] [] pos) (iRng1 ta) := ⟨pi_range1 hg hm ha.r hs⟩
theorem qi_range2 {tg a b : Expr} {ta : TA} {p pos : Pos} (hg : Gl X "range") (hm : X.mg "range" = none) (ha : QA X [a, b] ta) (hs : starEach [a, b] X.env = [(false, eval a X.env), (false, eval b X.env)] := by rfl) (hs2 : starEach [b] X.env = [(false, eval b X.env)] := by rfl) :
    QI X tg (.Call (.Name "range" p) [a, b] [] pos) (iRng2 ta) := ⟨pi_range2 hg hm ha.r hs hs2⟩
theorem qi_range3 {tg a b c : Expr} {ta : TA} {p pos : Pos} (hg : Gl X "range") (hm : X.mg "range" = none) (ha : QA X [a, b, c] ta) (hs : starEach [a, b, c] X.env = [(false, eval a X.env), (false, eval b X.env), (false, eval c X.env)] := by rfl)
    (hs2 : starEach [b, c] X.env = [(false, eval b X.env), (false, eval c X.env)] := by rfl) : QI X tg (.Call (.Name "range" p) [a, b, c] [] pos) (iRng3 ta) := ⟨pi_range3 hg hm ha.r hs hs2⟩
theorem qo_add : QOp X (binaryOp .Add) (rI0 fun i j => .int (i + j)) := ⟨op_add⟩
theorem qo_sub : QOp X (binaryOp .Sub) (rI0 fun i j => .int (i - j)) := ⟨op_sub⟩
theorem qo_mul : QOp X (binaryOp .Mult) (rI CMul fun i j => .int (i * j)) := ⟨op_mul⟩
theorem qo_fdiv : QOp X (binaryOp .FloorDiv) (rI CDiv fun i j => .int (i / j)) := ⟨op_fdiv⟩
theorem qo_mod : QOp X (binaryOp .Mod) (rI (fun _ j => 0 < j) fun i j => .int (i % j)) := ⟨op_mod⟩
theorem qo_catG : QOp X (binaryOp .Add) rCatG := ⟨op_catG⟩
noncomputable def rAddS : R2 := fun x y H Q => ∃ i j, x = .str i ∧ y = .str j ∧ i.length + j.length ≤ sizeLine ∧ Q (.str (i ++ j)) H
theorem qo_add_str : QOp X (binaryOp .Add) rAddS := ⟨op_add_str⟩
theorem qo_lt : QOp X (compareOp .Lt) (rI0 fun i j => .bl (decide (i < j))) := ⟨op_lt⟩
theorem qo_le : QOp X (compareOp .LtE) (rI0 fun i j => .bl (decide (i ≤ j))) := ⟨op_le⟩
theorem qo_gt : QOp X (compareOp .Gt) (rI0 fun i j => .bl (decide (j < i))) := ⟨op_gt⟩
theorem qo_eq : QOp X (compareOp .Eq) rEq := ⟨op_eq⟩
theorem qo_ne : QOp X (compareOp .NotEq) rNe := ⟨op_ne⟩
noncomputable def rIsN (neg : Bool) : R2 := fun x y H Q => y = .non ∧ Q (.bl (if neg then !decide (x = .non) else decide (x = .non))) H
theorem qo_isN : QOp X (compareOp .Is) (rIsN false) := ⟨op_isN⟩
theorem qo_in {K : PySem.W.Frag} (h : X.K = K) : QOp X (compareOp .In) (rIn K false) := ⟨h ▸ op_in_seq⟩
theorem qx_list {K : PySem.W.Frag} (h : X.K = K) : QIx X (rIxL K) := ⟨ix_listK h⟩
theorem qx_tup {K : PySem.W.Frag} (h : X.K = K) : QIx X (rIxT K) := ⟨ix_tupK h⟩
theorem qx_str : QIx X rIxS := ⟨ix_str⟩
theorem qx_top {K : PySem.W.Frag} {w : World} (h : X.K = K) (hw : X.w = w) : QIx X (rIxTop K w) := ⟨by subst h hw; exact ix_top⟩
noncomputable def rLen (K : PySem.W.Frag) : List V → Hp → VK → Prop := fun xs H Q => ∃ p ys, xs = [.ref p] ∧ (SqL K H p ys ∨ SqT K H p ys) ∧ Q (.int ys.length) H
theorem qc_len {K : PySem.W.Frag} (h : X.K = K) : QCl X (.builtin "len") (rLen K) := ⟨h ▸ call_len_seq⟩
theorem qc_isI {K : PySem.W.Frag} (h : X.K = K) : QCl X (.builtin "isinstance") (rIsI K) := ⟨h ▸ call_isI⟩
noncomputable def rAllB (K : PySem.W.Frag) : List V → Hp → VK → Prop := fun xs H Q => ∃ (p : Addr) (bs : List Bool), xs = [.ref p] ∧ SqL K H p (bs.map V.bl) ∧ Q (.bl (bs.all id)) H
theorem qc_all {K : PySem.W.Frag} (h : X.K = K) (hc : X.calm = true) : QCl X (.builtin "all") (rAllB K) := ⟨h ▸ call_allB hc⟩
noncomputable def rListOf (K : PySem.W.Frag) : List V → Hp → VK → Prop := fun xs H Q => ∃ p ys, xs = [.ref p] ∧ (SqL K H p ys ∨ SqT K H p ys) ∧ ∀ l, H l = none → Q (.ref l) (upd H l (.lst ys))
theorem qc_list {K : PySem.W.Frag} (h : X.K = K) : QCl X (.type "list") (rListOf K) := ⟨h ▸ call_list_of⟩
noncomputable def rTupOf (K : PySem.W.Frag) : List V → Hp → VK → Prop := fun xs H Q => ∃ p ys, xs = [.ref p] ∧ ((SqL K H p ys ∧ ∀ l, H l = none → Q (.ref l) (upd H l (.tup ys))) ∨ (SqT K H p ys ∧ Q (.ref p) H))
theorem qc_tuple {K : PySem.W.Frag} (h : X.K = K) : QCl X (.type "tuple") (rTupOf K) := ⟨h ▸ call_tuple_of⟩
noncomputable def rInt1 : List V → Hp → VK → Prop := fun xs H Q => (∃ i, xs = [.int i] ∧ Q (.int i) H) ∨ ∃ k, xs = [.bl k] ∧ Q (.int (if k then 1 else 0)) H
theorem qc_int : QCl X (.type "int") rInt1 := ⟨call_int1⟩
noncomputable def rAbs : List V → Hp → VK → Prop := fun xs H Q => ∃ i, xs = [.int i] ∧ Q (.int (if i < 0 then -i else i)) H
theorem qc_abs : QCl X (.builtin "abs") rAbs := ⟨call_abs⟩
end
section
variable {σ : St} {H : Hp} {Q : VK} {D : Ends} {K : PySem.W.Frag}
theorem rd_lenL {p : Addr} {ys : List V} (h : SqL K H p ys) (q : Q (.int ys.length) H) : rLen K [.ref p] H Q := ⟨p, ys, rfl, .inl h, q⟩
theorem rd_listL {p : Addr} {ys : List V} (h : SqL K H p ys) (q : ∀ l, H l = none → Q (.ref l) (upd H l (.lst ys))) : rListOf K [.ref p] H Q := ⟨p, ys, rfl, .inl h, q⟩
theorem rd_tupL {p : Addr} {ys : List V} (h : SqL K H p ys) (q : ∀ l, H l = none → Q (.ref l) (upd H l (.tup ys))) : rTupOf K [.ref p] H Q := ⟨p, ys, rfl, .inl ⟨h, q⟩⟩
theorem rd_intB {k : Bool} (h : Q (.int (if k then 1 else 0)) H) : rInt1 [.bl k] H Q := .inr ⟨k, rfl, h⟩
theorem rd_abs {i : Int} (h : Q (.int (if i < 0 then -i else i)) H) : rAbs [.int i] H Q := ⟨i, rfl, h⟩
theorem rd_isII {i : Int} (h : Q (.bl true) H) : rIsI K [.int i, .ty "int"] H Q := ⟨_, _, _, _, rfl, .int i, kit_int_int K, h⟩
theorem rd_isIB {i : Int} (h : Q (.bl false) H) : rIsI K [.int i, .ty "bool"] H Q := ⟨_, _, _, _, rfl, .int i, kit_int_bool K, h⟩
theorem rd_isTT {a : Addr} {xs : List V} (e : H a = some (.tup xs)) (h : Q (.bl true) H) : rIsI K [.ref a, .ty "tuple"] H Q := ⟨_, _, _, _, rfl, .tup e, kit_tuple_tuple K, h⟩
theorem rd_isLL {a : Addr} {xs : List V} (e : H a = some (.lst xs)) (h : Q (.bl true) H) : rIsI K [.ref a, .ty "list"] H Q := ⟨_, _, _, _, rfl, .lst e, kit_list_list K, h⟩
theorem rd_slT {p : Addr} {xs : List V} {lo hi : Option Int} (h : SqT K H p xs) (c : ¬ (HT.sIx xs.length 0 lo = 0 ∧ HT.sIx xs.length xs.length hi = xs.length)) (q : ∀ l, H l = none → Q (.ref l) (upd H l (.tup (cutV xs lo hi)))) : rSlT K (.ref p) lo hi H Q := ⟨p, xs, rfl, h, c, q⟩
theorem rd_catG {a b : Addr} {xs ys : List V} (h1 : H a = some (.tup xs)) (h2 : H b = some (.tup ys)) (z : xs.length + ys.length ≤ sizeLine) (q : ∀ p H', Same H H' → H' p = some (.tup (xs ++ ys)) → Q (.ref p) H') : rCatG (.ref a) (.ref b) H Q := ⟨a, b, xs, ys, rfl, rfl, h1, h2, z, q⟩
noncomputable abbrev ForGo (J : It) (g : TG) (tb : TS) (D : Ends) (σ : St) (H : Hp) : Prop := ∃ W : Nat → Nat → St → Hp → Prop, (∃ m, W 0 m σ H) ∧ ∀ i m σ H, W i m σ H →
      (J.stop i H ∧ D.nx σ H) ∨ (J.go i H ∧ ∃ N : St → Hp → Prop, (∀ σ' H', N σ' H' → ∃ m', m' < m ∧ W (i + 1) m' σ' H') ∧ ∀ x H', J.yld i H x H' → g x σ H' fun σ2 H2 => tb { D with nx := N, ct := N, bk := D.nx } σ2 H2)
theorem rd_for {wi : TI} {g : TG} {tb : TS} (h : wi σ H fun J H1 => ForGo J g tb D σ H1) : tFor wi g tb D σ H := h
theorem rd_comp {n : Nat} {caps : List Nat} {wi : TI} {g : TG} {tc : TT} {te : TE} (h : wi σ H fun J H1 => ∀ acc, H1 acc = none → CompGo acc Q g tc te J (blockSt n caps σ) (upd H1 acc (.lst []))) : tComp n caps wi g tc te σ H Q := h
theorem rd_ilist {tl : TE} {R : It → Hp → Prop} (h : tl σ H fun x H1 => ∃ a, x = .ref a ∧ (∃ xs, SqL K H1 a xs) ∧ R (Itl K a) H1) : iList K tl σ H R := h
theorem rd_itup {tl : TE} {R : It → Hp → Prop} (h : tl σ H fun x H1 => ∃ a, x = .ref a ∧ (∃ xs, SqT K H1 a xs) ∧ R (Itt K a) H1) : iTup K tl σ H R := h
theorem rd_il {p : Addr} {xs : List V} {R : Addr → Prop} (h : SqL K H p xs) (q : R p) : ∃ a, V.ref p = .ref a ∧ (∃ xs, SqL K H a xs) ∧ R a := ⟨p, rfl, ⟨xs, h⟩, q⟩
theorem rd_it {p : Addr} {xs : List V} {R : Addr → Prop} (h : SqT K H p xs) (q : R p) : ∃ a, V.ref p = .ref a ∧ (∃ xs, SqT K H a xs) ∧ R a := ⟨p, rfl, ⟨xs, h⟩, q⟩
theorem rd_irng1 {ta : TA} {R : It → Hp → Prop} (h : ta σ H fun vs H1 => ∃ j : Int, vs = [.int j] ∧ -(2 ^ 62) ≤ j ∧ j < 2 ^ 62 ∧ R (Itr 0 j.toNat) H1) : iRng1 ta σ H R := h
theorem rd_ir1 {j : Int} {R : Int → Prop} (h1 : -(2 ^ 62) ≤ j) (h2 : j < 2 ^ 62) (q : R j) : ∃ k : Int, [V.int j] = [.int k] ∧ -(2 ^ 62) ≤ k ∧ k < 2 ^ 62 ∧ R k := ⟨j, rfl, h1, h2, q⟩
theorem rd_irng2 {ta : TA} {R : It → Hp → Prop} (h : ta σ H fun vs H1 => ∃ i j : Int, vs = [.int i, .int j] ∧ (-(2 ^ 62) ≤ i ∧ i < 2 ^ 62 ∧ -(2 ^ 62) ≤ j ∧ j < 2 ^ 62) ∧ R (Itr i (j - i).toNat) H1) : iRng2 ta σ H R := h
theorem rd_ir2 {i j : Int} {R : Int → Int → Prop} (h : -(2 ^ 62) ≤ i ∧ i < 2 ^ 62 ∧ -(2 ^ 62) ≤ j ∧ j < 2 ^ 62) (q : R i j) : ∃ i' j' : Int, [V.int i, V.int j] = [.int i', .int j'] ∧ (-(2 ^ 62) ≤ i' ∧ i' < 2 ^ 62 ∧ -(2 ^ 62) ≤ j' ∧ j' < 2 ^ 62) ∧ R i' j' := ⟨i, j, rfl, h, q⟩
theorem rd_irng3 {ta : TA} {R : It → Hp → Prop} (h : ta σ H fun vs H1 => ∃ (i j k : Int) (n : Nat), vs = [.int i, .int j, .int k] ∧ (k ≠ 0 ∧ k.natAbs < 1073741824 ∧ Builtin.Range.small i j k = true ∧ Builtin.Range.rangeSize i j k = (n : Int)) ∧ R (Itrs i k n) H1) : iRng3 ta σ H R := h
end
section
variable {σ : St} {H : Hp} {Q : VK} {D : Ends} {K : PySem.W.Frag}
theorem rd_ixLn {n : Nat} {p : Addr} {xs : List V} {v : V} (h : SqL K H p xs) (e : atI xs (@OfNat.ofNat Int n instOfNat) = some v) (q : Q v H) : rIxL K (.ref p) (.int (@OfNat.ofNat Int n instOfNat)) H Q := rd_ixL h e q
theorem rd_ixTn {n : Nat} {p : Addr} {xs : List V} {v : V} (h : SqT K H p xs) (e : atI xs (@OfNat.ofNat Int n instOfNat) = some v) (q : Q v H) : rIxT K (.ref p) (.int (@OfNat.ofNat Int n instOfNat)) H Q := rd_ixT h e q
theorem rd_str {z : Str} {i : Int} {c : Nat} (l : z.length ≤ sizeLine) (e : atI z.cps.toList i = some c) (q : Q (.str ⟨#[c]⟩) H) : rIxS (.str z) (.int i) H Q := ⟨z, i, c, rfl, rfl, l, e, q⟩
end
theorem Fun.okQ {P : Program} {w : World} {K : PySem.W.Frag} {mg : Str → Option Value} {base : Heap} {x qual : Str} {st : Stmt} {f : Addr} {fd : FuncData} {N ps : List Str} {k : Nat} {sp : Sp} (F : Fun K x qual st f fd) (S : FnScope N ps (defScope st)) (len : ∀ vs H Q E, sp vs H Q E → vs.length = ps.length)
    (hbody : ∀ (cdv : Value) (A : Around) (outer : List Env) (s : Shared) (H : Hp) (vs : List V) (Q : VK) (E : XK), Room k (A.deeper (envOfC qual (defScope st) s.heap.objs.size f cdv)) → sp vs H Q E →
      ∃ t, QSs (cxOf CX0 P w K mg base N qual (defScope st) f cdv A outer s H E).nox (defBody st) t ∧ t { nx := fun _ H' => Q .non H', rt := Q } (start N vs) H) : FnOk P w K mg base CX0 (k + 1) f fd ps sp :=
  F.ok S len fun cdv A outer s H vs Q E hr h => let ⟨t, a, b⟩ := hbody cdv A outer s H vs Q E hr h; ⟨t, a.r, b⟩
end L2
set_option Elab.async false
set_option linter.all false
set_option maxRecDepth 100000
set_option maxHeartbeats 4000000
namespace Pc
open PySem L2 Srt
theorem int_mk {K : PySem.W.Frag} {h : Heap} {mg : Str → Option Value} {x : Str} {n : Int} {t : Tok} (X : K.In h) (G : h.Ns mainGlobals mg) (m : PySem.W.nsIn K mainGlobals x = some (some (.int n t))) : ∃ t, mg x = some (.int n t) := ⟨t, PySem.W.mg_of X G m⟩
theorem str_mk {K : PySem.W.Frag} {h : Heap} {mg : Str → Option Value} {x : Str} {n : Str} {t : Tok} (X : K.In h) (G : h.Ns mainGlobals mg) (m : PySem.W.nsIn K mainGlobals x = some (some (.str n t))) : ∃ t, mg x = some (.str n t) := ⟨t, PySem.W.mg_of X G m⟩
noncomputable def spAlong (K : PySem.W.Frag) : Sp := fun vs H Q _ => ∃ (a : Addr) (ax : Ax) (c : C3), vs = [.ref a, .str ax.s] ∧ SqT K H a c.v ∧ Q (.int (ax.at c)) H
noncomputable def spWhole : Sp := fun vs H Q _ => ∃ x, vs = [x] ∧ smp x = true ∧ Q (.bl (whole x)) H
noncomputable def spNear : Sp := fun vs H Q _ => ∃ x, vs = [x] ∧ smp x = true ∧ Q (.bl (nearV x)) H
noncomputable def spCell (K : PySem.W.Frag) : Sp := fun vs H Q _ => ∃ x, vs = [x] ∧ ((∃ (a : Addr) (xs : List V), x = .ref a ∧ H a = some (.tup xs) ∧ xs.all smp = true ∧ xs.length ≤ 4 ∧ ∀ H', Same H H' → Q (.bl (decide (xs.length = 3) && xs.all nearV)) H') ∨ (NoTup K H x ∧ Q (.bl false) H))
noncomputable def Made (H : Hp) (p : Addr) (ps : Prs) : Prop := H p = some (.lst (refs ps)) ∧ ∀ q ∈ ps, H q.1 = some (.tup (q.2.map V.int))
noncomputable def spCellAt (K : PySem.W.Frag) : Sp := fun vs H Q _ => ∃ (a : Addr) (ns : List Int) (k : Int), vs = [.ref a, .int k] ∧ SqL K H a (ns.map V.int) ∧ 0 ≤ k ∧ ∀ n : Int, Q (.int n) H
end Pc
set_option Elab.async false
set_option linter.all false
set_option maxRecDepth 100000
set_option maxHeartbeats 4000000
namespace Tim
open PySem PyProof.Rows
section
variable {prog : Program} {w : World} {A : Around} {E : Value → Shared → Prop} {s : Shared}
end
end Tim
set_option Elab.async false
set_option linter.all false
set_option maxRecDepth 100000
set_option maxHeartbeats 4000000
namespace Tim
open PySem PyProof.Rows
section lists
variable {α : Type} {R : α → α → Prop}
end lists
structure Cmp {κ : Type} (lt : κ → κ → Bool) (k : Keyed → κ) (S : Keyed → Prop) (kind : SortKind) (prog : Program) (w : World) (A : Around) (s : Shared) : Prop where
  ord : Srt.Ordr lt
  ask : ∀ x y : Keyed, S x → S y → ∀ {Q : Bool → Shared → Prop} {E : Value → Shared → Prop}, Q (lt (k x) (k y)) s → wpAny (model prog w) A (keyLt' kind x.1 y.1) Q E s
section
variable {κ : Type} {lt : κ → κ → Bool} {k : Keyed → κ} {S : Keyed → Prop} {kind : SortKind} {prog : Program} {w : World} {A : Around} {E : Value → Shared → Prop} {s : Shared}
noncomputable def Le (lt : κ → κ → Bool) (k : Keyed → κ) (x y : Keyed) : Prop := lt (k y) (k x) = false
structure Fine (kind : SortKind) (st : SortSt) : Prop where
  kd : kindOf st = kind
  fl : failedOf st = none
theorem wpS_lt {x y : Keyed} {st : SortSt} {Q : Option Bool → SortSt → Prop} (C : Cmp lt k S kind prog w A s) (F : Fine kind st) (hx : S x) (hy : S y) (h : Q (some (lt (k x) (k y))) st) : wpS (model prog w) A E s (lt' x y) Q st := by
  rw [lt'_eq]
  refine wpS_bind (wpS_get ?_)
  rw [F.kd]
  refine wpS_bind (wpS_lift (wpAny_attempt (C.ask x y hx hy ⟨rfl, ?_⟩)))
  exact wpS_pure h
theorem wpS_elem {arr : Array Keyed} {i : Nat} {x : Keyed} {st : SortSt} {Q : Keyed → SortSt → Prop} (h : arr.toList[i]? = some x) (q : Q x st) : wpS (model prog w) A E s (elem' arr i) Q st := by
  rw [elem'_eq]
  rw [Array.getElem?_toList] at h
  rw [h]
  exact wpS_pure q
end
end Tim
set_option Elab.async false
set_option linter.all false
set_option maxRecDepth 100000
set_option maxHeartbeats 4000000
namespace Tim
open PySem PyProof.Rows
section
variable {κ : Type} {lt : κ → κ → Bool} {k : Keyed → κ} {S : Keyed → Prop} {kind : SortKind} {prog : Program} {w : World} {A : Around} {E : Value → Shared → Prop} {s : Shared}
end
end Tim
set_option Elab.async false
set_option linter.all false
set_option maxRecDepth 100000
set_option maxHeartbeats 4000000
namespace Tim
open PySem PyProof.Rows
section
variable {κ : Type} {lt : κ → κ → Bool} {k : Keyed → κ} {S : Keyed → Prop} {kind : SortKind} {prog : Program} {w : World} {A : Around} {E : Value → Shared → Prop} {s : Shared}
end
end Tim
set_option Elab.async false
set_option linter.all false
set_option maxRecDepth 100000
set_option maxHeartbeats 4000000
namespace Tim
open PySem PyProof.Rows
section
variable {κ : Type} {lt : κ → κ → Bool} {k : Keyed → κ} {S : Keyed → Prop} {kind : SortKind} {prog : Program} {w : World} {A : Around} {E : Value → Shared → Prop} {s : Shared}
noncomputable def kx (k : Keyed → κ) (xs : Array Keyed) (i : Nat) : κ := k ((xs[i]?).getD (Value.none, Value.none))
theorem kx_congr {xs ys : Array Keyed} {i j : Nat} (h : xs[i]? = ys[j]?) : kx k xs i = kx k ys j := by unfold kx; rw [h]
theorem kx_bub {xs : Array Keyed} {src d : Nat} (hs : src < xs.size) (hd : d ≤ src) (i : Nat) : kx k (bubble xs src d) i = if i = src - d then kx k xs src else if src - d < i ∧ i ≤ src then kx k xs (i - 1) else kx k xs i := by
  have e := getElem?_bubble hs d hd i
  by_cases h1 : i = src - d
  · rw [if_pos h1] at e ⊢; exact kx_congr e
  · rw [if_neg h1] at e ⊢
    by_cases h2 : src - d < i ∧ i ≤ src
    · rw [if_pos h2] at e ⊢; exact kx_congr e
    · rw [if_neg h2] at e ⊢; exact kx_congr e
theorem kx_rev {xs : Array Keyed} {i j : Nat} (hj : j ≤ xs.size) (q : Nat) : kx k (mirror xs i j ((j - i) / 2)) q = if i ≤ q ∧ q < j then kx k xs (i + j - 1 - q) else kx k xs q := by
  have e := getElem?_mirror_all (i := i) hj q
  by_cases h1 : i ≤ q ∧ q < j
  · rw [if_pos h1] at e ⊢; exact kx_congr e
  · rw [if_neg h1] at e ⊢; exact kx_congr e
theorem kx_rev_eq {xs : Array Keyed} {i j : Nat} (hj : j ≤ xs.size) (he : ∀ q, i ≤ q → q < j → kx k xs q = kx k xs (j - 1)) (q : Nat) : kx k (mirror xs i j ((j - i) / 2)) q = kx k xs q := by
  rw [kx_rev hj]
  split
  · rename_i h
    rw [he (i + j - 1 - q) (by lia) (by lia), he q h.1 h.2]
  · rfl
noncomputable def UpK (lt : κ → κ → Bool) (k : Keyed → κ) (xs : Array Keyed) (lo n : Nat) : Prop := ∀ i j, i ≤ j → j < n → lt (kx k xs (lo + j)) (kx k xs (lo + i)) = false
noncomputable def DnK (lt : κ → κ → Bool) (k : Keyed → κ) (xs : Array Keyed) (lo n : Nat) : Prop := ∀ i j, i ≤ j → j < n → lt (kx k xs (lo + i)) (kx k xs (lo + j)) = false
structure StA (kind : SortKind) (lo n : Nat) (st st' : SortSt) : Prop where
  pd : pendingOf st' = pendingOf st
  fine : Fine kind st'
  perm : (arrOf st').Perm (arrOf st)
  out : ∀ i, i < lo ∨ lo + n ≤ i → (arrOf st')[i]? = (arrOf st)[i]?
theorem StA.refl {lo n : Nat} {st : SortSt} (F : Fine kind st) : StA kind lo n st st := ⟨rfl, F, Array.Perm.refl _, fun _ _ => rfl⟩
theorem StA.trans {lo n : Nat} {st st1 st2 : SortSt} (h1 : StA kind lo n st st1) (h2 : StA kind lo n st1 st2) : StA kind lo n st st2 := ⟨h2.pd.trans h1.pd, h2.fine, h2.perm.trans h1.perm, fun i hi => (h2.out i hi).trans (h1.out i hi)⟩
theorem StA.size {lo n : Nat} {st st' : SortSt} (h : StA kind lo n st st') : (arrOf st').size = (arrOf st).size := h.perm.size_eq
noncomputable def AllS (S : Keyed → Prop) (st : SortSt) : Prop := ∀ x ∈ (arrOf st).toList, S x
theorem StA.all {lo n : Nat} {st st' : SortSt} (h : StA kind lo n st st') (hS : AllS S st) : AllS S st' := fun x hx => hS x ((Array.perm_iff_toList_perm.mp h.perm).mem_iff.mp hx)
theorem StA.set {lo n : Nat} {st : SortSt} {xs : Array Keyed} (F : Fine kind st) (hp : xs.Perm (arrOf st)) (ho : ∀ i, i < lo ∨ lo + n ≤ i → xs[i]? = (arrOf st)[i]?) : StA kind lo n st (setArr st xs) := ⟨rfl, ⟨F.kd, F.fl⟩, hp, ho⟩
theorem wpS_at {st : SortSt} {i j : Nat} {Q : Option Bool → SortSt → Prop} (C : Cmp lt k S kind prog w A s) (F : Fine kind st) (hS : AllS S st) (hi : i < (arrOf st).size) (hj : j < (arrOf st).size) (h : Q (some (lt (kx k (arrOf st) i) (kx k (arrOf st) j))) st) : wpS (model prog w) A E s (ltAt' i j) Q st := by
  have ei : (arrOf st).toList[i]? = some (arrOf st)[i] := by rw [Array.getElem?_toList, Array.getElem?_eq_getElem hi]
  have ej : (arrOf st).toList[j]? = some (arrOf st)[j] := by rw [Array.getElem?_toList, Array.getElem?_eq_getElem hj]
  have ki : kx k (arrOf st) i = k (arrOf st)[i] := by unfold kx; rw [Array.getElem?_eq_getElem hi]; rfl
  have kj : kx k (arrOf st) j = k (arrOf st)[j] := by unfold kx; rw [Array.getElem?_eq_getElem hj]; rfl
  rw [ki, kj] at h
  rw [ltAt'_eq]
  refine wpS_bind (wpS_get ?_)
  exact wpS_bind (wpS_elem ei (wpS_bind (wpS_elem ej (wpS_lt C F (hS _ (by simp)) (hS _ (by simp)) h))))
theorem wpS_binary {st : SortSt} {lo n ok : Nat} {Q : Bool → SortSt → Prop} (C : Cmp lt k S kind prog w A s) (F : Fine kind st) (hS : AllS S st) (hn : lo + n ≤ (arrOf st).size) (hok : ok ≤ n) (hs : UpK lt k (arrOf st) lo ok)
    (h : ∀ st', StA kind lo n st st' → UpK lt k (arrOf st') lo n → Q true st') : wpS (model prog w) A E s (binarySort' lo n ok) Q st := by
  have O := C.ord
  rw [binarySort'_eq]
  refine wpS_bind (wpS_mono (wpS_forRange (I := fun q c st' => c = (none, ()) ∧ StA kind lo n st st' ∧ UpK lt k (arrOf st') lo (min q n))
    (Q := fun c st' => c = (none, ()) ∧ StA kind lo n st st' ∧ UpK lt k (arrOf st') lo n) ?step ?fin ?init) ?post)
  case post =>
    rintro c st' ⟨rfl, hB', hs'⟩
    exact wpS_pure (h st' hB' hs')
  case init =>
    refine ⟨rfl, .refl F, fun i j hij hj => ?_⟩
    by_cases h1 : ok = 0
    · have : i = j := by lia
      subst this; exact O.rf _
    · exact hs i j hij (by lia)
  case fin =>
    rintro c st' ⟨hc, hB', hs'⟩
    refine ⟨hc, hB', ?_⟩
    rwa [show min (max (max ok 1) n) n = n by lia] at hs'
  case step =>
    rintro q c st' hak hkn ⟨rfl, hB', hs'⟩
    rw [show min q n = q by lia] at hs'
    have hsz := hB'.size
    have hS' := hB'.all hS
    refine wpS_bind (wpS_mono (wpS_forRange (I := fun x c st'' => st'' = st' ∧ ∃ l r, c = (none, l, r) ∧ l ≤ r ∧ r ≤ q ∧ r - l ≤ q - x ∧
        (∀ i, i < l → lt (kx k (arrOf st') (lo + q)) (kx k (arrOf st') (lo + i)) = false) ∧ (∀ i, r ≤ i → i < q → lt (kx k (arrOf st') (lo + q)) (kx k (arrOf st') (lo + i)) = true))
      (Q := fun c st'' => st'' = st' ∧ ∃ l r, c = (none, l, r) ∧ l ≤ q ∧
        (∀ i, i < l → lt (kx k (arrOf st') (lo + q)) (kx k (arrOf st') (lo + i)) = false) ∧ (∀ i, l ≤ i → i < q → lt (kx k (arrOf st') (lo + q)) (kx k (arrOf st') (lo + i)) = true)) ?istep ?ifin ?iinit) ?ipost)
    case iinit => exact ⟨rfl, 0, q, rfl, by lia, by lia, by lia, fun i hi => by lia, fun i h1 h2 => by lia⟩
    case ifin =>
      rintro c st'' ⟨rfl, l, r, rfl, hlr, hrk, hm, hlo, hhi⟩
      have : l = r := by lia
      subst this
      exact ⟨rfl, l, l, rfl, hrk, hlo, hhi⟩
    case istep =>
      rintro x c st'' _ hxk ⟨rfl, l, r, rfl, hlr, hrk, hm, hlo, hhi⟩
      dsimp only
      by_cases hge : l ≥ r
      · rw [if_pos hge]
        have : l = r := by lia
        subst this
        exact wpS_pure ⟨rfl, l, l, rfl, hrk, hlo, hhi⟩
      · rw [if_neg hge]
        refine wpS_bind (wpS_at C hB'.fine hS' (by lia) (by lia) ?_)
        cases hless : lt (kx k (arrOf st'') (lo + q)) (kx k (arrOf st'') (lo + (l + r) / 2))
        case true =>
          simp only [if_true]
          refine wpS_pure ⟨rfl, l, (l + r) / 2, rfl, by lia, by lia, by lia, hlo, fun i h1 h2 => ?_⟩
          exact O.lt_le hless (hs' _ _ h1 h2)
        case false =>
          simp only [Bool.false_eq_true, if_false]
          refine wpS_pure ⟨rfl, (l + r) / 2 + 1, r, rfl, by lia, by omega, by lia, fun i h1 => ?_, hhi⟩
          exact O.tr _ _ _ (hs' i ((l + r) / 2) (by lia) (by lia)) hless
    case ipost =>
      rintro c st'' ⟨rfl, l, r, rfl, hlk, hlo, hhi⟩
      show wpS _ _ _ _ (do moveDown' (lo + q) (lo + l); pure (ForInStep.yield (none, ()))) _ _
      rw [moveDown'_eq]
      have hks : lo + q < (arrOf st'').size := by lia
      have hb := fun i => getElem?_bubble hks (lo + q - (lo + l)) (by lia) i
      refine wpS_bind (wpS_modify (wpS_pure ⟨rfl, hB'.trans (.set hB'.fine (bubble_perm _ _ _) fun i hi => ?_), ?_⟩))
      · rw [hb i, if_neg (by lia), if_neg (by lia)]
      rw [show min (q + 1) n = q + 1 by lia]
      intro i j hij hj
      show lt (kx k (bubble (arrOf st'') (lo + q) (lo + q - (lo + l))) (lo + j)) (kx k (bubble (arrOf st'') (lo + q) (lo + q - (lo + l))) (lo + i)) = false
      rw [kx_bub hks (by lia), kx_bub hks (by lia), show lo + q - (lo + q - (lo + l)) = lo + l by lia]
      by_cases j1 : j = l
      · rw [if_pos (by lia)]
        by_cases i1 : i = l
        · rw [if_pos (by lia)]; exact O.rf _
        · rw [if_neg (by lia), if_neg (by lia)]; exact hlo i (by lia)
      · rw [if_neg (by lia)]
        by_cases j2 : l < j
        · rw [if_pos (by lia), show lo + j - 1 = lo + (j - 1) by lia]
          by_cases i1 : i = l
          · rw [if_pos (by lia)]; exact O.as _ _ (hhi (j - 1) (by lia) (by lia))
          · rw [if_neg (by lia)]
            by_cases i2 : l < i
            · rw [if_pos (by lia), show lo + i - 1 = lo + (i - 1) by lia]; exact hs' _ _ (by lia) (by lia)
            · rw [if_neg (by lia)]; exact hs' _ _ (by lia) (by lia)
        · rw [if_neg (by lia), if_neg (by lia), if_neg (by lia)]; exact hs' _ _ (by omega) (by lia)
theorem wpS_asc {st : SortSt} {lo x0 nrem : Nat} {Q : Option (Option Nat) × Nat → SortSt → Prop} (C : Cmp lt k S kind prog w A s) (F : Fine kind st) (hS : AllS S st) (hn : lo + nrem ≤ (arrOf st).size) (h0 : 1 ≤ x0) (h1 : x0 ≤ nrem) (hu : UpK lt k (arrOf st) lo x0)
    (h : ∀ n, x0 ≤ n → n ≤ nrem → UpK lt k (arrOf st) lo n → (n = nrem ∨ lt (kx k (arrOf st) (lo + n)) (kx k (arrOf st) (lo + n - 1)) = true) → Q (none, n) st) :
    wpS (model prog w) A E s (forIn [x0:nrem] ((none : Option (Option Nat)), x0) fun x (r : Option (Option Nat) × Nat) => do
      let __x ← ltAt' (lo + r.2) (lo + r.2 - 1)
      match __x with
      | some smaller => if smaller = true then pure (ForInStep.done (none, r.2)) else pure (ForInStep.yield (none, r.2 + 1))
      | x => pure (ForInStep.done (some none, r.2))) Q st := by
  have O := C.ord
  refine wpS_forRange (I := fun x c st' => st' = st ∧ c = (none, x) ∧ x0 ≤ x ∧ x ≤ nrem ∧ UpK lt k (arrOf st) lo x) ?step ?fin ⟨rfl, rfl, Nat.le_refl _, h1, hu⟩
  case fin =>
    rintro c st' ⟨rfl, rfl, a, b, u⟩
    rw [show max x0 nrem = nrem by lia] at u ⊢
    exact h nrem (by omega) (by lia) u (.inl rfl)
  case step =>
    rintro x c st' hx1 hx2 ⟨rfl, rfl, a, b, u⟩
    dsimp only
    refine wpS_bind (wpS_at C F hS (by lia) (by lia) ?_)
    cases e : lt (kx k (arrOf st') (lo + x)) (kx k (arrOf st') (lo + x - 1)) with
    | true =>
      dsimp only
      rw [if_pos rfl]
      exact wpS_pure (h x a b u (.inr e))
    | false =>
      dsimp only
      rw [if_neg (by decide)]
      refine wpS_pure ⟨rfl, rfl, by lia, by lia, fun i j hij hj => ?_⟩
      rcases Nat.lt_or_ge j x with z | z
      · exact u i j hij z
      · obtain rfl : j = x := by lia
        rcases Nat.lt_or_ge i j with y | y
        · rw [show lo + j - 1 = lo + (j - 1) by lia] at e
          exact O.tr _ _ _ (u i (j - 1) (by lia) (by lia)) e
        · obtain rfl : i = j := by lia
          exact O.rf _
end
end Tim
set_option Elab.async false
set_option linter.all false
set_option maxRecDepth 100000
set_option maxHeartbeats 4000000
namespace Tim
open PySem PyProof.Rows
section
variable {κ : Type} {lt : κ → κ → Bool} {k : Keyed → κ} {S : Keyed → Prop} {kind : SortKind} {prog : Program} {w : World} {A : Around} {E : Value → Shared → Prop} {s : Shared}
noncomputable def descP (lo nrem n0 : Nat) : StateT SortSt Sem (Option Nat) := do
  rule "list.sort.descending-run"
  let mut n := n0 + 1
  let mut neq := 0
  for _ in [n:nrem] do
    let some smaller ← ltAt' (lo + n) (lo + n - 1) | return none
    if smaller then
      if neq > 0 then reverseSlice' (lo + n - (neq + 1)) (lo + n)
      neq := 0
    else
      let some larger ← ltAt' (lo + n - 1) (lo + n) | return none
      if larger then break
      neq := neq + 1
    n := n + 1
  if neq > 0 then reverseSlice' (lo + n - (neq + 1)) (lo + n)
  reverseSlice' lo (lo + n)
  for _ in [n:nrem] do
    let some smaller ← ltAt' (lo + n) (lo + n - 1) | return none
    if smaller then break
    n := n + 1
  return some n
noncomputable def tail3 (lo nrem n0 : Nat) : StateT SortSt Sem (Option Nat) := do
  let mut n := n0
  reverseSlice' lo (lo + n)
  for _ in [n:nrem] do
    let some smaller ← ltAt' (lo + n) (lo + n - 1) | return none
    if smaller then break
    n := n + 1
  return some n
theorem StA.rev {lo n : Nat} {st : SortSt} {i j : Nat} (F : Fine kind st) (hi : lo ≤ i) (hj : j ≤ lo + n) (hz : lo + n ≤ (arrOf st).size) : StA kind lo n st (setArr st (mirror (arrOf st) i j ((j - i) / 2))) :=
  .set F (mirror_perm _ _ _ _) fun q hq => by rw [getElem?_mirror_all (i := i) (by lia) q, if_neg (by lia)]
theorem wpS_tail {st st0 : SortSt} {lo nrem n : Nat} {Q : Option Nat → SortSt → Prop} (C : Cmp lt k S kind prog w A s) (hst : StA kind lo nrem st0 st) (hS : AllS S st) (hn : lo + nrem ≤ (arrOf st).size) (h1 : 1 ≤ n) (h2 : n ≤ nrem) (hd : DnK lt k (arrOf st) lo n)
    (h : ∀ n st', StA kind lo nrem st0 st' → 1 ≤ n → n ≤ nrem → UpK lt k (arrOf st') lo n → Q (some n) st') :
    wpS (model prog w) A E s (tail3 lo nrem n) Q st := by
  unfold tail3
  dsimp only
  rw [reverseSlice'_eq]
  refine wpS_bind (wpS_modify ?_)
  have hr := StA.rev (lo := lo) (i := lo) (j := lo + n) (n := nrem) hst.fine (Nat.le_refl _) (by lia) hn
  have hst2 := hst.trans hr
  have hsz := hr.size
  refine wpS_bind (wpS_asc C hst2.fine (hr.all hS) (by lia) h1 h2 (fun i j hij hj => ?_) fun m a b c _ => ?_)
  · show lt (kx k (mirror (arrOf st) lo (lo + n) ((lo + n - lo) / 2)) (lo + j)) (kx k (mirror (arrOf st) lo (lo + n) ((lo + n - lo) / 2)) (lo + i)) = false
    rw [kx_rev (by lia), kx_rev (by lia), if_pos (by lia), if_pos (by lia), show lo + (lo + n) - 1 - (lo + j) = lo + (n - 1 - j) by lia, show lo + (lo + n) - 1 - (lo + i) = lo + (n - 1 - i) by lia]
    exact hd _ _ (by lia) (by lia)
  · exact wpS_pure (h m _ hst2 (by lia) b c)
theorem wpS_descP {st st0 : SortSt} {lo nrem n0 : Nat} {Q : Option Nat → SortSt → Prop} (C : Cmp lt k S kind prog w A s) (hst : StA kind lo nrem st0 st) (hS : AllS S st) (hn : lo + nrem ≤ (arrOf st).size) (h2 : n0 + 1 ≤ nrem) (hd : DnK lt k (arrOf st) lo (n0 + 1))
    (h : ∀ n st', StA kind lo nrem st0 st' → 1 ≤ n → n ≤ nrem → UpK lt k (arrOf st') lo n → Q (some n) st') : wpS (model prog w) A E s (descP lo nrem n0) Q st := by
  have O := C.ord
  unfold descP
  refine wpS_bind (wpS_lift (wpAny_rule ⟨rfl, ?_⟩))
  dsimp only
  refine wpS_bind (wpS_mono (wpS_forRange (I := fun x c st' => StA kind lo nrem st0 st' ∧ AllS S st' ∧ (arrOf st').size = (arrOf st).size ∧ ∃ n neq, c = (none, n, neq) ∧ n = x ∧ n0 + 1 ≤ n ∧ n ≤ nrem ∧ DnK lt k (arrOf st') lo n ∧ neq + 1 ≤ n ∧ ∀ i, n - (neq + 1) ≤ i → i < n → kx k (arrOf st') (lo + i) = kx k (arrOf st') (lo + n - 1))
    (Q := fun c st' => StA kind lo nrem st0 st' ∧ AllS S st' ∧ (arrOf st').size = (arrOf st).size ∧ ∃ n neq, c = (none, n, neq) ∧ n0 + 1 ≤ n ∧ n ≤ nrem ∧ DnK lt k (arrOf st') lo n ∧ neq + 1 ≤ n ∧ ∀ i, n - (neq + 1) ≤ i → i < n → kx k (arrOf st') (lo + i) = kx k (arrOf st') (lo + n - 1)) ?step ?fin ?init) ?post)
  case init => exact ⟨hst, hS, rfl, _, _, rfl, rfl, Nat.le_refl _, h2, hd, by lia, fun i a b => by congr 1; lia⟩
  case fin =>
    rintro c st' ⟨a1, a2, a3, n, neq, rfl, e, b1, b2, b3, b4, b5⟩
    exact ⟨a1, a2, a3, n, neq, rfl, b1, b2, b3, b4, b5⟩
  case step =>
    rintro x c st' hx1 hx2 ⟨a1, a2, a3, n, neq, rfl, rfl, b1, b2, b3, b4, b5⟩
    have more : ∀ xs : Array Keyed, (∀ q, kx k xs q = kx k (arrOf st') q) → lt (kx k (arrOf st') (lo + n)) (kx k (arrOf st') (lo + n - 1)) = true → DnK lt k xs lo (n + 1) := fun xs hk e i j hij hj => by
      rw [hk, hk]
      rcases Nat.lt_or_ge j n with z | z
      · exact b3 i j hij z
      · obtain rfl : j = n := by lia
        rcases Nat.lt_or_ge i j with y | y
        · rw [show lo + j - 1 = lo + (j - 1) by lia] at e
          exact O.tr (kx k (arrOf st') (lo + j)) (kx k (arrOf st') (lo + (j - 1))) (kx k (arrOf st') (lo + i)) (O.as _ _ e) (b3 i (j - 1) (by lia) (by lia))
        · obtain rfl : i = j := by lia
          exact O.rf _
    dsimp only
    refine wpS_bind (wpS_at C a1.fine a2 (by lia) (by lia) ?_)
    cases e : lt (kx k (arrOf st') (lo + n)) (kx k (arrOf st') (lo + n - 1)) with
    | true =>
      dsimp only
      rw [if_pos rfl]
      by_cases q0 : neq > 0
      · rw [if_pos q0, reverseSlice'_eq]
        have hr := StA.rev (lo := lo) (i := lo + n - (neq + 1)) (j := lo + n) (n := nrem) a1.fine (by lia) (by lia) (by lia)
        have hk := kx_rev_eq (k := k) (xs := arrOf st') (i := lo + n - (neq + 1)) (j := lo + n) (by lia) fun q q1 q2 => by
          have := b5 (q - lo) (by lia) (by lia)
          rwa [show lo + (q - lo) = q by lia] at this
        refine wpS_bind (wpS_modify (wpS_pure ⟨a1.trans hr, hr.all a2, hr.size.trans a3, _, _, rfl, rfl, by lia, by lia, more _ hk e, by lia, fun i c d => by congr 1; lia⟩))
      · rw [if_neg q0]
        exact wpS_pure ⟨a1, a2, a3, _, _, rfl, rfl, by lia, by lia, more _ (fun _ => rfl) e, by lia, fun i c d => by congr 1; lia⟩
    | false =>
      dsimp only
      rw [if_neg (by decide)]
      refine wpS_bind (wpS_at C a1.fine a2 (by lia) (by lia) ?_)
      cases e' : lt (kx k (arrOf st') (lo + n - 1)) (kx k (arrOf st') (lo + n)) with
      | true =>
        dsimp only
        rw [if_pos rfl]
        exact wpS_pure ⟨a1, a2, a3, _, _, rfl, b1, b2, b3, b4, b5⟩
      | false =>
        dsimp only
        rw [if_neg (by decide)]
        have same : kx k (arrOf st') (lo + n) = kx k (arrOf st') (lo + n - 1) := O.an _ _ e e'
        refine wpS_pure ⟨a1, a2, a3, _, _, rfl, rfl, by lia, by lia, fun i j hij hj => ?_, by lia, fun i c d => ?_⟩
        · rcases Nat.lt_or_ge j n with z | z
          · exact b3 i j hij z
          · obtain rfl : j = n := by lia
            rcases Nat.lt_or_ge i j with y | y
            · rw [same, show lo + j - 1 = lo + (j - 1) by lia]; exact b3 i (j - 1) (by lia) (by lia)
            · obtain rfl : i = j := by lia
              exact O.rf _
        · rw [show lo + (n + 1) - 1 = lo + n by lia]
          rcases Nat.lt_or_ge i n with y | y
          · rw [same]; exact b5 i (by lia) y
          · obtain rfl : i = n := by lia
            rfl
  case post =>
    rintro c st' ⟨a1, a2, a3, n, neq, rfl, b1, b2, b3, b4, b5⟩
    dsimp only
    by_cases q0 : neq > 0
    · rw [if_pos q0, reverseSlice'_eq]
      have hr := StA.rev (lo := lo) (i := lo + n - (neq + 1)) (j := lo + n) (n := nrem) a1.fine (by lia) (by lia) (by lia)
      have hk := kx_rev_eq (k := k) (xs := arrOf st') (i := lo + n - (neq + 1)) (j := lo + n) (by lia) fun q q1 q2 => by
        have := b5 (q - lo) (by lia) (by lia)
        rwa [show lo + (q - lo) = q by lia] at this
      refine wpS_bind (wpS_modify ?_)
      have hsz := hr.size
      exact wpS_tail C (a1.trans hr) (hr.all a2) (by lia) (by lia) b2 (fun i j hij hj => by
        show lt (kx k (mirror (arrOf st') (lo + n - (neq + 1)) (lo + n) ((lo + n - (lo + n - (neq + 1))) / 2)) (lo + i)) (kx k (mirror (arrOf st') (lo + n - (neq + 1)) (lo + n) ((lo + n - (lo + n - (neq + 1))) / 2)) (lo + j)) = false
        rw [hk, hk]
        exact b3 i j hij hj) h
    · rw [if_neg q0]
      exact wpS_tail C a1 a2 (by lia) (by lia) b2 b3 h
theorem wpS_count {st : SortSt} {lo nrem : Nat} {Q : Option Nat → SortSt → Prop} (C : Cmp lt k S kind prog w A s) (F : Fine kind st) (hS : AllS S st) (hn : lo + nrem ≤ (arrOf st).size) (h1 : 1 ≤ nrem)
    (h : ∀ n st', StA kind lo nrem st st' → 1 ≤ n → n ≤ nrem → UpK lt k (arrOf st') lo n → Q (some n) st') : wpS (model prog w) A E s (countRun' lo nrem) Q st := by
  have O := C.ord
  rw [countRun'_eq]
  refine wpS_bind (wpS_asc C F hS hn (Nat.le_refl 1) h1 (fun i j hij hj => by obtain rfl : i = j := (by lia); exact O.rf _) fun n a b c d => ?_)
  dsimp only
  by_cases e1 : n = nrem
  · rw [if_pos (by simpa using e1)]
    exact wpS_pure (h n st (.refl F) a b c)
  rw [if_neg (by simpa using e1)]
  have hlt : lt (kx k (arrOf st) (lo + n)) (kx k (arrOf st) (lo + n - 1)) = true := d.resolve_left e1
  by_cases e2 : n > 1
  · rw [if_pos e2]
    refine wpS_bind (wpS_at C F hS (by lia) (by lia) ?_)
    cases e3 : lt (kx k (arrOf st) lo) (kx k (arrOf st) (lo + n - 1)) with
    | true =>
      dsimp only
      rw [if_pos rfl]
      exact wpS_pure (h n st (.refl F) a b c)
    | false =>
      dsimp only
      rw [if_neg (by decide), reverseSlice'_eq]
      refine wpS_bind (wpS_modify ?_)
      have hr := StA.rev (lo := lo) (i := lo) (j := lo + n) (n := nrem) F (Nat.le_refl _) (by lia) hn
      have all : ∀ q, lo ≤ q → q < lo + n → kx k (arrOf st) q = kx k (arrOf st) (lo + n - 1) := fun q q1 q2 => by
        have c0 := c 0 (q - lo) (Nat.zero_le _) (by lia)
        have c1 := c (q - lo) (n - 1) (by lia) (by lia)
        rw [show lo + (q - lo) = q by lia] at c0 c1
        rw [show lo + (n - 1) = lo + n - 1 by lia] at c1
        exact O.an _ _ (O.tr _ _ _ e3 c0) c1
      have hk := kx_rev_eq (k := k) (xs := arrOf st) (i := lo) (j := lo + n) (by lia) all
      have hsz := hr.size
      refine wpS_descP (n0 := n) C hr (hr.all hS) (by lia) (by lia) (fun i j hij hj => ?_) h
      show lt (kx k (mirror (arrOf st) lo (lo + n) ((lo + n - lo) / 2)) (lo + i)) (kx k (mirror (arrOf st) lo (lo + n) ((lo + n - lo) / 2)) (lo + j)) = false
      rw [hk, hk]
      rcases Nat.lt_or_ge j n with z | z
      · rw [all (lo + i) (by lia) (by lia), all (lo + j) (by lia) (by lia)]; exact O.rf _
      · obtain rfl : j = n := by lia
        rcases Nat.lt_or_ge i j with y | y
        · rw [all (lo + i) (by lia) (by lia)]; exact O.as _ _ hlt
        · obtain rfl : i = j := by lia
          exact O.rf _
  · rw [if_neg e2]
    obtain rfl : n = 1 := by lia
    refine wpS_descP (n0 := 1) C (.refl F) hS hn (by lia) (fun i j hij hj => ?_) h
    rcases Nat.lt_or_ge i j with y | y
    · obtain rfl : i = 0 := by lia
      obtain rfl : j = 1 := by lia
      exact O.as _ _ hlt
    · obtain rfl : i = j := by lia
      exact O.rf _
end
end Tim
set_option Elab.async false
set_option linter.all false
set_option maxRecDepth 100000
set_option maxHeartbeats 4000000
namespace Tim
open PySem PyProof.Rows
section
variable {κ : Type} {lt : κ → κ → Bool} {k : Keyed → κ} {S : Keyed → Prop} {kind : SortKind} {prog : Program} {w : World} {A : Around} {E : Value → Shared → Prop} {s : Shared}
noncomputable abbrev seg (L : List Keyed) (lo n : Nat) : List Keyed := (L.drop lo).take n
noncomputable abbrev SegS (lt : κ → κ → Bool) (k : Keyed → κ) (L : List Keyed) (lo n : Nat) : Prop := (seg L lo n).Pairwise (Le lt k)
theorem seg_len {L : List Keyed} {lo n : Nat} (h : lo + n ≤ L.length) : (seg L lo n).length = n := by
  unfold seg
  rw [List.length_take, List.length_drop]
  lia
theorem seg_at {L : List Keyed} {lo n i : Nat} (h : i < n) : (seg L lo n)[i]? = L[lo + i]? := by
  unfold seg
  rw [List.getElem?_take_of_lt h, List.getElem?_drop]
theorem upk_seg {xs : Array Keyed} {lo n : Nat} (h : lo + n ≤ xs.size) (u : UpK lt k xs lo n) : SegS lt k xs.toList lo n := by
  rw [SegS, List.pairwise_iff_getElem]
  intro i j hi hj hij
  have hl := seg_len (L := xs.toList) (lo := lo) (n := n) (by rw [Array.length_toList]; exact h)
  have val : ∀ i (hi : i < (seg xs.toList lo n).length), k (seg xs.toList lo n)[i] = kx k xs (lo + i) := fun i hi => by
    have e : (seg xs.toList lo n)[i]? = some (seg xs.toList lo n)[i] := List.getElem?_eq_getElem hi
    rw [seg_at (by lia), Array.getElem?_toList] at e
    unfold kx
    rw [e]; rfl
  unfold Le
  rw [val, val]
  exact u i j (by lia) (by lia)
end
end Tim
set_option Elab.async false
set_option linter.all false
set_option maxRecDepth 100000
set_option maxHeartbeats 4000000
namespace Tim
open PySem PyProof.Rows
section
variable {κ : Type} {lt : κ → κ → Bool} {k : Keyed → κ} {S : Keyed → Prop} {kind : SortKind} {prog : Program} {w : World} {A : Around} {E : Value → Shared → Prop} {s : Shared}
structure SInv (S : Keyed → Prop) (kind : SortKind) (a₀ : Array Keyed) (st : SortSt) : Prop where
  fine : Fine kind st
  perm : (arrOf st).toList.Perm a₀.toList
  all : AllS S st
theorem SInv.size {a₀ : Array Keyed} {st : SortSt} (h : SInv S kind a₀ st) : (arrOf st).size = a₀.size := by have := h.perm.length_eq; simpa using this
theorem wpS_sortRuns {a₀ : Array Keyed} {st : SortSt} {Q : Unit → SortSt → Prop} (C : Cmp lt k S kind prog w A s) (h2 : 2 ≤ a₀.size) (h64 : a₀.size < 64) (I : SInv S kind a₀ st) (hp0 : pendingOf st = #[])
    (h : ∀ st', SInv S kind a₀ st' → (arrOf st').toList.Pairwise (Le lt k) → Q () st') : wpS (model prog w) A E s sortRuns' Q st := by
  have hsz0 := I.size
  rw [sortRuns'_eq]
  refine wpS_bind (wpS_get ?_)
  dsimp only
  rw [hsz0]
  have hmr : minRun' a₀.size a₀.size 0 = a₀.size := by
    obtain ⟨m, hm⟩ : ∃ m, a₀.size = m + 1 := ⟨a₀.size - 1, by lia⟩
    conv => lhs; arg 1; rw [hm]
    rw [minRun'_succ, if_pos h64]
    rfl
  rw [hmr]
  refine wpS_bind (wpS_mono (wpS_forRange (I := fun t c st' => SInv S kind a₀ st' ∧ ((t = 0 ∧ c = (none, 0) ∧ pendingOf st' = #[]) ∨ (c = (none, a₀.size) ∧ (pendingOf st').size = 1 ∧ SegS lt k (arrOf st').toList 0 a₀.size)))
    (Q := fun c st' => SInv S kind a₀ st' ∧ c = (none, a₀.size) ∧ (pendingOf st').size = 1 ∧ SegS lt k (arrOf st').toList 0 a₀.size) ?step ?fin ?init) ?post)
  case init => exact ⟨I, .inl ⟨rfl, rfl, hp0⟩⟩
  case fin =>
    rintro c st' ⟨I', ⟨z, _⟩ | ⟨rfl, p, g⟩⟩
    · lia
    · exact ⟨I', rfl, p, g⟩
  case post =>
    rintro c st' ⟨I', rfl, p, g⟩
    dsimp only
    refine wpS_bind (wpS_mono (wpS_forRange (I := fun t c st' => SInv S kind a₀ st' ∧ c = (none, ()) ∧ (pendingOf st').size = 1 ∧ SegS lt k (arrOf st').toList 0 a₀.size)
      (Q := fun c st' => SInv S kind a₀ st' ∧ c = (none, ()) ∧ SegS lt k (arrOf st').toList 0 a₀.size) ?step2 ?fin2 ?init2) ?post2)
    case init2 => exact ⟨I', rfl, p, g⟩
    case fin2 =>
      rintro c st2 ⟨I2, rfl, _, g⟩
      exact ⟨I2, rfl, g⟩
    case post2 =>
      rintro c st2 ⟨I2, rfl, g⟩
      refine wpS_pure (h st2 I2 ?_)
      have hs2 := I2.size
      have : seg (arrOf st2).toList 0 a₀.size = (arrOf st2).toList := List.take_of_length_le (by rw [List.length_drop, Array.length_toList]; lia)
      rw [SegS, this] at g
      exact g
    case step2 =>
      rintro t c st2 _ ht ⟨I2, rfl, p, g⟩
      refine wpS_bind (wpS_get ?_)
      rw [if_pos (show (pendingOf st2).size ≤ 1 by lia)]
      exact wpS_pure ⟨I2, rfl, g⟩
  case step =>
    rintro t c st1 _ ht ⟨I1, ⟨rfl, rfl, hp⟩ | ⟨rfl, p, g⟩⟩
    · have hs1 := I1.size
      dsimp only
      rw [if_neg (show ¬ (0 : Nat) ≥ a₀.size by lia)]
      refine wpS_bind (wpS_count C I1.fine I1.all (by lia) (by lia) fun n st2 s2 n1 n2 u2 => ?_)
      dsimp only
      have fin : ∀ (st3 : SortSt), StA kind 0 (a₀.size - 0) st1 st3 → UpK lt k (arrOf st3) 0 a₀.size → pendingOf st3 = #[] ∧ SInv S kind a₀ (setPending st3 ((pendingOf st3).push (0, a₀.size, 0))) ∧ (((0 + 1 = 0 ∧ ((none : Option Unit), 0 + a₀.size) = (none, 0) ∧ pendingOf (setPending st3 ((pendingOf st3).push (0, a₀.size, 0))) = #[])) ∨ (((none : Option Unit), 0 + a₀.size) = (none, a₀.size) ∧ (pendingOf (setPending st3 ((pendingOf st3).push (0, a₀.size, 0)))).size = 1 ∧ SegS lt k (arrOf (setPending st3 ((pendingOf st3).push (0, a₀.size, 0)))).toList 0 a₀.size)) := fun st3 s3 u => by
        have hp3 : pendingOf st3 = #[] := by rw [s3.pd]; exact hp
        refine ⟨hp3, ⟨⟨s3.fine.kd, s3.fine.fl⟩, (Array.perm_iff_toList_perm.mp s3.perm).trans I1.perm, s3.all I1.all⟩, .inr ⟨by rw [Nat.zero_add], ?_, ?_⟩⟩
        · show ((pendingOf st3).push (0, a₀.size, 0)).size = 1
          rw [hp3]; rfl
        · show SegS lt k (arrOf st3).toList 0 a₀.size
          exact upk_seg (by rw [s3.size]; lia) u
      by_cases c2 : n < a₀.size
      · rw [if_pos c2]
        refine wpS_bind (wpS_lift (wpAny_rule ⟨rfl, ?_⟩))
        have hs2 := s2.size
        refine wpS_bind (wpS_binary C s2.fine (s2.all I1.all) (by lia) (by lia) u2 fun st3 s3 u3 => ?_)
        simp only [Bool.not_true, Bool.false_eq_true, if_false]
        have s3' : StA kind 0 (a₀.size - 0) st2 st3 := ⟨s3.pd, s3.fine, s3.perm, fun j hj => s3.out j (hj.imp id fun z => by lia)⟩
        have em : min (a₀.size - 0) a₀.size = a₀.size := by lia
        rw [em] at u3 ⊢
        obtain ⟨hp3, I3, r3⟩ := fin st3 (s2.trans s3') u3
        refine wpS_bind (wpS_get ?_)
        rw [show (pendingOf st3).back? = none from by rw [hp3]; rfl]
        refine wpS_bind (wpS_modify (wpS_pure ⟨I3, r3⟩))
      · rw [if_neg c2]
        have en : n = a₀.size := by lia
        subst en
        obtain ⟨hp3, I3, r3⟩ := fin st2 s2 u2
        refine wpS_bind (wpS_get ?_)
        rw [show (pendingOf st2).back? = none from by rw [hp3]; rfl]
        refine wpS_bind (wpS_modify (wpS_pure ⟨I3, r3⟩))
    · dsimp only
      rw [if_pos (Nat.le_refl _)]
      exact wpS_pure ⟨I1, rfl, p, g⟩
end
end Tim
set_option Elab.async false
set_option linter.all false
set_option maxRecDepth 100000
set_option maxHeartbeats 4000000
namespace Tim
open PySem PyProof.Rows
theorem zip_self {α : Type} : ∀ vs : List α, vs.zip vs = vs.map fun v => (v, v)
  | [] => rfl
  | v :: vs => by rw [List.zip_cons_cons, zip_self vs]; rfl
section
variable {κ : Type} {lt : κ → κ → Bool} {k : Keyed → κ} {S : Keyed → Prop} {kind : SortKind} {prog : Program} {w : World} {A : Around} {E : Value → Shared → Prop} {s : Shared}
theorem list_sort_any {a : Addr} {vs : List Value} {n : Nat} {P : PySem.Fin → Shared → Prop} (ho : s.heap.get? a = some (seqObj "list" vs.toArray n)) (h2 : 2 ≤ vs.length) (h64 : vs.length < 64)
    (hk : ∀ h' : Heap, (∀ b o, b ≠ a → s.heap.get? b = some o → h'.get? b = some o) → ∀ {Q : SortKind → Shared → Prop} {E' : Value → Shared → Prop}, Q kind { s with heap := h' } → wpAny (model prog w) A (keyKind' vs.toArray) Q E' { s with heap := h' })
    (hC : ∀ h' : Heap, (∀ b o, b ≠ a → s.heap.get? b = some o → h'.get? b = some o) → Cmp lt k S kind prog w A { s with heap := h' }) (hS : ∀ v ∈ vs, S (v, v))
    (h : ∀ out : List Value, out.Perm vs → out.Pairwise (fun x y => Le lt k (x, x) (y, y)) → P (.done (.ret .none)) { s with heap := sortedHeap s.heap a vs out.toArray }) :
    wpAny (model prog w) A (Builtin.«list.sort» ⟨[.ref a], []⟩) P E s := by
  have hz : vs.length ≤ sizeLine := Nat.le_trans (Nat.le_of_lt h64) (by decide)
  rw [list_sort_plain]
  have ha : a < s.heap.objs.size := Heap.lt_size ho
  refine wpAny_bind (listItems_at ho rfl ?_)
  refine wpAny_bind (listUpdate_at ho rfl ?_ (by rw [List.size_toArray]; exact hz) (Nat.zero_le _))
  obtain ⟨e1, ho1⟩ : ∃ e1, (s.heap.update a (Obj.mapSeq fun _ => #[])).get? a = some (seqObj "list" #[] e1) := ⟨_, get?_update_seq ho (fun _ => #[])⟩
  refine wpAny_bind (seqEpoch_at ho1 rfl ?_)
  refine wpAny_bind (wpAny_newTuple ?_ (by show vs.length ≤ _; exact hz))
  refine wpAny_bind (wpAny_newList ?_ (Nat.zero_le _))
  refine wpAny_holding ?_
  have ho6 : (((s.heap.update a (Obj.mapSeq fun _ => #[])).push (seqObj "tuple" vs.toArray 0)).push (seqObj "list" #[] 0)).get? a = some (seqObj "list" #[] e1) := by
    rw [Heap.get?_push_ne _ _ _ (by rw [size_push', Heap.size_update]; exact Nat.ne_of_lt (Nat.lt_succ_of_lt ha)), Heap.get?_push_ne _ _ _ (by rw [Heap.size_update]; exact Nat.ne_of_lt ha)]
    exact ho1
  have keep : ∀ b o, b ≠ a → s.heap.get? b = some o → (((s.heap.update a (Obj.mapSeq fun _ => (#[] : Array Value))).push (seqObj "tuple" vs.toArray 0)).push (seqObj "list" #[] 0)).get? b = some o := fun b o hb e => by
    refine Heap.get?_push_of_some _ (Heap.get?_push_of_some _ ?_)
    rw [Heap.get?_update_ne _ _ _ _ hb]
    exact e
  show wpAny (model prog w) A _ P E { s with heap := ((s.heap.update a (Obj.mapSeq fun _ => #[])).push (seqObj "tuple" vs.toArray 0)).push (seqObj "list" #[] 0) }
  dsimp only
  have hn2 : ¬ vs.toArray.size < 2 := by rw [List.size_toArray]; lia
  rw [if_neg hn2, if_neg hn2]
  refine wpAny_bind (hk _ keep ?_)
  have C := hC _ keep
  have hpl : (vs.toArray.zip vs.toArray).toList = vs.map fun v => (v, v) := by
    rw [Array.toList_zip]
    exact zip_self vs
  have hps : (vs.toArray.zip vs.toArray).size = vs.length := by simp
  refine wpAny_bind (wpAny_mono (wpS_sortRuns (a₀ := vs.toArray.zip vs.toArray) (st := SortSt.mk' kind (vs.toArray.zip vs.toArray) #[] 7 none)
    (Q := fun _ st' => SInv S kind (vs.toArray.zip vs.toArray) st' ∧ (arrOf st').toList.Pairwise (Le lt k)) C (by rw [hps]; exact h2) (by rw [hps]; exact h64) ⟨⟨rfl, rfl⟩, List.Perm.refl _, fun x hx => ?_⟩ rfl fun st' I p => ⟨I, p⟩) ?_ fun _ _ e => e)
  · have hx : x ∈ (vs.toArray.zip vs.toArray).toList := hx
    rw [hpl] at hx
    obtain ⟨v, hv, rfl⟩ := List.mem_map.mp hx
    exact hS v hv
  rintro ⟨⟨⟩, st'⟩ s' ⟨rfl, I, hp⟩
  dsimp only
  have hperm := I.perm
  rw [hpl] at hperm
  have two : ∀ x ∈ (arrOf st').toList, x = (x.2, x.2) := fun x hx => by
    obtain ⟨v, hv, rfl⟩ := List.mem_map.mp (hperm.mem_iff.mp hx)
    rfl
  have hout : ((arrOf st').map (·.2)) = ((arrOf st').toList.map (·.2)).toArray := by
    apply Array.toList_inj.mp
    simp
  have p2 : ((arrOf st').toList.map (·.2)).Perm vs := by
    have := hperm.map (·.2)
    rwa [List.map_map, show ((fun x : Keyed => x.2) ∘ fun v : Value => (v, v)) = id from rfl, List.map_id] at this
  refine wpAny_bind (seqEpoch_at ho6 rfl ?_)
  rw [hout]
  refine wpAny_bind (listUpdate_at ho6 rfl ?_ (Nat.zero_le _) (by rw [List.size_toArray, p2.length_eq]; lia))
  rw [I.fine.fl]
  simp only [bne_self_eq_false, Bool.false_eq_true, if_false]
  refine wpAny_pure (h _ p2 ?_)
  rw [List.pairwise_map]
  exact hp.imp_of_mem fun {x y} hx hy q => by rw [← two x hx, ← two y hy]; exact q
theorem sorted_any {l : Addr} {vs : List Value} {Q : Value → Shared → Prop} (hl : s.heap.IsList l vs.toArray) (h2 : 2 ≤ vs.length) (h64 : vs.length < 64)
    (hk : ∀ h' : Heap, (∀ b o, s.heap.get? b = some o → h'.get? b = some o) → ∀ {Q : SortKind → Shared → Prop} {E' : Value → Shared → Prop}, Q kind { s with heap := h' } → wpAny (model prog w) A.in1.in1 (keyKind' vs.toArray) Q E' { s with heap := h' })
    (hC : ∀ h' : Heap, (∀ b o, s.heap.get? b = some o → h'.get? b = some o) → Cmp lt k S kind prog w A.in1.in1 { s with heap := h' }) (hS : ∀ v ∈ vs, S (v, v))
    (h : ∀ out : List Value, out.Perm vs → out.Pairwise (fun x y => Le lt k (x, x) (y, y)) → Q (.ref (s.heap.objs.size + 1)) { s with heap := sortedAll s.heap vs out.toArray }) : wpAny (model prog w) A (call (.builtin "sorted") [.ref l]) Q E s := by
  have hz : vs.length ≤ sizeLine := Nat.le_trans (Nat.le_of_lt h64) (by decide)
  refine Calls.call_function_entry kind_sorted plain_sorted entry_sorted (args_sorted1 _) ?_
  unfold Builtin.«sorted»
  refine wpAny_bind (m := checkCount "sorted" 1 1 _) (wpAny_pure ?_)
  refine wpAny_bind (collect_list hl ?_ hz)
  refine wpAny_bind (wpAny_newList ?_ hz)
  have hsz : ((s.heap.push (seqObj "list" #[] 0)).update s.heap.objs.size (Obj.mapSeq (· ++ vs.toArray))).objs.size = s.heap.objs.size + 1 := by
    rw [Heap.size_update, size_push']
  have hoL : (((s.heap.push (seqObj "list" #[] 0)).update s.heap.objs.size (Obj.mapSeq (· ++ vs.toArray))).push (seqObj "list" vs.toArray 0)).get? (s.heap.objs.size + 1) = some (seqObj "list" vs.toArray 0) := by
    rw [← hsz]; exact Heap.get?_push_size _ rfl
  have keep : ∀ b o, s.heap.get? b = some o → (((s.heap.push (seqObj "list" #[] 0)).update s.heap.objs.size (Obj.mapSeq (· ++ vs.toArray))).push (seqObj "list" vs.toArray 0)).get? b = some o := fun b o q => by
    have hlt : b < s.heap.objs.size := Heap.lt_size q
    rw [Heap.get?_push_ne _ _ _ (by rw [hsz]; exact Nat.ne_of_lt (Nat.lt_succ_of_lt hlt)), Heap.get?_update_ne _ _ _ _ (Nat.ne_of_lt hlt), Heap.get?_push_ne _ _ _ (Nat.ne_of_lt hlt)]
    exact q
  have far : ∀ b o, s.heap.get? b = some o → b ≠ s.heap.objs.size + 1 := fun b o q => Nat.ne_of_lt (Nat.lt_succ_of_lt (Heap.lt_size q))
  show wpAny _ _ _ _ _ { s with heap := ((s.heap.push (seqObj "list" #[] 0)).update s.heap.objs.size (Obj.mapSeq (· ++ vs.toArray))).push (seqObj "list" vs.toArray 0) }
  rw [hsz]
  refine wpAny_bind (wpAny_holding (wpAny_call_entry slot_list_sort ⟨_, hoL, rfl⟩ entry_list_sort (list_sort_any (lt := lt) (k := k) (S := S) (kind := kind) hoL h2 h64 (fun h' kk {Q E'} => hk h' fun b o q => kk b o (far b o q) (keep b o q)) (fun h' kk => hC h' fun b o q => kk b o (far b o q) (keep b o q)) hS fun out a1 a2 => ⟨_, rfl, ?_⟩) (args_list_sort _)))
  exact wpAny_pure ⟨_, rfl, h out a1 a2⟩
end
end Tim
set_option Elab.async false
set_option linter.all false
set_option maxRecDepth 100000
set_option maxHeartbeats 4000000
namespace PyProof.Rows
open PySem
section
variable {prog : Program} {w : World} {A : Around} {E : Value → Shared → Prop} {s : Shared}
theorem list_sort_short {a : Addr} {vs : List Value} {n : Nat} {P : Fin → Shared → Prop} (ho : s.heap.get? a = some (seqObj "list" vs.toArray n)) (h2 : vs.length < 2)
    (h : P (.done (.ret .none)) { s with heap := sortedHeap s.heap a vs vs.toArray }) : wpAny (model prog w) A (Builtin.«list.sort» ⟨[.ref a], []⟩) P E s := by
  rw [list_sort_plain]
  have ha : a < s.heap.objs.size := Heap.lt_size ho
  refine wpAny_bind (listItems_at ho rfl ?_)
  refine wpAny_bind (listUpdate_at ho rfl ?_)
  obtain ⟨e1, ho1⟩ : ∃ e1, (s.heap.update a (Obj.mapSeq fun _ => #[])).get? a = some (seqObj "list" #[] e1) := ⟨_, get?_update_seq ho (fun _ => #[])⟩
  refine wpAny_bind (seqEpoch_at ho1 rfl ?_)
  refine wpAny_bind (wpAny_newTuple ?_)
  refine wpAny_bind (wpAny_newList ?_)
  refine wpAny_holding ?_
  have ho6 : (((s.heap.update a (Obj.mapSeq fun _ => #[])).push (seqObj "tuple" vs.toArray 0)).push (seqObj "list" #[] 0)).get? a = some (seqObj "list" #[] e1) := by
    rw [Heap.get?_push_ne _ _ _ (by rw [size_push', Heap.size_update]; exact Nat.ne_of_lt (Nat.lt_succ_of_lt ha)), Heap.get?_push_ne _ _ _ (by rw [Heap.size_update]; exact Nat.ne_of_lt ha)]
    exact ho1
  show wpAny (model prog w) A _ P E { s with heap := ((s.heap.update a (Obj.mapSeq fun _ => #[])).push (seqObj "tuple" vs.toArray 0)).push (seqObj "list" #[] 0) }
  dsimp only
  have h2' : vs.toArray.size < 2 := by simpa using h2
  rw [if_pos h2', if_pos h2']
  refine wpAny_bind (wpAny_pure ?_)
  rw [StateT.run_pure]
  refine wpAny_bind (wpAny_pure ?_)
  dsimp only
  refine wpAny_bind (seqEpoch_at ho6 rfl ?_)
  have e : (arrOf (SortSt.mk' general' (vs.toArray.zip vs.toArray) #[] 7 none)).map (·.2) = vs.toArray := by
    show (vs.toArray.zip vs.toArray).map (·.2) = vs.toArray
    rw [Array.map_snd_zip (by simp)]
  rw [e]
  refine wpAny_bind (listUpdate_at ho6 rfl ?_ (hsz2 := by simp only [List.size_toArray]; rw [sizeLine_eq]; lia))
  simp only [bne_self_eq_false, Bool.false_eq_true, if_false]
  exact wpAny_pure h
theorem sorted_short {l : Addr} {vs : List Value} {Q : Value → Shared → Prop} (hl : s.heap.IsList l vs.toArray) (h2 : vs.length < 2)
    (h : Q (.ref (s.heap.objs.size + 1)) { s with heap := sortedAll s.heap vs vs.toArray }) : wpAny (model prog w) A (call (.builtin "sorted") [.ref l]) Q E s := by
  refine Calls.call_function_entry kind_sorted plain_sorted entry_sorted (args_sorted1 _) ?_
  unfold Builtin.«sorted»
  refine wpAny_bind (m := checkCount "sorted" 1 1 _) (wpAny_pure ?_)
  refine wpAny_bind (collect_list hl ?_ (by rw [sizeLine_eq]; omega))
  refine wpAny_bind (wpAny_newList ?_ (by rw [sizeLine_eq]; omega))
  have hsz : ((s.heap.push (seqObj "list" #[] 0)).update s.heap.objs.size (Obj.mapSeq (· ++ vs.toArray))).objs.size = s.heap.objs.size + 1 := by
    rw [Heap.size_update, size_push']
  have hoL : (((s.heap.push (seqObj "list" #[] 0)).update s.heap.objs.size (Obj.mapSeq (· ++ vs.toArray))).push (seqObj "list" vs.toArray 0)).get? (s.heap.objs.size + 1) = some (seqObj "list" vs.toArray 0) := by
    rw [← hsz]; exact Heap.get?_push_size _ rfl
  show wpAny _ _ _ _ _ { s with heap := ((s.heap.push (seqObj "list" #[] 0)).update s.heap.objs.size (Obj.mapSeq (· ++ vs.toArray))).push (seqObj "list" vs.toArray 0) }
  rw [hsz]
  refine wpAny_bind (wpAny_holding (wpAny_call_entry slot_list_sort ⟨_, hoL, rfl⟩ entry_list_sort (list_sort_short hoL h2 ⟨_, rfl, ?_⟩) (args_list_sort _)))
  exact wpAny_pure ⟨_, rfl, h⟩
end
end PyProof.Rows
namespace L2
open PySem PySem.W PyProof.Rows Srt Pc
class Rep {α : Type} (R : Hp → V → α → Prop) : Prop where
  up : ∀ {H H' : Hp} {v : V} {x : α}, Same H H' → R H v x → R H' v x
  lst : ∀ {H : Hp} {v : V} {x : α} {p : Addr} {ys zs : List V}, H p = some (.lst ys) → R H v x → R (upd H p (.lst zs)) v x
noncomputable def IsI : Hp → V → Int → Prop := fun _ v n => v = .int n
noncomputable def IsS : Hp → V → Str → Prop := fun _ v n => v = .str n
noncomputable def IsB : Hp → V → Bool → Prop := fun _ v n => v = .bl n
noncomputable def IsC : Hp → V → C3 → Prop := fun H v c => ∃ a, v = V.ref a ∧ H a = some (.tup c.v)
noncomputable instance : Rep IsI := ⟨fun _ h => h, fun _ h => h⟩
noncomputable instance : Rep IsS := ⟨fun _ h => h, fun _ h => h⟩
noncomputable instance : Rep IsB := ⟨fun _ h => h, fun _ h => h⟩
noncomputable instance : Rep IsC := ⟨fun s ⟨a, e, q⟩ => ⟨a, e, s _ _ q⟩, fun h' ⟨a, e, q⟩ => ⟨a, e, lk_kind h' (by intro z; cases z) q⟩⟩
noncomputable abbrev Rs {α : Type} (R : Hp → V → α → Prop) (H : Hp) : List V → List α → Prop := Paired (R H)
noncomputable abbrev Cs := Rs IsC
theorem Rs.up {α : Type} {R : Hp → V → α → Prop} [Rep R] {H H' : Hp} {ys : List V} {xs : List α} (s : Same H H') (h : Rs R H ys xs) : Rs R H' ys xs := Paired.mapP h fun _ _ q => Rep.up s q
theorem Rs.lst {α : Type} {R : Hp → V → α → Prop} [Rep R] {H : Hp} {p : Addr} {zs us : List V} {ys : List V} {xs : List α} (h' : H p = some (.lst us)) (h : Rs R H ys xs) : Rs R (upd H p (.lst zs)) ys xs := Paired.mapP h fun _ _ q => Rep.lst h' q
theorem Rs.len {α : Type} {R : Hp → V → α → Prop} {H : Hp} {ys : List V} {xs : List α} (h : Rs R H ys xs) : ys.length = xs.length := Paired.length h
theorem Rs.get {α : Type} {R : Hp → V → α → Prop} {H : Hp} : ∀ {ys : List V} {xs : List α} {i : Nat} {v : V}, Rs R H ys xs → ys[i]? = some v → ∃ x, xs[i]? = some x ∧ R H v x
  | _, _, _, _, .nil, e => by simp at e
  | _, _, 0, _, .cons r _, e => by simp at e; subst e; exact ⟨_, rfl, r⟩
  | _, _, i + 1, v, .cons _ t, e => by
    obtain ⟨u, h1, h2⟩ := Rs.get (i := i) (v := v) t (by simpa using e)
    exact ⟨u, by simpa using h1, h2⟩
theorem Rs.get' {α : Type} {R : Hp → V → α → Prop} {H : Hp} : ∀ {ys : List V} {xs : List α} {i : Nat} {x : α}, Rs R H ys xs → xs[i]? = some x → ∃ v, ys[i]? = some v ∧ R H v x
  | _, _, _, _, .nil, e => by simp at e
  | _, _, 0, _, .cons r _, e => by simp at e; subst e; exact ⟨_, rfl, r⟩
  | _, _, i + 1, x, .cons _ t, e => by
    obtain ⟨u, h1, h2⟩ := Rs.get' (i := i) (x := x) t (by simpa using e)
    exact ⟨u, by simpa using h1, h2⟩
theorem Rs.app {α : Type} {R : Hp → V → α → Prop} {H : Hp} : ∀ {ys ys' : List V} {xs xs' : List α}, Rs R H ys xs → Rs R H ys' xs' → Rs R H (ys ++ ys') (xs ++ xs')
  | _, _, _, _, .nil, s => s
  | _, _, _, _, .cons r t, s => .cons r (Rs.app t s)
theorem Rs.take {α : Type} {R : Hp → V → α → Prop} {H : Hp} : ∀ {ys : List V} {xs : List α} (n : Nat), Rs R H ys xs → Rs R H (ys.take n) (xs.take n)
  | _, _, 0, _ => .nil
  | _, _, _ + 1, .nil => .nil
  | _, _, n + 1, .cons r t => .cons r (Rs.take n t)
theorem Rs.drop {α : Type} {R : Hp → V → α → Prop} {H : Hp} : ∀ {ys : List V} {xs : List α} (n : Nat), Rs R H ys xs → Rs R H (ys.drop n) (xs.drop n)
  | _, _, 0, r => r
  | _, _, _ + 1, .nil => .nil
  | _, _, n + 1, .cons _ t => Rs.drop n t
noncomputable def cutX {α : Type} (xs : List α) (lo hi : Option Int) : List α := (xs.drop (HT.sIx xs.length 0 lo)).take (HT.sIx xs.length xs.length hi - HT.sIx xs.length 0 lo)
theorem Rs.ints {H : Hp} : ∀ ns : List Int, Rs IsI H (ns.map V.int) ns
  | [] => .nil
  | _ :: r => .cons rfl (Rs.ints r)
theorem prs_of {K : PySem.W.Frag} {H : Hp} : ∀ {ys : List V} {cs : List C3}, Cs H ys cs → ∃ ps : Prs, ys = refs ps ∧ ps.map (·.2) = cs.map C3.l ∧ Tps K H ps ∧ ∀ q ∈ ps, H q.1 = some (.tup (q.2.map V.int))
  | _, _, .nil => ⟨[], rfl, rfl, fun _ h => absurd h (List.not_mem_nil), fun _ h => absurd h (List.not_mem_nil)⟩
  | _, _, .cons (b := c) ⟨a, e, q⟩ t => by
    obtain ⟨ps, e1, e2, e3, e4⟩ := prs_of (K := K) t
    refine ⟨(a, c.l) :: ps, by rw [e, e1]; rfl, by simp [e2], fun p hp => ?_, fun p hp => ?_⟩
    · rcases List.mem_cons.mp hp with rfl | hp
      · exact SqT.of q
      · exact e3 p hp
    · rcases List.mem_cons.mp hp with rfl | hp
      · exact q
      · exact e4 p hp
theorem cs_of {H : Hp} : ∀ {ps : Prs} {cs : List C3}, ps.map (·.2) = cs.map C3.l → (∀ q ∈ ps, H q.1 = some (.tup (q.2.map V.int))) → Cs H (refs ps) cs
  | [], [], _, _ => .nil
  | [], _ :: _, e, _ => by simp at e
  | _ :: _, [], e, _ => by simp at e
  | (a, l) :: ps, c :: cs, e, t => by
    simp only [List.map_cons, List.cons.injEq] at e
    refine .cons ⟨a, rfl, ?_⟩ (cs_of e.2 fun p hp => t p (List.mem_cons_of_mem _ hp))
    have := t (a, l) (List.mem_cons_self ..)
    rw [e.1] at this
    exact this
noncomputable def cle (a b : C3) : Bool := !HT.lexLt b.l a.l
theorem cle_total (a b : C3) : (cle a b || cle b a) = true := by
  unfold cle
  cases h : HT.lexLt b.l a.l
  · rfl
  · rw [lex_as _ _ h]; rfl
theorem cle_trans (a b c : C3) (h1 : cle a b = true) (h2 : cle b c = true) : cle a c = true := by
  unfold cle at *
  simp only [Bool.not_eq_true'] at *
  exact lex_tr _ _ _ h1 h2
theorem cle_anti {a b : C3} (h1 : cle a b = true) (h2 : cle b a = true) : a = b := by
  unfold cle at *
  simp only [Bool.not_eq_true'] at *
  exact C3.inj.mp (lex_an _ _ h2 h1)
noncomputable abbrev Asc (cs : List C3) : Prop := cs.Pairwise fun a b => cle a b = true
noncomputable def srtC (cs : List C3) : List C3 := cs.mergeSort cle
theorem srtC_perm (cs : List C3) : (srtC cs).Perm cs := List.mergeSort_perm _ _
theorem srtC_asc (cs : List C3) : Asc (srtC cs) := List.pairwise_mergeSort cle_trans cle_total _
theorem asc_one : ∀ {l m : List C3}, l.Perm m → Asc l → Asc m → l = m
  | [], m, h, _, _ => List.Perm.nil_eq h
  | a :: l, [], h, _, _ => by have := h.length_eq; simp at this
  | a :: l, b :: m, h, hl, hm => by
    obtain ⟨h1, h2⟩ := List.pairwise_cons.mp hl
    obtain ⟨g1, g2⟩ := List.pairwise_cons.mp hm
    have e : a = b := by
      have ha : a ∈ b :: m := h.mem_iff.mp (List.mem_cons_self ..)
      have hb : b ∈ a :: l := h.mem_iff.mpr (List.mem_cons_self ..)
      rcases List.mem_cons.mp ha with e | ha
      · exact e
      · rcases List.mem_cons.mp hb with e | hb
        · exact e.symm
        · exact cle_anti (h1 b hb) (g1 a ha)
    subst e
    rw [asc_one (List.Perm.cons_inv h) h2 g2]
theorem srtC_uniq {l cs : List C3} (h : l.Perm cs) (ha : Asc l) : l = srtC cs := asc_one (h.trans (srtC_perm cs).symm) ha (srtC_asc cs)
theorem srtC_of_asc {cs : List C3} (h : Asc cs) : srtC cs = cs := (srtC_uniq (List.Perm.refl _) h).symm
theorem lists_of_map : ∀ {L : List (List Int)} {cs : List C3}, L.Perm (cs.map C3.l) → ∃ ds : List C3, L = ds.map C3.l ∧ ds.Perm cs := fun {L cs} h => by
  have hm : ∀ x ∈ L, ∃ c : C3, x = c.l := fun x hx => by
    obtain ⟨c, _, e⟩ := List.mem_map.mp (h.mem_iff.mp hx)
    exact ⟨c, e.symm⟩
  have : ∃ ds : List C3, L = ds.map C3.l := by
    clear h
    induction L with
    | nil => exact ⟨[], rfl⟩
    | cons x L ih =>
      obtain ⟨c, e⟩ := hm x (List.mem_cons_self ..)
      obtain ⟨ds, e2⟩ := ih fun y hy => hm y (List.mem_cons_of_mem _ hy)
      exact ⟨c :: ds, by rw [e, e2]; rfl⟩
  obtain ⟨ds, e⟩ := this
  refine ⟨ds, e, ?_⟩
  rw [e] at h
  have h2 := h.map (fun l : List Int => (⟨l.getD 0 0, l.getD 1 0, l.getD 2 0⟩ : C3))
  rw [List.map_map, List.map_map] at h2
  have id1 : ∀ xs : List C3, xs.map ((fun l : List Int => (⟨l.getD 0 0, l.getD 1 0, l.getD 2 0⟩ : C3)) ∘ C3.l) = xs := fun xs => by
    conv => rhs; rw [← List.map_id xs]
    exact List.map_congr_left fun c _ => rfl
  rwa [id1, id1] at h2
section
variable {X : Cx}
noncomputable def rSortC (K : PySem.W.Frag) : List V → Hp → VK → Prop := fun xs H Q => ∃ (l : Addr) (ys : List V) (cs : List C3), xs = [.ref l] ∧ SqL K H l ys ∧ Cs H ys cs ∧ cs.length < 64 ∧
  ∀ (p : Addr) (zs : List V), H p = none → Cs (upd H p (.lst zs)) zs (srtC cs) → Q (.ref p) (upd H p (.lst zs))
noncomputable def keyOf (ps : Prs) (v : Value) : List Int := match v with
  | .ref a => ((ps.find? fun q => decide (q.1 = a)).map (·.2)).getD []
  | _ => []
theorem keyOf_eq {H : Hp} {ps : Prs} (t : ∀ q ∈ ps, H q.1 = some (.tup (q.2.map V.int))) {q : Addr × List Int} (hq : q ∈ ps) : keyOf ps (.ref q.1) = q.2 := by
  unfold keyOf
  cases e : ps.find? (fun p => decide (p.1 = q.1)) with
  | none => exact absurd (List.find?_eq_none.mp e q hq) (by simp)
  | some p =>
    have h1 := List.find?_some e
    have h2 := List.mem_of_find?_eq_some e
    have h1 : p.1 = q.1 := of_decide_eq_true h1
    have a := t p h2
    rw [h1, t q hq] at a
    have a := HO.tup.inj (Option.some.inj a)
    have e' : (match (Value.ref q.1) with | .ref a => ((ps.find? fun q => decide (q.1 = a)).map (·.2)).getD [] | _ => []) = p.2 := by
      show ((ps.find? fun p => decide (p.1 = q.1)).map (·.2)).getD [] = p.2
      rw [e]
      rfl
    rw [e']
    have inj : ∀ x y : List Int, x.map V.int = y.map V.int → x = y := fun x y h => by
      have := congrArg (List.map fun v : V => match v with | .int i => i | _ => 0) h
      simpa [List.map_map, Function.comp_def] using this
    exact (inj _ _ a).symm
theorem refs_mem : ∀ {ps : Prs} {its : List Value}, Vals (refs ps) its → ∀ v ∈ its, ∃ q ∈ ps, v = .ref q.1
  | [], _, r, v, hv => by
    have r : Vals [] _ := r
    cases r
    cases hv
  | q :: ps, _, r, v, hv => by
    have r : Vals (V.ref q.1 :: refs ps) _ := r
    cases r with
    | cons r1 r2 =>
      cases r1
      rcases List.mem_cons.mp hv with rfl | hv
      · exact ⟨q, List.mem_cons_self .., rfl⟩
      · obtain ⟨p, hp, e⟩ := refs_mem r2 v hv
        exact ⟨p, List.mem_cons_of_mem _ hp, e⟩
theorem refs_of : ∀ (out : List Value) (ps : Prs), (∀ v ∈ out, ∃ q ∈ ps, v = .ref q.1) → ∃ qs : Prs, (∀ q ∈ qs, q ∈ ps) ∧ Vals (refs qs) out ∧ out = qs.map fun q => Value.ref q.1
  | [], ps, _ => ⟨[], fun _ h => absurd h List.not_mem_nil, .nil, rfl⟩
  | v :: out, ps, h => by
    obtain ⟨q, hq, rfl⟩ := h v (List.mem_cons_self ..)
    obtain ⟨qs, a, b, c⟩ := refs_of out ps fun u hu => h u (List.mem_cons_of_mem _ hu)
    refine ⟨q :: qs, fun p hp => ?_, .cons rfl b, by rw [c]; rfl⟩
    rcases List.mem_cons.mp hp with rfl | hp
    · exact hq
    · exact a p hp
theorem call_sortC : CallR X (.builtin "sorted") (rSortC X.K) := by
  intro pins s σ H xs us Q I r h
  obtain ⟨l, ys, cs, rfl, hl, hc, h64, q⟩ := h
  obtain ⟨ps, e1, e2, e3, e3t⟩ := prs_of (K := X.K) hc
  have hlen : ps.length = cs.length := by have := congrArg List.length e2; simpa using this
  obtain ⟨u, rfl, ru⟩ := vals1 r
  cases ru
  obtain ⟨its, rv, pl, hz⟩ := I.list hl
  have rv' : Vals (refs ps) its := by rw [← e1]; exact rv
  have hlen2 : its.length = ps.length := by have := rv'.length; simpa using this.symm
  have hz' : its.length ≤ sizeLine := by have := rv.length; lia
  have hn : H (s.heap.objs.size + 1) = none := I.hok.fresh (Nat.le_succ _)
  have d3 : ∀ p ∈ ps, p.2.length = 3 := fun p hp => by
    have : p.2 ∈ ps.map (·.2) := List.mem_map.mpr ⟨p, hp, rfl⟩
    rw [e2] at this
    obtain ⟨c, _, e⟩ := List.mem_map.mp this
    rw [← e]; rfl
  by_cases h2 : 2 ≤ its.length
  · have tup' : ∀ h' : Heap, (∀ b o, s.heap.get? b = some o → h'.get? b = some o) → ∀ p ∈ ps, ∃ vs : List Value, Vals (p.2.map V.int) vs ∧ IsTup h' p.1 vs.toArray := fun h' kk p hp => by
      obtain ⟨vs, rv', ⟨ob, ho, hcl, n, hdat⟩, _⟩ := I.tuple (e3 p hp)
      exact ⟨vs, rv', ob, kk _ _ ho, hcl, n, hdat⟩
    refine Tim.sorted_any (lt := HT.lexLt) (k := fun x => keyOf ps x.1) (S := fun x => x.1 ∈ its) (kind := tuples' (Value.type "int" != Value.type "tuple")) pl.isList h2 (by lia) (fun h' kk {Q' E'} hQ => ?_) (fun h' kk => ⟨lexO, fun x y hx hy {Q' E'} hQ => ?_⟩) (fun v hv => hv) fun out hp hs => ?_
    · obtain ⟨fs, kt, hfl, hfs⟩ := firsts_of (h := h') rv' fun p hp => ⟨fun e => by have := d3 p hp; rw [e] at this; simp at this, tup' h' kk p hp⟩
      refine kat_kind (T := .type "int") kt (by lia) (fun v hv => ?_) rfl hQ
      obtain ⟨i, t, rfl⟩ := hfs v hv
      exact Looks.of_pure rfl
    · obtain ⟨p1, m1, f1⟩ := refs_mem rv' _ hx
      obtain ⟨p2, m2, f2⟩ := refs_mem rv' _ hy
      rw [f1, f2] at hQ ⊢
      rw [keyOf_eq e3t m1, keyOf_eq e3t m2] at hQ
      obtain ⟨vi, ri, oi, hoi, _, ni, di⟩ := tup' h' kk p1 m1
      obtain ⟨vj, rj, oj, hoj, _, nj, dj⟩ := tup' h' kk p2 m2
      refine kat_lt hoi di hoj dj ?_
      refine lex_pairs 0 ri rj ((d3 p1 m1).trans (d3 p2 m2).symm) ?_ hQ
      have a1 := ri.length
      have a2 := rj.length
      have b1 := d3 p1 m1
      have b2 := d3 p2 m2
      simp only [List.length_map] at a1 a2
      rw [List.size_toArray, List.size_toArray]
      exact decide_eq_false (by lia)
    · obtain ⟨qs, q1, q2, q3⟩ := refs_of out ps fun v hv => refs_mem rv' v (hp.mem_iff.mp hv)
      obtain ⟨e, he⟩ := sortedAll_at s.heap its out.toArray
      have keyq : ∀ p ∈ qs, keyOf ps (.ref p.1) = p.2 := fun p hp => keyOf_eq e3t (q1 p hp)
      have kp : (out.map (keyOf ps)).Perm (its.map (keyOf ps)) := hp.map _
      have ko : out.map (keyOf ps) = qs.map (·.2) := by
        rw [q3, List.map_map]
        exact List.map_congr_left fun p hp => keyq p hp
      have ki : its.map (keyOf ps) = ps.map (·.2) := by
        have go : ∀ (ps' : Prs) (its' : List Value), (∀ p ∈ ps', p ∈ ps) → Vals (refs ps') its' → its'.map (keyOf ps) = ps'.map (·.2) := by
          intro ps'
          induction ps' with
          | nil => intro its' _ r; have r : Vals [] _ := r; cases r; rfl
          | cons p ps' ih =>
            intro its' hm r
            have r : Vals (V.ref p.1 :: refs ps') _ := r
            cases r with
            | cons r1 r2 =>
              cases r1
              rw [List.map_cons, List.map_cons, keyOf_eq e3t (hm p (List.mem_cons_self ..)), ih _ (fun p' hp' => hm p' (List.mem_cons_of_mem _ hp')) r2]
        exact go ps its (fun _ h => h) rv'
      rw [ko, ki, e2] at kp
      obtain ⟨ds, e4, e5⟩ := lists_of_map kp
      have ha : Asc ds := by
        have h3 : (qs.map (·.2)).Pairwise (fun a b => HT.lexLt b a = false) := by
          rw [← ko, List.pairwise_map]
          exact hs
        rw [e4] at h3
        exact (List.pairwise_map.mp h3).imp fun h => by unfold cle; rw [h]; rfl
      have e6 := srtC_uniq e5 ha
      have hzl : (refs qs).length ≤ sizeLine := by rw [q2.length, hp.length_eq]; exact hz'
      refine ⟨.ref (s.heap.objs.size + 1), upd H (s.heap.objs.size + 1) (.lst (refs qs)), I.laid (t' := s.toks) (fun b o h => sortedAll_old h) (Nat.le_succ _) ⟨hzl, out, e, q2, he⟩, rfl, q _ _ hn ?_⟩
      refine Rs.up (same_new hn) ?_
      rw [← e6]
      exact cs_of e4 fun x hx => e3t x (q1 x hx)
  · refine sorted_short pl.isList (by lia) ?_
    obtain ⟨e, he⟩ := sortedAll_at s.heap its its.toArray
    refine ⟨.ref (s.heap.objs.size + 1), upd H (s.heap.objs.size + 1) (.lst ys), I.laid (t' := s.toks) (fun b o h => sortedAll_old h) (Nat.le_succ _) ⟨hz, its, e, rv, he⟩, rfl, q _ ys hn ?_⟩
    have : srtC cs = cs := by
      refine srtC_of_asc ?_
      match cs, hlen with
      | [], _ => exact .nil
      | [c], _ => exact .cons (fun _ h => nomatch h) .nil
      | _ :: _ :: _, hlen => simp at hlen; lia
    rw [this]
    exact Rs.up (same_new hn) hc
theorem qc_sortC {K : PySem.W.Frag} (h : X.K = K) : QCl X (.builtin "sorted") (rSortC K) := ⟨h ▸ call_sortC⟩
end
end L2
set_option Elab.async false
set_option linter.all false
set_option maxRecDepth 100000
set_option maxHeartbeats 4000000
namespace L2
open PySem PySem.W PyProof.Rows Srt Pc
structure Feeds {α : Type} (J : It) (H : Hp) (xs : List α) (R : Hp → V → α → Prop) : Prop where
  stop : ∀ H', Same H H' → J.stop xs.length H'
  go : ∀ i x H', Same H H' → xs[i]? = some x → J.go i H' ∧ ∀ v H2, J.yld i H' v H2 → Same H' H2 ∧ R H2 v x
theorem feeds_list {α : Type} {R : Hp → V → α → Prop} [Rep R] {K : PySem.W.Frag} {H : Hp} {a : Addr} {ys : List V} {xs : List α} (h : SqL K H a ys) (r : Rs R H ys xs) : Feeds (Itl K a) H xs R where
  stop := fun H' s => by rw [← r.len]; exact itl_stop (s.seq h)
  go := fun i x H' s e => by
    obtain ⟨v, e1, q⟩ := r.get' e
    refine ⟨itl_go (s.seq h) (List.getElem?_eq_some_iff.mp e1).1, fun v' H2 y => ?_⟩
    obtain ⟨rfl, e2⟩ := itl_yld (s.seq h) y
    rw [e1] at e2
    obtain rfl := Option.some.inj e2
    exact ⟨Same.refl _, Rep.up s q⟩
theorem feeds_tup {α : Type} {R : Hp → V → α → Prop} [Rep R] {K : PySem.W.Frag} {H : Hp} {a : Addr} {ys : List V} {xs : List α} (h : SqT K H a ys) (r : Rs R H ys xs) : Feeds (Itt K a) H xs R where
  stop := fun H' s => by rw [← r.len]; exact itt_stop (same_tup s h)
  go := fun i x H' s e => by
    obtain ⟨v, e1, q⟩ := r.get' e
    refine ⟨itt_go (same_tup s h) (List.getElem?_eq_some_iff.mp e1).1, fun v' H2 y => ?_⟩
    obtain ⟨rfl, e2⟩ := itt_yld (same_tup s h) y
    rw [e1] at e2
    obtain rfl := Option.some.inj e2
    exact ⟨Same.refl _, Rep.up s q⟩
theorem feeds_range {H : Hp} {lo : Int} {n : Nat} : Feeds (Itr lo n) H ((List.range n).map fun i : Nat => lo + (i : Int)) IsI where
  stop := fun H' _ => by
    show n ≤ ((List.range n).map fun i : Nat => lo + (i : Int)).length
    simp
  go := fun i x H' s e => by
    rw [List.getElem?_map] at e
    have hi : i < n := by
      rcases Nat.lt_or_ge i n with z | z
      · exact z
      · rw [List.getElem?_eq_none (by simpa using z)] at e; cases e
    rw [List.getElem?_eq_getElem (by simpa using hi)] at e
    have e : lo + ((List.range n)[i]'(by simpa using hi) : Int) = x := Option.some.inj e
    rw [List.getElem_range] at e
    refine ⟨hi, fun v H2 y => ?_⟩
    obtain ⟨rfl, rfl⟩ := y
    exact ⟨Same.refl _, by rw [← e]; rfl⟩
theorem take_snoc {α : Type} {xs : List α} {i : Nat} {x : α} (h : xs[i]? = some x) : xs.take (i + 1) = xs.take i ++ [x] := by
  rw [List.take_add_one, h]; rfl
theorem comp_fm {α β : Type} {R : Hp → V → α → Prop} {S : Hp → V → β → Prop} [Rep S] {J : It} {xs : List α} {acc : Addr} {Q : VK} {g : TG} {tc : TT} {te : TE} {H : Hp} (p : α → Bool) (f : α → β) (n : Nat) (rest : St) (hF : Feeds J H xs R) (hz : xs.length ≤ 16000000) (hacc : H acc = none)
    (turn : ∀ (os : St) (v : V) (x : α) (H' : Hp) (R1 : St → VK) (R0 : St → Hp → Prop), os.length = n → Same H H' → x ∈ xs → R H' v x →
      (∀ os' r H'', os'.length = n → Same H' H'' → p x = true → S H'' r (f x) → R1 (os' ++ rest) r H'') → (∀ os' H'', os'.length = n → Same H' H'' → p x = false → R0 (os' ++ rest) H'') →
      g v (os ++ rest) H' fun σ3 H3 => tc σ3 H3 fun b H4 => if b = true then te σ3 H4 (R1 σ3) else R0 σ3 H4)
    (done : ∀ (zs : List V) (H' : Hp), Same H H' → H' acc = some (.lst zs) → Rs S H' zs ((xs.filter p).map f) → Q (.ref acc) H') :
    CompGo acc Q g tc te J (List.replicate n none ++ rest) (upd H acc (.lst [])) := by
  refine comp_turns (n := xs.length) (fun i σ' H' => (∃ os : St, os.length = n ∧ σ' = os ++ rest) ∧ Same H H' ∧ ∃ zs, H' acc = some (.lst zs) ∧ Rs S H' zs (((xs.take i).filter p).map f)) ?_ ?_ ?_
  · exact ⟨⟨_, by simp, rfl⟩, same_new hacc, [], upd_same, .nil⟩
  · rintro σ' H' ⟨_, s1, zs, e1, r1⟩
    rw [List.take_of_length_le (Nat.le_refl _)] at r1
    exact ⟨hF.stop H' s1, done zs H' s1 e1 r1⟩
  · rintro i σ' H' hi ⟨⟨os, ho, rfl⟩, s1, zs, e1, r1⟩
    have ex : xs[i]? = some xs[i] := List.getElem?_eq_getElem hi
    obtain ⟨g1, g2⟩ := hF.go i _ H' s1 ex
    refine ⟨g1, fun v H2 y => ?_⟩
    obtain ⟨s2, q⟩ := g2 v H2 y
    refine turn os v xs[i] H2 _ _ ho (s1.trans s2) (List.getElem_mem hi) q (fun os' r H'' ho' s3 hp hs => ?_) (fun os' H'' ho' s3 hp => ?_)
    · have hl : zs.length < sizeLine := by
        have h1 := r1.len
        have h2 := List.length_filter_le p (xs.take i)
        rw [List.length_map] at h1
        rw [List.length_take] at h2
        rw [sizeLine_eq]
        lia
      refine ⟨zs, s3 _ _ (s2 _ _ e1), hl, ⟨os', ho', rfl⟩, same_up (s1.trans (s2.trans s3)) hacc, _, upd_same, ?_⟩
      rw [take_snoc ex, List.filter_append, List.map_append]
      have e2 : ([xs[i]].filter p).map f = [f xs[i]] := by rw [List.filter_cons, hp]; rfl
      rw [e2]
      have e3 := s3 _ _ (s2 _ _ e1)
      exact Rs.lst e3 (Rs.app (Rs.up (s2.trans s3) r1) (.cons hs .nil))
    · refine ⟨⟨os', ho', rfl⟩, s1.trans (s2.trans s3), zs, s3 _ _ (s2 _ _ e1), ?_⟩
      rw [take_snoc ex, List.filter_append, List.map_append]
      have e2 : ([xs[i]].filter p).map f = [] := by rw [List.filter_cons, hp]; rfl
      rw [e2, List.append_nil]
      exact Rs.up (s2.trans s3) r1
theorem comp_map {α β : Type} {R : Hp → V → α → Prop} {S : Hp → V → β → Prop} [Rep S] {J : It} {xs : List α} {acc : Addr} {Q : VK} {g : TG} {te : TE} {H : Hp} (f : α → β) (n : Nat) (rest : St) (hF : Feeds J H xs R) (hz : xs.length ≤ 16000000) (hacc : H acc = none)
    (turn : ∀ (os : St) (v : V) (x : α) (H' : Hp) (R1 : St → VK), os.length = n → Same H H' → x ∈ xs → R H' v x →
      (∀ os' r H'', os'.length = n → Same H' H'' → S H'' r (f x) → R1 (os' ++ rest) r H'') → g v (os ++ rest) H' fun σ3 H3 => te σ3 H3 (R1 σ3))
    (done : ∀ (zs : List V) (H' : Hp), Same H H' → H' acc = some (.lst zs) → Rs S H' zs (xs.map f) → Q (.ref acc) H') :
    CompGo acc Q g tYes te J (List.replicate n none ++ rest) (upd H acc (.lst [])) := by
  refine comp_fm (S := S) (fun _ => true) f n rest hF hz hacc (fun os v x H' R1 R0 ho s hx q k1 _ => ?_) fun zs H' s e r => done zs H' s e (by rwa [List.filter_eq_self.mpr fun _ _ => rfl] at r)
  have t := turn os v x H' R1 ho s hx q fun os' r H'' a b c => k1 os' r H'' a b rfl c
  have e : (fun σ3 H3 => tYes σ3 H3 fun b H4 => if b = true then te σ3 H4 (R1 σ3) else R0 σ3 H4) = fun σ3 H3 => te σ3 H3 (R1 σ3) := by
    funext σ3 H3
    show (if true = true then te σ3 H3 (R1 σ3) else R0 σ3 H3) = _
    rw [if_pos rfl]
  rw [e]
  exact t
theorem for_feeds {α : Type} {R : Hp → V → α → Prop} {J : It} {xs : List α} {g : TG} {tb : TS} {D : Ends} {σ : St} {H0 H : Hp} (Pv : Nat → St → Hp → Prop) (hF : Feeds J H0 xs R) (hsame : ∀ i σ H, Pv i σ H → Same H0 H) (h0 : Pv 0 σ H) (hd : ∀ σ H, Pv xs.length σ H → D.nx σ H)
    (turn : ∀ i x v σ H H', i < xs.length → xs[i]? = some x → Pv i σ H → Same H H' → R H' v x → g v σ H' fun σ2 H2 => tb { D with nx := Pv (i + 1), ct := Pv (i + 1), bk := D.nx } σ2 H2) : ForGo J g tb D σ H :=
  for_turns (n := xs.length) Pv h0 (fun σ H p => ⟨hF.stop H (hsame _ σ H p), hd σ H p⟩) fun i σ H hi p => by
    have ex : xs[i]? = some xs[i] := List.getElem?_eq_getElem hi
    obtain ⟨g1, g2⟩ := hF.go i _ H (hsame _ σ H p) ex
    exact ⟨g1, fun v H' y => let ⟨s, q⟩ := g2 v H' y; turn i xs[i] v σ H H' hi ex p s q⟩
section
variable {X : Cx} {σ : St} {H : Hp} {Q : VK} {D : Ends} {K : PySem.W.Frag}
theorem tups_of {ys : List V} {cs : List C3} (h : Cs H ys cs) : ∃ as : List Addr, ys = as.map V.ref ∧ TupsI K H as (cs.map C3.l) := by
  induction h with
  | nil => exact ⟨[], rfl, .nil⟩
  | cons r _ ih =>
    obtain ⟨a, e, q⟩ := r
    obtain ⟨as, e1, t⟩ := ih
    exact ⟨a :: as, by rw [e, e1]; rfl, .cons (SqT.of q) t⟩
theorem map_l_inj {cs ds : List C3} : cs.map C3.l = ds.map C3.l ↔ cs = ds := by
  constructor
  · intro h
    induction cs generalizing ds with
    | nil => cases ds with
      | nil => rfl
      | cons => simp at h
    | cons c cs ih => cases ds with
      | nil => simp at h
      | cons d ds =>
        simp only [List.map_cons, List.cons.injEq] at h
        rw [C3.inj.mp h.1, ih h.2]
  · intro h; rw [h]
noncomputable def rEqC (K : PySem.W.Frag) (neg : Bool) : R2 := fun x y H Q => ∃ (a b : Addr) (ys zs : List V) (cs ds : List C3), x = .ref a ∧ y = .ref b ∧ SqL K H a ys ∧ Cs H ys cs ∧ SqL K H b zs ∧ Cs H zs ds ∧ Q (.bl (if neg then !decide (cs = ds) else decide (cs = ds))) H
theorem dec_l {cs ds : List C3} : decide (cs.map C3.l = ds.map C3.l) = decide (cs = ds) := by
  by_cases h : cs = ds
  · rw [decide_eq_true h, decide_eq_true (map_l_inj.mpr h)]
  · rw [decide_eq_false h, decide_eq_false fun e => h (map_l_inj.mp e)]
theorem qo_eqR (h : X.K = K) (hu : X.A.units + 64 < cLine) : QOp X (compareOp .Eq) (rEqC K false) := ⟨by
  subst h
  rintro pins s σ H x y v u Q I rx ry ⟨a, b, ys, zs, cs, ds, rfl, rfl, ha, hc, hb, hd, q⟩
  obtain ⟨as, e1, t1⟩ := tups_of (K := X.K) hc
  obtain ⟨bs, e2, t2⟩ := tups_of (K := X.K) hd
  exact op_eqL hu pins s σ H _ _ v u Q I rx ry ⟨a, b, as, bs, _, _, rfl, rfl, e1 ▸ ha, t1, e2 ▸ hb, t2, by simp only [dec_l]; exact q⟩⟩
theorem qo_neR (h : X.K = K) (hu : X.A.units + 64 < cLine) : QOp X (compareOp .NotEq) (rEqC K true) := ⟨by
  subst h
  rintro pins s σ H x y v u Q I rx ry ⟨a, b, ys, zs, cs, ds, rfl, rfl, ha, hc, hb, hd, q⟩
  obtain ⟨as, e1, t1⟩ := tups_of (K := X.K) hc
  obtain ⟨bs, e2, t2⟩ := tups_of (K := X.K) hd
  exact op_neL hu pins s σ H _ _ v u Q I rx ry ⟨a, b, as, bs, _, _, rfl, rfl, e1 ▸ ha, t1, e2 ▸ hb, t2, by simp only [dec_l]; exact q⟩⟩
theorem rd_eqR {a b : Addr} {ys zs : List V} {cs ds : List C3} (h1 : SqL K H a ys) (c1 : Cs H ys cs) (h2 : SqL K H b zs) (c2 : Cs H zs ds) (q : Q (.bl (decide (cs = ds))) H) : rEqC K false (.ref a) (.ref b) H Q := ⟨a, b, ys, zs, cs, ds, rfl, rfl, h1, c1, h2, c2, q⟩
theorem rd_neR {a b : Addr} {ys zs : List V} {cs ds : List C3} (h1 : SqL K H a ys) (c1 : Cs H ys cs) (h2 : SqL K H b zs) (c2 : Cs H zs ds) (q : Q (.bl (!decide (cs = ds))) H) : rEqC K true (.ref a) (.ref b) H Q := ⟨a, b, ys, zs, cs, ds, rfl, rfl, h1, c1, h2, c2, q⟩
theorem rd_sortC {l : Addr} {ys : List V} {cs : List C3} (h : SqL K H l ys) (c : Cs H ys cs) (h64 : cs.length < 64) (q : ∀ (p : Addr) (zs : List V), H p = none → Cs (upd H p (.lst zs)) zs (srtC cs) → Q (.ref p) (upd H p (.lst zs))) : rSortC K [.ref l] H Q := ⟨l, ys, cs, rfl, h, c, h64, q⟩
end
end L2
set_option Elab.async false
set_option linter.all false
set_option maxRecDepth 100000
set_option maxHeartbeats 4000000
namespace L2
open PySem PySem.Spec PyProof.Rows
theorem b_reversed : bootBuiltins "reversed" = some (.type "reversed") := by decide +kernel
section
variable {X : Cx}
end
end L2
set_option Elab.async false
set_option linter.all false
set_option maxRecDepth 100000
set_option maxHeartbeats 4000000
namespace L2
open PySem PySem.W PyProof.Rows Srt Pc
theorem rd_isNr {H : Hp} {Q : VK} {p : Addr} (h : Q (.bl false) H) : rIsN false (.ref p) .non H Q := ⟨rfl, h⟩
end L2
namespace Pc
open PySem L2 Srt
noncomputable def ddGo (acc : List C3) (c : C3) : List C3 := if acc.getLast? = some c then acc else acc ++ [c]
noncomputable def bodyC (cs : List C3) : List C3 := (srtC cs).foldl ddGo []
theorem smallM {n : Nat} (h : n ≤ 1000000) : n < sizeLine := Nat.lt_of_le_of_lt h (by decide)
theorem ddGo_mem (acc : List C3) (c x : C3) : x ∈ ddGo acc c ↔ x ∈ acc ∨ x = c := by
  unfold ddGo
  split
  · rename_i h
    constructor
    · exact .inl
    · rintro (h' | rfl)
      · exact h'
      · exact List.mem_of_getLast? h
  · simp
theorem dd_mem : ∀ (cs acc : List C3) (x : C3), x ∈ cs.foldl ddGo acc ↔ x ∈ acc ∨ x ∈ cs
  | [], acc, x => by simp
  | c :: cs, acc, x => by
    rw [List.foldl_cons, dd_mem cs, ddGo_mem, List.mem_cons, or_assoc]
theorem dd_asc : ∀ (cs acc : List C3), Asc (acc ++ cs) → acc.Nodup → Asc (cs.foldl ddGo acc) ∧ (cs.foldl ddGo acc).Nodup
  | [], acc, h, hn => by rw [List.append_nil] at h; exact ⟨h, hn⟩
  | c :: cs, acc, h, hn => by
    rw [List.foldl_cons]
    unfold ddGo
    split
    · rename_i e
      refine dd_asc cs acc ?_ hn
      exact h.sublist (List.Sublist.append (List.Sublist.refl _) (List.sublist_cons_self _ _))
    · rename_i e
      refine dd_asc cs (acc ++ [c]) (by simpa using h) ?_
      refine List.nodup_append.mpr ⟨hn, by simp, fun a ha b hb => ?_⟩
      obtain rfl : b = c := by simpa using hb
      rintro rfl
      refine e ?_
      cases hl : acc.getLast? with
      | none =>
        rw [List.getLast?_eq_none_iff] at hl
        rw [hl] at ha
        cases ha
      | some l =>
        have hml := List.mem_of_getLast? hl
        obtain ⟨q1, q2, q3⟩ := List.pairwise_append.mp h
        have h1 : cle l a = true := q3 l hml a (by simp)
        have h2 : cle a l = true := by
          obtain ⟨pre, e2⟩ := List.getLast?_eq_some_iff.mp hl
          rw [e2] at ha q1
          rcases List.mem_append.mp ha with z | z
          · exact (List.pairwise_append.mp q1).2.2 a z l (by simp)
          · obtain rfl : a = l := by simpa using z
            unfold cle
            rw [lex_rf]; rfl
        rw [cle_anti h1 h2]
theorem bodyC_mem (cs : List C3) (x : C3) : x ∈ bodyC cs ↔ x ∈ cs := by
  unfold bodyC
  rw [dd_mem]
  simp [(srtC_perm cs).mem_iff]
theorem bodyC_asc (cs : List C3) : Asc (bodyC cs) := (dd_asc (srtC cs) [] (by simpa using srtC_asc cs) (by simp)).1
theorem bodyC_nodup (cs : List C3) : (bodyC cs).Nodup := (dd_asc (srtC cs) [] (by simpa using srtC_asc cs) (by simp)).2
theorem asc_ext {l m : List C3} (h1 : Asc l) (h2 : Asc m) (n1 : l.Nodup) (n2 : m.Nodup) (h : ∀ x, x ∈ l ↔ x ∈ m) : l = m := by
  refine asc_one ?_ h1 h2
  exact (List.perm_ext_iff_of_nodup n1 n2).mpr h
theorem bodyC_of_nodup {cs : List C3} (h : cs.Nodup) : bodyC cs = srtC cs :=
  asc_ext (bodyC_asc cs) (srtC_asc cs) (bodyC_nodup cs) ((srtC_perm cs).nodup_iff.mpr h) fun x => by rw [bodyC_mem, (srtC_perm cs).mem_iff]
theorem srtC_nodup {cs : List C3} (h : cs.Nodup) : (srtC cs).Nodup := (srtC_perm cs).nodup_iff.mpr h
end Pc
set_option Elab.async false
set_option linter.all false
set_option maxRecDepth 100000
set_option maxHeartbeats 4000000
namespace L2
open PySem PySem.W PyProof.Rows Srt Pc
section
variable {X : Cx} {K : PySem.W.Frag} {H : Hp} {Q : VK}
noncomputable def rMaxL (K : PySem.W.Frag) : List V → Hp → VK → Prop := fun xs H Q => ∃ (p : Addr) (ns : List Int), xs = [.ref p] ∧ SqL K H p (ns.map V.int) ∧ ns ≠ [] ∧ ∀ M, M ∈ ns → (∀ a, a ∈ ns → a ≤ M) → Q (.int M) H
noncomputable def rMinL (K : PySem.W.Frag) : List V → Hp → VK → Prop := fun xs H Q => ∃ (p : Addr) (ns : List Int), xs = [.ref p] ∧ SqL K H p (ns.map V.int) ∧ ns ≠ [] ∧ ∀ M, M ∈ ns → (∀ a, a ∈ ns → M ≤ a) → Q (.int M) H
theorem call_maxL (hc : X.calm = true) : CallR X (.builtin "max") (rMaxL X.K) := by
  intro pins s σ H xs us Q I r h
  obtain ⟨p, ns, rfl, hp, hne, q⟩ := h
  obtain ⟨u, rfl, ru⟩ := vals1 r
  cases ru
  obtain ⟨its, rv, pl, hz⟩ := I.list hp
  have hi : IntsAre its ns := intsAre_of rv
  have hl : 0 < ns.length := List.length_pos_iff.mpr hne
  obtain ⟨ys, hys⟩ := hi.allInts.items
  have hsz : 0 < ys.size := by
    have e := congrArg Array.size hys
    rw [List.size_toArray, hi.length] at e
    have e2 : (intItems ys).size = ys.size := by simp [intItems]
    lia
  have hnum : numsOf (intItems ys).toList = ns := by rw [← hys]; exact hi.numsOf
  rw [nums_intItems] at hnum
  refine max_intList (xs := ys) (I.ok.hd hc) (by rw [← hys]; exact pl.isList) hsz fun v h' tk hv hk => ?_
  obtain ⟨t, rfl⟩ := intItems_at hv
  obtain ⟨h1, h2⟩ := argBest_gt (numAt ys) (ys.size - 1)
  refine ⟨.int _, H, I.kept hk, ⟨t, rfl⟩, q _ ?_ fun a ha => ?_⟩
  · rw [← hnum, numAt_eq]; exact getD_mem (by rw [List.length_map, Array.length_toList]; lia)
  · rw [← hnum] at ha
    obtain ⟨j, hj, rfl⟩ := mem_getD ha
    rw [List.length_map, Array.length_toList] at hj
    rw [← numAt_eq]; exact h2 j (by lia)
theorem call_minL (hc : X.calm = true) : CallR X (.builtin "min") (rMinL X.K) := by
  intro pins s σ H xs us Q I r h
  obtain ⟨p, ns, rfl, hp, hne, q⟩ := h
  obtain ⟨u, rfl, ru⟩ := vals1 r
  cases ru
  obtain ⟨its, rv, pl, hz⟩ := I.list hp
  have hi : IntsAre its ns := intsAre_of rv
  have hl : 0 < ns.length := List.length_pos_iff.mpr hne
  obtain ⟨ys, hys⟩ := hi.allInts.items
  have hsz : 0 < ys.size := by
    have e := congrArg Array.size hys
    rw [List.size_toArray, hi.length] at e
    have e2 : (intItems ys).size = ys.size := by simp [intItems]
    lia
  have hnum : numsOf (intItems ys).toList = ns := by rw [← hys]; exact hi.numsOf
  rw [nums_intItems] at hnum
  refine min_intList (xs := ys) (I.ok.hd hc) (by rw [← hys]; exact pl.isList) hsz fun v h' tk hv hk => ?_
  obtain ⟨t, rfl⟩ := intItems_at hv
  obtain ⟨h1, h2⟩ := argBest_lt (numAt ys) (ys.size - 1)
  refine ⟨.int _, H, I.kept hk, ⟨t, rfl⟩, q _ ?_ fun a ha => ?_⟩
  · rw [← hnum, numAt_eq]; exact getD_mem (by rw [List.length_map, Array.length_toList]; lia)
  · rw [← hnum] at ha
    obtain ⟨j, hj, rfl⟩ := mem_getD ha
    rw [List.length_map, Array.length_toList] at hj
    rw [← numAt_eq]; exact h2 j (by lia)
theorem qc_maxL (h : X.K = K) (hc : X.calm = true) : QCl X (.builtin "max") (rMaxL K) := ⟨h ▸ call_maxL hc⟩
theorem qc_minL (h : X.K = K) (hc : X.calm = true) : QCl X (.builtin "min") (rMinL K) := ⟨h ▸ call_minL hc⟩
theorem rd_maxL {p : Addr} {ns : List Int} (h : SqL K H p (ns.map V.int)) (hn : ns ≠ []) (q : ∀ M, M ∈ ns → (∀ a, a ∈ ns → a ≤ M) → Q (.int M) H) : rMaxL K [.ref p] H Q := ⟨p, ns, rfl, h, hn, q⟩
theorem rd_minL {p : Addr} {ns : List Int} (h : SqL K H p (ns.map V.int)) (hn : ns ≠ []) (q : ∀ M, M ∈ ns → (∀ a, a ∈ ns → M ≤ a) → Q (.int M) H) : rMinL K [.ref p] H Q := ⟨p, ns, rfl, h, hn, q⟩
theorem any_dTs (nss : List (List Int)) (ns : List Int) : (dTs nss).any (fun y => PyData.eqv y (.tuple (ns.map PyData.int))) = decide (ns ∈ nss) := by
  induction nss with
  | nil => rfl
  | cons m r ih =>
    show (PyData.eqv (.tuple (m.map PyData.int)) (.tuple (ns.map PyData.int)) || (dTs r).any _) = _
    rw [eqv_T, ih]
    by_cases h : m = ns
    · subst h; simp
    · by_cases h2 : ns ∈ r
      · simp [h2]
      · simp [h, h2, Ne.symm h]
theorem mem_l {c : C3} {cs : List C3} : c.l ∈ cs.map C3.l ↔ c ∈ cs := by
  constructor
  · intro h
    obtain ⟨d, hd, e⟩ := List.mem_map.mp h
    rwa [C3.inj.mp e] at hd
  · intro h; exact List.mem_map.mpr ⟨c, h, rfl⟩
theorem dec_mem {c : C3} {cs : List C3} : decide (c.l ∈ cs.map C3.l) = decide (c ∈ cs) := by
  by_cases h : c ∈ cs
  · rw [decide_eq_true h, decide_eq_true (mem_l.mpr h)]
  · rw [decide_eq_false h, decide_eq_false fun e => h (mem_l.mp e)]
noncomputable def rInC (K : PySem.W.Frag) (neg : Bool) : R2 := fun x y H Q => ∃ (a b : Addr) (c : C3) (ys : List V) (cs : List C3), x = .ref a ∧ y = .ref b ∧ SqT K H a c.v ∧ SqL K H b ys ∧ Cs H ys cs ∧ Q (.bl (if neg then !decide (c ∈ cs) else decide (c ∈ cs))) H
theorem depth_T (ns : List Int) : PyData.depth (.tuple (ns.map PyData.int)) ≤ 1 := by
  simp [PyData.depth, PySem.W.ke_depthAll]
theorem qo_notInC (h : X.K = K) (hu : X.A.units + 64 < cLine) : QOp X (compareOp .NotIn) (rInC K true) := ⟨by
  subst h
  rintro pins s σ H x y v u Q I rx ry ⟨a, b, c, ys, cs, rfl, rfl, ha, hb, hc, q⟩
  obtain ⟨as, e1, t1⟩ := tups_of (K := X.K) hc
  subst e1
  cases rx
  cases ry
  refine SeqAt.notIn_list_reads (I.readsL hb t1) (I.readsT ha) (canLay_Ts _) (SeqAt.canLay_of_shaped (shaped_T _)) (by have := depth_T c.l; lia) ?_
  rw [any_dTs, dec_mem]
  exact ⟨.bl _, H, I, rfl, q⟩⟩
theorem rd_notInC {a b : Addr} {c : C3} {ys : List V} {cs : List C3} (h1 : SqT K H a c.v) (h2 : SqL K H b ys) (h3 : Cs H ys cs) (q : Q (.bl (!decide (c ∈ cs))) H) : rInC K true (.ref a) (.ref b) H Q := ⟨a, b, c, ys, cs, rfl, rfl, h1, h2, h3, q⟩
end
end L2
set_option Elab.async false
set_option linter.all false
set_option maxRecDepth 100000
set_option maxHeartbeats 4000000
namespace PyProof.Rows
open PySem PySem.Spec
section
variable {prog : Program} {w : World} {A : Around} {E : Value → Shared → Prop} {s : Shared}
theorem getAttrQ_miss_list {a : Addr} {o : Obj} {xs : Array Value} {k : Nat} {name : Str} {Q : Option Value → Shared → Prop}
    (hx : s.heap.get? a = some o) (hc : o.cls = .type "list") (hdat : o.data = .seq xs k) (hd : o.dict = none) (hmiss : typeLookup (.type "list") name = pure none) (hname : (["__module__", "__name__", "__qualname__", "__doc__", "__annotations__"] : List Str).contains name = false) (hA : A.handled = none)
    (h : ∀ h' tk, (∀ b ob, s.heap.get? b = some ob → h'.get? b = some ob) → Q none { s with heap := h', toks := tk }) (hsz : name.length + 100 ≤ sizeLine) :
    wpAny (model prog w) A (getAttr? (.ref a) name) Q E s := by
  obtain ⟨c, dct, dat, sl⟩ := o
  simp only at hc hdat hd
  subst hc hdat hd
  obtain ⟨hp, g, d, tk, os⟩ := s
  have hT : ∀ tk', (⟨hp, g, d, tk', os⟩ : Shared).TypeIs (.ref a) "list" := fun _ => ⟨_, hx, rfl⟩
  have f1 := sub_AttributeError
  have f3 := PySem.F.slot_list_getattribute.lookup
  have f4 := PySem.F.slot_list_getattribute.bind (.ref a)
  have f5 := am_list_getattr_none
  unfold getAttr? getAttrBy? getAttrBy
  repeat (any_goals (first | assumption | exact hT _ | ((with_reducible show wpAny _ _ (call (Value.builtin "list.__getattribute__") _ _) _ _ _); refine call_meets PySem.F.slot_list_getattribute (hT _) am_entry_list_getattribute (PySem.F.args_list_getattribute_2 _ _) (meets_getattribute_miss_list a xs k sl name _ hmiss hname hsz) ⟨hx, hA, fun h' tk' e hx' => ?_⟩) | wp_step))
  obtain ⟨t', u', he⟩ := hx'.there
  show wpAny _ _ (getattributeRaised _ _ _ _ _ _ _) _ _ _
  unfold getattributeRaised
  repeat (any_goals (first | assumption | wp_step))
  exact h _ _ hx'.keeps
end
end PyProof.Rows
namespace L2
open PySem PySem.W PySem.Spec PyProof.Rows Srt Pc
theorem entry_dict_update_loop : entryFor table "dict.update.loop" = some Builtin.«dict.update.loop» := entryFor_of_tree (by kernel_rfl)
theorem plain_dict_update_loop : plainId "dict.update.loop" = true := by decide +kernel
noncomputable def foldH (ts : List (List Key × Addr × Value)) : List (List Key × Addr × Value) := ts.foldl (fun acc t => storedH acc t.1 t.2.1 t.2.2) []
theorem foldH_succ {ts : List (List Key × Addr × Value)} {i : Nat} {t : List Key × Addr × Value} (h : ts[i]? = some t) : foldH (ts.take (i + 1)) = storedH (foldH (ts.take i)) t.1 t.2.1 t.2.2 := by
  unfold foldH
  rw [List.take_add_one, h, List.foldl_append]
  rfl
theorem storedH_len (xs : List (List Key × Addr × Value)) (k : List Key) (a : Addr) (v : Value) : (storedH xs k a v).length ≤ xs.length + 1 := by
  unfold storedH
  split <;> simp
theorem foldH_len (ts : List (List Key × Addr × Value)) : (foldH ts).length ≤ ts.length := by
  have : ∀ (ts acc : List (List Key × Addr × Value)), (ts.foldl (fun acc t => storedH acc t.1 t.2.1 t.2.2) acc).length ≤ acc.length + ts.length := by
    intro ts
    induction ts with
    | nil => intro acc; simp
    | cons t r ih =>
      intro acc
      have h1 := ih (storedH acc t.1 t.2.1 t.2.2)
      have h2 := storedH_len acc t.1 t.2.1 t.2.2
      rw [List.foldl_cons, List.length_cons]
      lia
  have h := this ts []
  simpa [foldH] using h
section
variable {prog : Program} {w : World} {A : Around} {R : Result → Shared → Prop}
theorem dictH_keep {h h' : Heap} {D I l : Addr} {i : Nat} {xs : List (List Key × Addr × Value)} (d : h.DictOfH (tupleKind (mixKind prog w)) D xs) (hne : D ≠ I) (it : h.IsListIter I l i) (k : ∀ b o, b ≠ I → h.get? b = some o → h'.get? b = some o) :
    h'.DictOfH (tupleKind (mixKind prog w)) D xs := by
  obtain ⟨o, es, ep, h1, h2, h3, h4, h5, h6⟩ := d
  refine ⟨o, es, ep, k _ _ hne h1, h2, h3, h4, fun x hx => ?_, h6⟩
  obtain ⟨o', its, n, q1, q2, q3, q4⟩ := (show IsTupleKey (mixKind prog w) h x.1 x.2.1 from h5 x hx)
  refine ⟨o', its, n, k _ _ (fun e => ?_) q1, q2, q3, q4⟩
  obtain ⟨oi, g1, g2, _⟩ := it
  rw [e, g1] at q1
  cases q1
  rw [g2] at q2
  exact absurd q2 (by decide)
theorem codeAny_dict_loop {D I l : Addr} {items : Array Value} {ts : List (List Key × Addr × Value)} (h0 : Heap) (hh : A.in1.handled = none) (hr : (tupleKind (mixKind prog w)).room A.in1) (hDI : D < I) (hlD : l < D)
    (hp : ∀ (i : Nat) (t : List Key × Addr × Value), ts[i]? = some t → ∃ p, items[i]? = some (.ref p) ∧ p < D ∧ h0.IsTuple p #[.ref t.2.1, t.2.2] ∧ t.2.1 < D ∧ IsTupleKey (mixKind prog w) h0 t.1 t.2.1)
    (hlen : items.size = ts.length) (hsz : ts.length ≤ sizeLine) :
    ∀ (k i : Nat) (s : Shared), items.size - i = k → i ≤ items.size → s.heap.IsListIter I l i → s.heap.IsList l items → (∀ b o, b < D → h0.get? b = some o → s.heap.get? b = some o) →
      s.heap.DictOfH (tupleKind (mixKind prog w)) D (foldH (ts.take i)) →
      (∀ h' tk, (∀ b o, b < D → h0.get? b = some o → h'.get? b = some o) → h'.DictOfH (tupleKind (mixKind prog w)) D (foldH ts) → R (.ok (.ret .none)) { s with heap := h', toks := tk }) →
      codeAny (model prog w) A (.builtin "dict.update.loop" ⟨[.ref D, .ref I, .int (i : Int) 0, .none], []⟩) R s := by
  have hlI : l ≠ I := Nat.ne_of_lt (Nat.lt_trans hlD hDI)
  have hDn : D ≠ I := Nat.ne_of_lt hDI
  have hbI : ∀ b : Addr, b < D → b ≠ I := fun b hb => Nat.ne_of_lt (Nat.lt_trans hb hDI)
  have hbD : ∀ b : Addr, b < D → b ≠ D := fun b hb => Nat.ne_of_lt hb
  have W := Walks.list (prog := prog) (w := w) hh I l hlI items
  intro k
  induction k with
  | zero =>
    intro i s hk hi hit hl hkeep hd hR
    have hin : i = items.size := by lia
    subst hin
    refine codeAny_builtin entry_dict_update_loop ?_
    rw [Around.under_plainId plain_dict_update_loop _]
    show wpAny _ A.in1 (pyNext (.ref I) >>= _) _ _ s
    refine wpAny_bind (W.done s _ _ ⟨hit, hl⟩ fun h' tk km => ?_)
    show wpAny _ A.in1 (Builtin.Dict.addKeywords D [] >>= _) _ _ _
    have km' : ∀ b o, b ≠ I → s.heap.get? b = some o → h'.get? b = some o := fun b o hb e => km b o (by simpa using hb) e
    refine wpAny_bind (wpAny_pure (wpAny_pure (hR h' tk (fun b o hb e => km' b o (hbI b hb) (hkeep b o hb e)) ?_)))
    have := dictH_keep hd hDn hit km'
    rwa [hlen, List.take_length] at this
  | succ k ih =>
    intro i s hk hi hit hl hkeep hd hR
    have hlt : i < items.size := by lia
    refine codeAny_builtin entry_dict_update_loop ?_
    rw [Around.under_plainId plain_dict_update_loop _]
    show wpAny _ A.in1 (pyNext (.ref I) >>= _) _ _ s
    refine wpAny_bind (W.item i s _ _ hlt ⟨hit, hl⟩ fun v h1 tk hv hst km => ?_)
    have km' : ∀ b o, b ≠ I → s.heap.get? b = some o → h1.get? b = some o := fun b o hb e => km b o (by simpa using hb) e
    have ht : ts[i]? = some ts[i] := List.getElem?_eq_getElem (by omega)
    obtain ⟨p, ep, pD, pT, kD, kT⟩ := hp i _ ht
    rw [ep] at hv
    cases hv
    have hk1 : ∀ b o, b < D → h0.get? b = some o → h1.get? b = some o := fun b o hb e => km' b o (hbI b hb) (hkeep b o hb e)
    obtain ⟨po, pg, pc, pn, pdat⟩ := pT
    have pg1 : h1.get? p = some po := hk1 _ _ pD pg
    have kT1 : IsTupleKey (mixKind prog w) h1 ts[i].1 ts[i].2.1 := by
      obtain ⟨o', its, n, q1, q2, q3, q4⟩ := kT
      exact ⟨o', its, n, hk1 _ _ kD q1, q2, q3, q4⟩
    have hd1 := dictH_keep hd hDn hit km'
    have hz : (foldH (ts.take i)).length ≤ sizeLine := by
      have := foldH_len (ts.take i)
      rw [List.length_take] at this
      lia
    refine wpAny_bind (wpAny_holding ?_)
    refine wpAny_bind (wpAny_tryCatch ?_)
    unfold Builtin.Dict.pairItems
    refine wpAny_bind (wpAny_typeOf (T := "tuple") (s := { s with heap := h1, toks := tk }) ⟨po, pg1, pc⟩ ?_)
    show wpAny _ _ (seqItems? (.ref p) >>= _) _ _ _
    refine wpAny_bind (wpAny_seqItems (s := { s with heap := h1, toks := tk }) pg1 pdat (wpAny_pure ?_))
    show wpAny _ A.in1 (holding [Value.ref ts[i].2.1, ts[i].2.2] (dictSet D (.ref ts[i].2.1) ts[i].2.2)) _ _ _
    refine wpAny_holding (wpAny_dictSet_heap (s := { s with heap := h1, toks := tk }) (hsz := hz) hr kT1 hd1 fun h2 d2 sb => ?_)
    refine wpAny_pure ⟨plainId_quiet plain_dict_update_loop _, ?_⟩
    have hD2 : ∀ b o, b ≠ D → h1.get? b = some o → h2.get? b = some o := fun b o hb e => (sb.2 b hb).trans e
    show codeAny (model prog w) A (.builtin "dict.update.loop" ⟨[.ref D, .ref I, .int ((i + 1 : Nat) : Int) 0, .none], []⟩) R _
    refine ih (i + 1) _ (by lia) hlt ?_ ?_ (fun b o hb e => hD2 b o (hbD b hb) (hk1 b o hb e)) ?_ (fun h' tk' a b => hR h' tk' a b)
    · exact hst.1.at fun o e => hD2 I o (Ne.symm hDn) e
    · exact hst.2.at fun o e => hD2 l o (hbD l hlD) e
    · rw [foldH_succ ht]; exact d2
theorem list_no_keys : typeLookup (.type "list") "keys" = pure none := am_miss_of_fast (by kernel_rfl)
theorem call_dict_pairs {E : Value → Shared → Prop} {s : Shared} {l : Addr} {o : Obj} {items : Array Value} {n : Nat} {ts : List (List Key × Addr × Value)} {Q : Value → Shared → Prop} (hh : A.handled = none) (hr : (tupleKind (mixKind prog w)).room A.in1.in1)
    (ho : s.heap.get? l = some o) (hc : o.cls = .type "list") (hdn : o.dict = none) (hdat : o.data = .seq items n)
    (hp : ∀ (i : Nat) (t : List Key × Addr × Value), ts[i]? = some t → ∃ p, items[i]? = some (.ref p) ∧ s.heap.IsTuple p #[.ref t.2.1, t.2.2] ∧ IsTupleKey (mixKind prog w) s.heap t.1 t.2.1)
    (hlen : items.size = ts.length) (hsz : ts.length ≤ sizeLine)
    (h : ∀ h' tk, (∀ b o, s.heap.get? b = some o → h'.get? b = some o) → h'.DictOfH (tupleKind (mixKind prog w)) s.heap.objs.size (foldH ts) → Q (.ref s.heap.objs.size) { s with heap := h', toks := tk }) :
    wpAny (model prog w) A (call (.type "dict") [.ref l]) Q E s := by
  refine callType_codes (Q₁ := fun obj s₁ => obj = .ref s.heap.objs.size ∧ s₁ = { s with heap := s.heap.push { cls := .type "dict", data := .dict #[] } }) PySem.F.kt_called_dict (PySem.F.kt_typeCall_dict_1 _) PySem.F.entry_dict_init (kt_code_dict_new _ ⟨rfl, rfl⟩) ?_
  rintro obj s₁ ⟨rfl, rfl⟩
  have hlD : l < s.heap.objs.size := Heap.lt_size ho
  have hnew : (s.heap.push { cls := .type "dict", data := .dict #[] }).DictOfH (tupleKind (mixKind prog w)) s.heap.objs.size [] := Heap.DictOfH.new s.heap
  refine ⟨hnew.typeIs (s := { s with heap := _ }), PySem.F.args_dict_init_2 _ _, ?_⟩
  unfold Builtin.«dict.__init__»
  refine wpAny_bind ?_
  unfold Builtin.Dict.selfAndRest
  refine wpAny_bind (wpAny_notOrdered_dict (hnew.typeIs (s := { s with heap := _ })) ?_)
  show wpAny _ _ (pure (s.heap.objs.size, [Value.ref l])) _ _ _
  refine wpAny_pure ?_
  show wpAny _ _ (Builtin.Dict.updateFrom "dict.__init__" s.heap.objs.size (.ref l) [] .none) _ _ _
  unfold Builtin.Dict.updateFrom
  have ho1 : (s.heap.push { cls := .type "dict", data := .dict #[] }).get? l = some o := Heap.get?_push_of_some _ ho
  refine wpAny_bind (wpAny_typeOf (T := "list") (s := { s with heap := s.heap.push { cls := .type "dict", data := .dict #[] } }) ⟨o, ho1, hc⟩ ?_)
  rw [if_pos (by decide)]
  refine wpAny_bind (getAttrQ_miss_list (s := { s with heap := s.heap.push { cls := .type "dict", data := .dict #[] } }) ho1 hc hdat hdn list_no_keys (by decide +kernel) hh (fun h1 tk1 k1 => ?_) (by decide +kernel))
  simp only [Option.isNone_none, if_true]
  refine wpAny_bind (wpAny_rule ?_)
  have hl1 : h1.IsList l items := ⟨o, k1 _ _ ho1, hc, n, hdat⟩
  refine wpAny_bind (wpAny_pyIter_list (s := { s with heap := h1, toks := tk1 }) hl1 ?_)
  have hD1 : s.heap.objs.size < h1.objs.size := Heap.lt_size (k1 _ _ (Heap.get?_push_size _ rfl))
  have kk : ∀ b o, s.heap.get? b = some o → (h1.push { cls := .type "list_iterator", data := .fields #[.ref l, .int 0 0] }).get? b = some o := fun b o e => Heap.get?_push_of_some _ (k1 b o (Heap.get?_push_of_some _ e))
  refine wpAny_pure ⟨plainId_quiet plain_dict_update_loop _, ?_⟩
  refine codeAny_dict_loop (A := A.in1) (I := h1.objs.size) (l := l) (items := items) (ts := ts) s.heap hh hr hD1 hlD (fun i t ht => ?_) hlen hsz items.size 0 { s with heap := h1.push { cls := .type "list_iterator", data := .fields #[.ref l, .int 0 0] }, toks := tk1 } (by lia) (Nat.zero_le _) ⟨_, Heap.get?_push_size _ rfl, rfl, rfl⟩ ⟨o, kk _ _ ho, hc, n, hdat⟩ (fun b o _ e => kk b o e) ?_ ?_
  · obtain ⟨p, e1, t1, t2⟩ := hp i t ht
    refine ⟨p, e1, ?_, t1, ?_, t2⟩
    · obtain ⟨_, q, _⟩ := t1; exact Heap.lt_size q
    · obtain ⟨_, _, _, q, _⟩ := t2; exact Heap.lt_size q
  · refine ⟨_, #[], 0, Heap.get?_push_of_some _ (k1 _ _ (Heap.get?_push_size _ rfl)), ⟨rfl, rfl, rfl⟩, rfl, rfl, fun _ hx => ?_, List.nodup_nil⟩
    exact absurd hx (by simp [foldH])
  · intro h' tk k d
    exact ⟨rfl, h h' tk (fun b o e => k b o (Heap.lt_size e) e) d⟩
end
end L2
set_option Elab.async false
set_option linter.all false
set_option maxRecDepth 100000
set_option maxHeartbeats 4000000
namespace L2
open PySem PySem.W PySem.Spec PyProof.Rows Srt Pc
noncomputable def keyC (c : C3) : List Key := c.l.map Sum.inl
theorem keyC_v (c : C3) : (keyC c).map kV = c.v := by
  unfold keyC C3.v
  rw [List.map_map]
  rfl
theorem keyC_inj {c d : C3} : keyC c = keyC d ↔ c = d := by
  constructor
  · intro h
    have h1 : (keyC c).map kV = (keyC d).map kV := by rw [h]
    rw [keyC_v, keyC_v] at h1
    have h2 : c.l = d.l := by
      have : ∀ xs ys : List Int, xs.map V.int = ys.map V.int → xs = ys := by
        intro xs
        induction xs with
        | nil => intro ys e; cases ys with
          | nil => rfl
          | cons => simp at e
        | cons x xs ih => intro ys e; cases ys with
          | nil => simp at e
          | cons y ys =>
            simp only [List.map_cons, List.cons.injEq] at e
            rw [V.int.inj e.1, ih ys e.2]
      exact this _ _ h1
    exact C3.inj.mp h2
  · intro h; rw [h]
noncomputable def IsKV : Hp → V → C3 × V → Prop := fun H v x => ∃ p ka, v = .ref p ∧ H p = some (.tup [.ref ka, x.2]) ∧ H ka = some (.tup x.1.v)
noncomputable instance : Rep IsKV := ⟨fun s ⟨p, ka, e, q, r⟩ => ⟨p, ka, e, s _ _ q, s _ _ r⟩, fun h' ⟨p, ka, e, q, r⟩ => ⟨p, ka, e, lk_kind h' (by intro z; cases z) q, lk_kind h' (by intro z; cases z) r⟩⟩
noncomputable def dctC (m : List (C3 × V)) : List (List Key × V) := m.foldl (fun acc x => putK acc (keyC x.1) x.2) []
theorem fold_len (m : List (C3 × V)) : ∀ acc : List (List Key × V), (m.foldl (fun acc x => putK acc (keyC x.1) x.2) acc).length ≤ acc.length + m.length := by
  induction m with
  | nil => intro acc; simp
  | cons x m ih =>
    intro acc
    have h1 := ih (putK acc (keyC x.1) x.2)
    have h2 := length_putK acc (keyC x.1) x.2
    rw [List.foldl_cons, List.length_cons]
    lia
theorem dctC_len (m : List (C3 × V)) : (dctC m).length ≤ m.length := by
  have := fold_len m []
  simpa [dctC] using this
theorem val_fold (v : V) (cs : List C3) (c : C3) : ∀ acc : List (List Key × V), valV ((cs.map fun d => (d, v)).foldl (fun acc x => putK acc (keyC x.1) x.2) acc) (keyC c) = if c ∈ cs then some v else valV acc (keyC c) := by
  induction cs with
  | nil => intro acc; simp
  | cons d cs ih =>
    intro acc
    rw [List.map_cons, List.foldl_cons, ih, valV_put]
    by_cases h : c ∈ cs
    · simp [h]
    · by_cases h2 : c = d
      · subst h2; simp
      · have h3 : ¬ keyC c = keyC d := fun e => h2 (keyC_inj.mp e)
        simp [h, h2, h3]
theorem val_dct (v : V) (cs : List C3) (c : C3) : valV (dctC (cs.map fun d => (d, v))) (keyC c) = if c ∈ cs then some v else none := by
  have := val_fold v cs c []
  simpa [dctC, valV] using this
section
variable {X : Cx} {K : PySem.W.Frag} {H : Hp} {Q : VK}
theorem ts_of {pins : List (Addr × Obj)} {σ : St} {s : Shared} (I : Inv X pins σ H s) : ∀ {ys : List V} {m : List (C3 × V)} {its : List Value}, Rs IsKV H ys m → Vals ys its →
    ∃ ts : List (List Key × Addr × Value), ts.length = its.length ∧ (∀ (i : Nat) (t : List Key × Addr × Value), ts[i]? = some t → ∃ p, its[i]? = some (.ref p) ∧ s.heap.IsTuple p #[.ref t.2.1, t.2.2] ∧ IsTupleKey (mixKind X.prog X.w) s.heap t.1 t.2.1) ∧
      Paired (fun (x : C3 × V) (t : List Key × Addr × Value) => t.1 = keyC x.1 ∧ H t.2.1 = some (.tup (t.1.map kV)) ∧ RelV x.2 t.2.2) m ts
  | _, _, _, .nil, r => by cases r; exact ⟨[], rfl, fun i t h => by simp at h, .nil⟩
  | _, _, _, .cons (b := x) h t, r => by
    cases r with
    | cons r1 r2 =>
      obtain ⟨p, ka, rfl, e1, e2⟩ := h
      cases r1
      obtain ⟨ts, l1, h1, h2⟩ := ts_of I t r2
      obtain ⟨_, js, rj, o, g1, g2, n, g3⟩ := (show ObjOk X.prog X.w H s.heap p (.tup [.ref ka, x.2]) from I.hok p _ e1)
      cases rj with
      | cons j1 j2 =>
        cases j1
        cases j2 with
        | cons j3 j4 =>
          cases j4
          rename_i u
          have e3 : H ka = some (.tup ((keyC x.1).map kV)) := by rw [keyC_v]; exact e2
          refine ⟨(keyC x.1, ka, u) :: ts, by simp [l1], fun i t ht => ?_, .cons ⟨rfl, e3, j3⟩ h2⟩
          cases i with
          | zero =>
            simp only [List.getElem?_cons_zero, Option.some.injEq] at ht
            subst ht
            exact ⟨p, rfl, ⟨o, g1, g2, n, g3⟩, key_of I.hok e3⟩
          | succ i =>
            simp only [List.getElem?_cons_succ] at ht ⊢
            exact h1 i t ht
theorem kt_fold : ∀ {m : List (C3 × V)} {ts : List (List Key × Addr × Value)} {acc : List (List Key × V)} {xs : List (List Key × Addr × Value)},
    Paired (fun (x : C3 × V) (t : List Key × Addr × Value) => t.1 = keyC x.1 ∧ H t.2.1 = some (.tup (t.1.map kV)) ∧ RelV x.2 t.2.2) m ts → KT H acc xs →
    KT H (m.foldl (fun acc x => putK acc (keyC x.1) x.2) acc) (ts.foldl (fun acc t => storedH acc t.1 t.2.1 t.2.2) xs)
  | _, _, _, _, .nil, r => r
  | _, _, _, _, .cons h t, r => by
    rw [List.foldl_cons, List.foldl_cons]
    refine kt_fold t ?_
    rw [← h.1]
    exact r.put _ h.2.1 h.2.2
noncomputable def rDictP (K : PySem.W.Frag) : List V → Hp → VK → Prop := fun xs H Q => ∃ (l : Addr) (ys : List V) (m : List (C3 × V)), xs = [.ref l] ∧ SqL K H l ys ∧ Rs IsKV H ys m ∧ ∀ d, H d = none → Q (.ref d) (upd H d (.dT (dctC m)))
theorem call_dictP (hc : X.calm = true) (hu : X.A.units + 2 < cLine) : CallR X (.type "dict") (rDictP X.K) := by
  intro pins s σ H xs us Q I r h
  obtain ⟨l, ys, m, rfl, hl, hm, q⟩ := h
  obtain ⟨u, rfl, ru⟩ := vals1 r
  cases ru
  obtain ⟨its, rv, ⟨o, n, ho, hcl, hdn, hdat⟩, hz⟩ := I.list hl
  obtain ⟨ts, l1, h1, h2⟩ := ts_of I hm rv
  have e1 := hm.len
  have e2 := rv.length
  refine call_dict_pairs (ts := ts) (I.ok.hd hc) (show X.A.units + 2 < cLine from hu) ho hcl hdn hdat (fun i t ht => ?_) (by rw [List.size_toArray, l1]) (by lia) fun h' tk k d => ?_
  · obtain ⟨p, a, b, c⟩ := h1 i t ht
    exact ⟨p, by simpa using a, b, c⟩
  · have hn := I.hok.fresh (Nat.le_refl s.heap.objs.size)
    refine ⟨.ref s.heap.objs.size, _, I.laid (a := s.heap.objs.size) (o := .dT (dctC m)) (t' := tk) k (Nat.le_refl _) ?_, rfl, q _ hn⟩
    obtain ⟨o', es, ep, g1, g2, g3, g4, _, g5⟩ := d
    refine ⟨?_, beq_eq_false_iff_ne.mpr (Ne.symm (Nat.ne_of_lt I.big)), foldH ts, (kt_fold h2 .nil).keeps fun b zs eb => ?_, o', es, ep, g1, g2, g3, g4, g5⟩
    · have := dctC_len m
      lia
    · rw [upd_ne (ne_of_none eb hn)]
      exact eb
theorem qc_dictP (h : X.K = K) (hc : X.calm = true) (hu : X.A.units + 2 < cLine) : QCl X (.type "dict") (rDictP K) := ⟨h ▸ call_dictP hc hu⟩
theorem rd_dictP {l : Addr} {ys : List V} {m : List (C3 × V)} (h : SqL K H l ys) (hm : Rs IsKV H ys m) (q : ∀ d, H d = none → Q (.ref d) (upd H d (.dT (dctC m)))) : rDictP K [.ref l] H Q := ⟨l, ys, m, rfl, h, hm, q⟩
theorem dget_c {d a : Addr} {kvs : List (List Key × V)} {c : C3} (e : H d = some (.dT kvs)) (ea : H a = some (.tup c.v)) : DGet H d (.ref a) (valV kvs (keyC c)) := DGet.t e (by rw [keyC_v]; exact ea)
theorem dput_c {d a : Addr} {kvs : List (List Key × V)} {c : C3} {v : V} (e : H d = some (.dT kvs)) (ea : H a = some (.tup c.v)) (hl : kvs.length < sizeLine) : DPut H d (.ref a) v (upd H d (.dT (putK kvs (keyC c) v))) := DPut.t e (by rw [keyC_v]; exact ea) hl
end
end L2
set_option Elab.async false
set_option linter.all false
set_option maxRecDepth 100000
set_option maxHeartbeats 4000000
namespace L2
open PySem PySem.W PySem.Spec PyProof.Rows Srt Pc
section
variable {prog : Program} {w : World} {K : Type} [DecidableEq K] {knd : HeapKind prog w K} {A : Around} {E : Value → Shared → Prop} {s : Shared}
end
section
variable {X : Cx} {pins : List (Addr × Obj)} {σ : St} {H : Hp} {s : Shared} {d a : Addr} {kvs : List (List Key × V)} {k : List Key} {A : Around} {E : Value → Shared → Prop}
end
end L2
set_option Elab.async false
set_option linter.all false
set_option maxRecDepth 100000
set_option maxHeartbeats 4000000
namespace L2
open PySem PySem.W
theorem rd_seqK {t1 t2 : TS} {D : Ends} {σ : St} {H : Hp} (h : ∀ N : St → Hp → Prop, (∀ σ' H', t2 D σ' H' → N σ' H') → t1 { D with nx := N } σ H) : tSeq t1 t2 D σ H := h (t2 D) fun _ _ x => x
theorem hu2_of {k : Nat} {A : Around} (hr : Room k A) : A.units + 2 < cLine := by have := hr.units; lia
end L2
namespace Pc
open PySem L2 Srt
noncomputable def C3.within (n : Int) (c : C3) : Prop := (-n ≤ c.x ∧ c.x ≤ n) ∧ (-n ≤ c.y ∧ c.y ≤ n) ∧ (-n ≤ c.z ∧ c.z ≤ n)
theorem ints_eq {H : Hp} : ∀ {zs : List V} {ns : List Int}, Rs IsI H zs ns → zs = ns.map V.int
  | _, _, .nil => rfl
  | _, _, .cons h t => by
    have h : _ = _ := h
    rw [h, ints_eq t]
    rfl
theorem within_of {room : Int} {d : C3} (h : ∀ z ∈ d.l, (if z < 0 then -z else z) ≤ room) : C3.within room d := by
  obtain ⟨x, y, z⟩ := d
  have h1 := h x (by simp [C3.l])
  have h2 := h y (by simp [C3.l])
  have h3 := h z (by simp [C3.l])
  refine ⟨?_, ?_, ?_⟩ <;> constructor <;> dsimp only <;> split at h1 <;> split at h2 <;> split at h3 <;> lia
noncomputable def spMix : Sp := fun vs H Q _ => ∃ (a b : Int), vs = [.int a, .int b] ∧ 0 ≤ b ∧ b ≤ 1000 ∧ ∀ n : Int, 0 ≤ n → n < 2147483629 → Q (.int n) H
noncomputable def spStepD (K : PySem.W.Frag) : Sp := fun vs H Q _ => ∃ (a : Addr) (c : C3) (n : Int), vs = [.ref a, .int n] ∧ SqT K H a c.v ∧ 0 ≤ n ∧ ∀ (p : Addr) (d : C3) (H' : Hp), Same H H' → H' p = some (.tup d.v) → Q (.ref p) H'
noncomputable def spDrawnS (K : PySem.W.Frag) : Sp := fun vs H Q _ => ∃ (a : Addr) (ns : List Int) (room : Int), vs = [.ref a, .int room] ∧ SqL K H a (ns.map V.int) ∧ ns.length ≤ 1000 ∧ 2 ≤ room ∧
  ∀ (p : Addr) (ys : List V) (cs : List C3) (H' : Hp), Same H H' → H p = none → H' p = some (.lst ys) → Cs H' ys cs → cs.Nodup → (∀ c ∈ cs, c.within room) → cs.length ≤ ns.length → Q (.ref p) H'
theorem at3 (c : C3) (t : Int) (h0 : 0 ≤ t) (h1 : t < 3) : ∃ q : Int, atI c.v t = some (V.int q) := by
  obtain ⟨x, y, z⟩ := c
  rcases (by lia : t = 0 ∨ t = 1 ∨ t = 2) with h | h | h <;> subst h <;> exact ⟨_, rfl⟩
theorem at6 (a b c d e f : Int) (t : Int) (h0 : 0 ≤ t) (h1 : t < 6) : ∃ q : Int, atI [V.int a, V.int b, V.int c, V.int d, V.int e, V.int f] t = some (V.int q) := by
  rcases (by lia : t = 0 ∨ t = 1 ∨ t = 2 ∨ t = 3 ∨ t = 4 ∨ t = 5) with h | h | h | h | h | h <;> subst h <;> exact ⟨_, rfl⟩
theorem cut_lo (c : C3) (t : Int) (h0 : 0 ≤ t) (h1 : t < 3) : ¬ (HT.sIx c.v.length 0 none = 0 ∧ HT.sIx c.v.length c.v.length (some t) = c.v.length) := by
  have e : c.v.length = 3 := rfl
  rw [e]
  rcases (by lia : t = 0 ∨ t = 1 ∨ t = 2) with h | h | h <;> subst h <;> decide
theorem cut_hi (c : C3) (t : Int) (h0 : 0 ≤ t) (h1 : t < 3) : ¬ (HT.sIx c.v.length 0 (some (t + 1)) = 0 ∧ HT.sIx c.v.length c.v.length none = c.v.length) := by
  have e : c.v.length = 3 := rfl
  rw [e]
  rcases (by lia : t = 0 ∨ t = 1 ∨ t = 2) with h | h | h <;> subst h <;> decide
theorem cut_z {xs : List V} {lo hi : Option Int} (h : xs.length ≤ 10) : (cutV xs lo hi).length ≤ 10 := Nat.le_trans (cutV_length xs lo hi) h
theorem cut_put (x y z v t : Int) (h0 : 0 ≤ t) (h1 : t < 3) : ∃ d : C3, cutV [V.int x, V.int y, V.int z] none (some t) ++ [V.int v] ++ cutV [V.int x, V.int y, V.int z] (some (t + 1)) none = d.v := by
  rcases (by lia : t = 0 ∨ t = 1 ∨ t = 2) with h | h | h <;> subst h
  · exact ⟨⟨v, y, z⟩, rfl⟩
  · exact ⟨⟨x, v, z⟩, rfl⟩
  · exact ⟨⟨x, y, v⟩, rfl⟩
end Pc
set_option Elab.async false
set_option linter.all false
set_option maxRecDepth 100000
set_option maxHeartbeats 4000000
namespace L2
open PySem PySem.W PySem.Spec PyProof.Rows Srt Pc
section
variable {prog : Program} {w : World} {A : Around} {E : Value → Shared → Prop} {s : Shared} {env : Env}
end
end L2
set_option Elab.async false
set_option linter.all false
set_option maxRecDepth 100000
set_option maxHeartbeats 4000000
namespace L2
open PySem PySem.W PySem.Spec PyProof.Rows Srt Pc
section
variable {prog : Program} {w : World} {A : Around} {E : Value → Shared → Prop} {s : Shared}
end
section
variable {X : Cx} {K : PySem.W.Frag} {H : Hp} {Q : VK}
end
end L2
set_option Elab.async false
set_option linter.all false
set_option maxRecDepth 100000
set_option maxHeartbeats 4000000
namespace L2
open PySem PySem.W PySem.Spec PyProof.Rows Srt Pc
section
variable {prog : Program} {w : World} {A : Around} {E : Value → Shared → Prop} {s : Shared} {d it : Addr} {es : Array DictEntry} {ep i : Nat}
end
end L2
set_option Elab.async false
set_option linter.all false
set_option maxRecDepth 100000
set_option maxHeartbeats 4000000
namespace L2
open PySem PySem.W PySem.Spec PyProof.Rows Srt Pc
noncomputable def mk1 (c : C3) : List Key × V := (keyC c, .bl true)
noncomputable def Marks (H : Hp) (d : Addr) (cs : List C3) : Prop := H d = some (.dT (cs.map mk1))
noncomputable def addC (cs : List C3) (c : C3) : List C3 := if c ∈ cs then cs else cs ++ [c]
theorem len_addC {cs : List C3} {c : C3} : (addC cs c).length ≤ cs.length + 1 := by unfold addC; split <;> simp
theorem put_marks (cs : List C3) (c : C3) : putK (cs.map mk1) (keyC c) (.bl true) = (addC cs c).map mk1 := by
  unfold putK addC
  by_cases h : c ∈ cs
  · have a : ((cs.map mk1).any fun kv => decide (kv.1 = keyC c)) = true := by
      rw [List.any_eq_true]
      exact ⟨mk1 c, List.mem_map.mpr ⟨c, h, rfl⟩, by simp [mk1]⟩
    rw [if_pos a, if_pos h, List.map_map]
    refine List.map_congr_left fun x _ => ?_
    show (if (mk1 x).1 = keyC c then _ else mk1 x) = mk1 x
    split
    · rename_i e
      rfl
    · rfl
  · have a : ¬ ((cs.map mk1).any fun kv => decide (kv.1 = keyC c)) = true := by
      rw [List.any_eq_true]
      rintro ⟨kv, hkv, e⟩
      obtain ⟨x, hx, rfl⟩ := List.mem_map.mp hkv
      have e : keyC x = keyC c := of_decide_eq_true e
      rw [keyC_inj] at e
      subst e
      exact h hx
    rw [if_neg a, if_neg h, List.map_append]
    rfl
theorem val_marks (cs : List C3) (c : C3) : (valV (cs.map mk1) (keyC c)).isSome = decide (c ∈ cs) := by
  rw [← valV_any]
  by_cases h : c ∈ cs
  · rw [decide_eq_true h, List.any_eq_true]
    exact ⟨mk1 c, List.mem_map.mpr ⟨c, h, rfl⟩, by simp [mk1]⟩
  · rw [decide_eq_false h, List.any_eq_false]
    intro kv hkv
    obtain ⟨x, hx, rfl⟩ := List.mem_map.mp hkv
    intro e
    have e : keyC x = keyC c := of_decide_eq_true e
    rw [keyC_inj] at e
    subst e
    exact h hx
end L2
set_option Elab.async false
set_option linter.all false
set_option maxRecDepth 100000
set_option maxHeartbeats 4000000
namespace L2
open PySem PySem.W PySem.Spec PyProof.Rows Srt Pc
section
variable {prog : Program} {w : World} {A : Around} {E : Value → Shared → Prop} {s : Shared}
theorem col_src {T : String} {r d : Addr} {n : Nat} {P : Nat → Value → Prop} {OK : Heap → Prop} {R : List Value → Shared → Prop} (Ks : KdlSrc prog w T r d n P OK) (hh : A.handled = none) (hok : OK s.heap) (hn : n ≤ sizeLine)
    (h : ∀ (h' : Heap) (tk : Nat) (acc : Array Value), (∀ b o, s.heap.get? b = some o → h'.get? b = some o) → s.heap.objs.size ≤ h'.objs.size → ItemsOf P acc n → R acc.toList { s with heap := h', toks := tk }) : wpAny (model prog w) A (collect (.ref r)) R E s := by
  have lt := Ks.there _ hok
  unfold collect; refine wpAny_bind (wpAny_runValue (codeAny_builtin entry_proto_collect' ?_))
  rw [Around.under_plainId PySem.F.plain_proto_collect _]; show wpAny _ A.in1 (newList [] >>= fun l => again (.builtin "list.__iadd__" ⟨[l, .ref r], []⟩)) _ _ s
  refine wpAny_bind (wpAny_newObj_type (wpAny_pure ⟨plainId_quiet PySem.F.plain_list_iadd _, codeAny_builtin entry_list_iadd' ?_⟩))
  rw [Around.under_plainId PySem.F.plain_list_iadd _]; show wpAny _ A.in1 (Builtin.List.listExtendWith (.ref s.heap.objs.size) (.ref r) (.ref s.heap.objs.size)) _ _ _
  have fin := kdl_extend (A := A) (s := { s with heap := s.heap.push { cls := .type "list", data := .seq ([] : List Value).toArray } }) (R := fun (q : Result) (s' : Shared) => ∃ (h' : Heap) (tk : Nat) (acc' : Array Value) (c' : Nat), q = .ok (.ret (.ref s.heap.objs.size)) ∧ s' = { s with heap := h', toks := tk } ∧ (∀ b o, s.heap.get? b = some o → h'.get? b = some o) ∧ h'.get? s.heap.objs.size = some { cls := .type "list", dict := none, data := .seq acc' c', slots := #[] } ∧ ItemsOf P acc' n)
    Ks hh (Ks.keep _ _ hok fun b _ o e => Heap.get?_push_of_some _ e) s.heap.objs.size (Nat.ne_of_gt lt.1) (Nat.ne_of_gt lt.2) (.ref s.heap.objs.size) 0 (Heap.get?_push_size _ rfl) (fun h' tk acc' c' k k2 k3 => ⟨h', tk, acc', c', rfl, rfl, fun b o e => k b o (Nat.ne_of_lt (Heap.lt_size e)) (Heap.get?_push_of_some _ e), k2, k3⟩) hn
  refine wpAny_mono fin (fun f s' x => ?_) fun e s' x => (by obtain ⟨_, _, _, _, e', _⟩ := x; cases e')
  cases f with
  | done f => obtain ⟨h', tk, acc', c', e, rfl, k, k2, k3⟩ := x; cases e; exact (show wpAny _ A (load s.heap.objs.size >>= _) _ _ _ from wpAny_bind (wpAny_load k2 (wpAny_pure (h h' tk acc' k (Nat.le_of_lt (Heap.lt_size k2)) k3))))
  | again c₁ => exact ⟨x.1, codeAny_mono x.2 fun q s₂ y => by obtain ⟨h', tk, acc', c', rfl, rfl, k, k2, k3⟩ := y; exact (show wpAny _ A (load s.heap.objs.size >>= _) _ _ _ from wpAny_bind (wpAny_load k2 (wpAny_pure (h h' tk acc' k (Nat.le_of_lt (Heap.lt_size k2)) k3))))⟩
theorem sorted_src {T : String} {r d : Addr} {n : Nat} {P : Nat → Value → Prop} {OK : Heap → Prop} {Q : Value → Shared → Prop} (Ks : KdlSrc prog w T r d n P OK) (hh : A.handled = none) (hok : OK s.heap) (hn : n ≤ sizeLine)
    (h : ∀ (h' : Heap) (tk : Nat) (vs : List Value), (∀ b o, s.heap.get? b = some o → h'.get? b = some o) → s.heap.objs.size ≤ h'.objs.size → vs.length = n → (∀ (j : Nat) (v : Value), vs[j]? = some v → P j v) →
      wpAny (model prog w) A.in1 (call (.builtin "list.sort") [.ref h'.objs.size]) (fun _ s' => Q (.ref h'.objs.size) s') E { s with heap := h'.push (seqObj "list" vs.toArray 0), toks := tk }) :
    wpAny (model prog w) A (call (.builtin "sorted") [.ref r]) Q E s := by
  refine Calls.call_function_entry kind_sorted plain_sorted entry_sorted (args_sorted1 _) ?_
  unfold Builtin.«sorted»; refine wpAny_bind (m := checkCount "sorted" 1 1 _) (wpAny_pure ?_)
  refine wpAny_bind (col_src (A := A.in1) Ks hh hok hn fun h' tk acc hk hs hacc => ?_)
  have hl : acc.toList.length = n := by rw [Array.length_toList]; exact hacc.1
  refine wpAny_bind (wpAny_newList ?_ (by rw [hl]; exact hn))
  refine wpAny_bind (wpAny_holding (wpAny_mono (h h' tk acc.toList hk hs hl fun j v e => hacc.2 j v (by rw [← Array.getElem?_toList]; exact e)) (fun _ s' x => wpAny_pure ⟨_, rfl, x⟩) fun _ _ e => e))
end
section
variable {X : Cx}
end
end L2
set_option Elab.async false
set_option linter.all false
set_option maxRecDepth 100000
set_option maxHeartbeats 4000000
namespace L2
open PySem PySem.W PySem.Spec PyProof.Rows Srt Pc
mutual
inductive Dat (K : PySem.W.Frag) (H : Hp) : V → PyData → Prop
  | int (n : Int) : Dat K H (.int n) (.int n)
  | bl (b : Bool) : Dat K H (.bl b) (.bool b)
  | str (x : Str) : Dat K H (.str x) (.str x)
  | non : Dat K H .non .none
  | tup {a : Addr} {vs : List V} {ds : List PyData} : SqT K H a vs → Dats K H vs ds → Dat K H (.ref a) (.tuple ds)
  | lst {a : Addr} {vs : List V} {ds : List PyData} : SqL K H a vs → Dats K H vs ds → Dat K H (.ref a) (.list ds)
inductive Dats (K : PySem.W.Frag) (H : Hp) : List V → List PyData → Prop
  | nil : Dats K H [] []
  | cons {v : V} {vs : List V} {d : PyData} {ds : List PyData} : Dat K H v d → Dats K H vs ds → Dats K H (v :: vs) (d :: ds)
end
section
variable {K : PySem.W.Frag} {H H' : Hp}
mutual
theorem Dat.up (s : Same H H') : ∀ {v : V} {d : PyData}, Dat K H v d → Dat K H' v d
  | _, _, .int n => .int n
  | _, _, .bl b => .bl b
  | _, _, .str x => .str x
  | _, _, .non => .non
  | _, _, .tup h t => .tup (same_tup s h) (Dats.up s t)
  | _, _, .lst h t => .lst (s.seq h) (Dats.up s t)
theorem Dats.up (s : Same H H') : ∀ {vs : List V} {ds : List PyData}, Dats K H vs ds → Dats K H' vs ds
  | _, _, .nil => .nil
  | _, _, .cons h t => .cons (Dat.up s h) (Dats.up s t)
end
end
section
variable {X : Cx} {K : PySem.W.Frag}
mutual
theorem Dat.reads {pins : List (Addr × Obj)} {σ : St} {H : Hp} {s : Shared} (I : Inv X pins σ H s) : ∀ {v : V} {d : PyData} {u : Value}, Dat X.K H v d → RelV v u → ∃ as, Reads s.heap u d as
  | _, _, _, .int n, r => by obtain ⟨t, rfl⟩ := r; exact ⟨_, .int n t⟩
  | _, _, _, .bl b, r => by cases r; exact ⟨_, .bool b⟩
  | _, _, _, .str x, r => by obtain ⟨t, rfl⟩ := r; exact ⟨_, .str x t⟩
  | _, _, _, .non, r => by cases r; exact ⟨_, .none⟩
  | _, _, _, .tup h t, r => by
    cases r
    obtain ⟨its, rv, ⟨o, ho, hc, n, hd⟩, _⟩ := I.tuple h
    obtain ⟨as, z⟩ := Dats.reads I t rv
    exact ⟨_, reads_tuple_at ho hc hd (by simpa using z)⟩
  | _, _, _, .lst h t, r => by
    cases r
    obtain ⟨its, rv, ⟨o, n, ho, hc, _, hd⟩, _⟩ := I.list h
    obtain ⟨as, z⟩ := Dats.reads I t rv
    exact ⟨_, reads_list_at ho hc hd (by simpa using z)⟩
theorem Dats.reads {pins : List (Addr × Obj)} {σ : St} {H : Hp} {s : Shared} (I : Inv X pins σ H s) : ∀ {vs : List V} {ds : List PyData} {us : List Value}, Dats X.K H vs ds → Vals vs us → ∃ as, ReadsAll s.heap us ds as
  | _, _, _, .nil, r => by cases r; exact ⟨_, .nil⟩
  | _, _, _, .cons h t, r => by
    cases r with
    | cons r1 r2 =>
      obtain ⟨as, z1⟩ := Dat.reads I h r1
      obtain ⟨bs, z2⟩ := Dats.reads I t r2
      exact ⟨_, .cons z1 z2⟩
end
variable {H : Hp} {Q : VK} {x y : V} {d : PyData}
end
end L2
set_option Elab.async false
set_option linter.all false
set_option maxRecDepth 100000
set_option maxHeartbeats 4000000
namespace L2
open PySem PySem.W PyProof.Rows Srt Pc
noncomputable def hid (H : Hp) (p : Addr) : Hp := fun q => if q = p then none else H q
theorem hid_same {H : Hp} {p : Addr} : Same (hid H p) H := fun b o h => by
  unfold hid at h
  split at h
  · cases h
  · exact h
theorem hid_at {H : Hp} {p q : Addr} {u : HO} (ne : q ≠ p) (h : H q = some u) : hid H p q = some u := by unfold hid; rw [if_neg ne]; exact h
theorem hid_none {H : Hp} {p : Addr} : hid H p p = none := by unfold hid; rw [if_pos rfl]
theorem same_hid {H Hc : Hp} {p : Addr} (s : Same H Hc) (h : H p = none) : Same H (hid Hc p) := fun b o q => hid_at (ne_of_none q h) (s b o q)
theorem cut_ints (ns : List Int) (lo hi : Option Int) : cutV (ns.map V.int) lo hi = (cutX ns lo hi).map V.int := by
  unfold cutV cutX
  rw [List.length_map, List.map_take, List.map_drop]
section
variable {σ : St} {H : Hp} {Q : VK} {D : Ends} {K : PySem.W.Frag}
theorem rd_dput {td ty tv : TE} (h : tv σ H fun v H1 => td σ H1 fun x H2 => ty σ H2 fun y H3 => ∃ a H4, x = .ref a ∧ DPut H3 a y v H4 ∧ D.nx σ H4) : sDPut td ty tv D σ H := h
theorem rd_din {td ty : TE} (h : ty σ H fun y H1 => td σ H1 fun x H2 => ∃ a o, x = .ref a ∧ DGet H2 a y o ∧ Q (.bl o.isSome) H2) : tDIn ty td σ H Q := h
theorem rd_dnewT (h : ∀ p, H p = none → Q (.ref p) (upd H p (.dT []))) : tDNewT σ H Q := h
theorem marks_put {d a : Addr} {cs : List C3} {c : C3} (e : Marks H d cs) (ea : H a = some (.tup c.v)) (hl : cs.length ≤ 1000000) (q : Marks (upd H d (.dT ((addC cs c).map mk1))) d (addC cs c) → D.nx σ (upd H d (.dT ((addC cs c).map mk1)))) :
    ∃ p H4, V.ref d = .ref p ∧ DPut H p (.ref a) (.bl true) H4 ∧ D.nx σ H4 := ⟨d, _, rfl, by
  have := dput_c (v := .bl true) e ea (by rw [List.length_map]; exact smallM hl)
  rw [put_marks] at this
  exact this, q upd_same⟩
theorem marks_get {d a : Addr} {cs : List C3} {c : C3} (e : Rd H d (.dT (cs.map mk1))) (ea : H a = some (.tup c.v)) : DGet H d (.ref a) (valV (cs.map mk1) (keyC c)) := .inr ⟨_, keyC c, a, e, rfl, by rw [keyC_v]; exact ea, rfl⟩
end
end L2
namespace Pc
open PySem L2 Srt
noncomputable def bareAt (cs : List C3) (u : Wy) (lo hi : Int) (c : C3) : Bool := decide (lo ≤ u.ax.at c) && (decide (u.ax.at c < hi) && !decide (u.next c ∈ cs))
noncomputable def firstBare (cs : List C3) (u : Wy) (lo hi : Int) : Option C3 := cs.find? (bareAt cs u lo hi)
noncomputable def FB (H : Hp) (u : Wy) (v : V) : Option C3 → Prop
  | none => v = .non
  | some c => ∃ p a b, v = .ref p ∧ H p = some (.tup [.ref a, .ref b]) ∧ H a = some (.tup (u.next c).v) ∧ H b = some (.tup c.v)
theorem FB.up {H H' : Hp} {u : Wy} {v : V} {o : Option C3} (s : Same H H') (h : FB H u v o) : FB H' u v o := by
  cases o with
  | none => exact h
  | some c => obtain ⟨p, a, b, e, x, y, z⟩ := h; exact ⟨p, a, b, e, s _ _ x, s _ _ y, s _ _ z⟩
noncomputable def offU (cs : List C3) (ax : Ax) (a b : Int) : Bool := (firstBare cs ⟨ax, false⟩ (a + 1) b).isNone
noncomputable def offD (cs : List C3) (ax : Ax) (a b : Int) : Bool := (firstBare cs ⟨ax, true⟩ a (b - 1)).isNone
theorem addC_nodup {cs : List C3} (h : cs.Nodup) : cs.foldl addC [] = cs := by
  have : ∀ (cs acc : List C3), (acc ++ cs).Nodup → cs.foldl addC acc = acc ++ cs := by
    intro cs
    induction cs with
    | nil => intro acc _; simp
    | cons c cs ih =>
      intro acc hn
      rw [List.foldl_cons]
      have hc : c ∉ acc := fun hm => by
        rw [List.nodup_append] at hn
        exact hn.2.2 c hm c (by simp) rfl
      have e : addC acc c = acc ++ [c] := by unfold addC; rw [if_neg hc]
      rw [e, ih (acc ++ [c]) (by simpa using hn)]
      simp
  exact this cs [] (by simpa using h)
theorem fold_addC_len (cs : List C3) : (cs.foldl addC []).length ≤ cs.length := by
  have : ∀ (cs acc : List C3), (cs.foldl addC acc).length ≤ acc.length + cs.length := by
    intro cs
    induction cs with
    | nil => intro acc; simp
    | cons c cs ih =>
      intro acc
      have h1 := ih (addC acc c)
      have h2 := @len_addC acc c
      rw [List.foldl_cons, List.length_cons]
      lia
  simpa using this cs []
noncomputable def spMarked (K : PySem.W.Frag) : Sp := fun vs H Q _ => ∃ (a : Addr) (ys : List V) (cs : List C3), vs = [.ref a] ∧ SqL K H a ys ∧ Cs H ys cs ∧ cs.length ≤ 100000 ∧ ∀ d H', Same H H' → H d = none → Marks H' d (cs.foldl addC []) → Q (.ref d) H'
end Pc
set_option Elab.async false
set_option linter.all false
set_option maxRecDepth 100000
set_option maxHeartbeats 4000000
namespace L2
open PySem PySem.Spec PyProof.Rows
theorem comp_runG {X : Cx} {pins : List (Addr × Obj)} {σ : St} {Q : VK} {tg elt iter : Expr} {ifs : List Expr} {scope : Scope} {pos : Pos} {N own : List Str} {caps : List Nat} {g : TG} {tc : TT} {te : TE} {cl : List (Str × Addr)} {it acc : Addr} {fp : List Addr} {tn : Nat → Heap → Prop} {J : It}
    {s3 : Shared} {H3 : Hp} {h1 : Heap} {m : Str → Option Value} {t1 m0 : Nat} {W : Nat → Nat → St → Hp → Prop} (hc : X.calm = true)
    (hN : N = own ++ caps.map fun j => (X.N[j]?).getD (Str.ofString "")) (ok : BlkOk X.env.scope X.N scope caps) (hkind : scope.kind = .function)
    (hcl : BlkCl X scope cl s3.heap.objs.size h1)
    (hg : PG (cxBlk X N scope cl s3 H3 fp) tg g) (hifs : PIfs (cxBlk X N scope cl s3 H3 fp) ifs tc) (he : PE (cxBlk X N scope cl s3 H3 fp) elt te)
    (I3 : Inv X pins σ H3 s3) (f3 : ∀ b ∈ fp, FpOk X pins H3 b) (flt : ∀ b ∈ fp, b < s3.heap.objs.size) (T : Turn X.prog X.w X.K tg J fp it tn) (st3 : tn 0 s3.heap)
    (hns : h1.Ns s3.heap.objs.size m) (keep : ∀ b o, s3.heap.get? b = some o → h1.get? b = some o) (w0 : W 0 m0 (blockSt own.length caps σ) H3)
    (turn : ∀ i m σ' H', W i m σ' H' →
      (J.stop i H' ∧ Q (.ref acc) H') ∨ (J.go i H' ∧ ∃ N : St → Hp → Prop, (∀ σ'' H'', N σ'' H'' → ∃ m', m' < m ∧ W (i + 1) m' σ'' H'') ∧ ∀ x H2, J.yld i H' x H2 → g x σ' H2 fun σ3 H3 => tc σ3 H3 fun b H4 =>
        if b = true then te σ3 H4 fun v H5 => ∃ ys, H5 acc = some (.lst ys) ∧ ys.length < sizeLine ∧ N σ3 (upd H5 acc (.lst (ys ++ [v])))
        else N σ3 H4)) {RR : Result → Shared → Prop}
    (fin : ∀ s6 H5 m6, Inv X pins σ H5 s6 → H5 s3.heap.objs.size = none → s6.heap.Ns s3.heap.objs.size m6 → Q (.ref acc) H5 → RR (.ok .next) s6) :
    codeAny (model X.prog X.w) X.A (.compStart (.ListComp elt [⟨tg, iter, ifs, 0⟩] scope pos) 0 (.ref it) (.ref acc) (compEnvC scope cl s3.heap.objs.size X.env))
      RR { s3 with heap := h1, toks := t1 } := by
  have IB := blk_start (t1 := t1) (own := own) I3 f3 flt hN ok hkind hcl hns keep
  have stat : ∀ {H' : Hp}, (∀ b ∈ fp, H' b = none) → ∀ b ∈ fp, FpOk (cxBlk X N scope cl s3 H3 fp) [] H' b := fun {H'} hn b hb =>
    ⟨hn b hb, (IB.ok.exf b hb).1, IB.ok.exfs b hb, .inl hb, (IB.ok.exf b hb).2, fun p hp => absurd (show p ∈ ([] : List (Addr × Obj)) from hp) (by simp)⟩
  have st4 : tn 0 h1 := T.keep _ _ _ st3 fun b _ o e => keep b o e
  have loop : codeAny (model X.prog X.w) X.A (.compLoop (.ListComp elt [⟨tg, iter, ifs, 0⟩] scope pos) 0 (.ref it) (.ref acc) (compEnvC scope cl s3.heap.objs.size X.env))
      RR { s3 with heap := h1, toks := t1 } := by
    refine compLoop_gen (fun n s' => ∃ i σ' H', Inv (cxBlk X N scope cl s3 H3 fp) [] σ' H' s' ∧ tn i s'.heap ∧ (∀ b ∈ fp, H' b = none) ∧ W i n σ' H') ?_ m0 ⟨0, _, H3, IB, st4, fun b hb => (f3 b hb).1, w0⟩
    rintro n s5 ⟨i, σ5, H5, I5, st5, fr5, w5⟩
    rcases turn i n σ5 H5 w5 with ⟨stop, qn⟩ | ⟨go, Nx, hNx, step⟩
    · refine thn (T.done (cxBlk X N scope cl s3 H3 fp) rfl rfl rfl hc i [] s5 σ5 H5 _ I5 (stat fr5) st5 stop) fun r s6 ⟨hr, I6⟩ => ?_
      subst hr
      obtain ⟨m6, hn6, _⟩ := I6.loc
      have IX : Inv X pins σ H5 s6 := I3.call' (ch := fp) I6.os I6.base I6.hok I6.bare fun b hb => ⟨(f3 b hb).2.2.2.1, (f3 b hb).2.1, (f3 b hb).2.2.2.2.1, (f3 b hb).2.2.2.2.2⟩
      exact fin s6 H5 m6 IX I6.free hn6 qn
    · refine thn (T.item (cxBlk X N scope cl s3 H3 fp) rfl rfl rfl hc i [] s5 σ5 H5 _ I5 (stat fr5) st5 go) fun r s6 ⟨u, hr, h6⟩ => ?_
      subst hr
      refine thn h6 fun _ s7 ⟨x, H7, I7, r7, y7, st7, fr7⟩ => ?_
      have I7' := I7.pinned (stat fr7) (T.obj _ _ st7)
      refine thn (hg _ s7 σ5 H7 x u _ I7' r7 (step x H7 y7)) fun _ s8 ⟨σ8, H8, I8, q8⟩ => ?_
      have again : ∀ {s9 : Shared} {H9 : Hp}, Inv (cxBlk X N scope cl s3 H3 fp) ([] ++ pinsAt fp s7.heap) σ8 H9 s9 → Nx σ8 H9 →
          ∃ m, m < n ∧ ∃ i σ' H', Inv (cxBlk X N scope cl s3 H3 fp) [] σ' H' s9 ∧ tn i s9.heap ∧ (∀ b ∈ fp, H' b = none) ∧ W i m σ' H' := fun {s9 H9} I9 n9 => by
        obtain ⟨m', hm, w9⟩ := hNx σ8 H9 n9
        refine ⟨m', hm, i + 1, σ8, H9, I9.unpinned, T.keep _ _ _ st7 fun b hb o e => (I9.pin (b, o) (List.mem_append_right _ (List.mem_append_right _ (mem_pinsAt hb e)))).1, fun b hb => ?_, w9⟩
        obtain ⟨o, e, d⟩ := T.obj _ _ st7 b hb
        exact (I9.pin (b, o) (List.mem_append_right _ (List.mem_append_right _ (mem_pinsAt hb e)))).2.1
      refine thn (hifs _ s8 σ8 H8 _ I8 q8) fun b s9 ⟨H9, I9, q9⟩ => ?_
      cases b with
      | false =>
        rw [if_neg (by decide)] at q9 ⊢
        exact again I9 q9
      | true =>
        rw [if_pos rfl] at q9 ⊢
        refine thn (he _ s9 σ8 H9 _ I9 q9) fun xv s10 ⟨v, H10, I10, r10, ys, ey, hz, n10⟩ => ?_
        refine thn (mt_append (X := cxBlk X N scope cl s3 H3 fp) _ s10 σ8 H10 (.ref acc) [v] (.ref acc) [xv] (fun _ H' => H' = upd H10 acc (.lst (ys ++ [v]))) I10 rfl (.cons r10 .nil) ⟨acc, ys, v, rfl, rfl, ey, hz, rfl⟩) fun _ s11 ⟨_, H11, I11, _, e11⟩ => ?_
        subst e11
        exact again I11 n10
  exact codeAny_compStart_list loop (T.self _ _ _ _ _ st4 loop)
theorem ps_setU {X : Cx} {i : Nat} {x : Str} {pos' spos : Pos} {tg elt iter : Expr} {ifs : List Expr} {scope : Scope} {pos : Pos} {N : List Str} {wi : TI} {g : TG} {tc : TT} {te : TE} (own : List Str) (caps : List Nat) (hXN : X.N.Nodup) (hxi : X.N[i]? = some x) (hx : Loc X.env.scope x) (hc : X.calm = true)
    (hN : N = own ++ caps.map fun j => (X.N[j]?).getD (Str.ofString "")) (hok : blkOk X.env.scope X.N scope caps = true) (hkind : scope.kind = .function)
    (hi : PI X tg iter wi) (hg : ∀ cl s₃ H₃ ch, PG (cxBlk X N scope cl s₃ H₃ ch) tg g) (hifs : ∀ cl s₃ H₃ ch, PIfs (cxBlk X N scope cl s₃ H₃ ch) ifs tc) (he : ∀ cl s₃ H₃ ch, PE (cxBlk X N scope cl s₃ H₃ ch) elt te)
    (hsw : swapsWith (.ListComp elt [⟨tg, iter, ifs, 0⟩] scope pos) (some (.Name x pos')) spos.line X.env = pure true) (hf : X.fn x = true ∨ X.env.scope.names.lookup x = some .local) (hs : ∀ x, foldedSetIterable iter X.env x = pure x := by intro _; rfl) :
    PS X (.Assign [.Name x pos'] (.ListComp elt [⟨tg, iter, ifs, 0⟩] scope pos) spos) (tAsg (tComp own.length caps wi g tc te) (gName i)) := by
  intro pins s σ H D I h
  have ok := blkOk_iff hok
  obtain ⟨cl, hclo, hcl1, hcl2'⟩ := clo_go X.env scope.names [] (fun y hy hk => I.ok.has y.1 (ok.free y hy hk)) (fun x c e => by simp at e)
  have hcl2 : ∀ x, (x, NameKind.free) ∈ scope.names → ∃ c, cl.lookup x = some c := fun x hx => hcl2' x (.inl hx)
  rw [← closureFor_eq] at hclo
  rw [exec_Assign_Name_used _ _ _ _ hsw]
  refine wpAny_bind (wpAny_standAt (wpAny_bind ?_))
  show wpAny _ X.A (do let _ ← comprehension (.ListComp elt [⟨tg, iter, ifs, 0⟩] scope pos) scope X.env _ (newList []) false (eval iter X.env) (some (assign (.Name x pos') X.env))) _ _ s
  refine wpAny_bind (wpAny_mono (wpAny_comprehension_free (use := some (assign (.Name x pos') X.env)) (Q := fun _ s' => SP X pins D .next s') rfl hs hclo hkind ok.loc (thn (hi pins s σ H _ I h) fun v s1 h1 => thn h1 fun itv s2 h2 => ?_)) (fun _ s' hq => wpAny_pure (wpAny_pure hq)) fun _ _ e => e)
  obtain ⟨it, fp, tn, J, H2, e, I2, T, st2, f2, R⟩ := h2
  subst e
  obtain ⟨W, ⟨m0, w0⟩, turn⟩ := R s2.heap.objs.size I2.fresh
  have flt : ∀ b ∈ fp, b < s2.heap.objs.size := fun b hb => let ⟨o, ho, _⟩ := T.obj 0 _ st2 b hb; Heap.lt_size ho
  have I3 : Inv X pins σ (upd H2 s2.heap.objs.size (.lst [])) { s2 with heap := s2.heap.push { cls := .type "list", dict := none, data := .seq ([] : List Value).toArray } } := I2.lnew (t' := s2.toks) (its := []) .nil (Nat.zero_le _)
  have f3 : ∀ b ∈ fp, FpOk X pins (upd H2 s2.heap.objs.size (.lst [])) b := fun b hb => ⟨by rw [upd_ne (Nat.ne_of_lt (flt b hb))]; exact (f2 b hb).1, (f2 b hb).2⟩
  refine wpAny_newObj_type (newEnv_blk fun h₁ hns₁ keep₁ cok => ?_)
  have flt3 : ∀ b ∈ fp, b < (s2.heap.push { cls := .type "list", dict := none, data := .seq ([] : List Value).toArray }).objs.size := fun b hb => by
    rw [Heap.size_push]
    exact Nat.lt_succ_of_lt (flt b hb)
  refine comp_runG (own := own) (Q := fun x H1 => gName i x σ H1 D.nx) hc hN ok hkind (blkCl_of ok I3 hcl1 hcl2 cok) (hg _ _ _ _) (hifs _ _ _ _) (he _ _ _ _) I3 f3 flt3 T (T.keep _ _ _ st2 fun b _ o e => Heap.get?_push_of_some _ e) hns₁ keep₁ w0 turn (fun s6 H5 m6 IX hC hn6 q => ?_)
  show wpAny _ X.A (assign (.Name x pos') X.env (.ref s2.heap.objs.size)) _ _ _
  have nL := Nat.ne_of_gt I3.lt
  have nC : ∀ y c, X.env.cells.lookup y = some c → c ≠ (s2.heap.push { cls := .type "list", dict := none, data := .seq ([] : List Value).toArray }).objs.size := fun y c e => by
    obtain ⟨v, o, ho, _⟩ := I3.cell y c e
    exact Nat.ne_of_lt (Heap.lt_size ho)
  refine wpAny_assign_Name (store_ok2 IX hXN hxi hx (v := .ref s2.heap.objs.size) rfl (fun s7 I7 ⟨a, sb, ha⟩ => ⟨m6, hn6.sameBut sb ?_, fun h' hs' => ⟨_, H5, I7.turned (t' := s7.toks) (fun b o hb e => (hs'.2 b hb).trans e) hC nL (.inr I3.sz) nC (fun p hp => Nat.ne_of_lt (Heap.lt_size (I3.pin p hp).1)), q⟩⟩) hf)
  rcases ha with rfl | ha
  · exact nL
  · exact (nC _ _ ha).symm
theorem qs_setU {X : Cx} {i : Nat} {x : Str} {pos' spos : Pos} {tg elt iter : Expr} {ifs : List Expr} {scope : Scope} {pos : Pos} {N : List Str} {wi : TI} {g : TG} {tc : TT} {te : TE} (own : List Str) (caps : List Nat) (hXN : X.N.Nodup) (hxi : X.N[i]? = some x) (hx : Loc X.env.scope x) (hc : X.calm = true)
    (hN : N = own ++ caps.map fun j => (X.N[j]?).getD (Str.ofString "")) (hok : blkOk X.env.scope X.N scope caps = true) (hkind : scope.kind = .function)
    (hi : QI X tg iter wi) (hg : ∀ cl s₃ H₃ ch, QG (cxBlk X N scope cl s₃ H₃ ch) tg g) (hifs : ∀ cl s₃ H₃ ch, QF (cxBlk X N scope cl s₃ H₃ ch) ifs tc) (he : ∀ cl s₃ H₃ ch, QE (cxBlk X N scope cl s₃ H₃ ch) elt te)
    (hsw : swapsWith (.ListComp elt [⟨tg, iter, ifs, 0⟩] scope pos) (some (.Name x pos')) spos.line X.env = pure true := by rfl) (hf : X.fn x = true ∨ X.env.scope.names.lookup x = some .local := by first | exact .inl rfl | exact .inr rfl | assumption) (hs : ∀ x, foldedSetIterable iter X.env x = pure x := by intro _; rfl) :
    QS X (.Assign [.Name x pos'] (.ListComp elt [⟨tg, iter, ifs, 0⟩] scope pos) spos) (tAsg (tComp own.length caps wi g tc te) (gName i)) :=
  ⟨ps_setU own caps hXN hxi hx hc hN hok hkind hi.r (fun a b c d => (hg a b c d).r) (fun a b c d => (hifs a b c d).r) (fun a b c d => (he a b c d).r) hsw hf hs⟩
end L2
set_option Elab.async false
set_option linter.all false
set_option maxRecDepth 100000
set_option maxHeartbeats 4000000
namespace L2
open PySem PySem.Spec PyProof.Rows
section
variable {X : Cx} {K : PySem.W.Frag}
noncomputable def Its (x : Str) : It := ⟨fun i _ => i < x.cps.size, fun i H v H' => H' = H ∧ ∃ c, x.cps[i]? = some c ∧ v = .str ⟨#[c]⟩, fun i _ => x.cps.size ≤ i⟩
theorem turn_str {P : Program} {w : World} {K : PySem.W.Frag} {tg : Expr} (it : Addr) (x : Str) (t : Tok) : Turn P w K tg (Its x) [it] it (fun i h => h.IsStrIter it "str_ascii_iterator" x t i) where
  mem := by simp
  obj := fun i h st b hb => by
    obtain rfl : b = it := by simpa using hb
    obtain ⟨u, e, c, dd⟩ := st
    exact ⟨u, e, fun v z => by rw [dd] at z; cases z⟩
  keep := fun i h h' st k => let ⟨o, ho, r⟩ := st; ⟨o, k it (by simp) o ho, r⟩
  item := by
    rintro X rfl rfl rfl hc i pins s σ H E I hf st hi
    obtain ⟨f0, f1, f2, f3, f4, f5⟩ := hf it (by simp)
    refine (Walks.strAscii (prog := X.prog) (w := X.w) (I.ok.hd hc) it x t).item i s _ _ hi st fun v h' tk hv st' kk => ?_
    obtain ⟨c, u, ec, rfl⟩ := hv
    have I1 : Inv X pins σ H { s with heap := h', toks := tk } := I.turned (fun b o hb e => kk b o (by simpa using hb) e) f0 f1 f3 f4 f5
    obtain ⟨o, e, oc, od⟩ := id st'
    exact ⟨_, rfl, go_of (s := { s with heap := h', toks := tk }) e oc od (by decide) ⟨.str ⟨#[c]⟩, H, I1, ⟨u, rfl⟩, ⟨rfl, c, ec, rfl⟩, st', fun b hb => (hf b hb).1⟩⟩
  done := by
    rintro X rfl rfl rfl hc i pins s σ H E I hf st hi
    obtain ⟨f0, f1, f2, f3, f4, f5⟩ := hf it (by simp)
    exact wpAny_pyNext_ascii_end (I.ok.hd hc) st (by have hi : x.cps.size ≤ i := hi; simpa using hi) fun h' eb => ⟨rfl, I.turned (t' := s.toks) (fun b o hb e => eb b o hb e) f0 f1 f3 f4 f5⟩
  self := fun _ _ _ _ _ st h => wpAny_pyIter_striter_ascii st h
noncomputable def iStr (tl : TE) : TI := fun σ H R => tl σ H fun v H1 => ∃ x : Str, v = .str x ∧ x.cps.all (· < 128) = true ∧ R (Its x) H1
theorem pi_str {tg l : Expr} {tl : TE} (hl : PE X l tl) : PI X tg l (iStr tl) := by
  intro pins s σ H R I h
  refine thn (hl pins s σ H _ I h) fun v s1 ⟨y, H1, I1, r1, q1⟩ => ?_
  obtain ⟨x, e, ha, q⟩ := q1
  subst e
  obtain ⟨t, rfl⟩ := r1
  refine wpAny_pyIter_ascii ha ?_
  refine ⟨s1.heap.objs.size, [s1.heap.objs.size], _, _, H1, rfl, I1.kept (t' := s1.toks) fun b o e => Heap.get?_push_of_some _ e, turn_str _ x t, ⟨_, Heap.get?_push_size _ rfl, rfl, rfl⟩, fun b hb => ?_, q⟩
  obtain rfl : b = s1.heap.objs.size := by simpa using hb
  exact I1.fpOk (Nat.le_refl _) (I1.hok.fresh (Nat.le_refl _))
theorem qi_str {tg l : Expr} {tl : TE} (hl : QE X l tl) : QI X tg l (iStr tl) := ⟨pi_str hl.r⟩
theorem rd_istr {σ : St} {H : Hp} {tl : TE} {R : It → Hp → Prop} (h : tl σ H fun v H1 => ∃ x : Str, v = .str x ∧ x.cps.all (· < 128) = true ∧ R (Its x) H1) : iStr tl σ H R := h
theorem feeds_str {H : Hp} {x : Str} : Feeds (Its x) H (x.cps.toList.map fun c => (⟨#[c]⟩ : Str)) IsS where
  stop := fun H' _ => by show x.cps.size ≤ (x.cps.toList.map fun c => (⟨#[c]⟩ : Str)).length; simp
  go := fun i y H' s e => by
    rw [List.getElem?_map] at e
    cases hc : x.cps.toList[i]? with
    | none => rw [hc] at e; cases e
    | some c =>
      rw [hc] at e
      obtain rfl := Option.some.inj e
      have hi := (List.getElem?_eq_some_iff.mp hc).1
      refine ⟨by show i < x.cps.size; simpa using hi, fun v H2 y => ?_⟩
      obtain ⟨rfl, c', ec, rfl⟩ := y
      rw [← Array.getElem?_toList, hc] at ec
      cases ec
      exact ⟨Same.refl _, rfl⟩
end
end L2
set_option Elab.async false
set_option linter.all false
set_option maxRecDepth 100000
set_option maxHeartbeats 4000000
namespace Pc
open PySem L2 Srt
noncomputable def good (cs : List C3) (ax : Ax) (a b : Int) : Bool := offU cs ax a b || offD cs ax a b
noncomputable def farF (cs : List C3) (ax : Ax) (a : Int) : Nat → Int → Int
  | 0, b => b
  | n + 1, b => if good cs ax a (b + 1) = true then farF cs ax a n (b + 1) else b
noncomputable def far (cs : List C3) (ax : Ax) (a top : Int) : Int := farF cs ax a (top - (a + 1)).toNat (a + 1)
noncomputable def IsLo (ax : Ax) (cs : List C3) (m : Int) : Prop := (∃ c ∈ cs, ax.at c = m) ∧ ∀ c ∈ cs, m ≤ ax.at c
noncomputable def IsHi (ax : Ax) (cs : List C3) (m : Int) : Prop := (∃ c ∈ cs, ax.at c = m) ∧ ∀ c ∈ cs, ax.at c ≤ m
open Classical in
noncomputable def loA (ax : Ax) (cs : List C3) : Int := if h : ∃ m, IsLo ax cs m then h.choose else 0
open Classical in
noncomputable def hiA (ax : Ax) (cs : List C3) : Int := if h : ∃ m, IsHi ax cs m then h.choose else 0
theorem IsLo.eq {ax : Ax} {cs : List C3} {m : Int} (h : IsLo ax cs m) : loA ax cs = m := by
  have ex : ∃ m, IsLo ax cs m := ⟨m, h⟩
  unfold loA
  rw [dif_pos ex]
  obtain ⟨⟨c, hc, e⟩, l⟩ := ex.choose_spec
  obtain ⟨⟨c', hc', e'⟩, l'⟩ := h
  have a := l c' hc'
  have b := l' c hc
  lia
theorem IsHi.eq {ax : Ax} {cs : List C3} {m : Int} (h : IsHi ax cs m) : hiA ax cs = m := by
  have ex : ∃ m, IsHi ax cs m := ⟨m, h⟩
  unfold hiA
  rw [dif_pos ex]
  obtain ⟨⟨c, hc, e⟩, l⟩ := ex.choose_spec
  obtain ⟨⟨c', hc', e'⟩, l'⟩ := h
  have a := l c' hc'
  have b := l' c hc
  lia
noncomputable def kd (u : Bool) : Str := if u = true then Str.ofString "up" else Str.ofString "down"
noncomputable def spSpan (K : PySem.W.Frag) : Sp := fun vs H Q _ => ∃ (a : Addr) (ax : Ax) (ys : List V) (cs : List C3), vs = [.ref a, .str ax.s] ∧ SqL K H a ys ∧ Cs H ys cs ∧ cs.length ≤ 100000 ∧ (cs = [] → ∀ H', Same H H' → Q .non H') ∧
  (cs ≠ [] → IsLo ax cs (loA ax cs) → IsHi ax cs (hiA ax cs) → ∀ p H', Same H H' → H' p = some (.tup [.int (loA ax cs), .int (hiA ax cs)]) → Q (.ref p) H')
noncomputable def spWholeL : Sp := fun vs H Q _ => ∃ n : Int, vs = [.int n] ∧ Q (.bl true) H
theorem within_at {n : Int} {c : C3} (ax : Ax) (h : c.within n) : -n ≤ ax.at c ∧ ax.at c ≤ n := by
  obtain ⟨h1, h2, h3⟩ := h
  cases ax
  · exact h1
  · exact h2
  · exact h3
end Pc
namespace L2
open PySem PySem.W PyProof.Rows Srt Pc
section
variable {σ : St} {H : Hp} {Q : VK} {D : Ends} {K : PySem.W.Frag}
theorem SqL.tru {p : Addr} {xs : List V} (h : SqL K H p xs) : TruV K (.ref p) H (!xs.isEmpty) := .inl ⟨xs, h, rfl⟩
theorem rd_truthx {ta : TE} {R : Bool → Hp → Prop} (h : ta σ H fun x H' => ∃ k, TruV K x H' k ∧ R k H') : tTruth K ta σ H R := h
theorem kit_str_str (K : PySem.W.Frag) : PySem.W.kitOne K (.type "str") (.type "str") = some true := by rfl
theorem rd_isS {x : Str} (h : Q (.bl true) H) : rIsI K [.str x, .ty "str"] H Q := ⟨_, _, _, _, rfl, .str x, kit_str_str K, h⟩
end
end L2
namespace L2
open PySem PySem.W PyProof.Rows Srt Pc
end L2
namespace Pc
open PySem L2 Srt
theorem ex_lo (ax : Ax) : ∀ {cs : List C3}, cs ≠ [] → ∃ m, IsLo ax cs m
  | [], h => absurd rfl h
  | [c], _ => ⟨ax.at c, ⟨c, by simp, rfl⟩, fun d hd => by rw [List.mem_singleton] at hd; subst hd; exact Int.le_refl _⟩
  | c :: d :: r, _ => by
    obtain ⟨m, ⟨e, he, em⟩, hm⟩ := ex_lo ax (cs := d :: r) (by simp)
    by_cases h : ax.at c ≤ m
    · refine ⟨ax.at c, ⟨c, by simp, rfl⟩, fun x hx => ?_⟩
      rcases List.mem_cons.mp hx with rfl | hx
      · exact Int.le_refl _
      · have := hm x hx; lia
    · refine ⟨m, ⟨e, List.mem_cons_of_mem _ he, em⟩, fun x hx => ?_⟩
      rcases List.mem_cons.mp hx with rfl | hx
      · lia
      · exact hm x hx
theorem ex_hi (ax : Ax) : ∀ {cs : List C3}, cs ≠ [] → ∃ m, IsHi ax cs m
  | [], h => absurd rfl h
  | [c], _ => ⟨ax.at c, ⟨c, by simp, rfl⟩, fun d hd => by rw [List.mem_singleton] at hd; subst hd; exact Int.le_refl _⟩
  | c :: d :: r, _ => by
    obtain ⟨m, ⟨e, he, em⟩, hm⟩ := ex_hi ax (cs := d :: r) (by simp)
    by_cases h : m ≤ ax.at c
    · refine ⟨ax.at c, ⟨c, by simp, rfl⟩, fun x hx => ?_⟩
      rcases List.mem_cons.mp hx with rfl | hx
      · exact Int.le_refl _
      · have := hm x hx; lia
    · refine ⟨m, ⟨e, List.mem_cons_of_mem _ he, em⟩, fun x hx => ?_⟩
      rcases List.mem_cons.mp hx with rfl | hx
      · lia
      · exact hm x hx
end Pc
set_option Elab.async false
set_option linter.all false
set_option maxRecDepth 100000
set_option maxHeartbeats 4000000
namespace L2
open PySem PySem.W PyProof.Rows Srt Pc
theorem qs_never {X : Cx} {st : Stmt} : QS X st (fun _ _ _ => False) := ⟨fun _ _ _ _ _ _ h => h.elim⟩
end L2
namespace Pc
open PySem L2 Srt
theorem FB.lst {H : Hp} {u : Wy} {v : V} {o : Option C3} {p : Addr} {ys zs : List V} (e : H p = some (.lst ys)) (h : FB H u v o) : FB (upd H p (.lst zs)) u v o := by
  cases o with
  | none => exact h
  | some c => obtain ⟨q, a, b, r, x, y, z⟩ := h; exact ⟨q, a, b, r, lk_kind e (by intro z; cases z) x, lk_kind e (by intro z; cases z) y, lk_kind e (by intro z; cases z) z⟩
end Pc
set_option Elab.async false
set_option linter.all false
set_option maxRecDepth 100000
set_option maxHeartbeats 4000000
namespace Pc
open PySem L2 Srt
end Pc
set_option Elab.async false
set_option linter.all false
set_option maxRecDepth 100000
set_option maxHeartbeats 4000000
namespace L2
open PySem PySem.Spec PyProof.Rows PySem.W
section
variable {prog : Program} {w : World} {A : Around}
end
section
variable {prog : Program} {w : World} {A : Around} {R : Result → Shared → Prop} {I : Addr} {fp wr : List Addr} {n : Nat} {P : Nat → Value → Prop} {St : Nat → Heap → Prop}
end
end L2
set_option Elab.async false
set_option linter.all false
set_option maxRecDepth 100000
set_option maxHeartbeats 4000000
namespace L2
open PySem PySem.Spec PyProof.Rows PySem.W Srt Pc
open AutoSeq1 (wpAny_loadPart')
section
variable {prog : Program} {w : World} {A : Around} {E : Value → Shared → Prop} {s : Shared}
end
section
variable {prog : Program} {w : World} {A : Around} {E : Value → Shared → Prop} {s : Shared}
end
section
variable {X : Cx} {K : PySem.W.Frag}
theorem b_enumerate : bootBuiltins "enumerate" = some (.type "enumerate") := by decide +kernel
noncomputable def IsN {α : Type} (R : Hp → V → α → Prop) : Hp → V → Nat × α → Prop := fun H v x => ∃ T u, v = .ref T ∧ H T = some (.tup [.int (x.1 : Int), u]) ∧ R H u x.2
end
end L2
set_option Elab.async false
set_option linter.all false
set_option maxRecDepth 100000
set_option maxHeartbeats 4000000
namespace L2
open PySem PySem.W PySem.Spec PyProof.Rows Srt Pc
section
variable {prog : Program} {w : World} {K : Type} [DecidableEq K] {knd : HeapKind prog w K} {A : Around} {E : Value → Shared → Prop} {s : Shared}
end
section
variable {X : Cx} {pins : List (Addr × Obj)} {σ : St} {H : Hp} {s : Shared} {d a : Addr} {kvs : List (List Key × V)} {k : List Key} {A : Around} {E : Value → Shared → Prop}
end
section
variable {X : Cx} {K : PySem.W.Frag}
variable {σ : St} {H : Hp} {Q : VK}
end
end L2
set_option Elab.async false
set_option linter.all false
set_option maxRecDepth 100000
set_option maxHeartbeats 4000000
namespace Pc
open PySem L2 Srt
end Pc
namespace L2
open PySem PySem.W Pc
end L2
namespace L2
open PySem PySem.W PyProof.Rows Srt Pc
theorem feeds_rangeS {H : Hp} {lo c : Int} {n : Nat} : Feeds (Itrs lo c n) H ((List.range n).map fun i : Nat => lo + (i : Int) * c) IsI where
  stop := fun H' _ => by
    show n ≤ ((List.range n).map fun i : Nat => lo + (i : Int) * c).length
    simp
  go := fun i x H' s e => by
    rw [List.getElem?_map] at e
    have hi : i < n := by
      rcases Nat.lt_or_ge i n with z | z
      · exact z
      · rw [List.getElem?_eq_none (by simpa using z)] at e; cases e
    rw [List.getElem?_range hi] at e
    have e : lo + (i : Int) * c = x := Option.some.inj e
    refine ⟨hi, fun v H2 y => ?_⟩
    obtain ⟨rfl, rfl⟩ := y
    exact ⟨Same.refl _, by rw [← e]; rfl⟩
end L2
namespace Pc
open PySem L2 Srt
end Pc
namespace Pc
open PySem L2 Srt
end Pc
set_option Elab.async false
set_option linter.all false
set_option maxRecDepth 100000
set_option maxHeartbeats 4000000
namespace Pc
open PySem L2 Srt
end Pc
set_option Elab.async false
set_option linter.all false
set_option maxRecDepth 100000
set_option maxHeartbeats 4000000
namespace L2
open PySem PySem.Spec PyProof.Rows PySem.W Srt Pc
noncomputable def ItnL (K : PySem.W.Frag) (a : Addr) : It :=
  ⟨fun i H => ∃ xs x, SqL K H a xs ∧ xs[i]? = some x, fun i H v H' => ∃ T x, H T = none ∧ v = .ref T ∧ H' = upd H T (.tup [.int (i : Int), x]) ∧ ∀ xs, SqL K H a xs → xs[i]? = some x, fun i H => ∃ xs, SqL K H a xs ∧ xs.length = i⟩
theorem turn_enumL {P : Program} {w : World} {K : PySem.W.Frag} {elts : List Expr} {tk : Nat} {tpos : Pos} {a e it : Addr} (hei : e ≠ it) (hea : e ≠ a) (hia : a ≠ it) :
    Turn P w K (.Tuple elts tk tpos) (ItnL K a) [e, it] e (fun i h => (∃ old, IsEnum h e it i old) ∧ h.IsListIter it a i) where
  mem := by simp
  obj := fun i h st b hb => by
    obtain ⟨⟨old, h1⟩, ⟨o, h2, h3, h4⟩⟩ := st
    simp only [List.mem_cons, List.not_mem_nil, or_false] at hb
    rcases hb with rfl | rfl
    · exact ⟨_, h1, fun v z => by cases z⟩
    · exact ⟨_, h2, fun v z => by rw [h4] at z; cases z⟩
  keep := fun i h h' st k => ⟨let ⟨old, h1⟩ := st.1; ⟨old, k e (by simp) _ h1⟩, st.2.at fun o z => k it (by simp) o z⟩
  item := by
    rintro X rfl rfl rfl hc i pins s σ H E I hf ⟨⟨old, h1⟩, h2⟩ ⟨xs, x, sx, ex⟩
    obtain ⟨its, rv, p, hz⟩ := I.list sx
    have p : s.heap.IsList a its.toArray := p.isList
    obtain ⟨u, hu, ru⟩ := rv.get ex
    have hl := rv.length
    have hlt : i < its.toArray.size := by
      rw [List.size_toArray]
      exact (List.getElem?_eq_some_iff.mp hu).1
    refine wpAny_pyNext_enum_itemD (Draws.list (prog := X.prog) (w := X.w) (A := X.A.in1) (I.ok.hd hc) it a hia its.toArray) h1 ⟨h2, p⟩ hlt hei (by simp [hei, hea]) fun v h' tk hv ho st' hT hsz kk => ?_
    have hv : its.toArray[i]? = some v := hv
    rw [List.getElem?_toArray, hu] at hv
    cases hv
    refine ⟨_, rfl, wpAny_letOwnedTupleGo_enum ho fun h'' b1 b2 => ?_⟩
    have elt : e < s.heap.objs.size := Heap.lt_size h1
    obtain ⟨oi, hoi, _⟩ := id h2
    have ilt : it < s.heap.objs.size := Heap.lt_size hoi
    have I2 := I.turnNew (t' := tk + 1) (h' := h'') (fp := [e, it]) (its := [.int (i : Int) tk, u]) (xs := [.int (i : Int), x]) hf (fun b o hb z => by
        simp only [List.mem_cons, List.not_mem_nil, or_false, not_or] at hb
        exact b2.extBut b o hb.1 (kk b o hb.1 hb.2 z))
      (b2.extBut _ _ (Nat.ne_of_gt elt) hT) rfl rfl (.cons ⟨tk, rfl⟩ (.cons ru .nil)) (by show 2 ≤ sizeLine; decide)
    refine ⟨.ref s.heap.objs.size, _, I2, rfl, ⟨_, x, I.fresh, rfl, rfl, fun xs' q => by rw [I.list_inj q sx]; exact ex⟩, ⟨⟨u, by simpa using b1⟩, st'.1.at fun o z => b2.extBut _ _ hei.symm z⟩, fun b hb => ?_⟩
    have : b < s.heap.objs.size := by
      simp only [List.mem_cons, List.not_mem_nil, or_false] at hb
      rcases hb with rfl | rfl
      · exact elt
      · exact ilt
    rw [upd_ne (Nat.ne_of_lt this)]
    exact (hf b hb).1
  done := by
    rintro X rfl rfl rfl hc i pins s σ H E I hf ⟨⟨old, h1⟩, h2⟩ ⟨xs, sx, hlen⟩
    obtain ⟨its, rv, p, hz⟩ := I.list sx
    have p : s.heap.IsList a its.toArray := p.isList
    have hl := rv.length
    have e0 : its.toArray.size = i := by rw [List.size_toArray]; lia
    obtain ⟨f0, f1, f2, f3, f4, f5⟩ := hf it (by simp)
    exact wpAny_pyNext_enum_endD (Draws.list (prog := X.prog) (w := X.w) (A := X.A.in1) (I.ok.hd hc) it a hia its.toArray) h1 ⟨e0 ▸ h2, p⟩ fun h' eb => ⟨rfl, I.turned (t' := s.toks) (fun b o hb z => eb b o hb z) f0 f1 f3 f4 f5⟩
  self := fun _ _ _ _ _ st h => let ⟨_, h1⟩ := st.1; wpAny_pyIter_enum h1 h
section
variable {X : Cx} {K : PySem.W.Frag}
noncomputable def iEnumL (K : PySem.W.Frag) (ta : TA) : TI := fun σ H R => ta σ H fun vs H1 => ∃ a, vs = [.ref a] ∧ (∃ xs, SqL K H1 a xs) ∧ R (ItnL K a) H1
theorem pi_enumL {elts : List Expr} {tk : Nat} {tpos : Pos} {a : Expr} {ta : TA} {p pos : Pos} (hg : Gl X "enumerate") (hm : X.mg "enumerate" = none) (ha : PA X [a] ta) (hs : starEach [a] X.env = [(false, eval a X.env)] := by rfl) :
    PI X (.Tuple elts tk tpos) (.Call (.Name "enumerate" p) [a] [] pos) (iEnumL X.K ta) := by
  intro pins s σ H R I h
  refine Call_ (ld_blt I hg hm b_enumerate (PyProof.Rows.callWith_type1 (thn (ha pos pins s σ H _ I h) fun us s1 ⟨vs, H1, I1, r1, q1⟩ => ?_) hs rfl))
  obtain ⟨x, e, ⟨xs, sx⟩, q⟩ := q1
  subst e
  cases r1 with
  | cons r rr =>
    cases rr
    cases r
    obtain ⟨its, rv, p1, hz⟩ := I1.list sx
    have p1 : s1.heap.IsList x its.toArray := p1.isList
    obtain ⟨o1, e1, _⟩ := id p1
    have xlt := Heap.lt_size e1
    refine call_enumerate_list p1 fun h' he hit _ hk => wpAny_pyIter_enum he ?_
    have I2 : Inv X pins σ H1 { s1 with heap := h' } := I1.kept (t' := s1.toks) hk
    refine ⟨s1.heap.objs.size + 1, [s1.heap.objs.size + 1, s1.heap.objs.size], _, _, H1, rfl, I2, turn_enumL (a := x) (Nat.succ_ne_self _) (Nat.ne_of_gt (Nat.lt_succ_of_lt xlt)) (Nat.ne_of_lt xlt), ⟨⟨_, he⟩, hit⟩, fun b hb => ?_, q⟩
    have hge : s1.heap.objs.size ≤ b := by
      simp only [List.mem_cons, List.not_mem_nil, or_false] at hb
      rcases hb with rfl | rfl <;> lia
    exact I1.fpOk hge (I1.hok.fresh hge)
theorem qi_enumL {elts : List Expr} {tk : Nat} {tpos : Pos} {a : Expr} {ta : TA} {p pos : Pos} (hK : X.K = K) (hg : Gl X "enumerate") (hm : X.mg "enumerate" = none) (ha : QA X [a] ta) (hs : starEach [a] X.env = [(false, eval a X.env)] := by rfl) :
    QI X (.Tuple elts tk tpos) (.Call (.Name "enumerate" p) [a] [] pos) (iEnumL K ta) := ⟨hK ▸ pi_enumL hg hm ha.r hs⟩
theorem rd_ienumL {σ : St} {H : Hp} {ta : TA} {R : It → Hp → Prop} (h : ta σ H fun vs H1 => ∃ a, vs = [.ref a] ∧ (∃ xs, SqL K H1 a xs) ∧ R (ItnL K a) H1) : iEnumL K ta σ H R := h
theorem feeds_enumL {α : Type} {R : Hp → V → α → Prop} [Rep R] {H : Hp} {a : Addr} {ys : List V} {xs : List α} (h : SqL K H a ys) (r : Rs R H ys xs) : Feeds (ItnL K a) H ((List.range xs.length).zip xs) (IsN R) where
  stop := fun H' s => ⟨ys, s.seq h, by rw [r.len]; simp⟩
  go := fun i x H' s e => by
    have hi : i < xs.length := by
      rcases Nat.lt_or_ge i xs.length with z | z
      · exact z
      · rw [List.getElem?_eq_none (by simpa using z)] at e; cases e
    rw [List.getElem?_zip_eq_some] at e
    obtain ⟨e1, e2⟩ := e
    rw [List.getElem?_range hi] at e1
    have e1 : i = x.1 := Option.some.inj e1
    obtain ⟨v, e3, q⟩ := r.get' e2
    refine ⟨⟨ys, v, s.seq h, e3⟩, fun v' H2 y => ?_⟩
    obtain ⟨T, u, hT, rfl, rfl, hu⟩ := y
    have e4 := hu _ (s.seq h)
    rw [e3] at e4
    obtain rfl := Option.some.inj e4
    refine ⟨same_new hT, T, _, rfl, ?_, Rep.up (s.trans (same_new hT)) q⟩
    rw [upd_same, e1]
end
end L2
namespace Pc
open PySem L2 Srt
section
variable {f : C3 → C3} {ax ax' : Ax} {k : Int} {cs cs' : List C3}
end
section
variable {ax : Ax} {cs : List C3}
end
noncomputable def spRefuse (K : PySem.W.Frag) : Sp := fun vs H Q _ => ∃ (a : Addr) (ys : List V) (cs : List C3), vs = [.ref a] ∧ SqL K H a ys ∧ Cs H ys cs ∧ cs.length ≤ 100000 ∧ (∀ c ∈ cs, c.within 60) ∧ ∀ H', Same H H' → Q .non H'
end Pc
set_option Elab.async false
set_option linter.all false
set_option maxRecDepth 100000
set_option maxHeartbeats 4000000
namespace L2
open PySem PySem.Spec PyProof.Rows PySem.W
section
variable {X : Cx} {K : PySem.W.Frag}
end
end L2
namespace Pc
open PySem L2 Srt
end Pc
set_option Elab.async false
set_option linter.all false
namespace Tx
open PySem PySem.StrLaws PySem.Builtin PySem.Builtin.Str
noncomputable def flat (y : List Nat) : List (List Nat) → List Nat
  | [] => []
  | [p] => p
  | p :: q :: r => p ++ y ++ flat y (q :: r)
theorem at_iff {x y : Str} {k : Nat} : At x y x.length k ↔ k + y.length ≤ x.length ∧ (x.cps.toList.drop k).take y.length = y.cps.toList := by
  constructor
  · rintro ⟨h1, h2⟩
    rw [subAt_eq] at h2
    exact ⟨h1, eq_of_beq h2⟩
  · rintro ⟨h1, h2⟩
    refine ⟨h1, ?_⟩
    rw [subAt_eq]
    exact beq_iff_eq.mpr h2
theorem at_first {x y : Str} {d k : Nat} {ds : List Nat} (hy : y.cps.toList = d :: ds) (h : At x y x.length k) : x.cps.toList[k]? = some d := by
  have e := (at_iff.mp h).2
  rw [hy] at e
  have : ((x.cps.toList.drop k).take y.length)[0]? = some d := by rw [e]; rfl
  rw [List.getElem?_take, List.getElem?_drop] at this
  split at this
  · simpa using this
  · cases this
theorem len_list (x : Str) : x.cps.toList.length = x.length := by simp [Str.length]
theorem parts_flat {x y : Str} {d : Nat} {ds : List Nat} (hy : y.cps.toList = d :: ds) : ∀ (ps : List (List Nat)) (a : Nat) (cuts : List Nat) (f : Nat), ps ≠ [] → (∀ p ∈ ps, d ∉ p) → a ≤ x.length → x.cps.toList.drop a = flat y.cps.toList ps → ChainG x y x.length a cuts f → (∀ k, f ≤ k → ¬ At x y x.length k) →
    (partsFrom x y.length a cuts).map (fun p => p.cps.toList) = ps
  | [], _, _, _, h, _, _, _, _, _ => absurd rfl h
  | [p], a, [], f, _, _, _, e, _, _ => by
    have e : x.cps.toList.drop a = p := e
    simp only [partsFrom, List.map_cons, List.map_nil, strSub_toList, e]
    rw [List.take_of_length_le (by rw [← e, List.length_drop, len_list]; lia)]
  | [p], a, c :: r, f, _, hp, _, e, h, _ => by
    exfalso
    have e : x.cps.toList.drop a = p := e
    have g := at_first hy h.2.1
    have : p[c - a]? = some d := by rw [← e, List.getElem?_drop, show a + (c - a) = c from by have := h.1; lia]; exact g
    exact hp p List.mem_cons_self (List.mem_of_getElem? this)
  | p :: q :: r, a, cuts, f, _, hp, ha, e, h, hn => by
    have e : x.cps.toList.drop a = p ++ y.cps.toList ++ flat y.cps.toList (q :: r) := e
    have hl := congrArg List.length e
    rw [List.length_drop, len_list, List.length_append, List.length_append, len_list] at hl
    have hat : At x y x.length (a + p.length) := at_iff.mpr ⟨by lia, by
      rw [← List.drop_drop, e, List.append_assoc, List.drop_left, List.take_append_of_le_length (by have := len_list y; lia), List.take_of_length_le (by have := len_list y; lia)]⟩
    cases cuts with
    | nil =>
      have : f = a := h
      exact absurd hat (hn _ (by lia))
    | cons c cs =>
      obtain ⟨h1, h2, h3, h4⟩ := h
      have hc : c = a + p.length := by
        rcases Nat.lt_trichotomy c (a + p.length) with z | z | z
        · exfalso
          have g := at_first hy h2
          have : (p ++ y.cps.toList ++ flat y.cps.toList (q :: r))[c - a]? = some d := by rw [← e, List.getElem?_drop, show a + (c - a) = c from by lia]; exact g
          rw [List.append_assoc, List.getElem?_append_left (by lia)] at this
          exact hp p List.mem_cons_self (List.mem_of_getElem? this)
        · exact z
        · exact absurd hat (h3 _ (by lia) z)
      subst hc
      have er : x.cps.toList.drop (a + p.length + y.length) = flat y.cps.toList (q :: r) := by
        rw [← List.drop_drop, ← List.drop_drop, e, List.append_assoc, List.drop_left]
        rw [List.drop_append_of_le_length (by have := len_list y; lia), List.drop_of_length_le (by have := len_list y; lia), List.nil_append]
      have ih := parts_flat hy (q :: r) (a + p.length + y.length) cs f (by simp) (fun z hz => hp z (List.mem_cons_of_mem _ hz)) (by lia) er h4 hn
      simp only [partsFrom, List.map_cons, ih, strSub_toList]
      rw [e, List.append_assoc, show a + p.length - a = p.length from by lia, List.take_left]
theorem split_flat {x y : Str} {d : Nat} {ds : List Nat} (hy : y.cps.toList = d :: ds) {ps : List (List Nat)} (hne : ps ≠ []) (hp : ∀ p ∈ ps, d ∉ p) (e : x.cps.toList = flat y.cps.toList ps) :
    (partsBetween x (occurrences x y 0 x.length (x.length + 1)) y.length).map (fun p => p.cps.toList) = ps := by
  obtain ⟨f, hG, hn⟩ := occ_tight x y (by rw [← len_list, hy, List.length_cons]; lia)
  rw [partsBetween_eq]
  exact parts_flat hy ps 0 _ f hne hp (Nat.zero_le _) (by rw [List.drop_zero]; exact e) hG hn
end Tx
set_option Elab.async false
set_option linter.all false
namespace Tx
open PySem PySem.StrLaws PySem.Builtin PySem.Builtin.Str
theorem fold_flat (y : Str) : ∀ (ps : List Str) (x : Array Nat), (ps.foldl (fun acc p => acc ++ y.cps ++ p.cps) x).toList = flat y.cps.toList (x.toList :: ps.map fun p => p.cps.toList)
  | [], x => rfl
  | p :: r, x => by
    rw [List.foldl_cons, fold_flat y r]
    simp only [Array.toList_append, List.map_cons]
    cases r with
    | nil => rfl
    | cons q r => simp only [flat, List.map_cons, List.append_assoc]
theorem glued_flat (y : Str) (ps : List Str) : (glued y ps).cps.toList = flat y.cps.toList (ps.map fun p => p.cps.toList) := by
  unfold glued
  cases ps with
  | nil => rfl
  | cons p r => exact fold_flat y r p.cps
theorem split_glued {y : Str} {d : Nat} {ds : List Nat} (hy : y.cps.toList = d :: ds) {ps : List Str} (hne : ps ≠ []) (hp : ∀ p ∈ ps, d ∉ p.cps.toList) :
    partsBetween (glued y ps) (occurrences (glued y ps) y 0 (glued y ps).length ((glued y ps).length + 1)) y.length = ps := by
  have h := split_flat (x := glued y ps) hy (ps := ps.map fun p => p.cps.toList) (by simpa using hne) (fun p hp' => by
    obtain ⟨q, hq, rfl⟩ := List.mem_map.mp hp'
    exact hp q hq) (glued_flat y ps)
  refine List.map_inj_right (f := fun p : Str => p.cps.toList) (fun a b e => ?_) |>.mp h
  cases a
  cases b
  simpa [Array.toList_inj] using e
theorem flat_mem {y : List Nat} {c : Nat} : ∀ {ps : List (List Nat)}, c ∈ flat y ps → c ∈ y ∨ ∃ p ∈ ps, c ∈ p
  | [], h => by cases h
  | [p], h => .inr ⟨p, List.mem_cons_self, h⟩
  | p :: q :: r, h => by
    have h : c ∈ p ++ y ++ flat y (q :: r) := h
    rcases List.mem_append.mp h with h | h
    · rcases List.mem_append.mp h with h | h
      · exact .inr ⟨p, List.mem_cons_self, h⟩
      · exact .inl h
    · rcases flat_mem h with z | ⟨p', z, z'⟩
      · exact .inl z
      · exact .inr ⟨p', List.mem_cons_of_mem _ z, z'⟩
theorem flat_len {y : List Nat} {B : Nat} : ∀ {ps : List (List Nat)}, (∀ p ∈ ps, p.length ≤ B) → (flat y ps).length ≤ ps.length * (B + y.length)
  | [], _ => Nat.zero_le _
  | [p], h => by
    have : (flat y [p]).length = p.length := rfl
    have := h p List.mem_cons_self
    rw [List.length_singleton]
    lia
  | p :: q :: r, h => by
    have e : (flat y (p :: q :: r)).length = p.length + y.length + (flat y (q :: r)).length := by
      show (p ++ y ++ flat y (q :: r)).length = _
      rw [List.length_append, List.length_append]
    have := h p List.mem_cons_self
    have ih := flat_len (y := y) (B := B) (ps := q :: r) fun z hz => h z (List.mem_cons_of_mem _ hz)
    rw [e, List.length_cons, Nat.add_mul, Nat.one_mul]
    lia
theorem part_flat {x y : Str} {d limit : Nat} {ds p r : List Nat} (hy : y.cps.toList = d :: ds) (h1 : 1 ≤ limit) (hp : d ∉ p) (e : x.cps.toList = p ++ y.cps.toList ++ r) :
    ∃ cs, occurrences x y 0 x.length limit = p.length :: cs ∧ (strSub x 0 p.length).cps.toList = p ∧ (strSub x (p.length + y.length) x.length).cps.toList = r := by
  have hl := congrArg List.length e
  rw [len_list, List.length_append, List.length_append, len_list] at hl
  have hat : At x y x.length p.length := at_iff.mpr ⟨by lia, by
    rw [e, List.append_assoc, List.drop_left, List.take_append_of_le_length (by have := len_list y; lia), List.take_of_length_le (by have := len_list y; lia)]⟩
  rcases occ_head x y limit h1 with ⟨_, h⟩ | ⟨c, cs, hc, h2, h3⟩
  · exact absurd hat (h _)
  · have hc' : c = p.length := by
      rcases Nat.lt_trichotomy c p.length with z | z | z
      · exfalso
        have g := at_first hy h2
        rw [e, List.append_assoc, List.getElem?_append_left z] at g
        exact hp (List.mem_of_getElem? g)
      · exact z
      · exact absurd hat (h3 _ z)
    refine ⟨cs, by rw [hc, hc'], ?_, ?_⟩
    · rw [strSub_toList, List.drop_zero, Nat.sub_zero, e, List.append_assoc, List.take_left]
    · rw [strSub_toList, e, ← List.drop_drop, List.append_assoc, List.drop_left, List.drop_append_of_le_length (by have := len_list y; lia), List.drop_of_length_le (by have := len_list y; lia), List.nil_append]
      exact List.take_of_length_le (by lia)
theorem from_len (x : Str) (w : Nat) : ∀ (cuts : List Nat) (a : Nat), (partsFrom x w a cuts).length = cuts.length + 1
  | [], _ => rfl
  | c :: r, a => by
    show (partsFrom x w (c + w) r).length + 1 = _
    rw [from_len x w r]
    rfl
theorem kind_pos (x : Str) : 1 ≤ strKind x := by
  unfold PySem.Builtin.Str.strKind
  split
  · exact Nat.le_refl _
  · split <;> decide
theorem split_join {y : Str} {d : Nat} {ds : List Nat} (hy : y.cps.toList = d :: ds) (hk : strKind y = 1) {ps : List Str} (hne : ps ≠ []) (hp : ∀ p ∈ ps, d ∉ p.cps.toList) : Txt.split (Txt.join y ps) y = ps := by
  have h := split_glued hy hne hp
  have hone : occurrences (glued y ps) y 0 (glued y ps).length ((glued y ps).length + 1) = [] → [glued y ps] = ps := fun e => by
    rw [e, partsBetween_eq] at h
    simp only [partsFrom] at h
    rw [sub_whole] at h
    exact h
  unfold Txt.split Txt.join
  split
  · rename_i hc
    rw [Bool.or_eq_true, decide_eq_true_eq, decide_eq_true_eq] at hc
    rcases hc with hc | hc
    · refine hone ?_
      rcases occ_head (glued y ps) y ((glued y ps).length + 1) (by lia) with ⟨e, _⟩ | ⟨i, r, _, hA, _⟩
      · exact e
      · exact absurd hA.1 (by lia)
    · have := kind_pos (glued y ps)
      lia
  · split
    · rename_i he
      exact hone (List.isEmpty_iff.mp he)
    · exact h
noncomputable def rowT (f : Nat → Bool) (w : Nat) : List Nat := (List.range w).map fun e => if f e then 35 else 46
noncomputable def layT (f : Nat → Nat → Bool) (w d : Nat) : List (List Nat) := ((List.range d).map fun n => rowT (f n) w).reverse
theorem row_no {f : Nat → Bool} {w c : Nat} (h : c ∈ rowT f w) : c = 35 ∨ c = 46 := by
  obtain ⟨e, _, rfl⟩ := List.mem_map.mp h
  split
  · exact .inl rfl
  · exact .inr rfl
theorem row_at {f : Nat → Bool} {w e : Nat} (h : e < w) : (rowT f w)[e]? = some (if f e then 35 else 46) := by
  unfold rowT
  rw [List.getElem?_map, List.getElem?_range h]
  rfl
theorem row_len {f : Nat → Bool} {w : Nat} : (rowT f w).length = w := by unfold rowT; rw [List.length_map, List.length_range]
end Tx
set_option Elab.async false
set_option linter.all false
set_option maxRecDepth 100000
set_option maxHeartbeats 1000000
namespace L2
open PySem PySem.Spec PyProof.Rows
section
variable {X : Cx}
theorem strs_vals : ∀ {ts : List Str} {its : List Value}, Vals (ts.map V.str) its → ∃ l : List (Str × Tok), its = strValues l ∧ l.map (·.1) = ts
  | [], _, .nil => ⟨[], rfl, rfl⟩
  | t :: ts, _, .cons a b => by
    obtain ⟨l, rfl, rfl⟩ := strs_vals b
    obtain ⟨k, rfl⟩ := a
    exact ⟨(t, k) :: l, rfl, rfl⟩
noncomputable def rJoin (K : PySem.W.Frag) : V → List V → Hp → VK → Prop := fun x vs H Q => ∃ (sep : Str) (l : Addr) (ts : List Str), x = .str sep ∧ vs = [.ref l] ∧ SqL K H l (ts.map V.str) ∧ JoinOk sep ts = true ∧ Q (.str (Txt.join sep ts)) H
theorem mt_joinX : MtR X "str.join" (rJoin X.K) := by
  intro pins s σ H x vs v us Q I rx rv h
  obtain ⟨sep, l, ts, rfl, rfl, hH, hok, q⟩ := h
  obtain ⟨t, rfl⟩ := rx
  obtain ⟨u, rfl, ru⟩ := Vals.one rv
  cases ru
  obtain ⟨its, r, pl, _⟩ := I.list hH
  obtain ⟨ll, rfl, ht⟩ := strs_vals r
  exact SC.join (l := ll) pl.isList ht hok fun t' k => ⟨.str _, H, I.tok _, ⟨_, rfl⟩, q⟩
theorem mt_join {K : PySem.W.Frag} (h : X.K = K) : MtR X "str.join" (rJoin K) := h ▸ mt_joinX
theorem mt_starts : MtR X "str.startswith" (fun x vs H Q => ∃ z y, x = .str z ∧ vs = [.str y] ∧ Q (.bl (Txt.startswith z y)) H) := by
  intro pins s σ H x vs v us Q I rx rv h
  obtain ⟨z, y, rfl, rfl, q⟩ := h
  obtain ⟨t, rfl⟩ := rx
  obtain ⟨u, rfl, t', rfl⟩ := vals1 rv
  exact SC.startswith ⟨.bl _, H, I, rfl, q⟩
theorem vals_strs : ∀ (k : Nat) (ts : List Str), Vals (ts.map V.str) (strsFrom k ts)
  | _, [] => .nil
  | k, t :: ts => .cons ⟨k, rfl⟩ (vals_strs (k + 1) ts)
noncomputable def rSplit : V → List V → Hp → VK → Prop := fun x vs H Q => ∃ z y, x = .str z ∧ vs = [.str y] ∧ (y.length == 0) = false ∧ z.length ≤ 100000 ∧ ∀ l, H l = none → Q (.ref l) (upd H l (.lst ((Txt.split z y).map V.str)))
open Builtin.Str in
theorem mt_split : MtR X "str.split" rSplit := by
  intro pins s σ H x vs v us Q I rx rv h
  obtain ⟨z, y, rfl, rfl, hy, hz, q⟩ := h
  obtain ⟨t, rfl⟩ := rx
  obtain ⟨u, rfl, t', rfl⟩ := vals1 rv
  have one : Txt.split z y = [z] → Inv X pins σ (upd H s.heap.objs.size (.lst ((Txt.split z y).map V.str))) { s with heap := s.heap.push { cls := .type "list", data := .seq [Value.str z t].toArray } } := fun e => by
    rw [e]
    exact I.lnew (t' := s.toks) (.cons ⟨t, rfl⟩ .nil) (by rw [sizeLine_eq, List.length_map, List.length_singleton]; decide)
  cases h1 : (decide (z.length < y.length) || decide (strKind z < strKind y))
  · cases hf : (occurrences z y 0 z.length (z.length + 1)).isEmpty
    · have e : Txt.split z y = partsBetween z (occurrences z y 0 z.length (z.length + 1)) y.length := (if_neg (ne_true_of_eq_false h1)).trans (if_neg (ne_true_of_eq_false hf))
      have hn : (partsBetween z (occurrences z y 0 z.length (z.length + 1)) y.length).length ≤ 100002 := by
        rw [StrLaws.partsBetween_eq, Tx.from_len]
        have := StrLaws.occ_length_le z y 0 z.length (z.length + 1)
        lia
      refine call_meets F.slot_str_split (typeIs_str _ _ _) F.entry_str_split (F.args_str_split_2 _ _) (meets_str_split_sep z y t t' h1 hy hf (by rw [sizeLine_eq]; lia) (by rw [sizeLine_eq]; lia)) ?_
      refine ⟨.ref _, _, I.lnew (ys := (Txt.split z y).map V.str) ?_ ?_, rfl, q _ I.fresh⟩
      · rw [e]
        exact vals_strs _ _
      · rw [e, List.length_map, sizeLine_eq]
        lia
    · exact call_meets F.slot_str_split (typeIs_str _ _ _) F.entry_str_split (F.args_str_split_2 _ _) (meets_str_split_not_found z y t t' h1 hy hf)
        ⟨.ref _, _, one ((if_neg (ne_true_of_eq_false h1)).trans (if_pos hf)), rfl, q _ I.fresh⟩
  · exact call_meets F.slot_str_split (typeIs_str _ _ _) F.entry_str_split (F.args_str_split_2 _ _) (meets_str_split_cannot_occur z y t t' h1)
      ⟨.ref _, _, one (if_pos h1), rfl, q _ I.fresh⟩
open Builtin.Str in
noncomputable def rPart : V → List V → Hp → VK → Prop := fun x vs H Q => ∃ z y i cs, x = .str z ∧ vs = [.str y] ∧ (y.length == 0) = false ∧ z.length ≤ 100000 ∧ occurrences z y 0 z.length 1 = i :: cs ∧
  ∀ l, H l = none → Q (.ref l) (upd H l (.tup [.str (strSub z 0 i), .str y, .str (strSub z (i + y.length) z.length)]))
theorem mt_partition : MtR X "str.partition" rPart := by
  intro pins s σ H x vs v us Q I rx rv h
  obtain ⟨z, y, i, cs, rfl, rfl, hy, hz, ho, q⟩ := h
  obtain ⟨t, rfl⟩ := rx
  obtain ⟨u, rfl, t', rfl⟩ := vals1 rv
  refine call_meets F.slot_str_partition (typeIs_str _ _ _) F.entry_str_partition (F.args_str_partition_2 _ _) (meets_str_partition z y t t' hy (by rw [sizeLine_eq]; lia)) ?_
  rw [ho]
  have I2 := I.laid (t' := s.toks + 1 + 1) (o := .tup [.str (Builtin.Str.strSub z 0 i), .str y, .str (Builtin.Str.strSub z (i + y.length) z.length)]) (fun b o e => Heap.get?_push_of_some _ e) (Nat.le_refl _) (show ObjOk X.prog X.w _ _ _ (.tup _) from ⟨by rw [sizeLine_eq]; show 3 ≤ _; decide, _, .cons ⟨s.toks, rfl⟩ (.cons ⟨t', rfl⟩ (.cons ⟨s.toks + 1, rfl⟩ .nil)), IsTup.new _ _⟩)
  exact ⟨.ref _, _, I2, rfl, q _ I.fresh⟩
end
end L2
set_option Elab.async false
set_option linter.all false
set_option maxRecDepth 100000
set_option maxHeartbeats 4000000
namespace Tx
open PySem PyProof.Rows
theorem noInt : typeLookup (.type "str") "__int__" = pure none := by rw [typeLookup_type, builtinLookup_eq_fast]; kernel_rfl
theorem noIndex : typeLookup (.type "str") "__index__" = pure none := by rw [typeLookup_type, builtinLookup_eq_fast]; kernel_rfl
theorem noTrunc : typeLookup (.type "str") "__trunc__" = pure none := by rw [typeLookup_type, builtinLookup_eq_fast]; kernel_rfl
noncomputable def words : List (List Nat × Int) := [([45, 54, 48], -60), ([45, 53, 57], -59), ([45, 53, 56], -58), ([45, 53, 55], -57), ([45, 53, 54], -56), ([45, 53, 53], -55), ([45, 53, 52], -54), ([45, 53, 51], -53), ([45, 53, 50], -52), ([45, 53, 49], -51), ([45, 53, 48], -50), ([45, 52, 57], -49), ([45, 52, 56], -48), ([45, 52, 55], -47), ([45, 52, 54], -46), ([45, 52, 53], -45), ([45, 52, 52], -44), ([45, 52, 51], -43), ([45, 52, 50], -42), ([45, 52, 49], -41), ([45, 52, 48], -40), ([45, 51, 57], -39), ([45, 51, 56], -38), ([45, 51, 55], -37), ([45, 51, 54], -36), ([45, 51, 53], -35), ([45, 51, 52], -34), ([45, 51, 51], -33), ([45, 51, 50], -32), ([45, 51, 49], -31), ([45, 51, 48], -30), ([45, 50, 57], -29), ([45, 50, 56], -28), ([45, 50, 55], -27), ([45, 50, 54], -26), ([45, 50, 53], -25), ([45, 50, 52], -24), ([45, 50, 51], -23), ([45, 50, 50], -22), ([45, 50, 49], -21), ([45, 50, 48], -20), ([45, 49, 57], -19), ([45, 49, 56], -18), ([45, 49, 55], -17), ([45, 49, 54], -16), ([45, 49, 53], -15), ([45, 49, 52], -14), ([45, 49, 51], -13), ([45, 49, 50], -12), ([45, 49, 49], -11), ([45, 49, 48], -10), ([45, 57], -9), ([45, 56], -8), ([45, 55], -7), ([45, 54], -6), ([45, 53], -5), ([45, 52], -4), ([45, 51], -3), ([45, 50], -2), ([45, 49], -1), ([48], 0), ([49], 1), ([50], 2), ([51], 3), ([52], 4), ([53], 5), ([54], 6), ([55], 7), ([56], 8), ([57], 9), ([49, 48], 10), ([49, 49], 11), ([49, 50], 12), ([49, 51], 13), ([49, 52], 14), ([49, 53], 15), ([49, 54], 16), ([49, 55], 17), ([49, 56], 18), ([49, 57], 19), ([50, 48], 20), ([50, 49], 21), ([50, 50], 22), ([50, 51], 23), ([50, 52], 24), ([50, 53], 25), ([50, 54], 26), ([50, 55], 27), ([50, 56], 28), ([50, 57], 29), ([51, 48], 30), ([51, 49], 31), ([51, 50], 32), ([51, 51], 33), ([51, 52], 34), ([51, 53], 35), ([51, 54], 36), ([51, 55], 37), ([51, 56], 38), ([51, 57], 39), ([52, 48], 40), ([52, 49], 41), ([52, 50], 42), ([52, 51], 43), ([52, 52], 44), ([52, 53], 45), ([52, 54], 46), ([52, 55], 47), ([52, 56], 48), ([52, 57], 49), ([53, 48], 50), ([53, 49], 51), ([53, 50], 52), ([53, 51], 53), ([53, 52], 54), ([53, 53], 55), ([53, 54], 56), ([53, 55], 57), ([53, 56], 58), ([53, 57], 59), ([54, 48], 60)]
theorem wp_yes {α : Type} {M : Model} {A : Around} {c : Prop} [Decidable c] {x y : Sem α} {Q : α → Shared → Prop} {E : Value → Shared → Prop} {s : Shared} (h : c) (k : wpAny M A x Q E s) : wpAny M A (if c then x else y) Q E s := by
  rw [if_pos h]
  exact k
theorem words_ascii : ∀ p ∈ words, (p.1.toArray.all fun c => decide (c < 128)) = true := by
  intro p hp
  rw [List.all_toArray]
  exact List.all_eq_true.mp (show (words.all fun p => p.1.all fun c => decide (c < 128)) = true by decide) p hp
theorem int_word (p : List Nat × Int) (hp : p ∈ words) (t : Tok) : Gives (Builtin.«int.__new__» ⟨[.type "int", .str ⟨p.1.toArray⟩ t], []⟩) (.int p.2) :=
  .of_wp fun M A E s Q hq => by
    obtain ⟨hp', g, d, tk, os⟩ := s
    have f1 := F.conv_sub_int
    have f2 := F.madeHere_int
    have f3 := noInt
    have f4 := noIndex
    have f5 := noTrunc
    have hA := words_ascii p hp
    repeat (any_goals (first | assumption | wp_step))
    simp only [hA, if_true]
    unfold words at hp
    iterate 121 (rcases List.mem_cons.mp hp with rfl | hp; · (refine wp_yes (by decide) ?_; refine wpAny_bind (wpAny_pure ?_); show wpAny _ _ (mkInt _) _ _ _; refine wpAny_mkInt ?_; exact wpAny_pure ⟨_, rfl, hq⟩))
    cases hp
end Tx
set_option Elab.async false
set_option linter.all false
set_option maxRecDepth 100000
set_option maxHeartbeats 1000000
namespace L2
open PySem PySem.Spec PyProof.Rows
section
variable {X : Cx}
noncomputable def rIntW : List V → Hp → VK → Prop := fun xs H Q => ∃ p ∈ Tx.words, xs = [.str ⟨p.1.toArray⟩] ∧ Q (.int p.2) H
theorem call_intW : CallR X (.type "int") rIntW := by
  intro pins s σ H xs us Q I r h
  obtain ⟨p, hp, rfl, q⟩ := h
  obtain ⟨u, rfl, t, rfl⟩ := vals1 r
  exact call_int_1 (Tx.int_word p hp t).meets (show (Made.int p.2).post _ s from ⟨rfl, ⟨.int p.2, H, I.tok _, ⟨_, rfl⟩, q⟩⟩)
end
end L2
set_option Elab.async false
set_option linter.all false
set_option maxRecDepth 100000
set_option maxHeartbeats 1000000
namespace Tx
open PySem
theorem words_text : ∀ p ∈ words, Str.ofString (toString p.2) = ⟨p.1.toArray⟩ := by decide +kernel
theorem word_of {n : Int} (h0 : -60 ≤ n) (h1 : n ≤ 60) : ∃ p ∈ words, p.2 = n := by
  have h : ∀ k : Nat, k < 121 → ∃ p ∈ words, p.2 = (k : Int) - 60 := by decide +kernel
  obtain ⟨p, hp, e⟩ := h (n + 60).toNat (by lia)
  exact ⟨p, hp, by lia⟩
theorem word_signs : ∀ p ∈ words, ∀ c ∈ p.1, c = 45 ∨ (48 ≤ c ∧ c ≤ 57) := by decide +kernel
theorem word_ne : ∀ p ∈ words, p.1 ≠ [] ∧ p.1.length ≤ 3 := by decide +kernel
end Tx
set_option Elab.async false
set_option linter.all false
set_option maxRecDepth 100000
set_option maxHeartbeats 4000000
namespace Fl
open PySem L2 PyProof.Rows
section
variable {M : Model} {A : Around} {E : Value → Shared → Prop} {s : Shared}
end
end Fl
set_option Elab.async false
set_option linter.all false
set_option maxRecDepth 100000
set_option maxHeartbeats 4000000
namespace Fl
open PySem L2 PyProof.Rows
section
variable {P : Program} {w : World} {K : PySem.W.Frag} {mg : Str → Option Value} {base : Heap} {N : List Str} {qual : Str} {scope : Scope} {f : Addr} {cd : Value} {A : Around} {outer : List Env} {s₀ : Shared} {H₀ : Hp} {E : XK} {pins : List (Addr × Obj)} {σ : L2.St} {H : Hp} {s : Shared} {a : Addr} {C : Value} {dx : Option Addr}
end
end Fl
set_option Elab.async false
set_option linter.all false
set_option maxRecDepth 100000
set_option maxHeartbeats 4000000
namespace Fl
open PySem L2 PyProof.Rows
section
variable {P : Program} {w : World} {H : Hp} {h : Heap} {a : Addr} {o : HO}
theorem ok_there (x : ObjOk P w H h a o) : ∃ ob, h.get? a = some ob := by
  cases o with
  | lst xs => obtain ⟨_, _, _, _, e⟩ := x; exact ⟨_, e⟩
  | tup xs => obtain ⟨_, _, _, ob, e, _⟩ := x; exact ⟨_, e⟩
  | dK kvs => obtain ⟨_, _, _, _, ob, _, _, e, _⟩ := x; exact ⟨_, e⟩
  | dT kvs => obtain ⟨_, _, _, _, ob, _, _, e, _⟩ := x; exact ⟨_, e⟩
  | set S n => obtain ⟨ob, _, _, _, e, _⟩ := x; exact ⟨_, e⟩
  | ins C dx fs => obtain ⟨_, _, _, e, _⟩ := x; exact ⟨_, e⟩
  | own y => exact x
  | xd fs => obtain ⟨_, ⟨_, _, _, e, _⟩, _⟩ := x; exact ⟨_, e⟩
  | rng lo hi => obtain ⟨_, _, _, e⟩ := x; exact ⟨_, e⟩
  | frz ob u => obtain ⟨e, _⟩ := x; exact ⟨_, e⟩
  | tbl ps => exact ⟨_, (show h.get? a = some _ from x)⟩
  | met f y => exact ⟨_, (show h.get? a = some _ from x)⟩
  | ext φ => exact x.2.1
theorem free_of (ok : HOk P w H h) (n : h.get? a = none) : H a = none := by
  cases e : H a with
  | none => rfl
  | some o =>
    obtain ⟨ob, q⟩ := ok_there (ok a o e)
    rw [n] at q
    cases q
end
section
variable {X : Cx} {pins : List (Addr × Obj)} {σ : L2.St} {H : Hp} {s : Shared} {h' : Heap}
theorem inv_laidN {a : Addr} {o : HO} {t' : Nat} (I : Inv X pins σ H s) (k : ∀ b u, s.heap.get? b = some u → h'.get? b = some u) (n : s.heap.get? a = none) (new : ObjOk X.prog X.w (upd H a o) h' a o) :
    Inv X pins σ (upd H a o) { s with heap := h', toks := t' } := by
  have hn := free_of I.hok n
  refine I.un ⟨fun b u q _ _ _ => k b u q, fun b u q _ _ _ => ⟨u.slots, k b u q⟩, fun b u q z _ => ?_, fun b u q _ => ⟨u, k b u q⟩, fun b xs q => ?_, fun b u xs q => ?_, fun b ps q => ⟨#[], ?_⟩⟩ fun b u e => ?_
  · rw [upd_ne (fun z' => by subst z'; rw [n] at q; cases q)]; exact z
  · rw [upd_ne (ne_of_none q hn)]; exact q
  · rw [upd_ne (ne_of_none q hn)]; exact q
  · rw [upd_ne (ne_of_none q hn), q]; simp
  · by_cases hb : b = a
    · subst hb; rw [upd_same] at e; cases e; exact new
    · rw [upd_ne hb] at e
      exact (I.hok b u e).stay (fun c v _ q => k c v q) (fun c q => by rw [upd_ne (ne_of_none q hn)]; exact q) fun c xs q => by rw [upd_ne (ne_of_none q hn)]; exact q
variable {nm q : Str} {C N : Addr} {bs bm bmB : List Value} {hdct : Bool} {sn : List Str} {sub : List Value} {ab : Bool} {col : Option Bool} {dd : Option Addr} {k0 k1 k2 k3 k5 : Option Value} {B newId initId : String}
end
end Fl
set_option Elab.async false
set_option linter.all false
set_option maxRecDepth 100000
set_option maxHeartbeats 4000000
namespace Fl
open PySem L2 PyProof.Rows
section
variable {M : Model} {A : Around} {E : Value → Shared → Prop} {h : Heap} {g : Array GenState} {d : Drawn} {t : Nat} {os : OsState}
variable {nm q nm' q' : Str} {C N B N' : Addr} {bs bm bs' bm' : List Value} {hdct hdct' : Bool} {sn sn' : List Str} {sub sub' : List Value} {ab ab' : Bool} {col col' : Option Bool} {dd dd' : Option Addr} {k0 k1 k2 k3 k5 j0 j1 j2 j3 j5 : Option Value} {newId newId' : String}
end
end Fl
set_option Elab.async false
set_option linter.all false
set_option maxRecDepth 100000
set_option maxHeartbeats 4000000
namespace Fl
open PySem L2 PyProof.Rows
section
variable {prog : Program} {w : World} {A : Around} {E : Value → Shared → Prop} {h : Heap} {g : Array GenState} {d : Drawn} {t : Nat} {os : OsState}
variable {nm q : Str} {C N : Addr} {bs bm bmB : List Value} {hdct : Bool} {sn : List Str} {sub : List Value} {ab : Bool} {col : Option Bool} {dd : Option Addr} {k0 k1 k2 k3 k5 : Option Value} {B newId initId : String}
end
end Fl
set_option Elab.async false
set_option linter.all false
set_option maxRecDepth 100000
set_option maxHeartbeats 4000000
namespace Fl
open PySem L2 PyProof.Rows
section
variable {M : Model} {A : Around} {E : Value → Shared → Prop} {env : Env}
variable {nm q : Str} {C N : Addr} {bs bm : List Value} {hdct : Bool} {sn : List Str} {sub : List Value} {ab : Bool} {col : Option Bool} {dd : Option Addr} {k0 k1 k2 k3 k5 : Option Value} {newId : String}
end
section
variable {X : Cx}
end
end Fl
set_option Elab.async false
set_option linter.all false
set_option maxRecDepth 100000
set_option maxHeartbeats 4000000
namespace Fl
open PySem L2 PyProof.Rows
section
variable {X : Cx} {nm q : Str} {C N : Addr} {bs bm bmB : List Value} {hdct : Bool} {sn : List Str} {sub : List Value} {ab : Bool} {col : Option Bool} {dd : Option Addr} {k0 k1 k2 k3 k5 : Option Value} {B newId initId : String}
end
end Fl
set_option Elab.async false
set_option linter.all false
set_option maxRecDepth 100000
set_option maxHeartbeats 4000000
namespace L2
open PySem PySem.W PySem.Spec PyProof.Rows Fl
section
variable {X : Cx}
end
end L2
set_option Elab.async false
set_option linter.all false
set_option maxRecDepth 100000
set_option maxHeartbeats 400000
namespace L2
open PySem PySem.W PySem.Spec PyProof.Rows Srt Pc
section
variable {X : Cx} {K : PySem.W.Frag}
end
end L2
set_option Elab.async false
set_option linter.all false
set_option maxRecDepth 100000
set_option maxHeartbeats 4000000
namespace L2
open PySem PySem.Spec PyProof.Rows
section
variable {X : Cx}
theorem fits_small {x : Int} (h0 : 0 ≤ x) (h1 : x ≤ 1000000) : Builtin.List.listFitsIndex x = true := by
  simp [Builtin.List.listFitsIndex]; lia
noncomputable def rInsert : V → List V → Hp → VK → Prop := fun x vs H Q => ∃ (l : Addr) (xs : List V) (i : Int) (y : V), x = .ref l ∧ vs = [.int i, y] ∧ H l = some (.lst xs) ∧ 0 ≤ i ∧ i ≤ xs.length ∧ xs.length ≤ 100000 ∧ Q .non (upd H l (.lst (xs.take i.toNat ++ y :: xs.drop i.toNat)))
theorem vals_take : ∀ {xs : List V} {us : List Value} (k : Nat), Vals xs us → Vals (xs.take k) (us.take k)
  | _, _, 0, _ => by rw [List.take_zero, List.take_zero]; exact .nil
  | _, _, _ + 1, .nil => .nil
  | _, _, k + 1, .cons r t => .cons r (vals_take k t)
theorem vals_drop : ∀ {xs : List V} {us : List Value} (k : Nat), Vals xs us → Vals (xs.drop k) (us.drop k)
  | _, _, 0, h => h
  | _, _, _ + 1, .nil => .nil
  | _, _, k + 1, .cons _ t => vals_drop k t
theorem mt_insert : MtM X "list.insert" rInsert := by
  intro pins s σ H x vs v us Q I rx rv h
  obtain ⟨l, xs, i, y, rfl, rfl, hH, h0, h1, h2, q⟩ := h
  cases rx
  cases rv with
  | cons a b =>
    obtain ⟨u, rfl, ru⟩ := Vals.one b
    obtain ⟨t, rfl⟩ := a
    obtain ⟨z, its, n, r, hl, e⟩ := I.lstM hH
    refine call_meets F.slot_list_insert ⟨_, e, rfl⟩ F.entry_list_insert (F.args_list_insert_3 _ _ _)
      (PySem.AutoSeq1.list_insert_list_int_val_1 l its.toArray n i t u (by rw [fits_small h0 (by lia)]; simp) (by rw [List.size_toArray]; lia)) ⟨e, ?_⟩
    refine ⟨.non, _, I.lset (its' := its.take i.toNat ++ u :: its.drop i.toNat) (ys := xs.take i.toNat ++ y :: xs.drop i.toNat) hH e ?_ ?_ ?_, rfl, q⟩
    · dsimp only
      rw [if_neg (by lia), List.size_toArray, Nat.min_eq_left (by lia)]
      apply Array.toList_inj.mp
      simp
      exact List.take_of_length_le (by simp)
    · exact (vals_take _ r).append (.cons ru (vals_drop _ r))
    · rw [List.length_append, List.length_cons, List.length_take, List.length_drop, sizeLine_eq]
      lia
end
end L2
set_option Elab.async false
set_option linter.all false
set_option maxRecDepth 100000
set_option maxHeartbeats 1000000
namespace L2
open PySem PySem.W PySem.Spec PyProof.Rows
open AutoSeq1 (wpAny_loadPart')
noncomputable def ItnS (x : Str) : It :=
  ⟨fun i _ => i < x.cps.size, fun i H v H' => ∃ T c, H T = none ∧ v = .ref T ∧ H' = upd H T (.tup [.int (i : Int), .str ⟨#[c]⟩]) ∧ x.cps[i]? = some c, fun i _ => x.cps.size = i⟩
theorem turn_enumS {P : Program} {w : World} {K : PySem.W.Frag} {elts : List Expr} {tk : Nat} {tpos : Pos} {e it : Addr} (hei : e ≠ it) (x : Str) (t : Tok) :
    Turn P w K (.Tuple elts tk tpos) (ItnS x) [e, it] e (fun i h => (∃ old, IsEnum h e it i old) ∧ h.IsStrIter it "str_ascii_iterator" x t i) where
  mem := by simp
  obj := fun i h st b hb => by
    obtain ⟨⟨old, h1⟩, ⟨o, h2, h3, h4⟩⟩ := st
    simp only [List.mem_cons, List.not_mem_nil, or_false] at hb
    rcases hb with rfl | rfl
    · exact ⟨_, h1, fun v z => by cases z⟩
    · exact ⟨_, h2, fun v z => by rw [h4] at z; cases z⟩
  keep := fun i h h' st k => ⟨let ⟨old, h1⟩ := st.1; ⟨old, k e (by simp) _ h1⟩, let ⟨o, ho, r⟩ := st.2; ⟨o, k it (by simp) o ho, r⟩⟩
  item := by
    rintro X rfl rfl rfl hc i pins s σ H E I hf ⟨⟨old, h1⟩, h2⟩ hi
    refine wpAny_pyNext_enum_itemD (Draws.strAscii (prog := X.prog) (w := X.w) (A := X.A.in1) (I.ok.hd hc) it x t) h1 h2 hi hei (by simp [hei]) fun v h' tk hv ho st' hT hsz kk => ?_
    obtain ⟨c, u, ec, rfl⟩ := hv
    refine ⟨_, rfl, wpAny_letOwnedTupleGo_enum ho fun h'' b1 b2 => ?_⟩
    have elt : e < s.heap.objs.size := Heap.lt_size h1
    obtain ⟨oi, hoi, _⟩ := id h2
    have ilt : it < s.heap.objs.size := Heap.lt_size hoi
    have I2 := I.turnNew (t' := tk + 1) (h' := h'') (fp := [e, it]) (its := [.int (i : Int) tk, .str ⟨#[c]⟩ u]) (xs := [.int (i : Int), .str ⟨#[c]⟩]) hf (fun b o hb z => by
        simp only [List.mem_cons, List.not_mem_nil, or_false, not_or] at hb
        exact b2.extBut b o hb.1 (kk b o hb.1 hb.2 z))
      (b2.extBut _ _ (Nat.ne_of_gt elt) hT) rfl rfl (.cons ⟨tk, rfl⟩ (.cons ⟨u, rfl⟩ .nil)) (by show 2 ≤ sizeLine; decide)
    refine ⟨.ref s.heap.objs.size, _, I2, rfl, ⟨_, c, I.fresh, rfl, rfl, ec⟩, ⟨⟨_, by simpa using b1⟩, let ⟨o, hh, r⟩ := st'; ⟨o, b2.extBut _ _ hei.symm hh, r⟩⟩, fun b hb => ?_⟩
    have : b < s.heap.objs.size := by
      simp only [List.mem_cons, List.not_mem_nil, or_false] at hb
      rcases hb with rfl | rfl
      · exact elt
      · exact ilt
    rw [upd_ne (Nat.ne_of_lt this)]
    exact (hf b hb).1
  done := by
    rintro X rfl rfl rfl hc i pins s σ H E I hf ⟨⟨old, h1⟩, h2⟩ hi
    have hi : x.cps.size = i := hi
    obtain ⟨f0, f1, f2, f3, f4, f5⟩ := hf it (by simp)
    exact wpAny_pyNext_enum_endD (Draws.strAscii (prog := X.prog) (w := X.w) (A := X.A.in1) (I.ok.hd hc) it x t) h1 (hi ▸ h2) fun h' eb => ⟨rfl, I.turned (t' := s.toks) (fun b o hb z => eb b o hb z) f0 f1 f3 f4 f5⟩
  self := fun _ _ _ _ _ st h => let ⟨_, h1⟩ := st.1; wpAny_pyIter_enum h1 h
section
variable {X : Cx} {K : PySem.W.Frag}
noncomputable def iEnumS (ta : TA) : TI := fun σ H R => ta σ H fun vs H1 => ∃ x : Str, vs = [.str x] ∧ x.cps.all (· < 128) = true ∧ R (ItnS x) H1
theorem pi_enumS {elts : List Expr} {tk : Nat} {tpos : Pos} {a : Expr} {ta : TA} {p pos : Pos} (hg : Gl X "enumerate") (hm : X.mg "enumerate" = none) (ha : PA X [a] ta) (hs : starEach [a] X.env = [(false, eval a X.env)] := by rfl) :
    PI X (.Tuple elts tk tpos) (.Call (.Name "enumerate" p) [a] [] pos) (iEnumS ta) := by
  intro pins s σ H R I h
  refine Call_ (ld_blt I hg hm b_enumerate (PyProof.Rows.callWith_type1 (thn (ha pos pins s σ H _ I h) fun us s1 ⟨vs, H1, I1, r1, q1⟩ => ?_) hs rfl))
  obtain ⟨x, e, has, q⟩ := q1
  subst e
  obtain ⟨u, rfl, t, rfl⟩ := vals1 r1
  refine call_enumerate_str fun h' he hit _ hk => wpAny_pyIter_enum he ?_
  have I2 : Inv X pins σ H1 { s1 with heap := h' } := I1.kept (t' := s1.toks) hk
  have hit' : h'.IsStrIter s1.heap.objs.size "str_ascii_iterator" x t 0 := by simpa [strIterType, has] using hit
  refine ⟨s1.heap.objs.size + 1, [s1.heap.objs.size + 1, s1.heap.objs.size], _, _, H1, rfl, I2, turn_enumS (Nat.succ_ne_self _) x t, ⟨⟨_, he⟩, hit'⟩, fun b hb => ?_, q⟩
  have hge : s1.heap.objs.size ≤ b := by
    simp only [List.mem_cons, List.not_mem_nil, or_false] at hb
    rcases hb with rfl | rfl <;> lia
  exact I1.fpOk hge (I1.hok.fresh hge)
theorem qi_enumS {elts : List Expr} {tk : Nat} {tpos : Pos} {a : Expr} {ta : TA} {p pos : Pos} (hg : Gl X "enumerate") (hm : X.mg "enumerate" = none) (ha : QA X [a] ta) (hs : starEach [a] X.env = [(false, eval a X.env)] := by rfl) :
    QI X (.Tuple elts tk tpos) (.Call (.Name "enumerate" p) [a] [] pos) (iEnumS ta) := ⟨pi_enumS hg hm ha.r hs⟩
theorem rd_ienumS {σ : St} {H : Hp} {ta : TA} {R : It → Hp → Prop} (h : ta σ H fun vs H1 => ∃ x : Str, vs = [.str x] ∧ x.cps.all (· < 128) = true ∧ R (ItnS x) H1) : iEnumS ta σ H R := h
noncomputable def IsNS : Hp → V → Nat × Nat → Prop := fun H v x => ∃ T, v = .ref T ∧ H T = some (.tup [.int (x.1 : Int), .str ⟨#[x.2]⟩])
theorem feeds_enumS {H : Hp} {x : Str} : Feeds (ItnS x) H ((List.range x.cps.toList.length).zip x.cps.toList) IsNS where
  stop := fun H' _ => by show x.cps.size = ((List.range x.cps.toList.length).zip x.cps.toList).length; simp
  go := fun i y H' s e => by
    rw [List.getElem?_zip_eq_some] at e
    obtain ⟨e1, e2⟩ := e
    have hi := (List.getElem?_eq_some_iff.mp e2).1
    rw [List.getElem?_range hi] at e1
    have e1 : i = y.1 := Option.some.inj e1
    refine ⟨by show i < x.cps.size; simpa using hi, fun v H2 z => ?_⟩
    obtain ⟨T, c, hT, rfl, rfl, ec⟩ := z
    rw [← Array.getElem?_toList, e2] at ec
    obtain rfl := Option.some.inj ec
    exact ⟨same_new hT, T, rfl, by rw [← e1]; exact upd_same⟩
end
section
variable {prog : Program} {w : World} {A : Around} {E : Value → Shared → Prop} {s : Shared}
theorem nx_rev_item {it l : Addr} {i : Nat} {items : Array Value} {x : Value} {Q : Value → Shared → Prop} (hit : s.heap.IsRevIter it l (i : Int)) (hl : s.heap.IsList l items) (hx : items[i]? = some x)
    (q : ∀ h', h'.IsRevIter it l ((i : Int) - 1) → Heap.SameBut it s.heap h' → Q x { s with heap := h' }) : wpAny (model prog w) A (Builtin.SmallTypes.nextOf (.ref it)) Q E s := by
  obtain ⟨o, ho, hc, hd⟩ := id hit
  obtain ⟨ol, hol, _, nl, hdl⟩ := hl
  unfold Builtin.SmallTypes.nextOf; refine wpAny_bind (wpAny_callSpecial?_slot (name := Str.ofString "__next__") hit.typeIs PySem.F.slot_lri_next (wpAny_call_entry PySem.F.slot_lri_next hit.typeIs PySem.F.entry_lri_next ?_ (PySem.F.args_lri_next_1 _)))
  unfold Builtin.«list_reverseiterator.__next__»; refine wpAny_bind (wpAny_of_eq (a := (Value.ref it, [])) rfl ?_); try dsimp only
  refine wpAny_bind (wpAny_field ho hd (x := rawInt (i : Int)) rfl ?_); show wpAny _ _ (if (i : Int) < 0 then _ else _) _ _ s; rw [if_neg (by lia)]
  show wpAny _ _ (field (.ref it) 0 >>= _) _ _ s; refine wpAny_bind (wpAny_field ho hd (x := .ref l) rfl ?_)
  show wpAny _ _ (seqItems? (.ref l) >>= _) _ _ s; refine wpAny_bind (wpAny_seqItems hol hdl ?_)
  simp only [Int.toNat_natCast, hx]; refine wpAny_bind (wpAny_setField ho hd (by simp) ?_)
  first | refine wpAny_pure ⟨x, rfl, wpAny_pure (q _ ?_ (Heap.SameBut.update ..))⟩ | refine wpAny_bind (wpAny_pure (wpAny_pure ⟨x, rfl, wpAny_pure (q _ ?_ (Heap.SameBut.update ..))⟩))
  exact ⟨_, Heap.get?_update_self _ ho (Obj.isFreed_of_fields (Obj.data_mapFields hd _)), (Obj.cls_mapFields ..).trans hc, by rw [Obj.data_mapFields hd]; simp⟩
theorem nx_rev_end {it l : Addr} {Q : Value → Shared → Prop} (hh : A.handled = none) (hit : s.heap.IsRevIter it l (-1))
    (hE : ∀ h' e, Heap.ExtBut it s.heap h' → (∃ o, h'.get? e = some o ∧ o.cls = .type "StopIteration") → E (.ref e) { s with heap := h' }) : wpAny (model prog w) A (Builtin.SmallTypes.nextOf (.ref it)) Q E s := by
  obtain ⟨o, ho, hc, hd⟩ := id hit
  unfold Builtin.SmallTypes.nextOf; refine wpAny_bind (wpAny_callSpecial?_slot (name := Str.ofString "__next__") hit.typeIs PySem.F.slot_lri_next (wpAny_call_entry PySem.F.slot_lri_next hit.typeIs PySem.F.entry_lri_next ?_ (PySem.F.args_lri_next_1 _)))
  unfold Builtin.«list_reverseiterator.__next__»; refine wpAny_bind (wpAny_of_eq (a := (Value.ref it, [])) rfl ?_); try dsimp only
  refine wpAny_bind (wpAny_field ho hd (x := rawInt (-1)) rfl ?_); show wpAny _ _ (if (-1 : Int) < 0 then _ else _) _ _ s; rw [if_pos (by decide)]
  refine wpAny_bind (wpAny_rule ?_)
  first | show wpAny _ _ (newExc (.type "StopIteration") [] >>= _) _ _ _ | (refine wpAny_bind ?_; show wpAny _ _ (newExc (.type "StopIteration") [] >>= _) _ _ _)
  refine wpAny_bind ?_; simp only [newExc, newTuple]; refine wpAny_bind (wpAny_newObj_type ?_ (by size_fits))
  refine wpAny_bind (m := firstArgMember _ _) (wpAny_of_eq (a := Value.none) (by first | rfl | (simp only [firstArgMember]; rfl)) (wpAny_newObj_type ?_ (by size_fits)))
  simp only [raiseNew]; refine wpAny_bind (wpAny_handled ?_)
  first | rw [show A.in1.handled = none from hh] | rw [hh]
  exact wpAny_bind (wpAny_pure (wpAny_throw (hE _ _ (((Heap.ExtBut.refl _ _).push _).push _) ⟨_, Heap.get?_push_size _ rfl, rfl⟩)))
theorem draws_rev (hh : A.handled = none) (it l : Addr) (hne : l ≠ it) (items : Array Value) : Draws prog w A it [it, l] items.size (fun i v => items[items.size - 1 - i]? = some v)
    (fun i h => i ≤ items.size ∧ h.IsRevIter it l ((items.size : Int) - 1 - (i : Int)) ∧ h.IsList l items) where
  live := fun _ _ st => let ⟨o, ho, _⟩ := st.2.1; ⟨o, ho⟩
  frame := fun _ _ _ st k => ⟨st.1, st.2.1.at fun o e => k it (by simp) o e, st.2.2.at fun o e => k l (by simp) o e⟩
  item := fun i s Q E hi st q => by
    have e0 : (items.size : Int) - 1 - (i : Int) = ((items.size - 1 - i : Nat) : Int) := by omega
    have e1 : ((items.size - 1 - i : Nat) : Int) - 1 = (items.size : Int) - 1 - ((i + 1 : Nat) : Int) := by omega
    have hit := st.2.1
    rw [e0] at hit
    have hx : items[items.size - 1 - i]? = some (items[items.size - 1 - i]'(by omega)) := Array.getElem?_eq_getElem (by omega)
    exact nx_rev_item hit st.2.2 hx fun h' a b => q _ h' s.toks hx ⟨by lia, e1 ▸ a, st.2.2.at fun o e => (b.2 l hne).trans e⟩ b
  done := fun s Q E st hE => by
    have hit := st.2.1
    rw [show (items.size : Int) - 1 - (items.size : Int) = -1 by lia] at hit
    exact nx_rev_end hh hit hE
end
set_option maxHeartbeats 4000000 in
theorem meets_enumV (it l : Addr) (k : Int) (o : Obj) (hc : o.cls = .type "list_reverseiterator") (hd : o.data = .fields #[.ref l, rawInt k]) :
    Meets (Builtin.«enumerate.__new__» ⟨[.type "enumerate", .ref it], []⟩) (fun _ R s => s.heap.get? it = some o ∧
      R (.ok (.ret (.ref s.heap.objs.size))) { s with heap := s.heap.push { cls := .type "enumerate", data := .fields #[.none, .bool false, .ref it, rawInt 0, .none, .none] } }) :=
  .of_wp fun prog w A R s h => by
    obtain ⟨hp, g, d, tk, os⟩ := s; obtain ⟨hl, h⟩ := h
    have hsub := sub_enumerate
    have hL : Heap.IsRevIter (Shared.heap ⟨hp, g, d, tk, os⟩) it l k := ⟨_, hl, hc, hd⟩
    obtain ⟨oc, odc, oda, osl⟩ := o
    cases hc
    cases hd
    wp_walk using wpAny_loadPart' hl
    refine wpAny_stack_any fun st => wpAny_pure ?_
    split
    · rename_i c _ _ _ _ _
      cases (c == Value.type "enumerate")
      · wp_walk using wpAny_loadPart' hl, wpAny_pyIter_revIter hL
        exact ⟨_, rfl, h⟩
      · wp_walk using wpAny_loadPart' hl, wpAny_pyIter_revIter hL
        exact ⟨_, rfl, h⟩
    · wp_walk using wpAny_loadPart' hl, wpAny_pyIter_revIter hL
      exact ⟨_, rfl, h⟩
section
variable {prog : Program} {w : World} {A : Around} {E : Value → Shared → Prop} {s : Shared}
theorem call_enumV {it l : Addr} {k : Int} {Q : Value → Shared → Prop} (hL : s.heap.IsRevIter it l k)
    (h : ∀ h', IsEnum h' s.heap.objs.size it 0 .none → (∀ b o, s.heap.get? b = some o → h'.get? b = some o) → Q (.ref s.heap.objs.size) { s with heap := h' }) :
    wpAny (model prog w) A (call (.type "enumerate") [.ref it]) Q E s := by
  obtain ⟨o, hl, hc, hd⟩ := hL
  refine callType_new PySem.F.called_enumerate (by decide) (PySem.F.typeCall_enumerate_1 _) (PySem.F.newCall_enumerate_1 _) (fun obj => PySem.F.args_object_init_2 obj _) PySem.F.entry_enumerate_new (meets_enumV it l k o hc hd) ⟨hl, ?_⟩
  have he : IsEnum (s.heap.push { cls := .type "enumerate", data := .fields #[.none, .bool false, .ref it, rawInt 0, .none, .none] }) s.heap.objs.size it 0 .none := Heap.get?_push_size _ rfl
  exact ⟨⟨_, he, rfl⟩, h _ he fun b o x => Heap.get?_push_of_some _ x⟩
end
noncomputable def ItnV (K : PySem.W.Frag) (a : Addr) (n : Nat) : It :=
  ⟨fun i H => i < n ∧ ∃ xs x, SqL K H a xs ∧ xs.length = n ∧ xs[n - 1 - i]? = some x, fun i H v H' => ∃ T x, H T = none ∧ v = .ref T ∧ H' = upd H T (.tup [.int (i : Int), x]) ∧ ∀ xs, SqL K H a xs → xs[n - 1 - i]? = some x, fun i H => n = i ∧ ∃ xs, SqL K H a xs ∧ xs.length = n⟩
theorem turn_enumV {P : Program} {w : World} {K : PySem.W.Frag} {elts : List Expr} {tk : Nat} {tpos : Pos} {a e it : Addr} {n : Nat} (hei : e ≠ it) (hea : e ≠ a) (hia : a ≠ it) :
    Turn P w K (.Tuple elts tk tpos) (ItnV K a n) [e, it] e (fun i h => (∃ old, IsEnum h e it i old) ∧ i ≤ n ∧ h.IsRevIter it a ((n : Int) - 1 - (i : Int))) where
  mem := by simp
  obj := fun i h st b hb => by
    obtain ⟨⟨old, h1⟩, _, ⟨o, h2, h3, h4⟩⟩ := st
    simp only [List.mem_cons, List.not_mem_nil, or_false] at hb
    rcases hb with rfl | rfl
    · exact ⟨_, h1, fun v z => by cases z⟩
    · exact ⟨_, h2, fun v z => by rw [h4] at z; cases z⟩
  keep := fun i h h' st k => ⟨let ⟨old, h1⟩ := st.1; ⟨old, k e (by simp) _ h1⟩, st.2.1, st.2.2.at fun o z => k it (by simp) o z⟩
  item := by
    rintro X rfl rfl rfl hc i pins s σ H E I hf ⟨⟨old, h1⟩, hin, h2⟩ ⟨hi, xs, x, sx, hn, ex⟩
    obtain ⟨its, rv, p, hz⟩ := I.list sx
    have p : s.heap.IsList a its.toArray := p.isList
    obtain ⟨u, hu, ru⟩ := rv.get ex
    have hl := rv.length
    have hsz0 : its.toArray.size = n := by rw [List.size_toArray]; lia
    refine wpAny_pyNext_enum_itemD (draws_rev (prog := X.prog) (w := X.w) (A := X.A.in1) (I.ok.hd hc) it a hia its.toArray) h1 ⟨by lia, by rw [hsz0]; exact h2, p⟩ (by lia) hei (by simp [hei, hea]) fun v h' tk hv ho st' hT hsz kk => ?_
    have hv : its.toArray[its.toArray.size - 1 - i]? = some v := hv
    rw [hsz0, List.getElem?_toArray, hu] at hv
    cases hv
    refine ⟨_, rfl, wpAny_letOwnedTupleGo_enum ho fun h'' b1 b2 => ?_⟩
    have elt : e < s.heap.objs.size := Heap.lt_size h1
    obtain ⟨oi, hoi, _⟩ := id h2
    have ilt : it < s.heap.objs.size := Heap.lt_size hoi
    have I2 := I.turnNew (t' := tk + 1) (h' := h'') (fp := [e, it]) (its := [.int (i : Int) tk, u]) (xs := [.int (i : Int), x]) hf (fun b o hb z => by
        simp only [List.mem_cons, List.not_mem_nil, or_false, not_or] at hb
        exact b2.extBut b o hb.1 (kk b o hb.1 hb.2 z))
      (b2.extBut _ _ (Nat.ne_of_gt elt) hT) rfl rfl (.cons ⟨tk, rfl⟩ (.cons ru .nil)) (by show 2 ≤ sizeLine; decide)
    have st2 := st'.2.1
    rw [hsz0] at st2
    refine ⟨.ref s.heap.objs.size, _, I2, rfl, ⟨_, x, I.fresh, rfl, rfl, fun xs' q => by rw [I.list_inj q sx]; exact ex⟩, ⟨⟨u, by simpa using b1⟩, by lia, st2.at fun o z => b2.extBut _ _ hei.symm z⟩, fun b hb => ?_⟩
    have : b < s.heap.objs.size := by
      simp only [List.mem_cons, List.not_mem_nil, or_false] at hb
      rcases hb with rfl | rfl
      · exact elt
      · exact ilt
    rw [upd_ne (Nat.ne_of_lt this)]
    exact (hf b hb).1
  done := by
    rintro X rfl rfl rfl hc i pins s σ H E I hf ⟨⟨old, h1⟩, hin, h2⟩ ⟨hni, xs, sx, hlen⟩
    subst hni
    obtain ⟨its, rv, p, hz⟩ := I.list sx
    have p : s.heap.IsList a its.toArray := p.isList
    have hl := rv.length
    have e0 : its.toArray.size = n := by rw [List.size_toArray]; lia
    obtain ⟨f0, f1, f2, f3, f4, f5⟩ := hf it (by simp)
    exact wpAny_pyNext_enum_endD (draws_rev (prog := X.prog) (w := X.w) (A := X.A.in1) (I.ok.hd hc) it a hia its.toArray) h1 ⟨Nat.le_refl _, by rw [e0]; exact h2, p⟩ fun h' eb => ⟨rfl, I.turned (t' := s.toks) (fun b o hb z => eb b o hb z) f0 f1 f3 f4 f5⟩
  self := fun _ _ _ _ _ st h => let ⟨_, h1⟩ := st.1; wpAny_pyIter_enum h1 h
section
variable {X : Cx} {K : PySem.W.Frag}
noncomputable def iEnumV (K : PySem.W.Frag) (ta : TA) : TI := fun σ H R => ta σ H fun vs H1 => ∃ a xs, vs = [.ref a] ∧ SqL K H1 a xs ∧ R (ItnV K a xs.length) H1
theorem pi_enumV {elts : List Expr} {tk : Nat} {tpos : Pos} {a : Expr} {ta : TA} {p pos p' pos' : Pos} (hg : Gl X "enumerate") (hm : X.mg "enumerate" = none) (hg' : Gl X "reversed") (hm' : X.mg "reversed" = none) (ha : PA X [a] ta) (hs : starEach [a] X.env = [(false, eval a X.env)] := by rfl)
    (hs' : starEach [Expr.Call (.Name "reversed" p') [a] [] pos'] X.env = [(false, eval (.Call (.Name "reversed" p') [a] [] pos') X.env)] := by rfl) :
    PI X (.Tuple elts tk tpos) (.Call (.Name "enumerate" p) [.Call (.Name "reversed" p') [a] [] pos'] [] pos) (iEnumV X.K ta) := by
  intro pins s σ H R I h
  refine Call_ (ld_blt I hg hm b_enumerate (PyProof.Rows.callWith_type1 ?_ hs' rfl))
  rw [hs']
  refine Calls.spliced_cons ?_
  refine Call_ (ld_blt I hg' hm' b_reversed (PyProof.Rows.callWith_type1 (thn (ha pos' pins s σ H _ I h) fun us s1 ⟨vs, H1, I1, r1, q1⟩ => ?_) hs rfl))
  obtain ⟨x, xs, e, sx, q⟩ := q1
  subst e
  obtain ⟨u, rfl, ru⟩ := vals1 r1
  cases ru
  obtain ⟨its, rv, pl, hz⟩ := I1.list sx
  have hl := rv.length
  obtain ⟨o1, e1, _⟩ := id pl.isList
  have xlt := Heap.lt_size e1
  refine call_reversed_list pl.isList (Calls.spliced_nil ?_)
  have hr : (s1.heap.push (revObj x ((its.toArray.size : Int) - 1))).IsRevIter s1.heap.objs.size x ((xs.length : Int) - 1) := by
    have e : ((its.toArray.size : Nat) : Int) - 1 = (xs.length : Int) - 1 := by simp [hl]
    rw [e]
    exact ⟨_, Heap.get?_push_size _ rfl, rfl, rfl⟩
  have hsz : (s1.heap.push (revObj x ((its.toArray.size : Int) - 1))).objs.size = s1.heap.objs.size + 1 := Heap.size_push ..
  refine call_enumV hr fun h' he hk => ?_
  have he : IsEnum h' (s1.heap.objs.size + 1) s1.heap.objs.size 0 .none := by rw [← hsz]; exact he
  show wpAny _ _ (pyIter (.ref (s1.heap.push (revObj x ((its.toArray.size : Int) - 1))).objs.size)) _ _ _
  rw [hsz]
  refine wpAny_pyIter_enum he ?_
  have I2 : Inv X pins σ H1 { s1 with heap := h' } := I1.kept (t' := s1.toks) fun b o e => hk b o (Heap.get?_push_of_some _ e)
  refine ⟨s1.heap.objs.size + 1, [s1.heap.objs.size + 1, s1.heap.objs.size], _, _, H1, rfl, I2, turn_enumV (a := x) (n := xs.length) (Nat.succ_ne_self _) (Nat.ne_of_gt (Nat.lt_succ_of_lt xlt)) (Nat.ne_of_lt xlt), ⟨⟨_, he⟩, Nat.zero_le _, by simpa using hr.at fun o z => hk _ o z⟩, fun b hb => ?_, q⟩
  have hge : s1.heap.objs.size ≤ b := by
    simp only [List.mem_cons, List.not_mem_nil, or_false] at hb
    rcases hb with rfl | rfl <;> lia
  exact I1.fpOk hge (I1.hok.fresh hge)
theorem qi_enumV {elts : List Expr} {tk : Nat} {tpos : Pos} {a : Expr} {ta : TA} {p pos p' pos' : Pos} (hK : X.K = K) (hg : Gl X "enumerate") (hm : X.mg "enumerate" = none) (hg' : Gl X "reversed") (hm' : X.mg "reversed" = none) (ha : QA X [a] ta) (hs : starEach [a] X.env = [(false, eval a X.env)] := by rfl)
    (hs' : starEach [Expr.Call (.Name "reversed" p') [a] [] pos'] X.env = [(false, eval (.Call (.Name "reversed" p') [a] [] pos') X.env)] := by rfl) :
    QI X (.Tuple elts tk tpos) (.Call (.Name "enumerate" p) [.Call (.Name "reversed" p') [a] [] pos'] [] pos) (iEnumV K ta) := ⟨hK ▸ pi_enumV hg hm hg' hm' ha.r hs hs'⟩
theorem rd_ienumV {σ : St} {H : Hp} {ta : TA} {R : It → Hp → Prop} (h : ta σ H fun vs H1 => ∃ a xs, vs = [.ref a] ∧ SqL K H1 a xs ∧ R (ItnV K a xs.length) H1) : iEnumV K ta σ H R := h
theorem feeds_enumV {α : Type} {R : Hp → V → α → Prop} [Rep R] {H : Hp} {a : Addr} {ys : List V} {xs : List α} (h : SqL K H a ys) (r : Rs R H ys xs) : Feeds (ItnV K a ys.length) H ((List.range xs.length).zip xs.reverse) (IsN R) where
  stop := fun H' s => ⟨by rw [r.len]; simp, ys, s.seq h, rfl⟩
  go := fun i x H' s e => by
    rw [List.getElem?_zip_eq_some] at e
    obtain ⟨e1, e2⟩ := e
    have hi : i < xs.length := by have := (List.getElem?_eq_some_iff.mp e2).1; simpa using this
    rw [List.getElem?_range hi] at e1
    have e1 : i = x.1 := Option.some.inj e1
    rw [List.getElem?_reverse hi] at e2
    obtain ⟨v, e3, q⟩ := r.get' e2
    rw [← r.len] at e3
    refine ⟨⟨by rw [r.len]; exact hi, ys, v, s.seq h, rfl, e3⟩, fun v' H2 y => ?_⟩
    obtain ⟨T, u, hT, rfl, rfl, hu⟩ := y
    have e4 := hu _ (s.seq h)
    rw [e3] at e4
    obtain rfl := Option.some.inj e4
    exact ⟨same_new hT, T, v, rfl, by rw [← e1]; exact upd_same, Rep.up (s.trans (same_new hT)) q⟩
end
section
variable {X : Cx}
noncomputable def rSlS : V → Option Int → Option Int → Hp → VK → Prop := fun x lo hi H Q => ∃ (z : Str) (i : Int), x = .str z ∧ lo = some i ∧ hi = none ∧ z.length ≤ sizeLine ∧ Q (.str (Txt.slice z (some i) none)) H
theorem sl_str : SlR X rSlS := by
  intro pins s σ H x v vl vu lo hi sl Q I rx hs pl pu h
  obtain ⟨z, i, rfl, rfl, rfl, hz, q⟩ := h
  obtain ⟨t, rfl⟩ := rx
  cases pl with
  | int i ti =>
    cases pu
    refine ⟨"str", _, PySem.F.slot_str_getitem.lookup, typeIs_str _ _ _, wpAny_getItem_str_slice (l := some (i, ti)) (u := none) (st := none) hs rfl (post_val_or_str ⟨Nat.le_trans (Txt.slice_le z _ _) hz, fun t' k => ?_⟩)⟩
    exact ⟨.str _, H, I.tok _, ⟨_, rfl⟩, q⟩
theorem qe_slS {e : Expr} {te : TE} {lo hi : Option Expr} {tl th : TO} {p2 pos : Pos} (he : QE X e te) (hl : QO X lo tl) (hu : QO X hi th) : QE X (.Subscript e (.Slice lo hi none p2) pos) (tSl rSlS te tl th) := ⟨pe_slice sl_str he.r hl.r hu.r⟩
theorem rd_slS {z : Str} {i : Int} {H : Hp} {Q : VK} (h : z.length ≤ sizeLine) (q : Q (.str (Txt.slice z (some i) none)) H) : rSlS (.str z) (some i) none H Q := ⟨z, i, rfl, rfl, rfl, h, q⟩
noncomputable def rInS : R2 := fun x y H Q => ∃ i j, x = .str i ∧ y = .str j ∧ Q (.bl (!(Builtin.Str.occurrences j i 0 j.length 1).isEmpty)) H
theorem qo_in_str : QOp X (compareOp .In) rInS := ⟨op_in_str⟩
theorem rd_inS {i j : Str} {H : Hp} {Q : VK} (q : Q (.bl (!(Builtin.Str.occurrences j i 0 j.length 1).isEmpty)) H) : rInS (.str i) (.str j) H Q := ⟨i, j, rfl, rfl, q⟩
noncomputable def rLenX : List V → Hp → VK → Prop := fun xs H Q => ∃ y : Str, xs = [.str y] ∧ y.length ≤ sizeLine ∧ Q (.int y.length) H
theorem qc_lenS : QCl X (.builtin "len") rLenX := ⟨by
  intro pins s σ H xs us Q I r h
  obtain ⟨y, rfl, hz, q⟩ := h
  exact call_len pins s σ H _ us Q I r ⟨.str y, y.length, rfl, ⟨hz, rfl⟩, q⟩⟩
theorem rd_lenX {y : Str} {H : Hp} {Q : VK} (h : y.length ≤ sizeLine) (q : Q (.int y.length) H) : rLenX [.str y] H Q := ⟨y, rfl, h, q⟩
noncomputable def rStrI : List V → Hp → VK → Prop := fun xs H Q => ∃ i, xs = [.int i] ∧ i.natAbs.log2 < 1920 ∧ Q (.str (Str.ofString (toString i))) H
theorem qc_str : QCl X (.type "str") rStrI := ⟨call_str_int⟩
theorem rd_strI {i : Int} {H : Hp} {Q : VK} (h : i.natAbs.log2 < 1920) (q : Q (.str (Str.ofString (toString i))) H) : rStrI [.int i] H Q := ⟨i, rfl, h, q⟩
theorem qc_intW : QCl X (.type "int") rIntW := ⟨call_intW⟩
theorem rd_joinX {K : PySem.W.Frag} {sep : Str} {l : Addr} {ts : List Str} {H : Hp} {Q : VK} (h : SqL K H l (ts.map V.str)) (ok : JoinOk sep ts = true) (q : Q (.str (Txt.join sep ts)) H) : rJoin K (.str sep) [.ref l] H Q := ⟨sep, l, ts, rfl, rfl, h, ok, q⟩
noncomputable def tFs4 (l1 l2 l3 : Str) (t1 t2 t3 t4 : TE) : TE := fun σ H Q => t1 σ H fun x H1 => ∃ i : Int, x = .int i ∧ i.natAbs.log2 < 1920 ∧ t2 σ H1 fun y H2 => ∃ j : Int, y = .int j ∧ j.natAbs.log2 < 1920 ∧ t3 σ H2 fun z H3 => ∃ k : Int, z = .int k ∧ k.natAbs.log2 < 1920 ∧ t4 σ H3 fun u H4 => ∃ w : Str, u = .str w ∧ w.length ≤ 100000 ∧
  Q (.str (((((((Str.empty ++ Str.ofString (toString i)) ++ l1) ++ Str.ofString (toString j)) ++ l2) ++ Str.ofString (toString k)) ++ l3) ++ w)) H4
theorem pe_fs4 {l1 l2 l3 : Str} {k1 k2 k3 : Nat} {v1 v2 v3 v4 : Expr} {t1 t2 t3 t4 : TE} {p1 p2 p3 p4 p5 p6 p7 pos : Pos} (h1 : PE X v1 t1) (h2 : PE X v2 t2) (h3 : PE X v3 t3) (h4 : PE X v4 t4) (hl1 : l1.length ≤ 1000) (hl2 : l2.length ≤ 1000) (hl3 : l3.length ≤ 1000) :
    PE X (.JoinedStr [.FormattedValue v1 (-1) none p1, .Constant (.str l1) k1 p2, .FormattedValue v2 (-1) none p3, .Constant (.str l2) k2 p4, .FormattedValue v3 (-1) none p5, .Constant (.str l3) k3 p6, .FormattedValue v4 (-1) none p7] pos) (tFs4 l1 l2 l3 t1 t2 t3 t4) := by
  intro pins s σ H Q I h
  refine JoinedStr_many (joinParts_cons (FormattedValue_plain (thn (h1 pins s σ H _ I h) fun u s1 ⟨x, H1, I1, r1, i, ex, hi, q⟩ => ?_)))
  subst ex
  obtain ⟨t, rfl⟩ := r1
  refine formatField_int_small hi ?_
  have b1 := int_text_length_le (k := 1920) (by decide) hi
  have e1 : (Str.empty ++ Str.ofString (toString i)).length ≤ 2000 := by rw [strLen_append, PySem.ofString_length]; show 0 + _ ≤ _; lia
  refine ⟨by rw [sizeLine_eq]; lia, ?_⟩
  refine joinParts_cons (Calls.Constant_str ?_)
  have e2 : ((Str.empty ++ Str.ofString (toString i)) ++ l1).length ≤ 3000 := by rw [strLen_append]; lia
  refine ⟨by rw [sizeLine_eq]; lia, ?_⟩
  refine joinParts_cons (FormattedValue_plain (thn (h2 pins _ σ H1 _ ((I1.tok _).tok _) q) fun u s2 ⟨x, H2, I2, r2, j, ex, hj, q⟩ => ?_))
  subst ex
  obtain ⟨t, rfl⟩ := r2
  refine formatField_int_small hj ?_
  have b2 := int_text_length_le (k := 1920) (by decide) hj
  have e3 : (((Str.empty ++ Str.ofString (toString i)) ++ l1) ++ Str.ofString (toString j)).length ≤ 5000 := by rw [strLen_append, PySem.ofString_length]; lia
  refine ⟨by rw [sizeLine_eq]; lia, ?_⟩
  refine joinParts_cons (Calls.Constant_str ?_)
  have e4 : ((((Str.empty ++ Str.ofString (toString i)) ++ l1) ++ Str.ofString (toString j)) ++ l2).length ≤ 6000 := by rw [strLen_append]; lia
  refine ⟨by rw [sizeLine_eq]; lia, ?_⟩
  refine joinParts_cons (FormattedValue_plain (thn (h3 pins _ σ H2 _ ((I2.tok _).tok _) q) fun u s3 ⟨x, H3, I3, r3, k, ex, hk, q⟩ => ?_))
  subst ex
  obtain ⟨t, rfl⟩ := r3
  refine formatField_int_small hk ?_
  have b3 := int_text_length_le (k := 1920) (by decide) hk
  have e5 : (((((Str.empty ++ Str.ofString (toString i)) ++ l1) ++ Str.ofString (toString j)) ++ l2) ++ Str.ofString (toString k)).length ≤ 8000 := by rw [strLen_append, PySem.ofString_length]; lia
  refine ⟨by rw [sizeLine_eq]; lia, ?_⟩
  refine joinParts_cons (Calls.Constant_str ?_)
  have e6 : ((((((Str.empty ++ Str.ofString (toString i)) ++ l1) ++ Str.ofString (toString j)) ++ l2) ++ Str.ofString (toString k)) ++ l3).length ≤ 9000 := by rw [strLen_append]; lia
  refine ⟨by rw [sizeLine_eq]; lia, ?_⟩
  refine joinParts_cons (FormattedValue_plain (thn (h4 pins _ σ H3 _ ((I3.tok _).tok _) q) fun u s4 ⟨x, H4, I4, r4, w, ex, hw, q⟩ => ?_))
  subst ex
  obtain ⟨t, rfl⟩ := r4
  refine formatField_str (fun t' tk => ?_) (by rw [sizeLine_eq]; lia)
  have e7 : (((((((Str.empty ++ Str.ofString (toString i)) ++ l1) ++ Str.ofString (toString j)) ++ l2) ++ Str.ofString (toString k)) ++ l3) ++ w).length ≤ sizeLine := by rw [strLen_append, sizeLine_eq]; lia
  refine ⟨e7, joinParts_nil ?_ e7⟩
  exact ⟨.str _, H4, (I4.tok _).tok _, ⟨_, rfl⟩, q⟩
theorem qe_fs4 {l1 l2 l3 : Str} {k1 k2 k3 : Nat} {v1 v2 v3 v4 : Expr} {t1 t2 t3 t4 : TE} {p1 p2 p3 p4 p5 p6 p7 pos : Pos} (h1 : QE X v1 t1) (h2 : QE X v2 t2) (h3 : QE X v3 t3) (h4 : QE X v4 t4) (hl1 : l1.length ≤ 1000) (hl2 : l2.length ≤ 1000) (hl3 : l3.length ≤ 1000) :
    QE X (.JoinedStr [.FormattedValue v1 (-1) none p1, .Constant (.str l1) k1 p2, .FormattedValue v2 (-1) none p3, .Constant (.str l2) k2 p4, .FormattedValue v3 (-1) none p5, .Constant (.str l3) k3 p6, .FormattedValue v4 (-1) none p7] pos) (tFs4 l1 l2 l3 t1 t2 t3 t4) := ⟨pe_fs4 h1.r h2.r h3.r h4.r hl1 hl2 hl3⟩
theorem qs_tryN {body : List Stmt} {h0 : ExceptHandler} {hs : List ExceptHandler} {pos : Pos} {tb : TS} (hx : ∀ e s, ¬ X.xe e s) (hb : QSs X body tb) : QS X (.Try body (h0 :: hs) [] [] pos) tb := ⟨by
  intro pins s σ H D I h
  refine wpAny_Try_except (wpAny_mono (hb.r pins s σ H D I h) (fun f s1 h1 => ?_) fun e s1 h1 => absurd h1 (hx e s1))
  cases f with
  | next => rw [execs_nil]; exact wpAny_pure h1
  | brk => exact h1
  | cont => exact h1
  | ret u => exact h1⟩
end
end L2
set_option Elab.async false
set_option linter.all false
set_option maxRecDepth 100000
set_option maxHeartbeats 1000000
namespace Tx
open PySem PySem.StrLaws PySem.Builtin PySem.Builtin.Str Pc L2
noncomputable def mkS (l : List Nat) : Str := ⟨l.toArray⟩
theorem mkS_list (l : List Nat) : (mkS l).cps.toList = l := by simp [mkS]
theorem str_ext {x y : Str} (h : x.cps.toList = y.cps.toList) : x = y := by
  cases x
  cases y
  simpa [Array.toList_inj] using h
theorem app_list (x y : Str) : (x ++ y).cps.toList = x.cps.toList ++ y.cps.toList := by
  show (x.cps ++ y.cps).toList = _
  simp
theorem mkS_app (a b : List Nat) : mkS a ++ mkS b = mkS (a ++ b) := str_ext (by rw [app_list, mkS_list, mkS_list, mkS_list])
theorem mkS_len (l : List Nat) : (mkS l).length = l.length := by simp [mkS, Str.length]
theorem join_list (y : Str) (ps : List Str) : (Txt.join y ps).cps.toList = flat y.cps.toList (ps.map fun p => p.cps.toList) := glued_flat y ps
theorem join_len {y : Str} {ps : List Str} {B : Nat} (h : ∀ p ∈ ps, p.length ≤ B) : (Txt.join y ps).length ≤ ps.length * (B + y.length) := by
  have h1 := flat_len (y := y.cps.toList) (B := B) (ps := ps.map fun p => p.cps.toList) (by
    intro p hp
    obtain ⟨q, hq, rfl⟩ := List.mem_map.mp hp
    rw [len_list]
    exact h q hq)
  rw [← join_list, len_list, List.length_map, len_list] at h1
  exact h1
theorem fold_len (k : Nat) {B : Nat} : ∀ (ts : List Str) (a : Nat), (∀ t ∈ ts, t.length ≤ B) → ts.foldl (fun n t => n + t.length + k) a ≤ a + ts.length * (B + k)
  | [], a, _ => by simp
  | t :: ts, a, h => by
    have h1 := fold_len k ts (a + t.length + k) fun x hx => h x (List.mem_cons_of_mem _ hx)
    have h2 := h t List.mem_cons_self
    rw [List.foldl_cons, List.length_cons, Nat.succ_mul]
    omega
theorem joinOk {sep : Str} {ts : List Str} {B : Nat} (h : ∀ t ∈ ts, t.length ≤ B) (hb : ts.length * (B + sep.length) ≤ 100000) : JoinOk sep ts = true := by
  have h1 := fold_len sep.length ts 0 h
  unfold JoinOk tooLong
  rw [List.foldl_toArray]
  simp only [Bool.not_eq_true', decide_eq_false_iff_not, Nat.not_lt, gt_iff_lt]
  rw [sizeLine_eq]
  omega
theorem flat_single : ∀ l : List Nat, flat [] (l.map fun c => [c]) = l
  | [] => rfl
  | [c] => rfl
  | c :: d :: r => by
    have := flat_single (d :: r)
    simp only [List.map_cons] at this ⊢
    simp only [flat, List.append_nil, this]
    rfl
theorem join_signs (l : List Nat) : Txt.join "" (l.map fun c => mkS [c]) = mkS l := str_ext (by
  rw [join_list, mkS_list, List.map_map]
  have : ((fun p : Str => p.cps.toList) ∘ fun c => mkS [c]) = fun c => [c] := by funext c; exact mkS_list [c]
  rw [this]
  exact flat_single l)
noncomputable def layTx (lay : List (List Nat)) : Str := Txt.join "/" (lay.map mkS)
noncomputable def laysTx (ls : List (List (List Nat))) : Str := Txt.join "; " (ls.map layTx)
noncomputable def numS (n : Int) : Str := Str.ofString (toString n)
noncomputable def headTx (a b c : Int) : Str := Txt.join " " [numS a, numS b, numS c]
structure LayOk (l : List (List Nat)) : Prop where
  ne : l ≠ []
  len : l.length ≤ 15
  row : ∀ r ∈ l, r.length ≤ 15
  sg : ∀ r ∈ l, ∀ c ∈ r, c = 35 ∨ c = 46
structure Draw (ls : List (List (List Nat))) : Prop where
  ne : ls ≠ []
  len : ls.length ≤ 15
  lay : ∀ l ∈ ls, LayOk l
theorem mem_join {y : Str} {ps : List Str} {c : Nat} (h : c ∈ (Txt.join y ps).cps.toList) : c ∈ y.cps.toList ∨ ∃ p ∈ ps, c ∈ p.cps.toList := by
  rw [join_list] at h
  rcases flat_mem h with z | ⟨p, hp, z⟩
  · exact .inl z
  · obtain ⟨q, hq, rfl⟩ := List.mem_map.mp hp
    exact .inr ⟨q, hq, z⟩
theorem LayOk.signs {l : List (List Nat)} (h : LayOk l) {c : Nat} (hc : c ∈ (layTx l).cps.toList) : c = 47 ∨ c = 35 ∨ c = 46 := by
  rcases mem_join hc with z | ⟨p, hp, z⟩
  · left
    simpa using (show c ∈ [47] from z)
  · obtain ⟨r, hr, rfl⟩ := List.mem_map.mp hp
    rw [mkS_list] at z
    exact .inr (h.sg r hr c z)
theorem LayOk.tl {l : List (List Nat)} (h : LayOk l) : (layTx l).length ≤ 240 := by
  have h1 := join_len (y := "/") (ps := l.map mkS) (B := 15) (by
    intro p hp
    obtain ⟨r, hr, rfl⟩ := List.mem_map.mp hp
    rw [mkS_len]
    exact h.row r hr)
  rw [List.length_map, show (("/" : Str)).length = 1 from rfl] at h1
  have := h.len
  unfold layTx
  lia
theorem Draw.tl {ls : List (List (List Nat))} (h : Draw ls) : (laysTx ls).length ≤ 3630 := by
  have h1 := join_len (y := "; ") (ps := ls.map layTx) (B := 240) (by
    intro p hp
    obtain ⟨r, hr, rfl⟩ := List.mem_map.mp hp
    exact (h.lay r hr).tl)
  rw [List.length_map, show (("; " : Str)).length = 2 from rfl] at h1
  have := h.len
  unfold laysTx
  lia
theorem LayOk.split {l : List (List Nat)} (h : LayOk l) : Txt.split (layTx l) "/" = l.map mkS :=
  split_join (d := 47) (ds := []) rfl (by decide +kernel) (by simpa using h.ne) (by
    intro p hp hc
    obtain ⟨r, hr, rfl⟩ := List.mem_map.mp hp
    rw [mkS_list] at hc
    have := h.sg r hr _ hc
    lia)
theorem Draw.split {ls : List (List (List Nat))} (h : Draw ls) : Txt.split (laysTx ls) "; " = ls.map layTx :=
  split_join (d := 59) (ds := [32]) rfl (by decide +kernel) (by simpa using h.ne) (by
    intro p hp hc
    obtain ⟨r, hr, rfl⟩ := List.mem_map.mp hp
    have := (h.lay r hr).signs hc
    lia)
theorem LayOk.ascii {l : List (List Nat)} (h : LayOk l) {r : List Nat} (hr : r ∈ l) : (mkS r).cps.all (· < 128) = true := by
  rw [Array.all_eq_true']
  intro c hc
  have := h.sg r hr c (by simpa [mkS] using hc)
  simp
  lia
theorem num_word {n : Int} (h0 : -60 ≤ n) (h1 : n ≤ 60) : ∃ p ∈ words, p.2 = n ∧ numS n = mkS p.1 := by
  obtain ⟨p, hp, rfl⟩ := word_of h0 h1
  exact ⟨p, hp, rfl, words_text p hp⟩
theorem num_log {n : Int} (h0 : -60 ≤ n) (h1 : n ≤ 60) : n.natAbs.log2 < 1920 := by
  have : n.natAbs ≤ 60 := by lia
  have h2 : ∀ k : Nat, k < 61 → k.log2 < 1920 := by decide +kernel
  exact h2 _ (by lia)
theorem num_signs {n : Int} (h0 : -60 ≤ n) (h1 : n ≤ 60) {c : Nat} (h : c ∈ (numS n).cps.toList) : c = 45 ∨ (48 ≤ c ∧ c ≤ 57) := by
  obtain ⟨p, hp, _, e⟩ := num_word h0 h1
  rw [e, mkS_list] at h
  exact word_signs p hp c h
theorem num_len {n : Int} (h0 : -60 ≤ n) (h1 : n ≤ 60) : (numS n).length ≤ 3 ∧ 0 < (numS n).length := by
  obtain ⟨p, hp, _, e⟩ := num_word h0 h1
  rw [e, mkS_len]
  obtain ⟨z1, z2⟩ := word_ne p hp
  exact ⟨z2, List.length_pos_iff.mpr z1⟩
noncomputable def N60 (n : Int) : Prop := -60 ≤ n ∧ n ≤ 60
theorem head_signs {a b c : Int} (ha : N60 a) (hb : N60 b) (hc : N60 c) {d : Nat} (h : d ∈ (headTx a b c).cps.toList) : d = 32 ∨ d = 45 ∨ (48 ≤ d ∧ d ≤ 57) := by
  rcases mem_join h with z | ⟨p, hp, z⟩
  · left
    simpa using (show d ∈ [32] from z)
  · right
    simp only [List.mem_cons, List.not_mem_nil, or_false] at hp
    rcases hp with rfl | rfl | rfl
    · exact num_signs ha.1 ha.2 z
    · exact num_signs hb.1 hb.2 z
    · exact num_signs hc.1 hc.2 z
theorem head_split {a b c : Int} (ha : N60 a) (hb : N60 b) (hc : N60 c) : Txt.split (headTx a b c) " " = [numS a, numS b, numS c] :=
  split_join (d := 32) (ds := []) rfl (by decide +kernel) (by simp) (by
    intro p hp h
    simp only [List.mem_cons, List.not_mem_nil, or_false] at hp
    rcases hp with rfl | rfl | rfl
    · have := num_signs ha.1 ha.2 h; lia
    · have := num_signs hb.1 hb.2 h; lia
    · have := num_signs hc.1 hc.2 h; lia)
theorem head_len {a b c : Int} (ha : N60 a) (hb : N60 b) (hc : N60 c) : (headTx a b c).length ≤ 12 := by
  have h1 := join_len (y := " ") (ps := [numS a, numS b, numS c]) (B := 3) (by
    intro p hp
    simp only [List.mem_cons, List.not_mem_nil, or_false] at hp
    rcases hp with rfl | rfl | rfl
    · exact (num_len ha.1 ha.2).1
    · exact (num_len hb.1 hb.2).1
    · exact (num_len hc.1 hc.2).1)
  exact h1
noncomputable def allTx (a b c : Int) (ls : List (List (List Nat))) : Str := headTx a b c ++ ": " ++ laysTx ls
theorem all_list (a b c : Int) (ls : List (List (List Nat))) : (allTx a b c ls).cps.toList = (headTx a b c).cps.toList ++ ((": " : Str)).cps.toList ++ (laysTx ls).cps.toList := by
  unfold allTx
  rw [app_list, app_list]
theorem all_len {a b c : Int} {ls : List (List (List Nat))} (ha : N60 a) (hb : N60 b) (hc : N60 c) (h : Draw ls) : (allTx a b c ls).length ≤ 4000 := by
  have h1 := head_len ha hb hc
  have h2 := h.tl
  unfold allTx
  rw [strLen_append, strLen_append, show ((": " : Str)).length = 2 from rfl]
  lia
theorem all_fs (a b c : Int) (ls : List (List (List Nat))) : (((((((Str.empty ++ numS a) ++ " ") ++ numS b) ++ " ") ++ numS c) ++ ": ") ++ laysTx ls) = allTx a b c ls := str_ext (by
  rw [all_list]
  unfold headTx
  rw [join_list]
  simp only [app_list, List.map_cons, List.map_nil, flat, List.append_assoc]
  rfl)
theorem all_ne {a b c : Int} {ls : List (List (List Nat))} (ha : N60 a) : allTx a b c ls ≠ "none" := by
  intro e
  have e1 := congrArg (fun x : Str => x.cps.toList) e
  try dsimp only at e1
  rw [all_list] at e1
  unfold headTx at e1
  rw [join_list] at e1
  obtain ⟨h1, h2⟩ := num_len ha.1 ha.2
  have hs := fun d => num_signs (c := d) ha.1 ha.2
  generalize numS a = x at e1 h2 hs
  rw [← len_list] at h2
  cases hx : x.cps.toList with
  | nil => rw [hx] at h2; exact absurd h2 (by simp)
  | cons d r =>
    have e2 := congrArg List.head? e1
    simp only [List.map_cons, List.map_nil, flat, hx, List.cons_append, List.head?_cons] at e2
    have e3 : some d = some 110 := e2
    have := hs d (by rw [hx]; exact List.mem_cons_self)
    cases e3
    lia
theorem all_part {a b c : Int} {ls : List (List (List Nat))} (ha : N60 a) (hb : N60 b) (hc : N60 c) :
    ∃ i cs, occurrences (allTx a b c ls) ": " 0 (allTx a b c ls).length 1 = i :: cs ∧ strSub (allTx a b c ls) 0 i = headTx a b c ∧ strSub (allTx a b c ls) (i + ((": " : Str)).length) (allTx a b c ls).length = laysTx ls := by
  obtain ⟨cs, h1, h2, h3⟩ := part_flat (x := allTx a b c ls) (y := ": ") (d := 58) (ds := [32]) (limit := 1) rfl (Nat.le_refl _) (fun h => by
    have := head_signs ha hb hc h
    lia) (all_list a b c ls)
  exact ⟨_, cs, h1, str_ext h2, str_ext h3⟩
noncomputable def Drw (ls : List (List (List Nat))) (u n e : Nat) : Prop := ∃ lay row, ls[u]? = some lay ∧ lay.reverse[n]? = some row ∧ row[e]? = some 35
noncomputable def pt3 (c0 : C3) (u n e : Nat) : C3 := ⟨c0.x + e, c0.y + n, c0.z + u⟩
noncomputable def Bef (ls : List (List (List Nat))) (c0 : C3) (i j k : Nat) (c : C3) : Prop := ∃ u n e, Drw ls u n e ∧ c = pt3 c0 u n e ∧ (u < i ∨ (u = i ∧ (n < j ∨ (n = j ∧ e < k))))
theorem bef_zero {ls : List (List (List Nat))} {c0 c : C3} : ¬ Bef ls c0 0 0 0 c := fun ⟨u, n, e, _, _, h⟩ => by lia
theorem bef_row {ls : List (List (List Nat))} {c0 c : C3} {i j : Nat} {lay : List (List Nat)} {row : List Nat} (h1 : ls[i]? = some lay) (h2 : lay.reverse[j]? = some row) : Bef ls c0 i j row.length c ↔ Bef ls c0 i (j + 1) 0 c := by
  constructor
  · rintro ⟨u, n, e, hd, hc, h⟩
    exact ⟨u, n, e, hd, hc, by lia⟩
  · rintro ⟨u, n, e, hd, hc, h⟩
    refine ⟨u, n, e, hd, hc, ?_⟩
    by_cases z : u = i ∧ n = j
    · obtain ⟨rfl, rfl⟩ := z
      obtain ⟨lay', row', e1, e2, e3⟩ := hd
      rw [h1] at e1
      cases e1
      rw [h2] at e2
      cases e2
      have := (List.getElem?_eq_some_iff.mp e3).1
      lia
    · lia
theorem bef_lay {ls : List (List (List Nat))} {c0 c : C3} {i : Nat} {lay : List (List Nat)} (h1 : ls[i]? = some lay) : Bef ls c0 i lay.length 0 c ↔ Bef ls c0 (i + 1) 0 0 c := by
  constructor
  · rintro ⟨u, n, e, hd, hc, h⟩
    exact ⟨u, n, e, hd, hc, by lia⟩
  · rintro ⟨u, n, e, hd, hc, h⟩
    refine ⟨u, n, e, hd, hc, ?_⟩
    by_cases z : u = i
    · subst z
      obtain ⟨lay', row', e1, e2, e3⟩ := hd
      rw [h1] at e1
      cases e1
      have := (List.getElem?_eq_some_iff.mp e2).1
      rw [List.length_reverse] at this
      lia
    · lia
theorem bef_all {ls : List (List (List Nat))} {c0 c : C3} : Bef ls c0 ls.length 0 0 c ↔ ∃ u n e, Drw ls u n e ∧ c = pt3 c0 u n e := by
  constructor
  · rintro ⟨u, n, e, hd, hc, h⟩
    exact ⟨u, n, e, hd, hc⟩
  · rintro ⟨u, n, e, hd, hc⟩
    refine ⟨u, n, e, hd, hc, .inl ?_⟩
    obtain ⟨lay, _, e1, _⟩ := hd
    exact (List.getElem?_eq_some_iff.mp e1).1
theorem bef_yes {ls : List (List (List Nat))} {c0 c : C3} {i j k : Nat} {lay : List (List Nat)} {row : List Nat} (h1 : ls[i]? = some lay) (h2 : lay.reverse[j]? = some row) (h3 : row[k]? = some 35) : Bef ls c0 i j (k + 1) c ↔ Bef ls c0 i j k c ∨ c = pt3 c0 i j k := by
  constructor
  · rintro ⟨u, n, e, hd, hc, h⟩
    by_cases z : u = i ∧ n = j ∧ e = k
    · obtain ⟨rfl, rfl, rfl⟩ := z
      exact .inr hc
    · exact .inl ⟨u, n, e, hd, hc, by lia⟩
  · rintro (⟨u, n, e, hd, hc, h⟩ | rfl)
    · exact ⟨u, n, e, hd, hc, by lia⟩
    · exact ⟨i, j, k, ⟨lay, row, h1, h2, h3⟩, rfl, by lia⟩
theorem bef_no {ls : List (List (List Nat))} {c0 c : C3} {i j k : Nat} {lay : List (List Nat)} {row : List Nat} (h1 : ls[i]? = some lay) (h2 : lay.reverse[j]? = some row) (h3 : row[k]? ≠ some 35) : Bef ls c0 i j (k + 1) c ↔ Bef ls c0 i j k c := by
  constructor
  · rintro ⟨u, n, e, hd, hc, h⟩
    refine ⟨u, n, e, hd, hc, ?_⟩
    by_cases z : u = i ∧ n = j ∧ e = k
    · obtain ⟨rfl, rfl, rfl⟩ := z
      obtain ⟨lay', row', e1, e2, e3⟩ := hd
      rw [h1] at e1
      cases e1
      rw [h2] at e2
      cases e2
      exact absurd e3 h3
    · lia
  · rintro ⟨u, n, e, hd, hc, h⟩
    exact ⟨u, n, e, hd, hc, by lia⟩
noncomputable def pic (cs : List C3) (u n e : Nat) : Bool := decide ((⟨loA .x cs + e, loA .y cs + n, loA .z cs + u⟩ : C3) ∈ cs)
noncomputable def wd (ax : Ax) (cs : List C3) : Nat := (hiA ax cs - loA ax cs + 1).toNat
noncomputable def laysOf (cs : List C3) : List (List (List Nat)) := (List.range (wd .z cs)).map fun u => layT (pic cs u) (wd .x cs) (wd .y cs)
noncomputable def textC (cs : List C3) : Str := if cs = [] then "none" else allTx (loA .x cs) (loA .y cs) (loA .z cs) (laysOf cs)
structure Wr (cs : List C3) : Prop where
  asc : Asc cs
  nd : cs.Nodup
  near : ∀ c ∈ cs, c.within 60
  len : cs.length ≤ 45
  few : ∀ ax : Ax, ∀ c ∈ cs, ∀ d ∈ cs, ax.at c - ax.at d ≤ 14
theorem lo_is {cs : List C3} (h : cs ≠ []) (ax : Ax) : IsLo ax cs (loA ax cs) := by
  obtain ⟨m, hm⟩ := ex_lo ax h
  rw [hm.eq]
  exact hm
theorem hi_is {cs : List C3} (h : cs ≠ []) (ax : Ax) : IsHi ax cs (hiA ax cs) := by
  obtain ⟨m, hm⟩ := ex_hi ax h
  rw [hm.eq]
  exact hm
theorem Wr.lo {cs : List C3} (h : Wr cs) (hn : cs ≠ []) (ax : Ax) : N60 (loA ax cs) := by
  obtain ⟨⟨c, hc, e⟩, _⟩ := lo_is hn ax
  rw [← e]
  exact within_at ax (h.near c hc)
theorem Wr.hi {cs : List C3} (h : Wr cs) (hn : cs ≠ []) (ax : Ax) : N60 (hiA ax cs) := by
  obtain ⟨⟨c, hc, e⟩, _⟩ := hi_is hn ax
  rw [← e]
  exact within_at ax (h.near c hc)
theorem lo_hi {cs : List C3} (hn : cs ≠ []) (ax : Ax) : loA ax cs ≤ hiA ax cs := by
  obtain ⟨⟨c, hc, e⟩, h1⟩ := lo_is hn ax
  obtain ⟨_, h2⟩ := hi_is hn ax
  have := h2 c hc
  lia
theorem Wr.wd {cs : List C3} (h : Wr cs) (hn : cs ≠ []) (ax : Ax) : wd ax cs ≤ 15 ∧ 0 < wd ax cs := by
  obtain ⟨⟨c, hc, e⟩, _⟩ := lo_is hn ax
  obtain ⟨⟨d, hd, e'⟩, _⟩ := hi_is hn ax
  have h1 := h.few ax d hd c hc
  have h2 := lo_hi hn ax
  unfold Tx.wd
  omega
theorem lay_ok {f : Nat → Nat → Bool} {w d : Nat} (hw : w ≤ 15) (hd : d ≤ 15) (h0 : 0 < d) : LayOk (layT f w d) where
  ne := by
    intro e
    have := congrArg List.length e
    simp [layT] at this
    lia
  len := by simp [layT]; exact hd
  row := fun r hr => by
    obtain ⟨n, _, rfl⟩ := List.mem_map.mp (List.mem_reverse.mp hr)
    rw [row_len]
    exact hw
  sg := fun r hr c hc => by
    obtain ⟨n, _, rfl⟩ := List.mem_map.mp (List.mem_reverse.mp hr)
    exact row_no hc
theorem Wr.draw {cs : List C3} (h : Wr cs) (hn : cs ≠ []) : Draw (laysOf cs) where
  ne := by
    intro e
    have := congrArg List.length e
    simp [laysOf] at this
    have := (h.wd hn .z).2
    lia
  len := by simp [laysOf]; exact (h.wd hn .z).1
  lay := fun l hl => by
    obtain ⟨u, _, rfl⟩ := List.mem_map.mp hl
    exact lay_ok (h.wd hn .x).1 (h.wd hn .y).1 (h.wd hn .y).2
theorem drw_lays {cs : List C3} {u n e : Nat} : Drw (laysOf cs) u n e ↔ u < wd .z cs ∧ n < wd .y cs ∧ e < wd .x cs ∧ pic cs u n e = true := by
  unfold Drw laysOf
  constructor
  · rintro ⟨lay, row, e1, e2, e3⟩
    rw [List.getElem?_map] at e1
    obtain ⟨u', hu, rfl⟩ := Option.map_eq_some_iff.mp e1
    obtain ⟨l1, q1⟩ := List.getElem?_eq_some_iff.mp hu
    rw [List.getElem_range] at q1
    rw [List.length_range] at l1
    subst q1
    unfold layT at e2
    rw [List.reverse_reverse, List.getElem?_map] at e2
    obtain ⟨n', hn, rfl⟩ := Option.map_eq_some_iff.mp e2
    obtain ⟨l2, q2⟩ := List.getElem?_eq_some_iff.mp hn
    rw [List.getElem_range] at q2
    rw [List.length_range] at l2
    subst q2
    have l3 := (List.getElem?_eq_some_iff.mp e3).1
    rw [row_len] at l3
    rw [row_at l3] at e3
    refine ⟨l1, l2, l3, ?_⟩
    by_cases z : pic cs u n e = true
    · exact z
    · rw [if_neg z] at e3
      cases e3
  · rintro ⟨h1, h2, h3, h4⟩
    refine ⟨layT (pic cs u) (wd .x cs) (wd .y cs), rowT (pic cs u n) (wd .x cs), ?_, ?_, ?_⟩
    · rw [List.getElem?_map, List.getElem?_range h1]
      rfl
    · unfold layT
      rw [List.reverse_reverse, List.getElem?_map, List.getElem?_range h2]
      rfl
    · rw [row_at h3, if_pos h4]
noncomputable def cornerC (cs : List C3) : C3 := ⟨loA .x cs, loA .y cs, loA .z cs⟩
theorem drw_mem {cs : List C3} {c : C3} (hn : cs ≠ []) : (∃ u n e, Drw (laysOf cs) u n e ∧ c = pt3 (cornerC cs) u n e) ↔ c ∈ cs := by
  constructor
  · rintro ⟨u, n, e, hd, rfl⟩
    have := (drw_lays.mp hd).2.2.2
    exact of_decide_eq_true this
  · intro hc
    have hx := (lo_is hn .x).2 c hc
    have hx' := (hi_is hn .x).2 c hc
    have hy := (lo_is hn .y).2 c hc
    have hy' := (hi_is hn .y).2 c hc
    have hz := (lo_is hn .z).2 c hc
    have hz' := (hi_is hn .z).2 c hc
    simp only [Ax.at] at hx hx' hy hy' hz hz'
    have e : pt3 (cornerC cs) (c.z - loA .z cs).toNat (c.y - loA .y cs).toNat (c.x - loA .x cs).toNat = c := by
      obtain ⟨x, y, z⟩ := c
      simp only [pt3, cornerC, C3.mk.injEq] at *
      lia
    refine ⟨(c.z - loA .z cs).toNat, (c.y - loA .y cs).toNat, (c.x - loA .x cs).toNat, drw_lays.mpr ⟨?_, ?_, ?_, ?_⟩, e.symm⟩
    · unfold wd; lia
    · unfold wd; lia
    · unfold wd; lia
    · unfold pic
      refine decide_eq_true ?_
      have e' : (⟨loA .x cs + ((c.x - loA .x cs).toNat : Int), loA .y cs + ((c.y - loA .y cs).toNat : Int), loA .z cs + ((c.z - loA .z cs).toNat : Int)⟩ : C3) = c := e
      rw [e']
      exact hc
noncomputable def figs (w : Str) : Str := if Txt.startswith w "-" then Txt.slice w (some 1) none else w
theorem word_figs : ∀ p ∈ words, (figs (mkS p.1)).length ≥ 1 ∧ (figs (mkS p.1)).length ≤ 3 ∧ (∀ c ∈ (figs (mkS p.1)).cps.toList, (!(occurrences "0123456789" ⟨#[c]⟩ 0 (("0123456789" : Str)).length 1).isEmpty) = true) ∧
    ((figs (mkS p.1)).cps.all (· < 128)) = true ∧ ((figs (mkS p.1)).cps.toList.head? = some 48 → mkS p.1 = "0") := by decide +kernel
end Tx
set_option Elab.async false
set_option linter.all false
set_option maxRecDepth 100000
set_option maxHeartbeats 1000000
namespace StT
open PySem PySem.SetTable
noncomputable def it : Nat → Nat → Nat
  | 0, x => x
  | n + 1, x => it n (5 * x + 1)
theorem it_add : ∀ (m n x : Nat), it (m + n) x = it n (it m x)
  | 0, n, x => by rw [Nat.zero_add]; rfl
  | m + 1, n, x => by rw [Nat.succ_add]; show it (m + n) (5 * x + 1) = it n (it m (5 * x + 1)); exact it_add m n _
theorem it_form : ∀ k : Nat, ∃ a b : Nat, ∀ x, it (2 ^ k) x = (1 + 2 ^ (k + 2) * a) * x + 2 ^ k * (1 + 2 * b)
  | 0 => ⟨1, 0, fun x => by show 5 * x + 1 = _; simp⟩
  | k + 1 => by
    obtain ⟨a, b, h⟩ := it_form k
    refine ⟨a + 2 ^ (k + 1) * a * a, b + 2 ^ k * a * (1 + 2 * b), fun x => ?_⟩
    rw [show 2 ^ (k + 1) = 2 ^ k + 2 ^ k by rw [Nat.pow_succ]; lia, it_add, h, h]
    have e2 : 2 ^ (k + 2) = 4 * 2 ^ k := by rw [Nat.pow_add]; lia
    have e3 : 2 ^ (k + 1 + 2) = 8 * 2 ^ k := by rw [show k + 1 + 2 = k + 3 from rfl, Nat.pow_add]; lia
    rw [e2, e3]
    generalize 2 ^ k = P
    grind
theorem it_half (k x : Nat) : it (2 ^ k) x % 2 ^ (k + 1) = (x + 2 ^ k) % 2 ^ (k + 1) := by
  obtain ⟨a, b, h⟩ := it_form k
  rw [h]
  have e : (1 + 2 ^ (k + 2) * a) * x + 2 ^ k * (1 + 2 * b) = (x + 2 ^ k) + 2 ^ (k + 1) * (2 * a * x + b) := by
    rw [show 2 ^ (k + 2) = 4 * 2 ^ k by rw [Nat.pow_add]; lia, show 2 ^ (k + 1) = 2 * 2 ^ k by rw [Nat.pow_succ]; lia]
    generalize 2 ^ k = P
    grind
  rw [e, Nat.add_mul_mod_self_left]
theorem it_all : ∀ (k x y : Nat), ∃ n, n < 2 ^ k ∧ it n x % 2 ^ k = y % 2 ^ k
  | 0, x, y => ⟨0, by decide, by rw [Nat.pow_zero, Nat.mod_one, Nat.mod_one]⟩
  | k + 1, x, y => by
    obtain ⟨n, hn, e⟩ := it_all k x y
    have hp : 0 < 2 ^ k := Nat.pow_pos (by decide)
    have e1 : 2 ^ (k + 1) = 2 * 2 ^ k := by rw [Nat.pow_succ]; lia
    have a1 : it n x % (2 * 2 ^ k) = it n x % 2 ^ k ∨ it n x % (2 * 2 ^ k) = it n x % 2 ^ k + 2 ^ k := by
      rw [Nat.mul_comm, Nat.mod_mul]
      rcases Nat.mod_two_eq_zero_or_one (it n x / 2 ^ k) with z | z <;> rw [z] <;> lia
    have a2 : y % (2 * 2 ^ k) = y % 2 ^ k ∨ y % (2 * 2 ^ k) = y % 2 ^ k + 2 ^ k := by
      rw [Nat.mul_comm, Nat.mod_mul]
      rcases Nat.mod_two_eq_zero_or_one (y / 2 ^ k) with z | z <;> rw [z] <;> lia
    by_cases g : it n x % 2 ^ (k + 1) = y % 2 ^ (k + 1)
    · exact ⟨n, by lia, g⟩
    · refine ⟨n + 2 ^ k, by omega, ?_⟩
      rw [it_add, it_half, Nat.add_mod]
      rw [e1] at g ⊢
      have hlt := Nat.mod_lt (it n x) hp
      have hm : 2 ^ k % (2 * 2 ^ k) = 2 ^ k := Nat.mod_eq_of_lt (by lia)
      rw [hm]
      rcases a1 with z | z <;> rcases a2 with z' | z' <;> rw [z, z'] at g <;> rw [z, z']
      · lia
      · rw [Nat.mod_eq_of_lt (by lia)]; lia
      · rw [show it n x % 2 ^ k + 2 ^ k + 2 ^ k = it n x % 2 ^ k + 2 * 2 ^ k by lia, Nat.add_mod_right, Nat.mod_eq_of_lt (by lia)]
        exact e
      · lia
noncomputable def run (mask : Nat) (h : Int) : Nat → Nat × Nat
  | 0 => (bits h % (mask + 1), bits h)
  | q + 1 => leap mask (run mask h q).1 (run mask h q).2
theorem run_le (mask : Nat) (h : Int) : ∀ q, (run mask h q).1 ≤ mask
  | 0 => Nat.le_of_lt_succ (Nat.mod_lt _ (Nat.succ_pos _))
  | q + 1 => Nat.le_of_lt_succ (Nat.mod_lt _ (Nat.succ_pos _))
theorem bits_lt (h : Int) : bits h < 2 ^ 64 := by
  unfold bits
  have := Int.emod_lt_of_pos h (show (0 : Int) < 2 ^ 64 by decide)
  have := Int.emod_nonneg h (show (2 ^ 64 : Int) ≠ 0 by decide)
  lia
theorem run_perturb (mask : Nat) (h : Int) : ∀ q, (run mask h q).2 = bits h / 32 ^ q
  | 0 => by simp [run]
  | q + 1 => by
    show (run mask h q).2 / 32 = _
    rw [run_perturb mask h q, Nat.div_div_eq_div_mul, Nat.pow_succ]
theorem run_calm {mask : Nat} {h : Int} {q : Nat} (hq : 13 ≤ q) : (run mask h q).2 = 0 := by
  rw [run_perturb]
  refine Nat.div_eq_of_lt (Nat.lt_of_lt_of_le (bits_lt h) ?_)
  refine Nat.le_trans ?_ (Nat.pow_le_pow_right (by decide) hq)
  decide
theorem run_it {mask : Nat} {h : Int} : ∀ n, (run mask h (13 + n)).1 = it n (run mask h 13).1 % (mask + 1)
  | 0 => (Nat.mod_eq_of_lt (Nat.lt_succ_of_le (run_le mask h 13))).symm
  | n + 1 => by
    show ((run mask h (13 + n)).1 * 5 + 1 + (run mask h (13 + n)).2 / 32) % (mask + 1) = _
    rw [run_calm (by lia), run_it n]
    rw [show it (n + 1) (run mask h 13).1 = it 1 (it n (run mask h 13).1) from it_add n 1 _]
    show _ = (5 * it n (run mask h 13).1 + 1) % (mask + 1)
    rw [Nat.zero_div, Nat.add_zero, Nat.add_mod, Nat.mul_mod, Nat.mod_mod, ← Nat.mul_mod, ← Nat.add_mod, Nat.mul_comm]
theorem hit {mask k : Nat} (hm : mask + 1 = 2 ^ k) (h : Int) {e : Nat} (he : e ≤ mask) : ∃ q, q ≤ 13 + mask ∧ (run mask h q).1 = e := by
  obtain ⟨n, hn, en⟩ := it_all k (run mask h 13).1 e
  refine ⟨13 + n, by lia, ?_⟩
  rw [run_it, hm, en, ← hm, Nat.mod_eq_of_lt (by lia)]
noncomputable def rlen (mask i : Nat) : Nat := runEnd mask i - i
theorem rlen_le (mask i : Nat) : rlen mask i ≤ 9 := by unfold rlen runEnd; split <;> lia
theorem rlen_in {mask i k : Nat} (hi : i ≤ mask) (hk : k ≤ rlen mask i) : i + k ≤ mask := by unfold rlen runEnd at hk; split at hk <;> lia
noncomputable def Bfr (mask : Nat) (h : Int) (O : Nat → Prop) (q k : Nat) : Prop := (∀ q' < q, ∀ k' ≤ rlen mask (run mask h q').1, O ((run mask h q').1 + k')) ∧ ∀ k' < k, O ((run mask h q).1 + k')
noncomputable def Rch (mask : Nat) (h : Int) (O : Nat → Prop) (j : Nat) : Prop := ∃ q k, k ≤ rlen mask (run mask h q).1 ∧ (run mask h q).1 + k = j ∧ Bfr mask h O q k
theorem Bfr.mono {mask : Nat} {h : Int} {O O' : Nat → Prop} {q k : Nat} (hO : ∀ j, O j → O' j) (b : Bfr mask h O q k) : Bfr mask h O' q k := ⟨fun q' h1 k' h2 => hO _ (b.1 q' h1 k' h2), fun k' h1 => hO _ (b.2 k' h1)⟩
theorem Rch.mono {mask : Nat} {h : Int} {O O' : Nat → Prop} {j : Nat} (hO : ∀ j, O j → O' j) (r : Rch mask h O j) : Rch mask h O' j := let ⟨q, k, a, b, c⟩ := r; ⟨q, k, a, b, c.mono hO⟩
theorem least {P : Nat → Prop} : ∀ {n : Nat}, P n → ∃ m, m ≤ n ∧ P m ∧ ∀ j < m, ¬ P j := fun {n} => by
  induction n using Nat.strongRecOn with
  | ind n ih =>
    intro h
    by_cases g : ∃ j, j < n ∧ P j
    · obtain ⟨j, hj, pj⟩ := g
      obtain ⟨m, h1, h2⟩ := ih j hj pj
      exact ⟨m, by lia, h2⟩
    · exact ⟨n, Nat.le_refl _, h, fun j hj pj => g ⟨j, hj, pj⟩⟩
theorem first_free {mask k : Nat} (hm : mask + 1 = 2 ^ k) (h : Int) {O : Nat → Prop} {e : Nat} (he : e ≤ mask) (hO : ¬ O e) : ∃ q c, q ≤ 13 + mask ∧ c ≤ rlen mask (run mask h q).1 ∧ ¬ O ((run mask h q).1 + c) ∧ Bfr mask h O q c := by
  obtain ⟨q0, h1, h2⟩ := hit hm h he
  obtain ⟨q, g1, ⟨c0, g2, g3⟩, g4⟩ := least (P := fun q => ∃ c, c ≤ rlen mask (run mask h q).1 ∧ ¬ O ((run mask h q).1 + c)) (n := q0) ⟨0, Nat.zero_le _, by rw [h2]; exact hO⟩
  obtain ⟨c, f1, f2, f3⟩ := least (P := fun c => c ≤ rlen mask (run mask h q).1 ∧ ¬ O ((run mask h q).1 + c)) (n := c0) ⟨g2, g3⟩
  refine ⟨q, c, by lia, f2.1, f2.2, fun q' hq' k' hk' => ?_, fun k' hk' => ?_⟩
  · exact Classical.byContradiction fun z => g4 q' hq' ⟨k', hk', z⟩
  · exact Classical.byContradiction fun z => f3 k' hk' ⟨by lia, z⟩
theorem ahead {mask : Nat} {h : Int} {O : Nat → Prop} {q c q' c' : Nat} (hc : c ≤ rlen mask (run mask h q).1) (hf : ¬ O ((run mask h q).1 + c)) (b' : Bfr mask h O q' c') (ho : O ((run mask h q').1 + c')) : q' < q ∨ (q' = q ∧ c' < c) := by
  rcases Nat.lt_trichotomy q' q with z | z | z
  · exact .inl z
  · subst z
    rcases Nat.lt_trichotomy c' c with y | y | y
    · exact .inr ⟨rfl, y⟩
    · subst y; exact absurd ho hf
    · exact absurd (b'.2 c y) hf
  · exact absurd (b'.1 q z c hc) hf
end StT
set_option Elab.async false
set_option linter.all false
set_option maxRecDepth 100000
set_option maxHeartbeats 1000000
namespace StT
open PySem PySem.SetTable
theorem nodup_le {α : Type} [DecidableEq α] : ∀ {l m : List α}, l.Nodup → (∀ x ∈ l, x ∈ m) → l.length ≤ m.length
  | [], _, _, _ => Nat.zero_le _
  | a :: l, m, h, hs => by
    obtain ⟨h1, h2⟩ := List.nodup_cons.mp h
    have ha := hs a List.mem_cons_self
    have := nodup_le (m := m.erase a) h2 fun x hx => (List.mem_erase_of_ne (fun z : x = a => h1 (z ▸ hx))).mpr (hs x (List.mem_cons_of_mem _ hx))
    rw [List.length_erase_of_mem ha] at this
    have := List.length_pos_of_mem ha
    rw [List.length_cons]
    lia
theorem rise_get {xs : Array Nat} (hr : xs.toList.Pairwise (· < ·)) {a b : Nat} (h : a < b) {u v : Nat} (ha : xs[a]? = some u) (hb : xs[b]? = some v) : u < v := by
  rw [← Array.getElem?_toList] at ha hb
  obtain ⟨l1, e1⟩ := List.getElem?_eq_some_iff.mp ha
  obtain ⟨l2, e2⟩ := List.getElem?_eq_some_iff.mp hb
  have := (List.pairwise_iff_getElem.mp hr) a b l1 l2 h
  lia
theorem below_go {xs : Array Nat} (hr : xs.toList.Pairwise (· < ·)) (j : Nat) : ∀ (fuel lo hi : Nat), lo ≤ hi → hi ≤ xs.size → hi - lo ≤ fuel → (∀ i v, i < lo → xs[i]? = some v → v < j) → (∀ i v, hi ≤ i → xs[i]? = some v → j ≤ v) →
    (∀ i v, i < below.go xs j fuel lo hi → xs[i]? = some v → v < j) ∧ (∀ i v, below.go xs j fuel lo hi ≤ i → xs[i]? = some v → j ≤ v) ∧ below.go xs j fuel lo hi ≤ xs.size
  | 0, lo, hi, h1, h2, h3, a, b => by
    have e : below.go xs j 0 lo hi = lo := rfl
    rw [e]
    exact ⟨a, fun i v h => b i v (by lia), by lia⟩
  | fuel + 1, lo, hi, h1, h2, h3, a, b => by
    rw [below.go]
    by_cases g : lo < hi
    · rw [if_pos g]
      have hm : (lo + hi) / 2 < xs.size := by lia
      have em : xs[(lo + hi) / 2]? = some (xs[(lo + hi) / 2]) := Array.getElem?_eq_getElem hm
      have eg : xs.getD ((lo + hi) / 2) j = xs[(lo + hi) / 2] := by rw [Array.getD_eq_getD_getElem?, em]; rfl
      dsimp only
      rw [eg]
      by_cases g2 : xs[(lo + hi) / 2] < j
      · rw [if_pos g2]
        refine below_go hr j fuel _ hi (by lia) h2 (by lia) (fun i v hi' hv => ?_) b
        rcases Nat.lt_or_ge i ((lo + hi) / 2) with z | z
        · have := rise_get hr z hv em; lia
        · obtain rfl : i = (lo + hi) / 2 := by lia
          rw [em] at hv
          cases hv
          exact g2
      · rw [if_neg g2]
        refine below_go hr j fuel lo _ (by lia) (by lia) (by lia) a (fun i v hi' hv => ?_)
        rcases Nat.lt_or_ge ((lo + hi) / 2) i with z | z
        · have := rise_get hr z em hv; lia
        · obtain rfl : i = (lo + hi) / 2 := by lia
          rw [em] at hv
          cases hv
          lia
    · rw [if_neg g]
      exact ⟨a, fun i v h => b i v (by lia), by lia⟩
theorem below_spec {xs : Array Nat} (hr : xs.toList.Pairwise (· < ·)) (j : Nat) : (∀ i v, i < below xs j → xs[i]? = some v → v < j) ∧ (∀ i v, below xs j ≤ i → xs[i]? = some v → j ≤ v) ∧ below xs j ≤ xs.size :=
  below_go hr j xs.size 0 xs.size (Nat.zero_le _) (Nat.le_refl _) (by lia) (fun i v h => absurd h (Nat.not_lt_zero _)) (fun i v h e => by rw [Array.getElem?_eq_none h] at e; cases e)
theorem below_at {xs : Array Nat} (hr : xs.toList.Pairwise (· < ·)) {i j : Nat} (h : xs[i]? = some j) : below xs j = i := by
  obtain ⟨a, b, c⟩ := below_spec hr j
  rcases Nat.lt_trichotomy (below xs j) i with z | z | z
  · have hlt : below xs j < xs.size := by have := (Array.getElem?_eq_some_iff.mp h).1; lia
    have e := Array.getElem?_eq_getElem hlt
    have := b _ _ (Nat.le_refl _) e
    have := rise_get hr z e h
    lia
  · exact z
  · have := a i j z h; lia
theorem slot_cases {t : SetTable} (hr : t.place.toList.Pairwise (· < ·)) (hd : t.dummies = #[]) (j : Nat) : (∃ i, t.slot j = .live i ∧ t.place[i]? = some j) ∨ (t.slot j = .empty ∧ j ∉ t.place.toList) := by
  by_cases g : j ∈ t.place.toList
  · obtain ⟨i, hi⟩ := List.getElem?_of_mem g
    rw [Array.getElem?_toList] at hi
    refine .inl ⟨i, ?_, hi⟩
    unfold slot
    dsimp only
    rw [below_at hr hi, hi]
    simp
  · refine .inr ⟨?_, g⟩
    unfold slot
    dsimp only
    have e1 : (t.place[below t.place j]? == some j) = false := by
      rw [beq_eq_false_iff_ne]
      intro z
      exact g (by rw [← Array.getElem?_toList] at z; exact List.mem_of_getElem? z)
    rw [e1, hd]
    have e2 : has #[] j = false := rfl
    rw [e2]
    rfl
structure TOk (t : SetTable) (hs : List Int) : Prop where
  len : t.place.toList.length = hs.length
  rise : t.place.toList.Pairwise (· < ·)
  le : ∀ j ∈ t.place.toList, j ≤ t.mask
  dum : t.dummies = #[]
  msk : ∃ k, 3 ≤ k ∧ k ≤ 13 ∧ t.mask + 1 = 2 ^ k
  fit : hs.length ≤ t.mask
  rch : ∀ x ∈ t.place.toList.zip hs, Rch t.mask x.2 (· ∈ t.place.toList) x.1
theorem TOk.fits {t : SetTable} {hs : List Int} (h : TOk t hs) {n : Nat} (hn : n = hs.length) : t.fits n = true := by
  unfold SetTable.fits SetTable.fill
  have := h.fit
  rw [h.dum]
  simp only [Array.size_empty, Bool.and_eq_true, beq_iff_eq, decide_eq_true_eq]
  have := h.len
  rw [Array.length_toList] at this
  lia
theorem TOk.free {t : SetTable} {hs : List Int} (h : TOk t hs) : ∃ e, e ≤ t.mask ∧ e ∉ t.place.toList := by
  refine Classical.byContradiction fun g => ?_
  have := nodup_le (l := List.range (t.mask + 1)) (m := t.place.toList) List.nodup_range fun x hx => Classical.byContradiction fun z => g ⟨x, by have := List.mem_range.mp hx; lia, z⟩
  rw [List.length_range, h.len] at this
  have := h.fit
  lia
theorem TOk.odd {t : SetTable} {hs : List Int} (h : TOk t hs) : t.gaveWay = false := by
  obtain ⟨k, h1, _, h2⟩ := h.msk
  unfold SetTable.gaveWay
  rw [beq_eq_false_iff_ne]
  obtain ⟨m, rfl⟩ : ∃ m, k = m + 1 := ⟨k - 1, by lia⟩
  rw [Nat.pow_succ] at h2
  lia
theorem TOk.turns {t : SetTable} {hs : List Int} (h : TOk t hs) : t.mask ≤ 8191 := by
  obtain ⟨k, h1, h3, h2⟩ := h.msk
  have : 2 ^ k ≤ 2 ^ 13 := Nat.pow_le_pow_right (by decide) h3
  lia
noncomputable def pst (mask : Nat) (h : Int) (q k : Nat) : Probe := { j := (run mask h q).1 + k, more := rlen mask (run mask h q).1 - k, i := (run mask h q).1, perturb := (run mask h q).2, dummy := none }
theorem pst_start (t : SetTable) (h : Int) : t.probeStart h = pst t.mask h 0 0 := rfl
theorem pst_in {t : SetTable} {h : Int} {q k : Nat} (hk : k < rlen t.mask (run t.mask h q).1) : t.advance (pst t.mask h q k) = pst t.mask h q (k + 1) := by
  unfold SetTable.advance
  rw [if_pos (show (pst t.mask h q k).more > 0 by show rlen t.mask (run t.mask h q).1 - k > 0; lia)]
  show ({ j := _ + k + 1, more := rlen t.mask (run t.mask h q).1 - k - 1, .. } : Probe) = _
  unfold pst
  congr 1
theorem pst_out {t : SetTable} {h : Int} {q k : Nat} (hk : rlen t.mask (run t.mask h q).1 ≤ k) : t.advance (pst t.mask h q k) = pst t.mask h (q + 1) 0 := by
  unfold SetTable.advance
  rw [if_neg (show ¬ (pst t.mask h q k).more > 0 by show ¬ rlen t.mask (run t.mask h q).1 - k > 0; lia)]
  rfl
theorem Bfr.next {mask : Nat} {h : Int} {G : Nat → Prop} {q k : Nat} (b : Bfr mask h G q k) (g : G ((run mask h q).1 + k)) : (k < rlen mask (run mask h q).1 → Bfr mask h G q (k + 1)) ∧ (rlen mask (run mask h q).1 ≤ k → Bfr mask h G (q + 1) 0) := by
  refine ⟨fun _ => ⟨b.1, fun k' hk' => ?_⟩, fun hk => ⟨fun q' hq' k' hk' => ?_, fun k' hk' => absurd hk' (Nat.not_lt_zero _)⟩⟩
  · rcases Nat.lt_or_ge k' k with z | z
    · exact b.2 k' z
    · obtain rfl : k' = k := by lia
      exact g
  · rcases Nat.lt_or_ge q' q with z | z
    · exact b.1 q' z k' hk'
    · obtain rfl : q' = q := by lia
      rcases Nat.lt_or_ge k' k with z | z
      · exact b.2 k' z
      · obtain rfl : k' = k := by lia
        exact g
theorem probe_spec {t : SetTable} (hr : t.place.toList.Pairwise (· < ·)) (hd : t.dummies = #[]) {hashAt : Nat → Int} {h : Int} {G : Nat → Prop} (hG : ∀ i j, t.place[i]? = some j → hashAt i ≠ h → G j)
    {qe ke : Nat} (hke : ke ≤ rlen t.mask (run t.mask h qe).1) (hf : (run t.mask h qe).1 + ke ∉ t.place.toList) (hb : Bfr t.mask h (· ∈ t.place.toList) qe ke) :
    ∀ (fuel q k : Nat), k ≤ rlen t.mask (run t.mask h q).1 → (q < qe ∨ (q = qe ∧ k ≤ ke)) → 10 * (qe - q) + 10 - k ≤ fuel → Bfr t.mask h G q k →
      (probe.go t hashAt h fuel (pst t.mask h q k) = some (.empty ((run t.mask h qe).1 + ke) none) ∧ Bfr t.mask h G qe ke) ∨
      ∃ q1 k1 i, k1 ≤ rlen t.mask (run t.mask h q1).1 ∧ (q < q1 ∨ (q = q1 ∧ k ≤ k1)) ∧ (q1 < qe ∨ (q1 = qe ∧ k1 < ke)) ∧ probe.go t hashAt h fuel (pst t.mask h q k) = some (.candidate ((run t.mask h q1).1 + k1) i (t.advance (pst t.mask h q1 k1))) ∧
        t.slot ((run t.mask h q1).1 + k1) = .live i ∧ t.place[i]? = some ((run t.mask h q1).1 + k1) ∧ hashAt i = h ∧ Bfr t.mask h G q1 k1 := by
  intro fuel
  induction fuel with
  | zero => intro q k hk ho hfu _; have := rlen_le t.mask (run t.mask h q).1; omega
  | succ fuel ih =>
    intro q k hk ho hfu hB
    rw [probe.go]
    have ej : (pst t.mask h q k).j = (run t.mask h q).1 + k := rfl
    rw [ej]
    rcases slot_cases hr hd ((run t.mask h q).1 + k) with ⟨i, e1, e2⟩ | ⟨e1, e2⟩
    · rw [e1]
      have hmem : (run t.mask h q).1 + k ∈ t.place.toList := by rw [← Array.getElem?_toList] at e2; exact List.mem_of_getElem? e2
      have hlt : q < qe ∨ (q = qe ∧ k < ke) := by
        rcases ho with z | ⟨z, z2⟩
        · exact .inl z
        · refine .inr ⟨z, ?_⟩
          rcases Nat.lt_or_ge k ke with y | y
          · exact y
          · obtain rfl : k = ke := by lia
            subst z
            exact absurd hmem hf
      dsimp only
      by_cases g : (hashAt i == h) = true
      · rw [if_pos g]
        exact .inr ⟨q, k, i, hk, .inr ⟨rfl, Nat.le_refl _⟩, hlt, rfl, e1, e2, beq_iff_eq.mp g, hB⟩
      · rw [if_neg g]
        have nb := hB.next (hG i _ e2 fun z => g (beq_iff_eq.mpr z))
        have r9 := rlen_le t.mask (run t.mask h q).1
        rcases Nat.lt_or_ge k (rlen t.mask (run t.mask h q).1) with z | z
        · rw [pst_in z]
          rcases ih q (k + 1) z (by lia) (by lia) (nb.1 z) with r | ⟨q1, k1, i1, r1, r2, r⟩
          · exact .inl r
          · exact .inr ⟨q1, k1, i1, r1, by lia, r⟩
        · rw [pst_out z]
          have hq : q < qe := by
            rcases hlt with y | ⟨y, y2⟩
            · exact y
            · subst y; lia
          rcases ih (q + 1) 0 (Nat.zero_le _) (by lia) (by lia) (nb.2 z) with r | ⟨q1, k1, i1, r1, r2, r⟩
          · exact .inl r
          · exact .inr ⟨q1, k1, i1, r1, by lia, r⟩
    · rw [e1]
      have heq : q = qe ∧ k = ke := by
        rcases ho with z | ⟨z, z2⟩
        · exact absurd (hb.1 q z k hk) e2
        · subst z
          rcases Nat.lt_or_ge k ke with y | y
          · exact absurd (hb.2 k y) e2
          · exact ⟨rfl, by lia⟩
      obtain ⟨rfl, rfl⟩ := heq
      exact .inl ⟨rfl, hB⟩
theorem insert_list {α : Type} (xs : Array α) (p : Nat) (x : α) : (insertAt xs p x).toList = xs.toList.take p ++ x :: xs.toList.drop p := by
  unfold insertAt
  simp
  exact List.take_of_length_le (by rw [List.length_drop, Array.length_toList]; lia)
theorem zip_insert {α β : Type} (as : List α) (bs : List β) (p : Nat) (a : α) (b : β) (h : as.length = bs.length) : (as.take p ++ a :: as.drop p).zip (bs.take p ++ b :: bs.drop p) = (as.zip bs).take p ++ (a, b) :: (as.zip bs).drop p := by
  rw [List.zip_append (by rw [List.length_take, List.length_take, h]), List.zip_cons_cons]
  congr 1
  · simp only [List.zip]; rw [List.take_zipWith]
  · congr 1
    simp only [List.zip]; rw [List.drop_zipWith]
theorem TOk.put {t : SetTable} {hs : List Int} (T : TOk t hs) {h : Int} {j : Nat} (hj : j ∉ t.place.toList) (hm : j ≤ t.mask) (hr : Rch t.mask h (· ∈ t.place.toList) j) (hn : hs.length + 1 ≤ t.mask) {b : Bool} :
    TOk { (t.put j).1 with plain := b } (hs.take (t.put j).2 ++ h :: hs.drop (t.put j).2) ∧ (t.put j).2 ≤ hs.length ∧ (t.put j).1.mask = t.mask := by
  obtain ⟨a1, a2, a3⟩ := below_spec T.rise j
  have hlen := T.len
  rw [Array.length_toList] at hlen
  have ep : (t.put j).1.place.toList = t.place.toList.take (below t.place j) ++ j :: t.place.toList.drop (below t.place j) := insert_list _ _ _
  have ed : (t.put j).1.dummies = #[] := by
    show (if has t.dummies j = true then _ else t.dummies) = _
    rw [T.dum]
    rfl
  have mem : ∀ x, x ∈ (t.put j).1.place.toList ↔ x ∈ t.place.toList ∨ x = j := fun x => by
    rw [ep, List.mem_append, List.mem_cons]
    constructor
    · rintro (z | z | z)
      · exact .inl (List.mem_of_mem_take z)
      · exact .inr z
      · exact .inl (List.mem_of_mem_drop z)
    · rintro (z | z)
      · rw [← List.take_append_drop (below t.place j) t.place.toList, List.mem_append] at z
        rcases z with z | z
        · exact .inl z
        · exact .inr (.inr z)
      · exact .inr (.inl z)
  refine ⟨⟨?_, ?_, ?_, ed, T.msk, ?_, ?_⟩, by show below t.place j ≤ _; lia, rfl⟩
  · show (t.put j).1.place.toList.length = _
    rw [ep]
    show _ = (hs.take (below t.place j) ++ h :: hs.drop (below t.place j)).length
    simp only [List.length_append, List.length_take, List.length_cons, List.length_drop, Array.length_toList]
    lia
  · show (t.put j).1.place.toList.Pairwise _
    rw [ep, List.pairwise_append]
    have hd := T.rise
    rw [← List.take_append_drop (below t.place j) t.place.toList, List.pairwise_append] at hd
    have lo : ∀ x ∈ t.place.toList.take (below t.place j), x < j := fun x hx => by
      obtain ⟨i, hi⟩ := List.getElem?_of_mem hx
      have hlt : i < below t.place j := by have := (List.getElem?_eq_some_iff.mp hi).1; rw [List.length_take] at this; lia
      rw [List.getElem?_take_of_lt hlt, Array.getElem?_toList] at hi
      exact a1 i x hlt hi
    have hi : ∀ x ∈ t.place.toList.drop (below t.place j), j < x := fun x hx => by
      obtain ⟨i, hi⟩ := List.getElem?_of_mem hx
      rw [List.getElem?_drop, Array.getElem?_toList] at hi
      have := a2 _ x (Nat.le_add_right _ _) hi
      have : x ≠ j := fun z => hj (z ▸ List.mem_of_mem_drop hx)
      lia
    refine ⟨hd.1, List.pairwise_cons.mpr ⟨hi, hd.2.1⟩, fun x hx y hy => ?_⟩
    rcases List.mem_cons.mp hy with z | z
    · subst z; exact lo x hx
    · exact hd.2.2 x hx y z
  · intro x hx
    rcases (mem x).mp hx with z | z
    · exact T.le x z
    · subst z; exact hm
  · show (hs.take (below t.place j) ++ h :: hs.drop (below t.place j)).length ≤ t.mask
    simp only [List.length_append, List.length_take, List.length_cons, List.length_drop]
    lia
  · show ∀ x ∈ (t.put j).1.place.toList.zip (hs.take (below t.place j) ++ h :: hs.drop (below t.place j)), Rch t.mask x.2 (· ∈ (t.put j).1.place.toList) x.1
    rw [ep, zip_insert _ _ _ _ _ T.len, ← ep]
    have up : ∀ j', j' ∈ t.place.toList → j' ∈ (t.put j).1.place.toList := fun j' hj' => (mem j').mpr (.inl hj')
    intro x hx
    rw [List.mem_append, List.mem_cons] at hx
    rcases hx with z | z | z
    · exact (T.rch x (List.mem_of_mem_take z)).mono up
    · subst z; exact hr.mono up
    · exact (T.rch x (List.mem_of_mem_drop z)).mono up
end StT
set_option Elab.async false
set_option linter.all false
set_option maxRecDepth 100000
set_option maxHeartbeats 1000000
namespace StT
open PySem PySem.SetTable
noncomputable def Own (ow : Array (Option Nat)) (j : Nat) : Prop := ∃ c, ow[j]? = some (some c)
structure Lay (mask : Nat) (ow : Array (Option Nat)) (dn : List Int) : Prop where
  sz : ow.size = mask + 1
  at' : ∀ j c : Nat, ow[j]? = some (some c) → ∃ h, dn[c]? = some h ∧ Rch mask h (Own ow) j
  all : ∀ c : Nat, c < dn.length → ∃ j : Nat, ow[j]? = some (some c)
  inj : ∀ j j' c : Nat, ow[j]? = some (some c) → ow[j']? = some (some c) → j = j'
theorem Lay.lt {mask : Nat} {ow : Array (Option Nat)} {dn : List Int} (L : Lay mask ow dn) {j c : Nat} (h : ow[j]? = some (some c)) : c < dn.length := by
  obtain ⟨h', e, _⟩ := L.at' j c h
  exact (List.getElem?_eq_some_iff.mp e).1
theorem Lay.free {mask : Nat} {ow : Array (Option Nat)} {dn : List Int} (L : Lay mask ow dn) (hn : dn.length ≤ mask) : ∃ e, e ≤ mask ∧ ¬ Own ow e := by
  refine Classical.byContradiction fun g => ?_
  have g : ∀ e, e ≤ mask → Own ow e := fun e he => Classical.byContradiction fun z => g ⟨e, he, z⟩
  have key : ((List.range (mask + 1)).map fun j => (ow.getD j none).getD 0).Nodup := by
    rw [List.Nodup, List.pairwise_map]
    refine List.Pairwise.imp_of_mem ?_ (List.nodup_range (n := mask + 1))
    intro a b ha hb hne e
    obtain ⟨c1, e1⟩ := g a (by have := List.mem_range.mp ha; lia)
    obtain ⟨c2, e2⟩ := g b (by have := List.mem_range.mp hb; lia)
    rw [Array.getD_eq_getD_getElem?, Array.getD_eq_getD_getElem?, e1, e2] at e
    have e : c1 = c2 := e
    subst e
    exact hne (L.inj _ _ _ e1 e2)
  have := nodup_le (m := List.range dn.length) key fun x hx => by
    obtain ⟨j, hj, rfl⟩ := List.mem_map.mp hx
    obtain ⟨c, e⟩ := g j (by have := List.mem_range.mp hj; lia)
    rw [Array.getD_eq_getD_getElem?, e]
    exact List.mem_range.mpr (L.lt e)
  rw [List.length_map, List.length_range, List.length_range] at this
  lia
theorem free_spec {mask : Nat} {h : Int} {ow : Array (Option Nat)} (hs : ow.size = mask + 1) {qe ke : Nat} (hke : ke ≤ rlen mask (run mask h qe).1) (hf : ¬ Own ow ((run mask h qe).1 + ke)) (hb : Bfr mask h (Own ow) qe ke) :
    ∀ (fuel q : Nat), q ≤ qe → qe - q < fuel → layClean.free mask ow fuel (run mask h q).1 (run mask h q).2 = some ((run mask h qe).1 + ke) := by
  have own : ∀ {i k : Nat}, i ≤ mask → k ≤ rlen mask i → ((ow.getD (i + k) (some 0)).isNone = true ↔ ¬ Own ow (i + k)) := fun {i k} hi hk => by
    have hlt : i + k < ow.size := by have := rlen_in hi hk; lia
    rw [Array.getD_eq_getD_getElem?, Array.getElem?_eq_getElem hlt]
    show (ow[i + k]).isNone = true ↔ _
    unfold Own
    rw [Array.getElem?_eq_getElem hlt]
    cases ow[i + k] <;> simp
  have hre : ∀ i, runEnd mask i + 1 - i = rlen mask i + 1 := fun i => by unfold rlen runEnd; split <;> lia
  intro fuel
  induction fuel with
  | zero => intro q _ h; lia
  | succ fuel ih =>
    intro q hq hfu
    rw [layClean.free, hre]
    rcases Nat.lt_or_ge q qe with z | z
    · have e : (List.range (rlen mask (run mask h q).1 + 1)).find? (fun k => (ow.getD ((run mask h q).1 + k) (some 0)).isNone) = none := by
        rw [List.find?_eq_none]
        intro k hk
        have hk : k ≤ rlen mask (run mask h q).1 := by have := List.mem_range.mp hk; lia
        rw [own (run_le mask h q) hk]
        exact fun n => n (hb.1 q z k hk)
      rw [e]
      exact ih (q + 1) z (by lia)
    · obtain rfl : q = qe := by lia
      have e : (List.range (rlen mask (run mask h q).1 + 1)).find? (fun k => (ow.getD ((run mask h q).1 + k) (some 0)).isNone) = some ke := by
        rw [List.find?_range_eq_some]
        refine ⟨(own (run_le mask h q) hke).mpr hf, List.mem_range.mpr (by lia), fun j hj => ?_⟩
        have : ¬ ((ow.getD ((run mask h q).1 + j) (some 0)).isNone = true) := by
          rw [own (run_le mask h q) (by lia)]
          exact fun n => n (hb.2 j hj)
        cases z : (ow.getD ((run mask h q).1 + j) (some 0)).isNone with
        | true => exact absurd z this
        | false => rfl
      rw [e]
noncomputable def stepL (mask : Nat) (acc : Option (Array (Option Nat) × Nat)) (h : Int) : Option (Array (Option Nat) × Nat) := do
    let (owner, k) ← acc
    let j ← layClean.free mask owner (turns mask) (bits h % (mask + 1)) (bits h)
    pure (owner.setIfInBounds j (some k), k + 1)
theorem Lay.step {mask kk : Nat} (hm : mask + 1 = 2 ^ kk) {ow : Array (Option Nat)} {dn : List Int} (L : Lay mask ow dn) (hn : dn.length ≤ mask) (h : Int) : ∃ ow', stepL mask (some (ow, dn.length)) h = some (ow', (dn ++ [h]).length) ∧ Lay mask ow' (dn ++ [h]) := by
  obtain ⟨e, he, hO⟩ := L.free hn
  obtain ⟨qe, ke, h1, h2, h3, h4⟩ := first_free hm h he hO
  have hf := free_spec (h := h) L.sz h2 h3 h4 (turns mask) 0 (Nat.zero_le _) (by unfold turns; lia)
  have hj : (run mask h qe).1 + ke < ow.size := by have := rlen_in (run_le mask h qe) h2; have := L.sz; lia
  generalize ej : (run mask h qe).1 + ke = j at hf h3 hj
  refine ⟨ow.setIfInBounds j (some dn.length), ?_, ?_⟩
  · unfold stepL
    simp only [Option.bind_eq_bind, Option.bind_some]
    have hf' : layClean.free mask ow (turns mask) (bits h % (mask + 1)) (bits h) = some j := hf
    rw [hf']
    simp
  have getS : (ow.setIfInBounds j (some dn.length))[j]? = some (some dn.length) := by
    rw [Array.getElem?_setIfInBounds_self, if_pos hj]
  have getN : ∀ i, i ≠ j → (ow.setIfInBounds j (some dn.length))[i]? = ow[i]? := fun i hi => Array.getElem?_setIfInBounds_ne (Ne.symm hi)
  have up : ∀ i, Own ow i → Own (ow.setIfInBounds j (some dn.length)) i := fun i ⟨c, hc⟩ => ⟨c, by rw [getN i fun z => h3 (z ▸ ⟨c, hc⟩)]; exact hc⟩
  refine ⟨by rw [Array.size_setIfInBounds]; exact L.sz, fun i c hc => ?_, fun c hc => ?_, fun i i' c hc hc' => ?_⟩
  · by_cases hi : i = j
    · subst hi
      rw [getS] at hc
      have hc : dn.length = c := by simpa using hc
      subst hc
      exact ⟨h, by simp, qe, ke, h2, ej, h4.mono up⟩
    · rw [getN i hi] at hc
      obtain ⟨h', e1, e2⟩ := L.at' i c hc
      exact ⟨h', by rw [List.getElem?_append_left (L.lt hc)]; exact e1, e2.mono up⟩
  · rw [List.length_append, List.length_singleton] at hc
    rcases Nat.lt_or_ge c dn.length with z | z
    · obtain ⟨i, hi⟩ := L.all c z
      exact ⟨i, by rw [getN i fun z => h3 (z ▸ ⟨c, hi⟩)]; exact hi⟩
    · obtain rfl : c = dn.length := by lia
      exact ⟨j, getS⟩
  · by_cases hi : i = j
    · by_cases hi' : i' = j
      · rw [hi, hi']
      · subst hi
        rw [getS] at hc
        rw [getN i' hi'] at hc'
        have hc : dn.length = c := by simpa using hc
        have := L.lt hc'
        lia
    · by_cases hi' : i' = j
      · subst hi'
        rw [getS] at hc'
        rw [getN i hi] at hc
        have hc' : dn.length = c := by simpa using hc'
        have := L.lt hc
        lia
      · rw [getN i hi] at hc
        rw [getN i' hi'] at hc'
        exact L.inj _ _ _ hc hc'
theorem Lay.fold {mask kk : Nat} (hm : mask + 1 = 2 ^ kk) : ∀ (hs : List Int) {ow : Array (Option Nat)} {dn : List Int}, Lay mask ow dn → dn.length + hs.length ≤ mask → ∃ ow', hs.foldl (stepL mask) (some (ow, dn.length)) = some (ow', (dn ++ hs).length) ∧ Lay mask ow' (dn ++ hs)
  | [], ow, dn, L, _ => ⟨ow, by simp, by simpa using L⟩
  | h :: hs, ow, dn, L, hn => by
    rw [List.length_cons] at hn
    obtain ⟨ow1, e1, L1⟩ := L.step hm (by lia) h
    obtain ⟨ow2, e2, L2⟩ := Lay.fold hm hs L1 (by rw [List.length_append, List.length_singleton]; lia)
    refine ⟨ow2, ?_, by simpa using L2⟩
    rw [List.foldl_cons, e1, e2]
    simp
theorem layClean_ok {mask kk : Nat} (hm : mask + 1 = 2 ^ kk) {hs : Array Int} (hn : hs.size ≤ mask) : ∃ ow, layClean mask hs = some ow ∧ Lay mask ow hs.toList := by
  have L0 : Lay mask (Array.replicate (mask + 1) none) [] := by
    refine ⟨by simp, fun j c hc => ?_, fun c hc => absurd hc (Nat.not_lt_zero _), fun j j' c hc => ?_⟩
    · rw [Array.getElem?_replicate] at hc
      split at hc <;> cases hc
    · rw [Array.getElem?_replicate] at hc
      split at hc <;> cases hc
  obtain ⟨ow, e, L⟩ := Lay.fold hm hs.toList L0 (by simpa using hn)
  refine ⟨ow, ?_, by simpa using L⟩
  unfold layClean
  rw [← Array.foldl_toList]
  show Option.map (·.1) (List.foldl (stepL mask) (some (Array.replicate (mask + 1) none, 0)) hs.toList) = some ow
  have e : hs.toList.foldl (stepL mask) (some (Array.replicate (mask + 1) none, 0)) = some (ow, ([] ++ hs.toList).length) := e
  rw [e]
  rfl
theorem laid_ok {mask kk : Nat} (hm : mask + 1 = 2 ^ kk) (h3 : 3 ≤ kk) (h13 : kk ≤ 13) {hs : Array Int} (hn : hs.size ≤ mask) (finger moves : Nat) (led plain : Bool) :
    ∃ t' order, laid mask finger moves led plain hs = some (t', order) ∧ order.toList.Perm (List.range hs.size) ∧ TOk t' (order.toList.map fun c => hs.toList.getD c 0) ∧ t'.mask = mask ∧ t'.led = led ∧ t'.plain = plain ∧ t'.finger = finger ∧ t'.moves = moves := by
  obtain ⟨ow, e, L⟩ := layClean_ok hm hn
  generalize hlv : ((List.range (mask + 1)).filterMap fun j => (ow.getD j none).map fun c => (j, c)) = live
  have hmem : ∀ j c, (j, c) ∈ live ↔ ow[j]? = some (some c) := fun j c => by
    rw [← hlv, List.mem_filterMap]
    constructor
    · rintro ⟨a, ha, e⟩
      obtain ⟨c', h1, h2⟩ := Option.map_eq_some_iff.mp e
      cases h2
      rw [Array.getD_eq_getD_getElem?] at h1
      cases z : ow[j]? with
      | none => rw [z] at h1; cases h1
      | some o => rw [z] at h1; have h1 : o = some c := h1; rw [h1]
    · intro hc
      refine ⟨j, List.mem_range.mpr ?_, ?_⟩
      · have := (Array.getElem?_eq_some_iff.mp hc).1
        rw [L.sz] at this
        exact this
      · rw [Array.getD_eq_getD_getElem?, hc]
        rfl
  have hlt : live.Pairwise fun x y => x.1 < y.1 := by
    rw [← hlv, List.pairwise_filterMap]
    refine (List.pairwise_lt_range (n := mask + 1)).imp fun {a b} hab x hx y hy => ?_
    obtain ⟨_, _, rfl⟩ := Option.map_eq_some_iff.mp hx
    obtain ⟨_, _, rfl⟩ := Option.map_eq_some_iff.mp hy
    exact hab
  have hnd : (live.map (·.2)).Nodup := by
    rw [List.Nodup, List.pairwise_map]
    refine List.Pairwise.imp_of_mem ?_ hlt
    rintro ⟨j, c⟩ ⟨j', c'⟩ h1 h2 h3 e
    have e : c = c' := e
    subst e
    have := L.inj _ _ _ ((hmem j c).mp h1) ((hmem j' c).mp h2)
    have h3 : j < j' := h3
    lia
  have hperm : (live.map (·.2)).Perm (List.range hs.size) := (List.perm_ext_iff_of_nodup hnd List.nodup_range).mpr fun c => by
    rw [List.mem_range, List.mem_map]
    constructor
    · rintro ⟨⟨j, c'⟩, h1, rfl⟩
      have := L.lt ((hmem j c').mp h1)
      rwa [Array.length_toList] at this
    · intro hc
      obtain ⟨j, hj⟩ := L.all c (by rw [Array.length_toList]; exact hc)
      exact ⟨(j, c), (hmem j c).mpr hj, rfl⟩
  refine ⟨{ mask, place := (live.map (·.1)).toArray, dummies := #[], finger, led, moves, plain }, (live.map (·.2)).toArray, ?_, by simpa using hperm, ⟨?_, ?_, ?_, rfl, ⟨kk, h3, h13, hm⟩, ?_, ?_⟩, rfl, rfl, rfl, rfl, rfl⟩
  · unfold laid
    rw [e]
    simp only [Option.bind_eq_bind, Option.bind_some]
    rw [hlv]
    rfl
  · simp
  · simpa [List.pairwise_map] using hlt
  · intro j hj
    simp only [List.mem_map] at hj
    obtain ⟨⟨j', c⟩, h1, rfl⟩ := hj
    have := (Array.getElem?_eq_some_iff.mp ((hmem j' c).mp h1)).1
    rw [L.sz] at this
    show j' ≤ mask
    lia
  · have := hperm.length_eq
    simp only [List.length_map, List.length_range] at this
    simp only [List.length_map]
    show live.length ≤ mask
    lia
  · show ∀ x ∈ (live.map (·.1)).zip ((live.map (·.2)).map fun c => hs.toList.getD c 0), Rch mask x.2 (· ∈ live.map (·.1)) x.1
    intro x hx
    rw [List.map_map, List.zip_map', List.mem_map] at hx
    obtain ⟨⟨j, c⟩, h1, rfl⟩ := hx
    obtain ⟨h', e1, r⟩ := L.at' j c ((hmem j c).mp h1)
    have eg : hs.toList.getD c 0 = h' := by rw [List.getD_eq_getElem?_getD, e1]; rfl
    show Rch mask (hs.toList.getD c 0) (· ∈ live.map (·.1)) j
    rw [eg]
    exact r.mono fun i ⟨c', hc'⟩ => List.mem_map.mpr ⟨(i, c'), (hmem i c').mpr hc', rfl⟩
noncomputable def Siz (m : Nat) : Prop := m = 7 ∨ m = 31 ∨ m = 127 ∨ m = 511 ∨ m = 2047 ∨ m = 8191
theorem siz_grow {m n : Nat} (h : Siz m) (h1 : n * 5 < m * 3) (h2 : (n + 1) * 5 ≥ m * 3) (h3 : n + 1 ≤ 4900) : ∃ kk, 3 ≤ kk ∧ kk ≤ 13 ∧ sizeAbove (grown (n + 1)) = 2 ^ kk ∧ Siz (2 ^ kk - 1) ∧ n + 1 ≤ 2 ^ kk - 1 ∧ (n + 1) * 5 < (2 ^ kk - 1) * 3 := by
  rcases h with rfl | rfl | rfl | rfl | rfl | rfl
  · obtain rfl : n = 4 := by lia
    exact ⟨5, by decide, by decide, by decide, by unfold Siz; decide, by decide, by decide⟩
  · obtain rfl : n = 18 := by lia
    exact ⟨7, by decide, by decide, by decide, by unfold Siz; decide, by decide, by decide⟩
  · obtain rfl : n = 76 := by lia
    exact ⟨9, by decide, by decide, by decide, by unfold Siz; decide, by decide, by decide⟩
  · obtain rfl : n = 306 := by lia
    exact ⟨11, by decide, by decide, by decide, by unfold Siz; decide, by decide, by decide⟩
  · obtain rfl : n = 1228 := by lia
    exact ⟨13, by decide, by decide, by decide, by unfold Siz; decide, by decide, by decide⟩
  · lia
theorem tok_fresh (finger moves : Nat) (led : Bool) : TOk (SetTable.fresh finger moves led) [] := ⟨rfl, .nil, (fun _ h => nomatch h), rfl, ⟨3, by decide, by decide, rfl⟩, Nat.zero_le _, (fun _ h => nomatch h)⟩
end StT
set_option Elab.async false
set_option linter.all false
set_option maxRecDepth 100000
set_option maxHeartbeats 4000000
namespace StT
open PySem PySem.SetTable PySem.Spec PyProof.Rows
noncomputable def hT (ks : List Int) : Int := reduceHash (Builtin.Tuple.tupleHashOf (ks.map hashInt))
noncomputable def ent (x : List Int × Addr) : Int × Value := (hT x.1, .ref x.2)
noncomputable def byT (w : World) : Bool := w.params.followText "set-order"
structure IsSet (w : World) (h : Heap) (S : Addr) (o : Obj) (es : Array (Int × Value)) (ep : Nat) (t : SetTable) (xs : List (List Int × Addr)) : Prop where
  ho : h.get? S = some o
  ex : o.ExactSet
  hd : o.data = .set es ep t
  he : es.toList = xs.map ent
  tok : TOk t (xs.map fun x => hT x.1)
  led : t.led = !byT w
  pl : t.plain = true
section
variable {prog : Program} {w : World} {A : Around} {E : Value → Shared → Prop} {s : Shared} {S a : Addr} {o : Obj} {es : Array (Int × Value)} {ep : Nat} {t : SetTable} {xs : List (List Int × Addr)} {k : List Int}
noncomputable abbrev TK (prog : Program) (w : World) : HeapKind prog w (List Int) := tupleKind (intKind prog w)
theorem IsSet.sz (I : IsSet w s.heap S o es ep t xs) : es.size = xs.length := by rw [← Array.length_toList, I.he, List.length_map]
theorem IsSet.fits (I : IsSet w s.heap S o es ep t xs) : t.fits es.size = true := I.tok.fits (by rw [I.sz, List.length_map])
theorem IsSet.at (I : IsSet w s.heap S o es ep t xs) (i : Nat) : es[i]? = xs[i]?.map ent := by rw [← Array.getElem?_toList, I.he, List.getElem?_map]
theorem items_int {items : List Value} (h : ItemsAre (intKind prog w) k items) : ∀ v ∈ items, ∃ i u, v = .int i u := by
  induction h with
  | nil => intro v hv; cases hv
  | cons h1 _ ih =>
    intro v hv
    rcases List.mem_cons.mp hv with rfl | hv
    · obtain ⟨u, rfl⟩ := Value.isInt_shape h1; exact ⟨_, _, rfl⟩
    · exact ih v hv
theorem ofAClass_tup {d : Nat} {Q : Bool → Shared → Prop} (hk : (TK prog w).is s.heap k a) (h : Q false s) : wpAny (model prog w) A (ofAClassStatement (d + 1) (.ref a)) Q E s := by
  obtain ⟨o', items, n, ho', hc, hd', hi⟩ := id hk
  unfold ofAClassStatement
  refine wpAny_bind (wpAny_typeOf (IsTupleKey.typeIs hk) ?_)
  dsimp only
  rw [if_pos (by decide)]
  refine wpAny_bind (wpAny_pure ?_)
  simp only [Bool.not_true, Bool.false_eq_true, if_false]
  refine wpAny_bind (wpAny_seqItems ho' hd' ?_)
  refine wpAny_bind ?_
  rw [← Array.forIn_toList]
  refine wpAny_forIn_list _ (fun rest r s' => r.1 = none ∧ s' = s ∧ ∀ v ∈ rest, ∃ i u, v = Value.int i u) _ ?_ ?_ _ _ ⟨rfl, rfl, items_int hi⟩
  · rintro v rest r s' ⟨hr, rfl, hall⟩
    obtain ⟨i, u, rfl⟩ := hall v List.mem_cons_self
    have e : ofAClassStatement d (.int i u) = pure false := by cases d <;> rfl
    rw [e]
    refine wpAny_bind (wpAny_pure ?_)
    simp only [Bool.false_eq_true, if_false]
    exact wpAny_pure ⟨rfl, rfl, fun u hu' => hall u (List.mem_cons_of_mem _ hu')⟩
  · rintro ⟨r1, r2⟩ s' ⟨hr, rfl, _⟩
    simp only at hr
    subst hr
    exact wpAny_pure h
theorem hashByVal_tup {d : Nat} {Q : Bool → Shared → Prop} (hk : (TK prog w).is s.heap k a) (h : Q true s) : wpAny (model prog w) A (hashByValue (d + 1) (.ref a)) Q E s := by
  obtain ⟨o', items, n, ho', hc, hd', hi⟩ := id hk
  unfold hashByValue
  refine wpAny_bind (wpAny_specialOf (IsTupleKey.typeIs hk) F.slot_tuple_hash.lookup ?_)
  show wpAny _ _ (seqItems? (.ref a) >>= _) _ _ s
  refine wpAny_bind (wpAny_seqItems ho' hd' ?_)
  refine wpAny_bind ?_
  show wpAny _ _ (forIn items _ _) _ _ s
  rw [← Array.forIn_toList]
  refine wpAny_forIn_list _ (fun rest r s' => r.1 = none ∧ s' = s ∧ ∀ v ∈ rest, ∃ i u, v = Value.int i u) _ ?_ ?_ _ _ ⟨rfl, rfl, items_int hi⟩
  · rintro v rest r s' ⟨hr, rfl, hall⟩
    obtain ⟨i, u, rfl⟩ := hall v List.mem_cons_self
    have e : hashByValue d (.int i u) = pure true := by cases d <;> rfl
    rw [e]
    refine wpAny_bind (wpAny_pure ?_)
    simp only [Bool.not_true, Bool.false_eq_true, if_false]
    exact wpAny_pure ⟨rfl, rfl, fun u hu' => hall u (List.mem_cons_of_mem _ hu')⟩
  · rintro ⟨r1, r2⟩ s' ⟨hr, rfl, _⟩
    simp only at hr
    subst hr
    exact wpAny_pure h
theorem seen_tup {vs : List Value} {Q : Bool → Shared → Prop} (hk : (TK prog w).is s.heap k a) (hv : ∀ v ∈ vs, ∃ k' b, v = .ref b ∧ (TK prog w).is s.heap k' b) (h : Q false s) : wpAny (model prog w) A (searchCouldBeSeen (.ref a) vs) Q E s := by
  unfold searchCouldBeSeen
  refine wpAny_bind ?_
  refine wpAny_forIn_list _ (fun rest r s' => r.1 = none ∧ s' = s ∧ ∀ v ∈ rest, ∃ k' b, v = .ref b ∧ (TK prog w).is s.heap k' b) _ ?_ ?_ _ _ ⟨rfl, rfl, hv⟩
  · rintro v rest r s' ⟨hr, rfl, hall⟩
    obtain ⟨k', b, rfl, hb⟩ := hall v List.mem_cons_self
    have fin : ∀ v ∈ rest, ∃ k' b, v = .ref b ∧ (TK prog w).is s'.heap k' b := fun u hu' => hall u (List.mem_cons_of_mem _ hu')
    dsimp only
    by_cases g : (a == b || (carriedByValue (.ref a) && carriedByValue (.ref b))) = true
    · rw [if_pos g]
      exact wpAny_pure ⟨rfl, rfl, fin⟩
    · rw [if_neg g]
      refine wpAny_bind ((TK prog w).quiet hk ?_)
      simp only [Bool.not_true, Bool.false_eq_true, if_false]
      refine wpAny_bind ((TK prog w).quiet hb ?_)
      simp only [Bool.not_true, Bool.false_eq_true, if_false]
      refine wpAny_bind (ofAClass_tup hk ?_)
      simp only [Bool.false_eq_true, if_false]
      refine wpAny_bind (ofAClass_tup hb ?_)
      simp only [Bool.false_eq_true, if_false]
      exact wpAny_pure ⟨rfl, rfl, fin⟩
  · rintro ⟨r1, r2⟩ s' ⟨hr, rfl, _⟩
    simp only at hr
    subst hr
    exact wpAny_pure h
theorem search_ok {adding : Bool} (hu : A.units < cLine) (I : IsSet w s.heap S o es ep t xs) (his : ∀ x ∈ xs, (TK prog w).is s.heap x.1 x.2) (hk : (TK prog w).is s.heap k a) {Q : SetFound → Shared → Prop}
    (h1 : ∀ (i : Nat) (b : Addr), xs[i]? = some (k, b) → Q (.there (if adding then none else some i)) s)
    (h2 : k ∉ xs.map (·.1) → ∀ j, j ∉ t.place.toList → j ≤ t.mask → Rch t.mask (hT k) (· ∈ t.place.toList) j → Q (.free j false) s) :
    wpAny (model prog w) A (setSearch S (.ref a) (hT k) adding) Q E s := by
  obtain ⟨e0, f1, f2⟩ := I.tok.free
  obtain ⟨kk, m1, m2, m3⟩ := I.tok.msk
  obtain ⟨qe, ke, g1, g2, g3, g4⟩ := first_free (O := (· ∈ t.place.toList)) m3 (hT k) f1 f2
  have hm := I.tok.turns
  have hG : ∀ i j : Nat, t.place[i]? = some j → ((es[i]?.map (·.1)).getD 0) ≠ hT k → (∀ i : Nat, t.place[i]? = some j → ∀ x, xs[i]? = some x → x.1 ≠ k) := fun i j hj hne i' hj' x hx e => by
    have : i' = i := by rw [← below_at I.tok.rise hj', ← below_at I.tok.rise hj]
    subst this
    rw [I.at, hx] at hne
    exact hne (by rw [← e]; rfl)
  have main : ∀ (fuel q c : Nat) (st : Option Probe), (st = some (pst t.mask (hT k) q c) ∨ (st = none ∧ q = 0 ∧ c = 0)) → c ≤ rlen t.mask (run t.mask (hT k) q).1 → (q < qe ∨ (q = qe ∧ c ≤ ke)) → 10 * (qe - q) + 10 - c ≤ fuel →
      Bfr t.mask (hT k) (fun j => ∀ i : Nat, t.place[i]? = some j → ∀ x, xs[i]? = some x → x.1 ≠ k) q c → wpAny (model prog w) A (setSearchFrom S (.ref a) (hT k) adding fuel st) Q E s := by
    intro fuel
    induction fuel with
    | zero => intro q c st _ hc ho hf; have := rlen_le t.mask (run t.mask (hT k) q).1; lia
    | succ fuel ih =>
      intro q c st hst hc ho hf hB
      unfold setSearchFrom
      refine wpAny_bind (wpAny_setState_of I.ho I.hd I.fits ?_)
      dsimp only
      rw [I.tok.odd]
      simp only [Bool.false_eq_true, if_false]
      have est : st.getD (t.probeStart (hT k)) = pst t.mask (hT k) q c := by
        rcases hst with rfl | ⟨rfl, rfl, rfl⟩
        · rfl
        · exact pst_start t (hT k)
      rw [est]
      have pr := probe_spec (hashAt := fun i => (es[i]?.map (·.1)).getD 0) I.tok.rise I.tok.dum hG g2 g3 g4 (10 * turns t.mask) q c hc ho (by unfold turns; lia) hB
      generalize hmet : t.probe _ (hT k) (pst t.mask (hT k) q c) = met
      have hmet' : probe.go t (fun i => (es[i]?.map (·.1)).getD 0) (hT k) (10 * turns t.mask) (pst t.mask (hT k) q c) = met := hmet
      rw [hmet'] at pr
      rcases pr with ⟨em, bG⟩ | ⟨q1, c1, i, d1, d2, d3, em, d5, d6, d7, bG⟩
      · subst em
        dsimp only
        refine wpAny_pure (h2 (fun hmem => ?_) _ g3 (rlen_in (run_le _ _ _) g2) ⟨qe, ke, g2, rfl, g4⟩)
        obtain ⟨x, hx, hxk⟩ := List.mem_map.mp hmem
        obtain ⟨i, hi⟩ := List.getElem?_of_mem hx
        have hil := (List.getElem?_eq_some_iff.mp hi).1
        have hlen := I.tok.len
        rw [List.length_map, Array.length_toList] at hlen
        have ej : t.place[i]? = some t.place[i] := Array.getElem?_eq_getElem (by omega)
        have hz : (t.place[i], hT x.1) ∈ t.place.toList.zip (xs.map fun x => hT x.1) := by
          refine List.mem_of_getElem? (i := i) ?_
          rw [List.getElem?_zip_eq_some]
          exact ⟨by rw [Array.getElem?_toList]; exact ej, by rw [List.getElem?_map, hi]; rfl⟩
        obtain ⟨q', c', r1, r2, r3⟩ := I.tok.rch _ hz
        rw [hxk] at r1 r2 r3
        have r2 : (run t.mask (hT k) q').1 + c' = t.place[i] := r2
        have hin : t.place[i] ∈ t.place.toList := by rw [← Array.getElem?_toList] at ej; exact List.mem_of_getElem? ej
        have ah := ahead (O := (· ∈ t.place.toList)) g2 g3 r3 (by show _ ∈ _; rw [r2]; exact hin)
        have bad : ∀ i : Nat, t.place[i]? = some ((run t.mask (hT k) q').1 + c') → ∀ x, xs[i]? = some x → x.1 ≠ k := by
          rcases ah with z | ⟨z, z2⟩
          · exact bG.1 q' z c' r1
          · subst z; exact bG.2 c' z2
        exact bad i (by rw [r2]; exact ej) x hi hxk
      · subst em
        dsimp only
        have hil : i < xs.length := by
          have := (Array.getElem?_eq_some_iff.mp d6).1
          have hlen := I.tok.len
          rw [List.length_map, Array.length_toList] at hlen
          lia
        obtain ⟨y, hy⟩ : ∃ y, xs[i]? = some y := ⟨xs[i], List.getElem?_eq_getElem hil⟩
        have hes : es[i]? = some (hT y.1, .ref y.2) := by rw [I.at, hy]; rfl
        have hyk := his y (List.mem_of_getElem? hy)
        have step : wpAny (model prog w) A (setSearchFrom S (.ref a) (hT k) adding fuel (some (t.advance (pst t.mask (hT k) q1 c1)))) Q E s ∨ y.1 = k := by
          by_cases e : y.1 = k
          · exact .inr e
          · refine .inl ?_
            have nb := bG.next (fun i' hi' x hx => by
              have : i' = i := by rw [← below_at I.tok.rise hi', ← below_at I.tok.rise d6]
              subst this
              rw [hy] at hx
              cases hx
              exact e)
            have r9 := rlen_le t.mask (run t.mask (hT k) q1).1
            have r9q := rlen_le t.mask (run t.mask (hT k) q).1
            rcases Nat.lt_or_ge c1 (rlen t.mask (run t.mask (hT k) q1).1) with z | z
            · rw [pst_in z]
              exact ih q1 (c1 + 1) _ (.inl rfl) z (by lia) (by lia) (nb.1 z)
            · rw [pst_out z]
              have hq : q1 < qe := by
                rcases d3 with y' | ⟨y', y2⟩
                · exact y'
                · subst y'; lia
              exact ih (q1 + 1) 0 _ (.inl rfl) (Nat.zero_le _) (by lia) (by lia) (nb.2 z)
        have rest : wpAny (model prog w) A (do
            let some (_, y) := es[i]? | unsupported "internal:set-entry"
            let equal ← holding [y] (eqBool y (.ref a))
            let (es', _, t') ← setState S
            if adding && equal then return SetFound.there none
            let some sm := t'.sameMemory t.moves t.mask | unsupported "set.changed-during-lookup:is-the-new-block-at-the-old-address"
            let still ← match (if sm then t'.slot ((run t.mask (hT k) q1).1 + c1) else .empty) with
              | .live i' => match es'[i']? with
                | some (_, y') => do pure (if ← isSame y' y then some i' else none)
                | none => pure none
              | _ => pure none
            match still with
            | none => rule "set.search.anew"; setSearchFrom S (.ref a) (hT k) adding fuel none
            | some i' => if equal then return .there (some i') else setSearchFrom S (.ref a) (hT k) adding fuel (some (t.advance (pst t.mask (hT k) q1 c1)))) Q E s := by
          rw [hes]
          dsimp only
          refine wpAny_bind (wpAny_holding ((TK prog w).eqBool hu hyk hk ?_))
          refine wpAny_bind (wpAny_setState_of I.ho I.hd I.fits ?_)
          dsimp only
          by_cases e : y.1 = k
          · rw [decide_eq_true e]
            have hyi : xs[i]? = some (k, y.2) := by rw [hy, ← e]
            cases adding with
            | true =>
              simp only [Bool.and_self, if_true]
              exact wpAny_pure (by have := h1 i y.2 hyi; simpa using this)
            | false =>
              simp only [Bool.false_and, Bool.false_eq_true, if_false]
              have esm : t.sameMemory t.moves t.mask = some true := by unfold SetTable.sameMemory; simp
              rw [esm]
              dsimp only
              rw [if_pos rfl, d5]
              dsimp only
              rw [hes]
              dsimp only
              refine wpAny_bind (wpAny_isSame_ref_self (wpAny_bind (wpAny_pure ?_)))
              simp only [if_true]
              exact wpAny_pure (by have := h1 i y.2 hyi; simpa using this)
          · rw [decide_eq_false e, Bool.and_false]
            simp only [Bool.false_eq_true, if_false]
            have esm : t.sameMemory t.moves t.mask = some true := by unfold SetTable.sameMemory; simp
            rw [esm]
            dsimp only
            rw [if_pos rfl, d5]
            dsimp only
            rw [hes]
            dsimp only
            refine wpAny_bind (wpAny_isSame_ref_self (wpAny_bind (wpAny_pure ?_)))
            simp only [if_true]
            exact step.resolve_right e
        by_cases hl : t.led = true
        · rw [hl]
          simp only [Bool.not_true, Bool.false_eq_true, if_false]
          exact rest
        · have hl : t.led = false := by simpa using hl
          rw [hl]
          simp only [Bool.not_false, if_true]
          refine wpAny_bind (seen_tup hk (fun v hv => ?_) ?_)
          · obtain ⟨e, he, rfl⟩ := List.mem_map.mp hv
            have he : e ∈ es := by
              have := Array.mem_toList_iff.mp he
              exact (Array.mem_filter.mp this).1
            have := Array.mem_toList_iff.mpr he
            rw [I.he] at this
            obtain ⟨x, hx, rfl⟩ := List.mem_map.mp this
            exact ⟨x.1, x.2, rfl, his x hx⟩
          · simp only [Bool.false_eq_true, if_false]
            exact rest
  exact main 100000 0 0 none (.inr ⟨rfl, rfl, rfl⟩) (Nat.zero_le _) (by lia) (by lia) ⟨fun q' h => absurd h (Nat.not_lt_zero _), fun q' h => absurd h (Nat.not_lt_zero _)⟩
end
end StT
set_option Elab.async false
set_option linter.all false
set_option maxRecDepth 100000
set_option maxHeartbeats 4000000
namespace StT
open PySem PySem.SetTable PySem.Spec PyProof.Rows
theorem wp_is {α : Type} {M : Model} {A : Around} {x y : Sem α} {Q : α → Shared → Prop} {E : Value → Shared → Prop} {s : Shared} (h : x = y) (k : wpAny M A y Q E s) : wpAny M A x Q E s := h ▸ k
theorem wp_no {α : Type} {M : Model} {A : Around} {c : Prop} [Decidable c] {x y : Sem α} {Q : α → Shared → Prop} {E : Value → Shared → Prop} {s : Shared} (h : ¬ c) (k : wpAny M A y Q E s) : wpAny M A (if c then x else y) Q E s := by
  rw [if_neg h]
  exact k
theorem range_get {α : Type} (xs : List α) : ∀ n, (List.range n).filterMap (xs[·]?) = xs.take n
  | 0 => rfl
  | n + 1 => by
    rw [List.range_succ, List.filterMap_append, range_get xs n, List.take_add_one]
    congr 1
theorem order_perm {α : Type} {xs : List α} {order : List Nat} {n : Nat} (h : order.Perm (List.range n)) (hn : n = xs.length) : (order.filterMap (xs[·]?)).Perm xs := by
  have := h.filterMap (xs[·]?)
  rw [range_get, hn, List.take_length] at this
  exact this
theorem order_map {α β : Type} {xs : List α} {f : α → β} {b : β} : ∀ {order : List Nat}, (∀ c ∈ order, c < xs.length) → (order.filterMap (xs[·]?)).map f = order.map fun c => (xs.map f).getD c b
  | [], _ => rfl
  | c :: r, h => by
    have hc := h c List.mem_cons_self
    have e : xs[c]? = some xs[c] := List.getElem?_eq_getElem hc
    rw [List.filterMap_cons, e]
    dsimp only
    rw [List.map_cons, List.map_cons, order_map fun d hd => h d (List.mem_cons_of_mem _ hd)]
    congr 1
    rw [List.getD_eq_getElem?_getD, List.getElem?_map, e]
    rfl
section
variable {prog : Program} {w : World} {A : Around} {E : Value → Shared → Prop} {s : Shared} {S a : Addr} {o : Obj} {es : Array (Int × Value)} {ep : Nat} {t : SetTable} {xs : List (List Int × Addr)} {k : List Int}
theorem IsSet.store (I : IsSet w s.heap S o es ep t xs) {es' : Array (Int × Value)} {t' : SetTable} {xs' : List (List Int × Addr)} (he : es'.toList = xs'.map ent) (T : TOk t' (xs'.map fun x => hT x.1)) (hl : t'.led = t.led) (hp : t'.plain = t.plain) :
    IsSet w (s.heap.update S (Obj.putSet es' t')) S { o with data := .set es' (ep + 1) t' } es' (ep + 1) t' xs' := by
  have hg : (s.heap.update S (Obj.putSet es' t')).get? S = some { o with data := .set es' (ep + 1) t' } := by
    have := Heap.get?_update_self (Obj.putSet es' t') I.ho (by rw [putSet_of es' t' I.hd]; rfl)
    rw [putSet_of es' t' I.hd] at this
    exact this
  exact ⟨hg, I.ex, rfl, he, T, by rw [hl]; exact I.led, by rw [hp]; exact I.pl⟩
theorem relay_ok {wanted : Nat} (I : IsSet w s.heap S o es ep t xs) {kk : Nat} (h3 : 3 ≤ kk) (h13 : kk ≤ 13) (hw : sizeAbove wanted = 2 ^ kk) (hn : xs.length ≤ 2 ^ kk - 1) (hz : xs.length ≤ 100000) {Q : Unit → Shared → Prop}
    (q : ∀ h' o' es' ep' t' xs', Heap.SameBut S s.heap h' → IsSet w h' S o' es' ep' t' xs' → xs'.Perm xs → t'.mask = 2 ^ kk - 1 → Q () { s with heap := h' }) : wpAny (model prog w) A (setRelay S wanted) Q E s := by
  have hp2 : 2 ^ kk ≤ 2 ^ 13 := Nat.pow_le_pow_right (by decide) h13
  have hpos : 0 < 2 ^ kk := Nat.pow_pos (by decide)
  have hes : (es.map (·.1)).toList = xs.map fun x => hT x.1 := by rw [Array.toList_map, I.he, List.map_map]; rfl
  have hsz : (es.map (·.1)).size = xs.length := by rw [Array.size_map, I.sz]
  obtain ⟨t', order, e, hperm, T, hm, hl, hpl, _, _⟩ := laid_ok (mask := 2 ^ kk - 1) (kk := kk) (by lia) h3 h13 (hs := es.map (·.1)) (by rw [hsz]; exact hn) t.finger (t.movedTo (2 ^ kk - 1)) t.led t.plain
  have hrel : t.relaid (es.map (·.1)) wanted = some (t', order) := by unfold SetTable.relaid; rw [hw]; exact e
  have hlt : ∀ c ∈ order.toList, c < xs.length := fun c hc => by have := List.mem_range.mp (hperm.mem_iff.mp hc); rw [hsz] at this; exact this
  unfold setRelay
  refine wpAny_bind (wpAny_setState_of I.ho I.hd I.fits ?_)
  dsimp only
  rw [if_neg (by rw [hw, sizeLine_eq]; lia), hrel]
  have el : (order.filterMap (es[·]?)).toList = (order.toList.filterMap (xs[·]?)).map ent := by
    rw [Array.toList_filterMap, List.map_filterMap]
    have e : (fun c : Nat => es[c]?) = fun c => xs[c]?.map ent := funext I.at
    rw [e]
  have esz : (order.filterMap (es[·]?)).size = es.size := by
    rw [← Array.length_toList, el, List.length_map, (order_perm hperm hsz).length_eq, I.sz]
  refine wpAny_bind (wp_is (y := pure (order.filterMap (es[·]?), t')) ?er (wpAny_pure ?_))
  case er =>
    show (if ((order.filterMap (es[·]?)).size != es.size) = true then _ else _) = _
    rw [esz]
    simp
  dsimp only
  have T2 : TOk t' ((order.toList.filterMap (xs[·]?)).map fun x => hT x.1) := by
    rw [order_map (f := fun x : List Int × Addr => hT x.1) (b := 0) hlt, ← hes]
    exact T
  refine wpAny_storeSet_of I.ho I.hd (q _ _ _ _ _ _ (Heap.SameBut.update ..) (I.store el T2 hl hpl) (order_perm hperm hsz) hm) ?_
  rw [esz, I.sz, sizeLine_eq]
  lia
theorem add_ok (hu : A.units < cLine) (I : IsSet w s.heap S o es ep t xs) (hsiz : Siz t.mask) (hrm : xs.length * 5 < t.mask * 3) (hcap : xs.length + 1 ≤ 4900) (his : ∀ x ∈ xs, (TK prog w).is s.heap x.1 x.2) (hk : (TK prog w).is s.heap k a) {Q : Bool → Shared → Prop}
    (h1 : k ∈ xs.map (·.1) → Q false s)
    (h2 : k ∉ xs.map (·.1) → ∀ h' o' es' ep' t' xs', Heap.SameBut S s.heap h' → IsSet w h' S o' es' ep' t' xs' → xs'.Perm (xs ++ [(k, a)]) → Siz t'.mask → xs'.length * 5 < t'.mask * 3 → Q true { s with heap := h' }) :
    wpAny (model prog w) A (setAddHashed S (.ref a) (hT k)) Q E s := by
  unfold setAddHashed
  refine wpAny_holding ?_
  rw [show (100000 : Nat) = 99999 + 1 from rfl, setAddHashedIn]
  refine wpAny_bind (wpAny_setState_of I.ho I.hd I.fits ?_)
  dsimp only
  have hbs : byScan (.ref a) es = false := rfl
  rw [hbs]
  simp only [Bool.false_eq_true, if_false]
  refine wpAny_bind (search_ok (adding := true) hu I his hk (fun i b hi => ?_) fun hn j hj hjm hr => ?_)
  · exact wpAny_pure (h1 (List.mem_map.mpr ⟨_, List.mem_of_getElem? hi, rfl⟩))
  dsimp only
  refine wpAny_bind (wpAny_setState_of I.ho I.hd I.fits ?_)
  dsimp only
  have hmk : 7 ≤ t.mask := by unfold Siz at hsiz; lia
  obtain ⟨T, hp, hm⟩ := I.tok.put (h := hT k) (b := (t.put j).1.plain) hj hjm hr (by rw [List.length_map]; lia)
  rw [List.length_map] at hp
  have T : TOk (t.put j).1 (((xs.take (t.put j).2 ++ (k, a) :: xs.drop (t.put j).2)).map fun x => hT x.1) := by
    rw [List.map_append, List.map_cons, List.map_take, List.map_drop]
    exact T
  have el : (insertAt es (t.put j).2 (hT k, Value.ref a)).toList = (xs.take (t.put j).2 ++ (k, a) :: xs.drop (t.put j).2).map ent := by
    rw [insert_list, I.he, List.map_append, List.map_cons, List.map_take, List.map_drop]
    rfl
  have hperm : (xs.take (t.put j).2 ++ (k, a) :: xs.drop (t.put j).2).Perm (xs ++ [(k, a)]) := by
    refine List.perm_middle.trans ?_
    rw [List.take_append_drop]
    exact (List.perm_append_singleton (k, a) xs).symm
  have hlen : (xs.take (t.put j).2 ++ (k, a) :: xs.drop (t.put j).2).length = xs.length + 1 := by rw [hperm.length_eq, List.length_append, List.length_singleton]
  generalize hxs1 : xs.take (t.put j).2 ++ (k, a) :: xs.drop (t.put j).2 = xs1 at T el hperm hlen
  have hpl : (t.put j).1.plain = true := I.pl
  rw [hpl]
  simp only [if_true]
  refine wpAny_bind (hashByVal_tup hk ?_)
  simp only [if_true]
  have I1 := I.store el T rfl rfl
  have sz1 : (insertAt es (t.put j).2 (hT k, Value.ref a)).size = xs.length + 1 := by rw [← Array.length_toList, el, List.length_map, hlen]
  refine wpAny_bind (wpAny_storeSet_of I.ho I.hd ?_ (by rw [sz1, sizeLine_eq]; lia))
  have hfill : (t.put j).1.fill = xs.length + 1 := by
    unfold SetTable.fill
    rw [T.dum]
    have := T.len
    rw [Array.length_toList, List.length_map, hlen] at this
    simpa using this
  by_cases hf : (t.put j).1.tooFull = true
  · have hf' : (xs.length + 1) * 5 ≥ t.mask * 3 := by
      unfold SetTable.tooFull at hf
      rw [hfill, hm] at hf
      exact of_decide_eq_true hf
    obtain ⟨kk, g1, g2, g3, g4, g5, g6⟩ := siz_grow hsiz hrm hf' hcap
    rw [hf]
    simp only [Bool.not_false, Bool.and_self, if_true]
    rw [I.sz]
    refine wpAny_bind (relay_ok (s := { s with heap := s.heap.update S (Obj.putSet (insertAt es (t.put j).2 (hT k, Value.ref a)) (t.put j).1) }) I1 g1 g2 g3 (by rw [hlen]; exact g5) (by lia) fun h' o' es' ep' t' xs' hsb I2 hp2 hm2 => ?_)
    refine wpAny_pure (h2 hn h' o' es' ep' t' xs' ((Heap.SameBut.update ..).trans hsb) I2 (hp2.trans hperm) (by rw [hm2]; exact g4) ?_)
    rw [hp2.length_eq, hlen, hm2]
    exact g6
  · have hf0 : (t.put j).1.tooFull = false := by simpa using hf
    rw [hf0]
    simp only [Bool.not_false, Bool.and_false, Bool.false_eq_true, if_false]
    refine wpAny_pure (h2 hn _ _ _ _ _ xs1 (Heap.SameBut.update ..) I1 hperm (by rw [hm]; exact hsiz) ?_)
    unfold SetTable.tooFull at hf0
    rw [hfill, hm] at hf0
    have := of_decide_eq_false hf0
    rw [hlen, hm]
    lia
end
end StT
set_option Elab.async false
set_option linter.all false
set_option maxRecDepth 100000
set_option maxHeartbeats 4000000
namespace StT
open PySem PySem.SetTable PySem.Spec PyProof.Rows
noncomputable def SetUp (w : World) (h : Heap) (S : Addr) (ys : List (List Int × Addr)) (i : Nat) : Prop := ∃ o es ep t xs, IsSet w h S o es ep t xs ∧ Siz t.mask ∧ xs.length * 5 < t.mask * 3 ∧ (∀ k, k ∈ xs.map (·.1) ↔ k ∈ (ys.take i).map (·.1)) ∧ (∀ x ∈ xs, x ∈ ys) ∧ xs.length ≤ i ∧ (xs.map (·.1)).Nodup
theorem SetUp.to {w : World} {h h' : Heap} {S : Addr} {ys : List (List Int × Addr)} {i : Nat} (x : SetUp w h S ys i) (e : ∀ o, h.get? S = some o → h'.get? S = some o) : SetUp w h' S ys i :=
  let ⟨o, es, ep, t, xs, I, r⟩ := x; ⟨o, es, ep, t, xs, ⟨e _ I.ho, I.ex, I.hd, I.he, I.tok, I.led, I.pl⟩, r⟩
theorem tk_to {prog : Program} {w : World} {h h' : Heap} {k : List Int} {a : Addr} (x : (TK prog w).is h k a) (e : ∀ o, h.get? a = some o → h'.get? a = some o) : (TK prog w).is h' k a := by
  obtain ⟨o, items, n, ho, hc, hd, hi⟩ := x
  exact ⟨o, items, n, e _ ho, hc, hd, hi⟩
theorem tk_ne {prog : Program} {w : World} {h : Heap} {k : List Int} {a S : Addr} {ys : List (List Int × Addr)} {i : Nat} (x : (TK prog w).is h k a) (y : SetUp w h S ys i) : a ≠ S := fun z => by
  subst z
  obtain ⟨o, items, n, ho, hc, hd, hi⟩ := x
  obtain ⟨o', es, ep, t, xs, I, _⟩ := y
  have e := I.hd
  obtain rfl := Option.some.inj (show some o = some o' from ho.symm.trans I.ho)
  rw [hd] at e
  cases e
section
variable {prog : Program} {w : World} {A : Around} {R : Result → Shared → Prop} {I : Addr} {fp wr : List Addr} {G : Array GenState → Array GenState → Prop} {P : Nat → Value → Prop} {St : Nat → Shared → Prop}
theorem set_loop {ys : List (List Int × Addr)} (W : WalksS prog w A.in1 I fp wr G ys.length P St) (S : Addr) (hSf : S ∉ fp) (hu : A.in1.units < cLine) (hcap : ys.length ≤ 4900) (hP : ∀ i v, P i v → ∃ y, ys[i]? = some y ∧ v = .ref y.2) (hyw : ∀ y ∈ ys, y.2 ∉ wr) :
    ∀ (k i : Nat) (s : Shared), ys.length - i = k → i ≤ ys.length → St i s → SetUp w s.heap S ys i → (∀ y ∈ ys, (TK prog w).is s.heap y.1 y.2) →
      (∀ s', Moved (S :: wr) G s s' → SetUp w s'.heap S ys ys.length → R (.ok (.ret .none)) s') →
      codeAny (model prog w) A (.builtin "set.update.loop" ⟨[.ref S, .ref I], []⟩) R s := by
  have hSw : S ∉ wr := fun h => hSf (W.sub _ h)
  have hsub : ∀ b ∈ wr, b ∈ S :: wr := fun b hb => List.mem_cons_of_mem _ hb
  intro k
  induction k with
  | zero =>
    intro i s hk hi hst hS hys hR
    obtain rfl : i = ys.length := by lia
    refine codeAny_builtin PyProof.Rows.F.entry_set_update_loop ?_
    rw [Around.under_plainId PyProof.Rows.F.plain_set_update_loop _]
    show wpAny _ A.in1 (pyNext (.ref I) >>= _) _ _ s
    refine wpAny_bind (W.done s _ _ hst fun s' hm => ?_)
    show wpAny _ A.in1 (ret Value.none) _ _ s'
    exact wpAny_pure (hR s' (hm.mono hsub) (hS.to fun o e => hm.heap S _ hSw e))
  | succ k ih =>
    intro i s hk hi hst hS hys hR
    have hlt : i < ys.length := by lia
    refine codeAny_builtin PyProof.Rows.F.entry_set_update_loop ?_
    rw [Around.under_plainId PyProof.Rows.F.plain_set_update_loop _]
    show wpAny _ A.in1 (pyNext (.ref I) >>= _) _ _ s
    refine wpAny_bind (W.item i s _ _ hlt hst fun v s' hPv hst' hm => ?_)
    obtain ⟨y, hy, rfl⟩ := hP i v hPv
    have hS' : SetUp w s'.heap S ys i := hS.to fun o e => hm.heap S _ hSw e
    have hys' : ∀ y ∈ ys, (TK prog w).is s'.heap y.1 y.2 := fun y hy => tk_to (hys y hy) fun o e => hm.heap _ _ (hyw y hy) e
    have hym := List.mem_of_getElem? hy
    show wpAny _ A.in1 (holding [Value.ref y.2] (setAdd S (.ref y.2)) >>= _) _ _ s'
    refine wpAny_bind (wpAny_holding ?_)
    unfold setAdd
    refine wpAny_holding ?_
    refine wpAny_bind ((TK prog w).pyHash hu (hys' y hym) ?_)
    obtain ⟨o, es, ep, t, xs, J, j1, j2, j3, j4, j5, j6⟩ := id hS'
    have tkeep : ∀ k, k ∈ (ys.take (i + 1)).map (·.1) ↔ k ∈ (ys.take i).map (·.1) ∨ k = y.1 := fun k => by
      rw [List.take_add_one, hy, List.map_append, List.mem_append]
      simp
    have fin : ∀ (h' : Heap), (∀ b o, b ≠ S → s'.heap.get? b = some o → h'.get? b = some o) → SetUp w h' S ys (i + 1) →
        codeAny (model prog w) A (.builtin "set.update.loop" ⟨[.ref S, .ref I], []⟩) R { s' with heap := h', toks := s'.toks + (TK prog w).draws y.1 } := fun h' hk' hS2 => by
      refine ih (i + 1) _ (by lia) hlt (W.frame _ s' _ _ hst' (Nat.le_add_right _ _) fun b hb o e => hk' b o (fun z => hSf (z ▸ hb)) e) hS2 (fun y hy => tk_to (hys' y hy) fun o e => hk' _ o (tk_ne (hys' y hy) hS') e) fun s'' hm'' hS'' => ?_
      refine hR s'' (Moved.trans W.gtrans ((hm.mono hsub).then_heap (Nat.le_add_right _ _) fun b o hb e => hk' b o (fun z => hb (by rw [z]; exact List.mem_cons_self)) e) hm'') hS''
    refine add_ok (s := { s' with toks := s'.toks + (TK prog w).draws y.1 }) hu J j1 j2 (by lia) (fun x hx => hys' x (j4 x hx)) (hys' y hym) (fun hmem => ?_) fun hnm h' o' es' ep' t' xs' hsb J' hp g1 g2 => ?_
    · refine wpAny_pure ⟨plainId_quiet PyProof.Rows.F.plain_set_update_loop _, ?_⟩
      refine fin s'.heap (fun b o _ e => e) ⟨o, es, ep, t, xs, J, j1, j2, fun k => ?_, j4, by lia, j6⟩
      rw [tkeep, ← j3]
      exact ⟨.inl, fun z => z.elim id fun e => e ▸ hmem⟩
    · refine wpAny_pure ⟨plainId_quiet PyProof.Rows.F.plain_set_update_loop _, ?_⟩
      refine fin h' (fun b o hb e => (hsb.2 b hb).trans e) ⟨o', es', ep', t', xs', J', g1, g2, fun k => ?_, fun x hx => ?_, ?_, ?_⟩
      · rw [tkeep, ← j3, (hp.map (·.1)).mem_iff, List.map_append, List.mem_append]
        simp
      · rcases List.mem_append.mp (hp.mem_iff.mp hx) with z | z
        · exact j4 x z
        · rw [List.mem_singleton] at z; subst z; exact hym
      · rw [hp.length_eq, List.length_append, List.length_singleton]; lia
      · rw [(hp.map (·.1)).nodup_iff, List.map_append, List.nodup_append]
        refine ⟨j6, by simp, fun a ha b hb e => ?_⟩
        simp only [List.map_cons, List.map_nil, List.mem_singleton] at hb
        subst hb
        subst e
        exact hnm ha
end
section
variable {prog : Program} {w : World} {A : Around} {E : Value → Shared → Prop} {s : Shared}
theorem code_set_new1 (a : Value) {Q₁ : Value → Shared → Prop} (h : Q₁ (.ref s.heap.objs.size) { s with heap := s.heap.push { cls := .type "set", dict := none, data := .set #[] 0 (.fresh 0 0 (!byT w)) } }) :
    codeAny (model prog w) A (.call (.builtin "set.__new__") ⟨[.type "set", a], []⟩) (wants Q₁ E) s := by
  refine codeAny_of_tree ?_
  show wpAny _ A.in1 (do checkBuiltinCall "set.__new__" ⟨[.type "set", a], []⟩; again (.builtin "set.__new__" ⟨[.type "set", a], []⟩)) _ _ s
  refine wpAny_bind (wpAny_of_eq (PySem.F.newCall_set_1 a) (wpAny_pure ⟨plainId_quiet PySem.F.plain_set_new _, codeAny_builtin PySem.F.entry_set_new ?_⟩))
  rw [Around.under_plainId PySem.F.plain_set_new _]
  unfold Builtin.«set.__new__» Builtin.Frozenset.newClass
  have hsub := sub_set_self
  obtain ⟨hp, g, d, tk, os⟩ := s
  dsimp only
  wp_walk
  refine wpAny_askSetting (wpAny_pure ?_)
  dsimp only
  simp only [newObj]
  refine wpAny_bind (wpAny_alloc (wpAny_pure ?_))
  exact wpAny_pure h
theorem call_setC {l : Addr} {items : Array Value} {ys : List (List Int × Addr)} {Q : Value → Shared → Prop}
    (hh : A.handled = none) (hu : A.units + 16 < cLine) (hl : s.heap.IsList l items) (hi : items.toList = ys.map fun y => Value.ref y.2) (hcap : ys.length ≤ 4900) (hys : ∀ y ∈ ys, (TK prog w).is s.heap y.1 y.2)
    (h : ∀ (h' : Heap) (tk : Nat), SetUp w h' s.heap.objs.size ys ys.length → s.heap.objs.size ≤ h'.objs.size → (∀ b o, b < s.heap.objs.size → s.heap.get? b = some o → h'.get? b = some o) → Q (.ref s.heap.objs.size) { s with heap := h', toks := tk }) :
    wpAny (model prog w) A (call (.type "set") [.ref l]) Q E s := by
  obtain ⟨c, tl, hmro⟩ := PySem.F.called_set.mro
  have hmade := PySem.F.called_set.made
  have hsub := PySem.F.called_set.sub
  have hisz : items.size = ys.length := by rw [← Array.length_toList, hi, List.length_map]
  refine wpAny_call (codeAny_of_tree ?_)
  show wpAny _ _ (callAny (.type "set") _) _ _ _
  refine wpAny_pure ⟨Code.quiet_builtin _ (by decide +kernel), codeAny_builtin PySem.F.entry_type_call ?_⟩
  rw [Around.under_plain (weight_type_call_type "set" [.ref l] []) rfl]
  have h1 := PySem.F.called_set.notType
  have h2 := PySem.F.called_set.canCreate
  have hct := PySem.F.typeCall_set_1 (.ref l)
  repeat (any_goals (first | assumption | wp_step))
  refine codeAny_mono (code_set_new1 (.ref l) (E := E) (Q₁ := fun obj s₁ => obj = .ref s.heap.objs.size ∧ s₁ = { s with heap := s.heap.push { cls := .type "set", dict := none, data := .set #[] 0 (.fresh 0 0 (!byT w)) } }) ⟨rfl, rfl⟩) fun r s₁ hr => ?_
  cases r with
  | error e => exact hr
  | ok fl =>
    cases fl with
    | ret obj =>
      obtain ⟨rfl, rfl⟩ := hr
      generalize hled : (!byT w) = led
      have hS : (s.heap.push { cls := .type "set", dict := none, data := .set #[] 0 (.fresh 0 0 led) }).get? s.heap.objs.size = some { cls := .type "set", dict := none, data := .set #[] 0 (.fresh 0 0 led) } := Heap.get?_push_size _ rfl
      have hT : Shared.TypeIs { s with heap := s.heap.push { cls := .type "set", dict := none, data := .set #[] 0 (.fresh 0 0 led) } } (.ref s.heap.objs.size) "set" := ⟨_, hS, rfl⟩
      have hli := PySem.F.called_set.init.lookup
      have hbi := PySem.F.called_set.init.bind (.ref s.heap.objs.size)
      repeat (any_goals (first | assumption | wp_step))
      refine codeAny_mono (codeAny_call_builtin (R := wants (fun r s₂ => r = .none ∧ ∃ h' tk, s₂ = { s with heap := h', toks := tk } ∧ SetUp w h' s.heap.objs.size ys ys.length ∧
          s.heap.objs.size ≤ h'.objs.size ∧ (∀ b o, b < s.heap.objs.size → s.heap.get? b = some o → h'.get? b = some o)) E) PySem.F.called_set.init.plain PySem.F.entry_set_init (check_set_init_1 hT ?_)) fun r₂ s₂ hr₂ => ?_
      · obtain ⟨ol, hol, hcl, nl, hdl⟩ := hl
        obtain ⟨ocls, odict, odata, oslots⟩ := ol
        simp only at hcl hdl
        subst hcl; subst hdl
        have hol' : (s.heap.push { cls := .type "set", dict := none, data := .set #[] 0 (.fresh 0 0 led) }).get? l = some { cls := .type "list", dict := odict, data := .seq items nl, slots := oslots } := Heap.get?_push_of_some _ hol
        have hsls := PySem.F.sub_list_set
        have hslf := PySem.F.sub_list_frozenset
        have hne : (Value.type "list" == Value.type "dict") = false := by decide
        have hl1 : (s.heap.push { cls := .type "set", dict := none, data := .set #[] 0 (.fresh 0 0 led) }).IsList l items := ⟨_, hol', rfl, nl, rfl⟩
        unfold Builtin.«set.__init__» noKeywords Builtin.Frozenset.updateFrom
        generalize hPI : pyIter = PI
        wp_walk
        subst hPI
        refine wpAny_pyIter_list hl1 ?_
        refine wpAny_bind (wpAny_runValue ?_)
        have hlS : l < s.heap.objs.size := Heap.lt_size hol
        have hh3 : A.in1.in1.in1.handled = none := by simp [hh]
        have hneI : l ≠ (s.heap.push { cls := .type "set", dict := none, data := .set #[] 0 (.fresh 0 0 led) }).objs.size := by
          rw [Heap.size_push]; exact Nat.ne_of_lt (Nat.lt_succ_of_lt hlS)
        have hSf : s.heap.objs.size ∉ [(s.heap.push { cls := .type "set", dict := none, data := .set #[] 0 (.fresh 0 0 led) }).objs.size, l] := by
          rw [Heap.size_push]; simp only [List.mem_cons, List.mem_singleton, List.not_mem_nil, or_false, not_or]
          exact ⟨Nat.ne_of_lt (Nat.lt_succ_self _), Nat.ne_of_gt hlS⟩
        have hW := (Walks.list (prog := prog) (w := w) hh3 _ l hneI items).toS
        rw [hisz] at hW
        refine set_loop hW s.heap.objs.size hSf (by show A.units + 3 < cLine; lia) hcap (fun i v hv => ?_) (fun y hy => ?_) (ys.length - 0) 0 _ (by lia) (Nat.zero_le _)
          ⟨⟨_, Heap.get?_push_size _ rfl, rfl, rfl⟩, (hl1.push _)⟩ ?hS0 (fun y hy => tk_to (hys y hy) fun o e => Heap.get?_push_of_some _ (Heap.get?_push_of_some _ e)) ?hR
        · rw [← Array.getElem?_toList, hi, List.getElem?_map] at hv
          obtain ⟨y, hy, rfl⟩ := Option.map_eq_some_iff.mp hv
          exact ⟨y, hy, rfl⟩
        · have : y.2 < s.heap.objs.size := by
            obtain ⟨o', _, _, ho', _⟩ := hys y hy
            exact Heap.lt_size ho'
          rw [Heap.size_push]
          simp only [List.mem_singleton]
          exact Nat.ne_of_lt (Nat.lt_succ_of_lt this)
        case hS0 =>
          have hget : ((s.heap.push { cls := .type "set", dict := none, data := .set #[] 0 (.fresh 0 0 led) }).push { cls := .type "list_iterator", data := .fields #[.ref l, .int 0 0] }).get? s.heap.objs.size
              = some { cls := .type "set", dict := none, data := .set #[] 0 (.fresh 0 0 led) } := Heap.get?_push_of_some _ hS
          exact ⟨_, #[], 0, _, [], ⟨hget, ⟨rfl, rfl, rfl⟩, rfl, rfl, tok_fresh 0 0 led, hled.symm, rfl⟩, .inl rfl, by show 0 < 7 * 3; decide, fun k => by simp, (fun x h => nomatch h), Nat.le_refl _, .nil⟩
        case hR =>
          intro s' hm hS'
          obtain ⟨h', g', d', tk', os'⟩ := s'
          have eg : g' = s.gens := hm.gens
          have ed : d' = s.drawn := hm.drawn
          have eo : os' = s.os := hm.os
          subst eg; subst ed; subst eo
          show wpAny _ _ _ _ _ _
          refine wpAny_pure ?_
          show wpAny _ _ (ret Value.none) _ _ _
          refine wpAny_pure ⟨rfl, h', tk', rfl, hS', ?_, fun b o hb e => ?_⟩
          · obtain ⟨o, _, _, _, _, J, _⟩ := hS'
            exact Nat.le_of_lt (Heap.lt_size J.ho)
          have hb1 : b ≠ s.heap.objs.size := Nat.ne_of_lt hb
          have hb2 : b ≠ (s.heap.push { cls := .type "set", dict := none, data := .set #[] 0 (.fresh 0 0 led) }).objs.size := by
            rw [Heap.size_push]; exact Nat.ne_of_lt (Nat.lt_succ_of_lt hb)
          exact hm.heap b o (by simp only [List.mem_cons, List.mem_singleton, List.not_mem_nil, or_false, not_or]; exact ⟨hb1, hb2⟩) (Heap.get?_push_of_some _ (Heap.get?_push_of_some _ e))
      · cases r₂ with
        | error e => exact hr₂
        | ok fl₂ =>
          cases fl₂ with
          | ret r =>
            obtain ⟨rfl, h', tk, rfl, hS', hz, hk'⟩ := hr₂
            repeat (any_goals (first | assumption | wp_step))
            exact h _ _ hS' hz hk'
          | _ => exact hr₂.elim
    | _ => exact hr.elim
end
end StT
set_option Elab.async false
set_option linter.all false
set_option maxRecDepth 100000
set_option maxHeartbeats 4000000
namespace StT
open PySem PySem.SetTable PySem.Spec PyProof.Rows
theorem owner_seti : Manifest.owners.lookup (String.ofList ['r', 'o', 't', 'a', 'r', 'e', 't', 'i', '_', 't', 'e', 's'].reverse) = some Manifest.sig_set_iterator := by kernel_rfl
theorem slot_seti_next : Slot "set_iterator" "__next__" "set_iterator.__next__" :=
  .of (owner := "set_iterator") (n := "__next__") (by rw [typeLookup_type, builtinLookup_eq_fast]; kernel_rfl) (by decide +kernel) (by decide +kernel) (by decide +kernel)
    (by first | exact .inl (by decide +kernel) | exact .inr (by decide +kernel)) (by rw [isSubtype_type]; kernel_rfl)
theorem entry_seti_next : entryFor table "set_iterator.__next__" = some Builtin.«set_iterator.__next__» := entryFor_of_tree (by kernel_rfl)
theorem args_seti_next (a : Value) : argsOk "set_iterator.__next__" ⟨[a], []⟩ := by
  unfold argsOk; rw [signature?_of (id := "set_iterator.__next__") (n := ['_', '_', 't', 'x', 'e', 'n', '_', '_']) (o := ['r', 'o', 't', 'a', 'r', 'e', 't', 'i', '_', 't', 'e', 's']) (by kernel_rfl) owner_seti]; kernel_rfl
theorem slot_seti_iter : Slot "set_iterator" "__iter__" "set_iterator.__iter__" :=
  .of (owner := "set_iterator") (n := "__iter__") (by rw [typeLookup_type, builtinLookup_eq_fast]; kernel_rfl) (by decide +kernel) (by decide +kernel) (by decide +kernel)
    (by first | exact .inl (by decide +kernel) | exact .inr (by decide +kernel)) (by rw [isSubtype_type]; kernel_rfl)
theorem entry_seti_iter : entryFor table "set_iterator.__iter__" = some Builtin.«dict_keyiterator.__iter__» :=
  entryFor_alias (id' := "dict_keyiterator.__iter__") (by kernel_rfl) rfl (by decide +kernel) (by kernel_rfl)
theorem args_seti_iter (a : Value) : argsOk "set_iterator.__iter__" ⟨[a], []⟩ := by
  unfold argsOk; rw [signature?_of (id := "set_iterator.__iter__") (n := ['_', '_', 'r', 'e', 't', 'i', '_', '_']) (o := ['r', 'o', 't', 'a', 'r', 'e', 't', 'i', '_', 't', 'e', 's']) (by kernel_rfl) owner_seti]; kernel_rfl
theorem entry_set_iter : entryFor table "set.__iter__" = some Builtin.«frozenset.__iter__» :=
  entryFor_alias (id' := "frozenset.__iter__") (by kernel_rfl) rfl (by decide +kernel) (by kernel_rfl)
theorem perm_at {α : Type} : ∀ {l : List α} {i : Nat} (h : i < l.length), (l[i] :: l.eraseIdx i).Perm l
  | a :: l, 0, _ => by simp
  | a :: l, i + 1, h => by
    have h' : i < l.length := by simpa using h
    rw [List.getElem_cons_succ, List.eraseIdx_cons_succ]
    exact (List.Perm.swap _ _ _).trans (List.Perm.cons a (perm_at h'))
theorem pick_go {α : Type} (next : Nat → Nat) : ∀ (fuel k : Nat) (left : List α) (out : Array α), left.length = fuel → ∃ r, (pickOrder.go next fuel k left out).toList = out.toList ++ r ∧ r.Perm left
  | 0, k, left, out, h => ⟨[], by simp [pickOrder.go], by rw [List.length_eq_zero_iff.mp h]⟩
  | fuel + 1, k, left, out, h => by
    have hp : 0 < left.length := by lia
    have hlt : next k % left.length < left.length := Nat.mod_lt _ hp
    rw [pickOrder.go, List.getElem?_eq_getElem hlt]
    dsimp only
    obtain ⟨r, e1, e2⟩ := pick_go next fuel (k + 1) (left.eraseIdx (next k % left.length)) (out.push left[next k % left.length]) (by rw [List.length_eraseIdx, if_pos hlt]; lia)
    refine ⟨left[next k % left.length] :: r, by rw [e1]; simp, ?_⟩
    refine (List.Perm.cons _ e2).trans ?_
    exact perm_at hlt
theorem pick_perm {α : Type} (next : Nat → Nat) (xs : Array α) : (pickOrder next xs).toList.Perm xs.toList := by
  obtain ⟨r, e1, e2⟩ := pick_go next xs.size 0 xs.toList #[] (Array.length_toList)
  unfold pickOrder
  rw [e1]
  simpa using e2
noncomputable def wOrd (w : World) (S : Addr) (ep : Nat) (es : Array (Int × Value)) : Array (Int × Value) := if byT w = true then pickOrder (w.params.setOrder S ep) es else es
theorem wOrd_perm (w : World) (S : Addr) (ep : Nat) (es : Array (Int × Value)) : (wOrd w S ep es).toList.Perm es.toList := by
  unfold wOrd
  split
  · exact pick_perm _ _
  · exact List.Perm.refl _
theorem wOrd_size (w : World) (S : Addr) (ep : Nat) (es : Array (Int × Value)) : (wOrd w S ep es).size = es.size := by
  have := (wOrd_perm w S ep es).length_eq
  simpa using this
structure SRaw (w : World) (h : Heap) (S : Addr) (es : Array (Int × Value)) (ep : Nat) (t : SetTable) : Prop where
  o : ∃ o, h.get? S = some o ∧ o.ExactSet ∧ o.data = .set es ep t
  rise : t.place.toList.Pairwise (· < ·)
  len : t.place.size = es.size
  fits : t.fits es.size = true
  led : t.led = !byT w
  pl : t.plain = true
theorem SRaw.to {w : World} {h h' : Heap} {S : Addr} {es ep t} (x : SRaw w h S es ep t) (e : ∀ o, h.get? S = some o → h'.get? S = some o) : SRaw w h' S es ep t := let ⟨⟨o, a, r⟩, q1, q2, q3, q4, q5⟩ := x; ⟨⟨o, e _ a, r⟩, q1, q2, q3, q4, q5⟩
theorem SRaw.lt {w : World} {h : Heap} {S : Addr} {es ep t} (x : SRaw w h S es ep t) : S < h.objs.size := let ⟨⟨o, a, _⟩, _, _, _, _, _⟩ := x; Heap.lt_size a
noncomputable def IsSI (h : Heap) (it S : Addr) (slot i n ep : Nat) : Prop := ∃ o, h.get? it = some o ∧ o.cls = .type "set_iterator" ∧ o.data = .fields #[.int slot 0, .int i 0, .ref S, .int n 0, .int ep 0]
theorem below_zero {xs : Array Nat} (hr : xs.toList.Pairwise (· < ·)) : below xs 0 = 0 := by
  obtain ⟨a, b, c⟩ := below_spec hr 0
  rcases Nat.eq_zero_or_pos (below xs 0) with z | z
  · exact z
  · have hlt : 0 < xs.size := by lia
    have := a 0 _ z (Array.getElem?_eq_getElem hlt)
    lia
theorem below_next {xs : Array Nat} (hr : xs.toList.Pairwise (· < ·)) {i v : Nat} (h : xs[i]? = some v) : below xs (v + 1) = i + 1 := by
  obtain ⟨a, b, c⟩ := below_spec hr (v + 1)
  rcases Nat.lt_trichotomy (below xs (v + 1)) (i + 1) with z | z | z
  · have := b i v (by lia) h; lia
  · exact z
  · have hlt : i + 1 < xs.size := by lia
    have e := Array.getElem?_eq_getElem hlt
    have := a (i + 1) _ z e
    have := rise_get hr (Nat.lt_succ_self i) h e
    lia
section
variable {prog : Program} {w : World} {A : Around} {E : Value → Shared → Prop} {s : Shared} {S it : Addr} {es : Array (Int × Value)} {ep i slot : Nat} {t : SetTable}
theorem SRaw.ty (x : SRaw w s.heap S es ep t) : s.TypeIs (.ref S) "set" := let ⟨⟨o, a, c, _⟩, _, _, _, _, _⟩ := x; ⟨o, a, c.1⟩
theorem IsSI.ty (x : IsSI s.heap it S slot i es.size ep) : s.TypeIs (.ref it) "set_iterator" := let ⟨o, a, c, _⟩ := x; ⟨o, a, c⟩
theorem byText_ {Q : Bool → Shared → Prop} (h : Q (byT w) s) : wpAny (model prog w) A setsByText Q E s := by
  unfold setsByText
  exact wpAny_bind (wpAny_askSetting (wpAny_pure h))
theorem SRaw.state (x : SRaw w s.heap S es ep t) {Q : (Array (Int × Value) × Nat × SetTable) → Shared → Prop} (h : Q (es, ep, t) s) : wpAny (model prog w) A (setState S) Q E s := by
  obtain ⟨⟨o, ho, _, hd⟩, _⟩ := id x
  exact wpAny_setState_of ho hd x.fits h
theorem sraw_iter {Q : Value → Shared → Prop} (x : SRaw w s.heap S es ep t)
    (q : Q (.ref s.heap.objs.size) { s with heap := s.heap.push { cls := .type "set_iterator", data := .fields #[.int 0 0, .int 0 0, .ref S, .int es.size 0, .int ep 0] } }) : wpAny (model prog w) A (pyIter (.ref S)) Q E s := by
  refine wpAny_pyIter_slot x.ty PySem.F.slot_set_iter (wpAny_call_entry PySem.F.slot_set_iter x.ty entry_set_iter ?_ (PySem.F.args_set_iter_1 _))
  unfold Builtin.«frozenset.__iter__» Builtin.Frozenset.slot0 slotArgs
  simp only [List.isEmpty_nil, Bool.not_true, Bool.false_eq_true, ↓reduceIte, bind_assoc, List.length_nil, bne_self_eq_false]
  unfold Builtin.Frozenset.addrOf Builtin.Frozenset.sizeOf setEntries setDrawn setEpoch
  refine wpAny_bind (wpAny_pure ?_)
  dsimp only
  refine wpAny_bind (wpAny_pure ?_)
  refine wpAny_bind (wpAny_bind (wpAny_bind (x.state (wpAny_pure (wpAny_pure ?_)))))
  refine wpAny_bind (wpAny_bind (x.state (wpAny_bind (byText_ (wpAny_pure ?_)))))
  dsimp only
  refine StT.wp_no (fun z => by have z : (!byT w && (!t.plain && _)) = true := z; rw [x.pl] at z; simp at z) ?_
  refine wpAny_bind (wpAny_pure ?_)
  refine wpAny_bind (wpAny_bind (x.state (wpAny_pure ?_)))
  unfold newFields
  refine wpAny_bind (wpAny_newObj_type (wpAny_pure ⟨_, rfl, "set_iterator", _, ⟨_, Heap.get?_push_size _ rfl, rfl⟩, slot_seti_next.lookup, q⟩))
theorem setNext_some (x : SRaw w s.heap S es ep t) (hb : byT w = false → below t.place slot = i) {v : Value} {hv : Int} (he : (wOrd w S ep es)[i]? = some (hv, v)) {Q : Option (Value × Nat) → Shared → Prop}
    (q : ∀ sl, (byT w = false → below t.place sl = i + 1) → Q (some (v, sl)) s) : wpAny (model prog w) A (setNext S slot i ep) Q E s := by
  unfold setNext
  refine wpAny_bind (x.state ?_)
  dsimp only
  refine wpAny_bind (byText_ ?_)
  unfold wOrd at he
  by_cases g : byT w = true
  · rw [if_pos g] at he
    rw [g]
    simp only [if_true, bne_self_eq_false, Bool.false_eq_true, if_false]
    unfold setWalk
    refine wpAny_bind (wpAny_bind (x.state ?_))
    dsimp only
    refine wpAny_bind (byText_ ?_)
    rw [g]
    simp only [if_true]
    refine wpAny_bind (wpAny_askSetting (wpAny_pure ?_))
    refine wpAny_pure ?_
    have he' : (pickOrder ((model prog w).w.params.setOrder S ep) es)[i]? = some (hv, v) := he
    dsimp only
    rw [he']
    exact q slot fun z => by rw [g] at z; cases z
  · have g0 : byT w = false := by simpa using g
    rw [if_neg g] at he
    rw [g0]
    simp only [Bool.false_eq_true, if_false]
    refine StT.wp_no (fun z => by have z : (!t.plain && _) = true := z; rw [x.pl] at z; cases z) ?_
    have hl : t.led = true := by rw [x.led, g0]; rfl
    refine wpAny_bind (StT.wp_is (y := pure ()) ?el (wpAny_pure ?_))
    case el =>
      show (if (!t.led && !es.isEmpty) = true then _ else _) = _
      rw [hl]
      rfl
    have hi : i < t.place.size := by rw [x.len]; exact (Array.getElem?_eq_some_iff.mp he).1
    have ep' : t.place[i]? = some t.place[i] := Array.getElem?_eq_getElem hi
    rw [hb g0, he, ep']
    exact wpAny_pure (q _ fun _ => below_next x.rise ep')
theorem setNext_none (x : SRaw w s.heap S es ep t) (hb : byT w = false → below t.place slot = i) (he : es.size ≤ i) {Q : Option (Value × Nat) → Shared → Prop} (q : Q none s) : wpAny (model prog w) A (setNext S slot i ep) Q E s := by
  have he2 : (wOrd w S ep es)[i]? = none := Array.getElem?_eq_none (by rw [wOrd_size]; exact he)
  unfold setNext
  refine wpAny_bind (x.state ?_)
  dsimp only
  refine wpAny_bind (byText_ ?_)
  unfold wOrd at he2
  by_cases g : byT w = true
  · rw [if_pos g] at he2
    rw [g]
    simp only [if_true, bne_self_eq_false, Bool.false_eq_true, if_false]
    unfold setWalk
    refine wpAny_bind (wpAny_bind (x.state ?_))
    dsimp only
    refine wpAny_bind (byText_ ?_)
    rw [g]
    simp only [if_true]
    refine wpAny_bind (wpAny_askSetting (wpAny_pure ?_))
    refine wpAny_pure ?_
    have he' : (pickOrder ((model prog w).w.params.setOrder S ep) es)[i]? = none := he2
    dsimp only
    rw [he']
    exact q
  · have g0 : byT w = false := by simpa using g
    rw [if_neg g] at he2
    rw [g0]
    simp only [Bool.false_eq_true, if_false]
    refine StT.wp_no (fun z => by have z : (!t.plain && _) = true := z; rw [x.pl] at z; cases z) ?_
    have hl : t.led = true := by rw [x.led, g0]; rfl
    refine wpAny_bind (StT.wp_is (y := pure ()) ?el (wpAny_pure ?_))
    case el =>
      show (if (!t.led && !es.isEmpty) = true then _ else _) = _
      rw [hl]
      rfl
    rw [hb g0, he2]
    exact wpAny_pure q
theorem sraw_next {Q : Option Value → Shared → Prop} (u : IsSI s.heap it S slot i es.size ep) (x : SRaw w s.heap S es ep t) (hne : S ≠ it) (hb : byT w = false → below t.place slot = i) {v : Value} {hv : Int} (he : (wOrd w S ep es)[i]? = some (hv, v))
    (q : ∀ h' sl, IsSI h' it S sl (i + 1) es.size ep → (byT w = false → below t.place sl = i + 1) → Heap.SameBut it s.heap h' → Q (some v) { s with heap := h' }) : wpAny (model prog w) A (pyNext (.ref it)) Q E s := by
  obtain ⟨o, ho, hc, hd⟩ := id u
  unfold pyNext
  refine wpAny_bind (wpAny_attempt (wpAny_callSpecial?_slot (name := Str.ofString "__next__") u.ty slot_seti_next (wpAny_call_entry slot_seti_next u.ty entry_seti_next ?_ (args_seti_next _))))
  unfold Builtin.«set_iterator.__next__» slotArgs
  simp only [List.isEmpty_nil, Bool.not_true, Bool.false_eq_true, ↓reduceIte, bind_assoc, List.length_nil, bne_self_eq_false]
  refine wpAny_bind (wpAny_pure ?_)
  refine wpAny_bind (wpAny_fieldsOf ho hd ?_)
  dsimp only
  unfold setEntries
  refine wpAny_bind (wpAny_bind (x.state (wpAny_pure ?_)))
  simp only [bne_self_eq_false, Bool.false_eq_true, if_false]
  refine wpAny_bind ?_
  rw [Int.toNat_natCast, Int.toNat_natCast, Int.toNat_natCast]
  refine setNext_some x hb he fun sl hsl => ?_
  dsimp only
  refine wpAny_bind (wpAny_setField ho hd (by simp) ?_)
  have ho1 : (s.heap.update it (Obj.mapFields (·.setIfInBounds 0 (rawInt (sl : Int))))).get? it = some (Obj.mapFields (·.setIfInBounds 0 (rawInt (sl : Int))) o) := Heap.get?_update_self _ ho (Obj.isFreed_of_fields (Obj.data_mapFields hd _))
  have hd1 : (Obj.mapFields (·.setIfInBounds 0 (rawInt (sl : Int))) o).data = .fields #[.int sl 0, .int i 0, .ref S, .int es.size 0, .int ep 0] := by rw [Obj.data_mapFields hd]; simp [rawInt]
  refine wpAny_bind (wpAny_setField ho1 hd1 (by simp) ?_)
  refine wpAny_pure ⟨_, rfl, wpAny_pure (q _ sl ⟨_, Heap.get?_update_self _ ho1 (Obj.isFreed_of_fields (Obj.data_mapFields hd1 _)), ?_, ?_⟩ hsl ((Heap.SameBut.update ..).trans (Heap.SameBut.update ..)))⟩
  · rw [Obj.cls_mapFields, Obj.cls_mapFields]; exact hc
  · rw [Obj.data_mapFields hd1]; simp [rawInt]
theorem sraw_end {Q : Option Value → Shared → Prop} (hh : A.handled = none) (u : IsSI s.heap it S slot i es.size ep) (x : SRaw w s.heap S es ep t) (hb : byT w = false → below t.place slot = i) (he : es.size ≤ i)
    (q : ∀ h', Heap.ExtBut it s.heap h' → Q none { s with heap := h' }) : wpAny (model prog w) A (pyNext (.ref it)) Q E s := by
  obtain ⟨o, ho, hc, hd⟩ := id u
  unfold pyNext
  refine wpAny_bind (wpAny_attempt (wpAny_callSpecial?_slot (name := Str.ofString "__next__") u.ty slot_seti_next (wpAny_call_entry slot_seti_next u.ty entry_seti_next ?_ (args_seti_next _))))
  unfold Builtin.«set_iterator.__next__» slotArgs
  simp only [List.isEmpty_nil, Bool.not_true, Bool.false_eq_true, ↓reduceIte, bind_assoc, List.length_nil, bne_self_eq_false]
  refine wpAny_bind (wpAny_pure ?_)
  refine wpAny_bind (wpAny_fieldsOf ho hd ?_)
  dsimp only
  unfold setEntries
  refine wpAny_bind (wpAny_bind (x.state (wpAny_pure ?_)))
  simp only [bne_self_eq_false, Bool.false_eq_true, if_false]
  refine wpAny_bind ?_
  rw [Int.toNat_natCast, Int.toNat_natCast, Int.toNat_natCast]
  refine setNext_none x hb he ?_
  dsimp only
  refine wpAny_bind (wpAny_setField ho hd (by simp) ?_)
  show wpAny _ _ (newExc (.type "StopIteration") [] >>= _) _ _ _; refine wpAny_bind ?_
  simp only [newExc, newTuple]; refine wpAny_bind (wpAny_newObj_type ?_ (by size_fits))
  refine wpAny_bind (m := firstArgMember _ _) (wpAny_of_eq (a := Value.none) (by first | rfl | (simp only [firstArgMember]; rfl)) (wpAny_newObj_type ?_ (by size_fits)))
  simp only [raiseNew]; refine wpAny_bind (wpAny_handled ?_)
  rw [show A.in1.handled = none from hh]; refine wpAny_bind (wpAny_pure (wpAny_throw ?_))
  refine wpAny_bind (wpAny_isInstance (T := "StopIteration") (b := true) ⟨_, Heap.get?_push_size _ rfl, rfl⟩ isSubtype_stop (wpAny_pure (q _ (((Heap.SameBut.update ..).extBut.push _).push _))))
theorem sraw_walks (hh : A.handled = none) (I S : Addr) (hne : S ≠ I) (es : Array (Int × Value)) (ep : Nat) (t : SetTable) :
    Walks prog w A I [I, S] [I] es.size (fun i v => ∃ hv, (wOrd w S ep es)[i]? = some (hv, v)) (fun i h => (∃ sl, IsSI h I S sl i es.size ep ∧ (byT w = false → below t.place sl = i)) ∧ SRaw w h S es ep t) where
  sub := fun b hb => by simp only [List.mem_singleton] at hb; simp [hb]
  frame := fun _ _ _ st k => let ⟨⟨sl, ⟨o, a, b⟩, c⟩, r⟩ := st; ⟨⟨sl, ⟨o, k I (by simp) o a, b⟩, c⟩, r.to fun o e => k S (by simp) o e⟩
  item := fun i s Q E hi st hQ => by
    obtain ⟨⟨sl, u, hb⟩, x⟩ := st
    have hlt : i < (wOrd w S ep es).size := by rw [wOrd_size]; exact hi
    refine sraw_next u x hne hb (v := ((wOrd w S ep es)[i]).2) (hv := ((wOrd w S ep es)[i]).1) (Array.getElem?_eq_getElem hlt) fun h' sl' u' hb' sb => ?_
    exact hQ _ h' s.toks ⟨_, Array.getElem?_eq_getElem hlt⟩ ⟨⟨sl', u', hb'⟩, x.to fun o e => (sb.2 S hne).trans e⟩ fun b o hb e => (sb.2 b (fun z => hb (by simp [z]))).trans e
  done := fun s Q E st hQ => by
    obtain ⟨⟨sl, u, hb⟩, x⟩ := st
    exact sraw_end hh u x hb (Nat.le_refl _) fun h' eb => hQ h' s.toks fun b o hb e => eb b o (fun z => hb (by simp [z])) e
  self := fun _ s Q E st hQ => by
    obtain ⟨⟨sl, u, hb⟩, x⟩ := st
    refine wpAny_pyIter_slot u.ty slot_seti_iter (wpAny_call_entry slot_seti_iter u.ty entry_seti_iter ?_ (args_seti_iter _))
    show wpAny _ _ (ret (.ref I)) _ _ s
    exact wpAny_pure ⟨_, rfl, "set_iterator", _, u.ty, slot_seti_next.lookup, hQ⟩
theorem set_hint (hT : s.TypeIs (.ref S) "set") {Q : Bool → Shared → Prop} (h : Q false s) : wpAny (model prog w) A (Builtin.List.listLengthHint (.ref S)) Q E s := by
  unfold Builtin.List.listLengthHint
  refine wpAny_bind (wpAny_specialOf hT PySem.F.slot_set_len.lookup ?_)
  generalize hid : ("set.__len__" : String) = id0
  wp_delta
  rw [show splitId id0 = some ("set", "__len__") from by subst hid; decide +kernel]
  subst hid
  refine wpAny_bind (wpAny_isInstance (T := "set") (b := true) hT (by rw [isSubtype_type]; kernel_rfl) ?_)
  refine wpAny_ite_split (fun hab => absurd hab (by decide)) (fun _ => ?_)
  refine wpAny_ite_split (fun _ => ?_) (fun hab => absurd (by decide +kernel) hab)
  refine wpAny_bind (wpAny_typeOf hT ?_)
  exact wpAny_pure h
theorem sraw_src : PySem.W.KdlSrc prog w "set" S S es.size (fun i v => ∃ hv, (wOrd w S ep es)[i]? = some (hv, v)) (fun h => SRaw w h S es ep t) where
  type := fun _ x => x.ty
  there := fun _ x => ⟨x.lt, x.lt⟩
  keep := fun _ _ x k => x.to fun o e => k S (.inl rfl) o e
  notList := by decide
  notTuple := by decide
  hint := fun _ _ _ _ x q => set_hint x.ty q
  iter := fun _ _ hh x => ⟨_, _, (fun _ _ q => sraw_iter x q), sraw_walks hh _ S (Nat.ne_of_lt x.lt) es ep t, ⟨0, ⟨_, Heap.get?_push_size _ rfl, rfl, rfl⟩, fun _ => below_zero x.rise⟩, x.to fun o e => Heap.get?_push_of_some _ e⟩
end
end StT
set_option Elab.async false
set_option linter.all false
set_option maxRecDepth 100000
set_option maxHeartbeats 1000000
namespace Pc
open PySem L2 Srt
end Pc
namespace Pc
open PySem L2 Srt
end Pc
namespace L2
open PySem PySem.W PyProof.Rows Srt Pc
end L2
namespace Pc
open PySem L2 Srt
end Pc
namespace Pc
open PySem L2 Srt
end Pc
namespace Pc
open PySem L2 Srt
end Pc
set_option Elab.async false
set_option linter.all false
set_option maxRecDepth 100000
set_option maxHeartbeats 1000000
namespace Pc
open PySem L2 Srt
noncomputable def PA (H : Hp) (v : V) (x : List C3 × Wy) : Prop := ∃ p b ys, v = .ref p ∧ H p = some (.tup [.ref b, .str x.2.s]) ∧ H b = some (.lst ys) ∧ Cs H ys x.1
end Pc
namespace Pc
open PySem L2 Srt
end Pc
namespace Pc
open PySem L2 Srt
theorem at_k {k : Int} (h0 : 0 ≤ k) (h3 : k < 3) (c : C3) : atI c.v k = some (.int (if k = 0 then c.x else if k = 1 then c.y else c.z)) := by
  rcases (by lia : k = 0 ∨ k = 1 ∨ k = 2) with h | h | h <;> subst h <;> rfl
end Pc
set_option Elab.async false
set_option linter.all false
set_option maxRecDepth 100000
set_option maxHeartbeats 4000000
namespace Pc
open PySem L2 Srt
noncomputable def Own (kvs : List (List Key × V)) : Prop := ∀ kv ∈ kvs, ∃ c n, kv = (keyC c, V.int n) ∧ valV kvs (keyC c) = some (.int n)
theorem feeds_listG {α : Type} {R : Hp → V → α → Prop} (up : ∀ {H H' : Hp} {v : V} {x : α}, Same H H' → R H v x → R H' v x) {K : PySem.W.Frag} {H : Hp} {a : Addr} {ys : List V} {xs : List α} (h : SqL K H a ys) (r : Rs R H ys xs) : Feeds (Itl K a) H xs R where
  stop := fun H' s => by rw [← r.len]; exact itl_stop (s.seq h)
  go := fun i x H' s e => by
    obtain ⟨v, e1, q⟩ := r.get' e
    refine ⟨itl_go (s.seq h) (List.getElem?_eq_some_iff.mp e1).1, fun v' H2 y => ?_⟩
    obtain ⟨rfl, e2⟩ := itl_yld (s.seq h) y
    rw [e1] at e2
    cases e2
    exact ⟨Same.refl _, up s q⟩
noncomputable def Low (c : C3) : Prop := (0 ≤ c.x ∧ c.x ≤ 3) ∧ (0 ≤ c.y ∧ c.y ≤ 3) ∧ (0 ≤ c.z ∧ c.z ≤ 3)
end Pc
set_option Elab.async false
set_option linter.all false
set_option maxRecDepth 100000
set_option maxHeartbeats 4000000
namespace L2
open PySem PySem.Spec PyProof.Rows
section
variable {X : Cx}
end
end L2
set_option Elab.async false
set_option linter.all false
set_option maxRecDepth 100000
set_option maxHeartbeats 4000000
namespace Pc
noncomputable def hol (nss : List (List Int)) (i : Int) : List Int := nss.getD i.toNat []
open PySem L2 Srt
end Pc
namespace Pc
open PySem L2 Srt
end Pc
namespace Pc
open PySem L2 Srt
end Pc
set_option Elab.async false
set_option linter.all false
set_option maxRecDepth 100000
set_option maxHeartbeats 4000000
namespace Pc
open PySem L2 Srt
end Pc
set_option Elab.async false
set_option linter.all false
set_option maxRecDepth 100000
set_option maxHeartbeats 4000000
namespace Pc
open PySem L2 Srt
end Pc
set_option Elab.async false
set_option linter.all false
set_option maxRecDepth 100000
set_option maxHeartbeats 4000000
namespace L2
open PySem PySem.W PySem.Spec PyProof.Rows Srt Pc
end L2
set_option Elab.async false
set_option linter.all false
set_option maxRecDepth 100000
set_option maxHeartbeats 4000000
namespace L2
open PySem PySem.W PySem.Spec PyProof.Rows Srt Pc
noncomputable def IsT : Hp → V → List Int → Prop := fun H v k => ∃ a, v = V.ref a ∧ H a = some (.tup (k.map V.int))
noncomputable instance : Rep IsT := ⟨fun s ⟨a, e, q⟩ => ⟨a, e, s _ _ q⟩, fun h' ⟨a, e, q⟩ => ⟨a, e, lk_kind h' (by intro z; cases z) q⟩⟩
theorem prsT_of {K : PySem.W.Frag} {H : Hp} : ∀ {ys : List V} {ks : List (List Int)}, Rs IsT H ys ks → ∃ ps : Prs, ys = refs ps ∧ ps.map (·.2) = ks ∧ Tps K H ps ∧ ∀ q ∈ ps, H q.1 = some (.tup (q.2.map V.int))
  | _, _, .nil => ⟨[], rfl, rfl, fun _ h => absurd h (List.not_mem_nil), fun _ h => absurd h (List.not_mem_nil)⟩
  | _, _, .cons (b := c) ⟨a, e, q⟩ t => by
    obtain ⟨ps, e1, e2, e3, e4⟩ := prsT_of (K := K) t
    refine ⟨(a, c) :: ps, by rw [e, e1]; rfl, by simp [e2], fun p hp => ?_, fun p hp => ?_⟩
    · rcases List.mem_cons.mp hp with rfl | hp
      · exact SqT.of q
      · exact e3 p hp
    · rcases List.mem_cons.mp hp with rfl | hp
      · exact q
      · exact e4 p hp
theorem rsT_of {H : Hp} : ∀ {ps : Prs}, (∀ q ∈ ps, H q.1 = some (.tup (q.2.map V.int))) → Rs IsT H (refs ps) (ps.map (·.2))
  | [], _ => .nil
  | (a, l) :: ps, t => .cons ⟨a, rfl, t (a, l) (List.mem_cons_self ..)⟩ (rsT_of fun p hp => t p (List.mem_cons_of_mem _ hp))
section
variable {X : Cx}
theorem sort_laidT {pins : List (Addr × Obj)} {σ : St} {H : Hp} {s : Shared} {ys : List V} {ks : List (List Int)} {m : Nat} {its : List Value} {h' : Heap} {tk : Nat} {A : Around} {E : Value → Shared → Prop} {R : Value → Shared → Prop} (I : Inv X pins σ H s) (hc : Rs IsT H ys ks) (hm : ∀ k ∈ ks, k.length = m + 1) (h64 : ks.length < 64) (rv : Vals ys its) (hz : ys.length ≤ sizeLine)
    (kk : ∀ b o, s.heap.get? b = some o → h'.get? b = some o) (hge : s.heap.objs.size ≤ h'.objs.size) (q : ∀ (p : Addr) (zs : List V) (ks' : List (List Int)) (s' : Shared), H p = none → ks'.Perm ks → ks'.Pairwise (fun x y => HT.lexLt y x = false) → Rs IsT (upd H p (.lst zs)) zs ks' → Inv X pins σ (upd H p (.lst zs)) s' → p = h'.objs.size → R .none s') :
    wpAny (model X.prog X.w) A (call (.builtin "list.sort") [.ref h'.objs.size]) R E { s with heap := h'.push (seqObj "list" its.toArray 0), toks := tk } := by
  obtain ⟨ps, e1, e2, e3, e3t⟩ := prsT_of (K := X.K) hc
  have hlen : ps.length = ks.length := by have := congrArg List.length e2; simpa using this
  have rv' : Vals (refs ps) its := by rw [← e1]; exact rv
  have hlen2 : its.length = ps.length := by have := rv'.length; simpa using this.symm
  have hz' : its.length ≤ sizeLine := by have := rv.length; lia
  have hn : H h'.objs.size = none := I.hok.fresh hge
  have hoL : (h'.push (seqObj "list" its.toArray 0)).get? h'.objs.size = some (seqObj "list" its.toArray 0) := Heap.get?_push_size _ rfl
  have kk2 : ∀ b o, s.heap.get? b = some o → (h'.push (seqObj "list" its.toArray 0)).get? b = some o := fun b o z => Heap.get?_push_of_some _ (kk b o z)
  have old : ∀ (out : Array Value) b o, s.heap.get? b = some o → (sortedHeap (h'.push (seqObj "list" its.toArray 0)) h'.objs.size its out).get? b = some o := fun out b o z => by
    have hlt : b < h'.objs.size := Heap.lt_size (kk b o z)
    rw [sortedHeap_old (Nat.ne_of_lt hlt) (by rw [size_push']; exact Nat.lt_succ_of_lt hlt)]
    exact kk2 b o z
  have d3 : ∀ p ∈ ps, p.2.length = m + 1 := fun p hp => by
    have : p.2 ∈ ps.map (·.2) := List.mem_map.mpr ⟨p, hp, rfl⟩
    rw [e2] at this
    exact hm _ this
  by_cases h2 : 2 ≤ its.length
  · have tup' : ∀ h1 : Heap, (∀ b o, s.heap.get? b = some o → h1.get? b = some o) → ∀ p ∈ ps, ∃ vs : List Value, Vals (p.2.map V.int) vs ∧ IsTup h1 p.1 vs.toArray := fun h1 kk p hp => by
      obtain ⟨vs, rv', ⟨ob, ho, hcl, n, hdat⟩, _⟩ := I.tuple (e3 p hp)
      exact ⟨vs, rv', ob, kk _ _ ho, hcl, n, hdat⟩
    have far : ∀ b o, s.heap.get? b = some o → b ≠ h'.objs.size := fun b o z => Nat.ne_of_lt (Heap.lt_size (kk b o z))
    refine wpAny_call_entry slot_list_sort ⟨_, hoL, rfl⟩ entry_list_sort (Tim.list_sort_any (lt := HT.lexLt) (k := fun x => keyOf ps x.1) (S := fun x => x.1 ∈ its) (kind := tuples' (Value.type "int" != Value.type "tuple")) hoL h2 (by lia) (fun h1 k1 {Q' E'} hQ => ?_) (fun h1 k1 => ⟨lexO, fun x y hx hy {Q' E'} hQ => ?_⟩) (fun v hv => hv) fun out hp hs => ?_) (args_list_sort _)
    · obtain ⟨fs, kt, hfl, hfs⟩ := firsts_of (h := h1) rv' fun p hp => ⟨fun e => by have := d3 p hp; rw [e] at this; simp at this, tup' h1 (fun b o z => k1 b o (far b o z) (kk2 b o z)) p hp⟩
      refine kat_kind (T := .type "int") kt (by lia) (fun v hv => ?_) rfl hQ
      obtain ⟨i, t, rfl⟩ := hfs v hv
      exact Looks.of_pure rfl
    · obtain ⟨p1, m1, f1⟩ := refs_mem rv' _ hx
      obtain ⟨p2, m2, f2⟩ := refs_mem rv' _ hy
      rw [f1, f2] at hQ ⊢
      rw [keyOf_eq e3t m1, keyOf_eq e3t m2] at hQ
      obtain ⟨vi, ri, oi, hoi, _, ni, di⟩ := tup' h1 (fun b o z => k1 b o (far b o z) (kk2 b o z)) p1 m1
      obtain ⟨vj, rj, oj, hoj, _, nj, dj⟩ := tup' h1 (fun b o z => k1 b o (far b o z) (kk2 b o z)) p2 m2
      refine kat_lt hoi di hoj dj ?_
      refine lex_pairs 0 ri rj ((d3 p1 m1).trans (d3 p2 m2).symm) ?_ hQ
      have a1 := ri.length
      have a2 := rj.length
      have b1 := d3 p1 m1
      have b2 := d3 p2 m2
      simp only [List.length_map] at a1 a2
      rw [List.size_toArray, List.size_toArray]
      exact decide_eq_false (by lia)
    · obtain ⟨qs, q1, q2, q3⟩ := refs_of out ps fun v hv => refs_mem rv' v (hp.mem_iff.mp hv)
      obtain ⟨e, he⟩ := sortedHeap_at (out := out.toArray) hoL
      have keyq : ∀ p ∈ qs, keyOf ps (.ref p.1) = p.2 := fun p hp => keyOf_eq e3t (q1 p hp)
      have kp : (out.map (keyOf ps)).Perm (its.map (keyOf ps)) := hp.map _
      have ko : out.map (keyOf ps) = qs.map (·.2) := by
        rw [q3, List.map_map]
        exact List.map_congr_left fun p hp => keyq p hp
      have ki : its.map (keyOf ps) = ps.map (·.2) := by
        have go : ∀ (ps' : Prs) (its' : List Value), (∀ p ∈ ps', p ∈ ps) → Vals (refs ps') its' → its'.map (keyOf ps) = ps'.map (·.2) := by
          intro ps'
          induction ps' with
          | nil => intro its' _ r; have r : Vals [] _ := r; cases r; rfl
          | cons p ps' ih =>
            intro its' hm r
            have r : Vals (V.ref p.1 :: refs ps') _ := r
            cases r with
            | cons r1 r2 =>
              cases r1
              rw [List.map_cons, List.map_cons, keyOf_eq e3t (hm p (List.mem_cons_self ..)), ih _ (fun p' hp' => hm p' (List.mem_cons_of_mem _ hp')) r2]
        exact go ps its (fun _ h => h) rv'
      rw [ko, ki, e2] at kp
      have ha : (qs.map (·.2)).Pairwise (fun a b => HT.lexLt b a = false) := by
        rw [← ko, List.pairwise_map]
        exact hs
      have hzl : (refs qs).length ≤ sizeLine := by rw [q2.length, hp.length_eq]; exact hz'
      refine ⟨_, rfl, q h'.objs.size (refs qs) _ _ hn kp ha ?_ (I.laid (t' := tk) (old out.toArray) hge ⟨hzl, out, e, q2, he⟩) rfl⟩
      exact Rs.up (same_new hn) (rsT_of fun x hx => e3t x (q1 x hx))
  · obtain ⟨e, he⟩ := sortedHeap_at (out := its.toArray) hoL
    refine wpAny_call_entry slot_list_sort ⟨_, hoL, rfl⟩ entry_list_sort (list_sort_short hoL (by lia) ⟨_, rfl, q h'.objs.size ys ks _ hn (List.Perm.refl _) ?_ (Rs.up (same_new hn) hc) (I.laid (t' := tk) (old its.toArray) hge ⟨hz, its, e, rv, he⟩) rfl⟩) (args_list_sort _)
    have hk : ks.length < 2 := by lia
    cases ks with
    | nil => exact .nil
    | cons c r =>
      cases r with
      | nil => exact .cons (fun _ h => nomatch h) .nil
      | cons => simp only [List.length_cons] at hk; lia
end
end L2
set_option Elab.async false
set_option linter.all false
set_option maxRecDepth 100000
set_option maxHeartbeats 4000000
namespace L2
open PySem PySem.W PySem.Spec PyProof.Rows Srt Pc StT
noncomputable def isSetO (w : World) (S : Addr) (xs : List (List Int × Addr)) (h : Heap) : Prop := ∃ o es ep t, IsSet w h S o es ep t xs ∧ Siz t.mask ∧ xs.length * 5 < t.mask * 3
noncomputable def SetO (w : World) (S : Addr) (xs : List (List Int × Addr)) : HO := .ext (isSetO w S xs)
theorem setO_ok {P : Program} {w w' : World} {H : Hp} {h : Heap} {S : Addr} {xs : List (List Int × Addr)} (x : isSetO w S xs h) : ObjOk P w' H h S (SetO w S xs) := by
  refine ⟨x, ?_, fun h1 h2 q k => ?_⟩
  · obtain ⟨o, es, ep, t, I, _⟩ := x; exact ⟨o, I.ho⟩
  · obtain ⟨o, es, ep, t, I, r⟩ := q; exact ⟨o, es, ep, t, ⟨k _ I.ho, I.ex, I.hd, I.he, I.tok, I.led, I.pl⟩, r⟩
theorem items_of {prog : Program} {w : World} : ∀ {ks : List Int} {its : List Value}, Vals (ks.map V.int) its → ItemsAre (intKind prog w) ks its
  | [], _, .nil => .nil
  | k :: ks, _, .cons r1 r2 => by
    obtain ⟨t, rfl⟩ := r1
    exact .cons (by show Value.isInt k (.int k t) = true; simp [Value.isInt]) (items_of r2)
section
variable {X : Cx}
theorem tk_of {pins : List (Addr × Obj)} {σ : St} {H : Hp} {s : Shared} (I : Inv X pins σ H s) {a : Addr} {ks : List Int} (h : H a = some (.tup (ks.map V.int))) : (TK X.prog X.w).is s.heap ks a := by
  obtain ⟨its, r, ⟨o, ho, hc, n, hd⟩, _⟩ := I.tuple (SqT.of (K := X.K) h)
  exact ⟨o, its.toArray, n, ho, hc, hd, items_of (by simpa using r)⟩
noncomputable def rSetC (K : PySem.W.Frag) (w : World) : List V → Hp → VK → Prop := fun xs H Q => ∃ (l : Addr) (ps : Prs), xs = [.ref l] ∧ SqL K H l (refs ps) ∧ (∀ q ∈ ps, H q.1 = some (.tup (q.2.map V.int))) ∧ ps.length ≤ 4900 ∧
  ∀ (S : Addr) (es : List (List Int × Addr)), H S = none → (es.map (·.1)).Nodup → (∀ k, k ∈ es.map (·.1) ↔ k ∈ ps.map (·.2)) → (∀ x ∈ es, H x.2 = some (.tup (x.1.map V.int))) → Q (.ref S) (upd H S (SetO w S es))
theorem call_setCC (hc : X.calm = true) (hu : X.A.units + 64 < cLine) : CallR X (.type "set") (rSetC X.K X.w) := by
  intro pins s σ H xs us Q I r h
  obtain ⟨l, ps, rfl, hl, hp, hz, q⟩ := h
  obtain ⟨u, rfl, ru⟩ := vals1 r
  cases ru
  obtain ⟨its, rv, pl, hzz⟩ := I.list hl
  have hi : its = ps.map fun p => Value.ref p.1 := by
    clear hp hz q hl pl hzz
    induction ps generalizing its with
    | nil => have rv : Vals [] its := rv; cases rv; rfl
    | cons p ps ih =>
      have rv : Vals (V.ref p.1 :: refs ps) its := rv
      cases rv with
      | cons r1 r2 => cases r1; rw [List.map_cons, ih _ r2]
  refine call_setC (ys := ps.map fun p => (p.2, p.1)) (I.ok.hd hc) (by lia) pl.isList (by rw [List.map_map, List.toList_toArray]; exact hi) (by rw [List.length_map]; exact hz) (fun y hy => ?_) fun h' tk hS hsz hk => ?_
  · obtain ⟨p, hpm, rfl⟩ := List.mem_map.mp hy
    exact tk_of I (hp p hpm)
  obtain ⟨o, es, ep, t, xs, J, j1, j2, j3, j4, j5, j6⟩ := hS
  rw [List.take_of_length_le (Nat.le_refl _), List.map_map] at j3
  refine ⟨.ref s.heap.objs.size, _, Fl.inv_laidN (t' := tk) I (fun b o e => hk b o (Heap.lt_size e) e) (by cases z : s.heap.get? s.heap.objs.size with
    | none => rfl
    | some o => exact absurd (Heap.lt_size z) (Nat.lt_irrefl _)) (setO_ok ⟨o, es, ep, t, J, j1, j2⟩), rfl, q _ xs I.fresh j6 j3 fun x hx => ?_⟩
  obtain ⟨p, hpm, e⟩ := List.mem_map.mp (j4 x hx)
  rw [← e]
  exact hp p hpm
theorem qc_setC {K : PySem.W.Frag} {w : World} (h : X.K = K) (hw : X.w = w) (hc : X.calm = true) (hu : X.A.units + 64 < cLine) : QCl X (.type "set") (rSetC K w) := ⟨h ▸ hw ▸ call_setCC hc hu⟩
theorem perm_maps {α β : Type} {f : α → β} : ∀ {l : List β} {xs : List α}, l.Perm (xs.map f) → ∃ ys : List α, l = ys.map f ∧ ys.Perm xs
  | [], xs, h => ⟨[], rfl, by have := h.length_eq; rw [List.length_map] at this; rw [List.length_eq_zero_iff.mp this.symm]⟩
  | b :: l, xs, h => by
    obtain ⟨a, ha, rfl⟩ := List.mem_map.mp (h.mem_iff.mp List.mem_cons_self)
    obtain ⟨u, v, rfl⟩ := List.append_of_mem ha
    have h2 : (f a :: l).Perm (f a :: (u ++ v).map f) := h.trans (by rw [List.map_append, List.map_cons, List.map_append]; exact List.perm_middle)
    obtain ⟨ys, e1, e2⟩ := perm_maps (List.Perm.cons_inv h2)
    exact ⟨a :: ys, by rw [List.map_cons, e1], (List.Perm.cons a e2).trans List.perm_middle.symm⟩
noncomputable def rSortS (w : World) : List V → Hp → VK → Prop := fun xs H Q => ∃ (S : Addr) (es : List (List Int × Addr)) (m : Nat), xs = [.ref S] ∧ H S = some (SetO w S es) ∧ (∀ x ∈ es, H x.2 = some (.tup (x.1.map V.int)) ∧ x.1.length = m + 1) ∧ es.length < 64 ∧
  ∀ (p : Addr) (zs : List V) (ks' : List (List Int)), H p = none → ks'.Perm (es.map (·.1)) → ks'.Pairwise (fun x y => HT.lexLt y x = false) → Rs IsT (upd H p (.lst zs)) zs ks' → Q (.ref p) (upd H p (.lst zs))
theorem call_sortS (hc : X.calm = true) : CallR X (.builtin "sorted") (rSortS X.w) := by
  intro pins s σ H xs us Q I r h
  obtain ⟨S, es, m, rfl, eS, hes, h64, q⟩ := h
  obtain ⟨u, rfl, ru⟩ := vals1 r
  cases ru
  obtain ⟨⟨o, ea, ep, t, J, _, _⟩, _⟩ := I.hok S _ eS
  have raw : SRaw X.w s.heap S ea ep t := ⟨⟨o, J.ho, J.ex, J.hd⟩, J.tok.rise, by have := J.tok.len; rw [List.length_map, Array.length_toList] at this; rw [this, J.sz], J.fits, J.led, J.pl⟩
  have hperm := wOrd_perm X.w S ep ea
  rw [J.he] at hperm
  obtain ⟨xs', e1, e2⟩ := perm_maps hperm
  have hxl : xs'.length ≤ 4915 := by
    have := J.tok.fit
    have := J.tok.turns
    rename_i g1 g2
    rw [e2.length_eq]
    lia
  have hn : ea.size ≤ sizeLine := by rw [J.sz, ← e2.length_eq, sizeLine_eq]; lia
  refine sorted_src (sraw_src (es := ea) (ep := ep) (t := t)) (I.ok.hd hc) raw hn fun h' tk vs kk hs hlv hv => ?_
  have ev : vs = xs'.map fun x => Value.ref x.2 := by
    refine List.ext_getElem? fun j => ?_
    rcases Nat.lt_or_ge j vs.length with hj | hj
    · have e := List.getElem?_eq_getElem hj
      obtain ⟨hv', hu⟩ := hv j _ e
      rw [← Array.getElem?_toList, e1, List.getElem?_map] at hu
      rw [e, List.getElem?_map]
      obtain ⟨x, hx, hxe⟩ := Option.map_eq_some_iff.mp hu
      rw [hx]
      have := congrArg Prod.snd hxe
      exact congrArg some this.symm
    · rw [List.getElem?_eq_none hj, List.getElem?_eq_none (by rw [List.length_map, e2.length_eq, ← J.sz]; lia)]
  subst ev
  have hx' : ∀ x ∈ xs', H x.2 = some (.tup (x.1.map V.int)) ∧ x.1.length = m + 1 := fun x hx => hes x (e2.mem_iff.mp hx)
  have rT : Rs IsT H (xs'.map fun x => V.ref x.2) (xs'.map (·.1)) := by
    clear hxl e1 e2 hlv hv
    induction xs' with
    | nil => exact .nil
    | cons x r ih => exact .cons ⟨x.2, rfl, (hx' x List.mem_cons_self).1⟩ (ih fun y hy => hx' y (List.mem_cons_of_mem _ hy))
  have rv : Vals (xs'.map fun x => V.ref x.2) (xs'.map fun x => Value.ref x.2) := by
    clear hxl e1 e2 hlv hv hx' rT
    induction xs' with
    | nil => exact .nil
    | cons x r ih => exact .cons rfl ih
  refine sort_laidT (m := m) I rT (fun k hk => ?_) (by rw [List.length_map, e2.length_eq]; exact h64) rv (by rw [List.length_map, sizeLine_eq]; lia) kk hs fun p zs ks' s' hp h1 h2 hcz I' e => ?_
  · obtain ⟨x, hx, rfl⟩ := List.mem_map.mp hk
    exact (hx' x hx).2
  · exact ⟨.ref p, _, I', by rw [e]; rfl, q p zs ks' hp (h1.trans (e2.map _)) h2 hcz⟩
theorem qc_sortS {w : World} (hw : X.w = w) (hc : X.calm = true) : QCl X (.builtin "sorted") (rSortS w) := ⟨hw ▸ call_sortS hc⟩
end
end L2
set_option Elab.async false
set_option linter.all false
set_option maxRecDepth 100000
set_option maxHeartbeats 4000000
namespace L2
open PySem PySem.W PySem.Spec PyProof.Rows Srt Pc
section
variable {X : Cx}
end
end L2
namespace Pc
open PySem L2 Srt
noncomputable def nb (c : C3) : List C3 := [⟨c.x - 1, c.y, c.z⟩, ⟨c.x, c.y - 1, c.z⟩, ⟨c.x, c.y, c.z - 1⟩, ⟨c.x, c.y, c.z + 1⟩, ⟨c.x, c.y + 1, c.z⟩, ⟨c.x + 1, c.y, c.z⟩]
inductive Rch (cs : List C3) (f : C3 → Int) (vs : List C3) : C3 → Prop
  | base {c : C3} : c ∈ vs → c ∈ cs → Rch cs f vs c
  | step {c d : C3} : Rch cs f vs c → d ∈ nb c → d ∈ cs → f d ≤ f c → Rch cs f vs d
noncomputable def Clo (cs : List C3) (f : C3 → Int) (ds : List C3) (c : C3) (ns : List C3) : Prop := ∀ d ∈ ns, d ∈ cs → f d ≤ f c → d ∈ ds
structure Fl (cs : List C3) (f : C3 → Int) (vs ds ws : List C3) (ex : C3 → Prop) : Prop where
  nd : ds.Nodup
  sound : ∀ c ∈ ds, Rch cs f vs c
  base : ∀ c ∈ vs, c ∈ cs → c ∈ ds
  sub : ∀ c ∈ ws, c ∈ ds
  clo : ∀ c ∈ ds, c ∉ ws → ¬ ex c → Clo cs f ds c (nb c)
section
variable {cs : List C3} {f : C3 → Int} {vs ds ws : List C3} {ex : C3 → Prop}
end
end Pc
set_option Elab.async false
set_option linter.all false
set_option maxRecDepth 100000
set_option maxHeartbeats 4000000
namespace Pc
open PySem L2 Srt
end Pc
set_option Elab.async false
set_option linter.all false
set_option maxRecDepth 100000
set_option maxHeartbeats 4000000
namespace Pc
open PySem L2 Srt
end Pc
set_option Elab.async false
set_option linter.all false
set_option maxRecDepth 100000
set_option maxHeartbeats 4000000
namespace Pc
open PySem L2 Srt
end Pc
set_option Elab.async false
set_option linter.all false
set_option maxRecDepth 100000
set_option maxHeartbeats 4000000
namespace Pc
open PySem L2 Srt
end Pc
set_option Elab.async false
set_option linter.all false
set_option maxRecDepth 100000
set_option maxHeartbeats 4000000
namespace Pc
open PySem L2 Srt
end Pc
namespace L2
end L2
namespace Pc
open PySem L2 Srt
end Pc
set_option Elab.async false
set_option linter.all false
set_option maxRecDepth 100000
set_option maxHeartbeats 4000000
namespace Pc
open PySem L2 Srt
end Pc
namespace Pc
open PySem L2 Srt
end Pc
set_option Elab.async false
set_option linter.all false
set_option maxRecDepth 100000
set_option maxHeartbeats 4000000
namespace Pc
open PySem L2 Srt
end Pc
set_option Elab.async false
set_option linter.all false
set_option maxRecDepth 100000
set_option maxHeartbeats 4000000
open PySem PySem.W
namespace L2
end L2
set_option Elab.async false
set_option linter.all false
set_option maxRecDepth 100000
set_option maxHeartbeats 4000000
namespace Pc
open PySem L2 Srt
noncomputable def rimB (cs : List C3) (c : C3) : Bool := !(nb c).all fun d => decide (d ∈ cs)
noncomputable def inr (cs : List C3) : List C3 := cs.filter fun c => !rimB cs c
end Pc
set_option Elab.async false
set_option linter.all false
set_option maxRecDepth 100000
set_option maxHeartbeats 4000000
namespace L2
open PySem PySem.W PySem.Spec PyProof.Rows Srt Pc
section
variable {prog : Program} {w : World} {A : Around} {E : Value → Shared → Prop} {s : Shared} {d : Addr} {es : Array DictEntry} {ep : Nat}
end
section
variable {X : Cx}
end
end L2
namespace Pc
open PySem L2 Srt
noncomputable def IsZ (lo hi : Int) : Hp → V → Unit → Prop := fun _ v _ => ∃ z : Int, v = .int z ∧ lo ≤ z ∧ z ≤ hi
noncomputable instance {lo hi : Int} : Rep (IsZ lo hi) := ⟨fun _ h => h, fun _ h => h⟩
theorem isZ3 {lo hi : Int} {H : Hp} : ∀ {zs : List V} {xs : List Unit}, Rs (IsZ lo hi) H zs xs → xs.length = 3 → ∃ a b c : Int, zs = [.int a, .int b, .int c] ∧ (lo ≤ a ∧ a ≤ hi) ∧ (lo ≤ b ∧ b ≤ hi) ∧ lo ≤ c ∧ c ≤ hi
  | zs, xs, h, hl => by
    cases h with
    | nil => cases hl
    | cons h1 h =>
      cases h with
      | nil => cases hl
      | cons h2 h =>
        cases h with
        | nil => cases hl
        | cons h3 h =>
          cases h with
          | nil =>
            obtain ⟨a, rfl, ha⟩ := h1
            obtain ⟨b, rfl, hb⟩ := h2
            obtain ⟨c, rfl, hc⟩ := h3
            exact ⟨a, b, c, rfl, ha, hb, hc⟩
          | cons _ _ => simp at hl
end Pc
set_option Elab.async false
set_option linter.all false
set_option maxRecDepth 100000
set_option maxHeartbeats 1000000
namespace Pc
open PySem L2 Srt Tx
theorem keys_cells {es : List (List Int)} {cs : List C3} (h : ∀ k, k ∈ es ↔ k ∈ cs.map C3.l) : ∃ ds : List C3, es = ds.map C3.l ∧ ∀ c, c ∈ ds ↔ c ∈ cs := by
  have : ∃ ds : List C3, es = ds.map C3.l := by
    have hm : ∀ k ∈ es, ∃ c : C3, k = c.l := fun k hk => by
      obtain ⟨c, _, e⟩ := List.mem_map.mp ((h k).mp hk)
      exact ⟨c, e.symm⟩
    clear h
    induction es with
    | nil => exact ⟨[], rfl⟩
    | cons x L ih =>
      obtain ⟨c, e⟩ := hm x (List.mem_cons_self ..)
      obtain ⟨ds, e2⟩ := ih fun y hy => hm y (List.mem_cons_of_mem _ hy)
      exact ⟨c :: ds, by rw [e, e2]; rfl⟩
  obtain ⟨ds, e⟩ := this
  refine ⟨ds, e, fun c => ?_⟩
  have q := h c.l
  rw [e] at q
  have inj : ∀ {xs : List C3}, c.l ∈ xs.map C3.l ↔ c ∈ xs := fun {xs} => by
    rw [List.mem_map]
    exact ⟨fun ⟨d, hd, e⟩ => C3.inj.mp e ▸ hd, fun hc => ⟨c, hc, rfl⟩⟩
  rw [inj, inj] at q
  exact q
theorem body_sorted {H : Hp} {zs : List V} {ks' es : List (List Int)} {cs : List C3} (hp : ks'.Perm es) (hs : ks'.Pairwise (fun x y => HT.lexLt y x = false)) (hr : Rs IsT H zs ks') (hn : es.Nodup) (hm : ∀ k, k ∈ es ↔ k ∈ cs.map C3.l) : Cs H zs (bodyC cs) := by
  obtain ⟨ds, e, hd⟩ := keys_cells (es := ks') (cs := cs) fun k => hp.mem_iff.trans (hm k)
  have hnd : ds.Nodup := by
    have := hp.nodup_iff.mpr hn
    rw [e] at this
    exact List.Pairwise.of_map _ (fun a b h z => h (by rw [z])) this
  have hasc : Asc ds := by
    rw [e] at hs
    exact (List.pairwise_map.mp hs).imp fun h => by unfold cle; rw [h]; rfl
  have eb : ds = bodyC cs := asc_ext hasc (bodyC_asc cs) hnd (bodyC_nodup cs) fun x => by rw [bodyC_mem]; exact hd x
  rw [← eb]
  subst e
  clear eb hasc hnd hd hs hp
  induction ds generalizing zs with
  | nil => cases hr; exact .nil
  | cons c ds ih =>
    cases hr with
    | cons h t => exact .cons h (ih t)
theorem cut_sub' {α : Type} (xs : List α) (lo hi : Option Int) : (cutX xs lo hi).Sublist xs := (List.take_sublist _ _).trans (List.drop_sublist _ _)
theorem keys_len {es : List (List Int)} {cs : List C3} (hn : es.Nodup) (h : ∀ k, k ∈ es ↔ k ∈ cs.map C3.l) : es.length = (bodyC cs).length := by
  obtain ⟨ds, e, hd⟩ := keys_cells h
  have nd : ds.Nodup := by
    rw [e] at hn
    exact List.Pairwise.of_map _ (fun a b h z => h (by rw [z])) hn
  have eb : bodyC ds = bodyC cs := asc_ext (bodyC_asc ds) (bodyC_asc cs) (bodyC_nodup ds) (bodyC_nodup cs) fun x => by rw [bodyC_mem, bodyC_mem]; exact hd x
  rw [← eb, bodyC_of_nodup nd, (srtC_perm ds).length_eq, e, List.length_map]
theorem strs_eq {H : Hp} : ∀ {zs : List V} {ts : List Str}, Rs IsS H zs ts → zs = ts.map V.str
  | _, _, .nil => rfl
  | _, _, .cons h t => by
    rw [strs_eq t, show _ = V.str _ from h]
    rfl
noncomputable def IsWd : Hp → V → List Nat × Int → Prop := fun _ v p => v = .str (mkS p.1) ∧ p ∈ words
noncomputable instance : Rep IsWd := ⟨fun _ h => h, fun _ h => h⟩
theorem bools_eq {H : Hp} : ∀ {zs : List V} {ts : List Bool}, Rs IsB H zs ts → zs = ts.map V.bl
  | _, _, .nil => rfl
  | _, _, .cons h t => by
    rw [bools_eq t, show _ = V.bl _ from h]
    rfl
noncomputable def IsLay : Hp → V → List (List Nat) → Prop := fun _ v l => v = .str (layTx l)
noncomputable instance : Rep IsLay := ⟨fun _ h => h, fun _ h => h⟩
noncomputable def IsRow : Hp → V → List Nat → Prop := fun _ v l => v = .str (mkS l)
noncomputable instance : Rep IsRow := ⟨fun _ h => h, fun _ h => h⟩
theorem rs_lays {H : Hp} : ∀ ls : List (List (List Nat)), Rs IsLay H ((ls.map layTx).map V.str) ls
  | [] => .nil
  | _ :: ls => .cons rfl (rs_lays ls)
theorem lays_eq {H : Hp} : ∀ {zs : List V} {ls : List (List (List Nat))}, Rs IsLay H zs ls → zs = (ls.map layTx).map V.str
  | _, _, .nil => rfl
  | _, _, .cons h t => by
    rw [lays_eq t, show _ = V.str (layTx _) from h]
    rfl
theorem rs_rows {H : Hp} : ∀ ls : List (List Nat), Rs IsRow H ((ls.map mkS).map V.str) ls
  | [] => .nil
  | _ :: ls => .cons rfl (rs_rows ls)
theorem zipR_at {α : Type} {xs : List α} {n i j : Nat} {x : α} (h : ((List.range n).zip xs)[i]? = some (j, x)) : i = j ∧ xs[i]? = some x := by
  rw [List.getElem?_zip_eq_some] at h
  obtain ⟨h1, h2⟩ := h
  have hi : i < n := by
    have := (List.getElem?_eq_some_iff.mp h1).1
    simpa using this
  rw [List.getElem?_range hi] at h1
  exact ⟨Option.some.inj h1, h2⟩
theorem rng_at {lo : Int} {n i : Nat} {x : Int} (h : ((List.range n).map fun i : Nat => lo + (i : Int))[i]? = some x) : x = lo + (i : Int) ∧ i < n := by
  have hi : i < n := by
    have := (List.getElem?_eq_some_iff.mp h).1
    simpa using this
  rw [List.getElem?_map, List.getElem?_range hi] at h
  exact ⟨(Option.some.inj h).symm, hi⟩
theorem upd_comm {H : Hp} {a b : Addr} {o u : HO} (h : a ≠ b) : upd (upd H b o) a u = upd (upd H a u) b o := by
  funext x
  unfold upd
  by_cases h1 : x = a
  · rw [if_pos h1, if_neg (fun z => h (h1.symm.trans z)), if_pos h1]
  · rw [if_neg h1]
    by_cases h2 : x = b
    · rw [if_pos h2, if_pos h2]
    · rw [if_neg h2, if_neg h2, if_neg h1]
theorem cut_rs {α : Type} {R : Hp → V → α → Prop} {H : Hp} {ys : List V} {xs : List α} (lo hi : Option Int) (h : Rs R H ys xs) : Rs R H (cutV ys lo hi) (cutX xs lo hi) := by
  have e := h.len
  unfold cutV cutX
  rw [e]
  exact Rs.take _ (Rs.drop _ h)
noncomputable def IsSm : Hp → V → Unit → Prop := fun H v _ => ∃ p ys ds, v = .ref p ∧ H p = some (.lst ys) ∧ Cs H ys ds ∧ ds.Nodup ∧ (∀ c ∈ ds, c.within 7) ∧ ds.length ≤ 45
theorem IsSm.up {H H' : Hp} {v : V} {x : Unit} (s : Same H H') (h : IsSm H v x) : IsSm H' v x := let ⟨p, ys, ds, e, q, r, z⟩ := h; ⟨p, ys, ds, e, s _ _ q, Rs.up s r, z⟩
noncomputable def axI (k : Int) : Ax := if k = 0 then .x else if k = 1 then .y else .z
theorem axI_at (k : Int) (c : C3) : (axI k).at c = if k = 0 then c.x else if k = 1 then c.y else c.z := by
  unfold axI
  split
  · rfl
  · split <;> rfl
theorem st3 {l : St} (h : l.length = 3) : ∃ a b c, l = [a, b, c] := by
  cases l with
  | nil => cases h
  | cons a l =>
  cases l with
  | nil => cases h
  | cons b l =>
  cases l with
  | nil => cases h
  | cons c l =>
  cases l with
  | nil => exact ⟨a, b, c, rfl⟩
  | cons _ _ => cases h
theorem cut_45 (ns : List Int) : (cutX ns (some 3) (some 48)).length ≤ 45 := by
  unfold cutX
  rw [List.length_take]
  have h1 : HT.sIx ns.length ns.length (some 48) ≤ 48 := by simp [HT.sIx]; lia
  have h2 : HT.sIx ns.length 0 (some 3) = min 3 ns.length := by simp [HT.sIx]
  have h3 : HT.sIx ns.length ns.length (some 48) ≤ ns.length := by simp [HT.sIx]; lia
  lia
theorem rngD {y0 y1 : Int} (h0 : -60 ≤ y0) (h1 : y0 ≤ y1) (h2 : y1 ≤ 60) : Builtin.Range.small y1 (y0 - 1) (-1) = true ∧ Builtin.Range.rangeSize y1 (y0 - 1) (-1) = ((y1 - y0 + 1).toNat : Int) := by
  have hb : Builtin.Range.rangeSize y1 (y0 - 1) (-1) = ((y1 - y0 + 1).toNat : Int) := by
    unfold Builtin.Range.rangeSize
    rw [if_neg (by decide)]
    have : (y1 - (y0 - 1) - 1) / - -1 = y1 - y0 := by rw [show (- -1 : Int) = 1 from rfl, Int.ediv_one]; lia
    rw [this]
    split <;> lia
  refine ⟨?_, hb⟩
  simp only [Builtin.Range.small, Builtin.Range.rangeFitsLong, Bool.and_eq_true, Bool.or_eq_true, decide_eq_true_eq]
  rw [if_neg (by decide)]
  simp only [Bool.and_eq_true, decide_eq_true_eq]
  exact ⟨⟨⟨⟨by lia, by lia⟩, by lia⟩, by omega⟩, .inr (by lia)⟩
structure Fit (a b : Int) : Prop where
  lo : -60 ≤ a
  le : a ≤ b
  hi : b ≤ 60
  few : b - a ≤ 14
theorem Wr.fit {cs : List C3} (h : Wr cs) (hn : cs ≠ []) (ax : Ax) : Fit (loA ax cs) (hiA ax cs) := by
  have h1 := (h.wd hn ax).1
  unfold Tx.wd at h1
  exact ⟨(h.lo hn ax).1, lo_hi hn ax, (h.hi hn ax).2, by lia⟩
noncomputable def lyT (ms : List C3) (x0 x1 y0 y1 z : Int) : List (List Nat) := layT (fun n e => decide ((⟨x0 + e, y0 + n, z⟩ : C3) ∈ ms)) (x1 - x0 + 1).toNat (y1 - y0 + 1).toNat
noncomputable def spLayer (K : PySem.W.Frag) : Sp := fun vs H Q _ => ∃ (d wa de : Addr) (x0 x1 y0 y1 z : Int) (ms : List C3), vs = [.ref d, .ref wa, .ref de, .int z] ∧ Marks H d ms ∧ H wa = some (.tup [.int x0, .int x1]) ∧ H de = some (.tup [.int y0, .int y1]) ∧ Fit x0 x1 ∧ Fit y0 y1 ∧ ∀ H', Same H H' → Q (.str (layTx (lyT ms x0 x1 y0 y1 z))) H'
noncomputable def spShown (K : PySem.W.Frag) : Sp := fun vs H Q _ => ∃ (a : Addr) (ys : List V) (cs : List C3), vs = [.ref a] ∧ SqL K H a ys ∧ Cs H ys cs ∧ Wr cs ∧ ∀ H', Same H H' → Q (.str (textC cs)) H'
noncomputable def spNumOf : Sp := fun vs H Q _ => ∃ p ∈ words, vs = [.str (mkS p.1)] ∧ ∀ H', Same H H' → Q (.int p.2) H'
noncomputable def spThree : Sp := fun vs H Q _ => ∃ a b c, vs = [.str (headTx a b c), .str " "] ∧ N60 a ∧ N60 b ∧ N60 c ∧ ∀ p H', Same H H' → H' p = some (.tup [.int a, .int b, .int c]) → Q (.ref p) H'
noncomputable def spCorner : Sp := fun vs H Q _ => ∃ a b c, vs = [.str (headTx a b c)] ∧ N60 a ∧ N60 b ∧ N60 c ∧ ∀ p H', Same H H' → H' p = some (.tup [.int a, .int b, .int c]) → Q (.ref p) H'
noncomputable def spDrawnT (K : PySem.W.Frag) : Sp := fun vs H Q _ => ∃ (cn : Addr) (c0 : C3) (ls : List (List (List Nat))), vs = [.ref cn, .str (laysTx ls)] ∧ H cn = some (.tup c0.v) ∧ Draw ls ∧
  ∀ p zs ds H', Same H H' → H p = none → H' p = some (.lst zs) → Cs H' zs ds → ds.length ≤ 3375 → (∀ c, c ∈ ds ↔ ∃ u n e, Drw ls u n e ∧ c = pt3 c0 u n e) → Q (.ref p) H'
noncomputable def spFewN (K : PySem.W.Frag) : Sp := fun vs H Q _ => ∃ (a : Addr) (ys : List V), vs = [.ref a] ∧ H a = some (.lst ys) ∧ ys.length ≤ 600 ∧ ∀ H', Same H H' → Q (.ref a) H'
noncomputable def spBodyN (K : PySem.W.Frag) : Sp := fun vs H Q _ => ∃ (a : Addr) (ys : List V) (cs : List C3), vs = [.ref a] ∧ SqL K H a ys ∧ Cs H ys cs ∧ cs.length ≤ 4900 ∧ (∀ c ∈ cs, c.within 60) ∧ (bodyC cs).length < 64 ∧
  ∀ p zs H', Same H H' → H p = none → H' p = some (.lst zs) → Cs H' zs (bodyC cs) → Q (.ref p) H'
noncomputable def spReadT : Sp := fun vs H Q _ => ∃ (cs : List C3), vs = [.str (textC cs)] ∧ Wr cs ∧ ∀ p zs H', Same H H' → H p = none → H' p = some (.lst zs) → Cs H' zs cs → Q (.ref p) H'
noncomputable def spRightT (K : PySem.W.Frag) : Sp := fun vs H Q _ => ∃ (a : Addr) (ys : List V) (cs : List C3), vs = [.ref a] ∧ H a = some (.lst ys) ∧ Cs H ys cs ∧ Wr cs ∧ ∀ H', Same H H' → Q (.bl true) H'
noncomputable def mvT (i j k : Int) (c : C3) : C3 := ⟨c.x + i, c.y + j, c.z + k⟩
noncomputable def spMovedB (K : PySem.W.Frag) : Sp := fun vs H Q _ => ∃ (a b : Addr) (ys : List V) (cs : List C3) (i j k : Int), vs = [.ref a, .ref b] ∧ SqL K H a ys ∧ Cs H ys cs ∧ cs.length ≤ 45 ∧ SqL K H b [.int i, .int j, .int k] ∧
  ∀ p zs H', Same H H' → H p = none → H' p = some (.lst zs) → Cs H' zs (srtC (cs.map (mvT i j k))) → Q (.ref p) H'
theorem mv_wr {cs : List C3} {i j k : Int} (nd : cs.Nodup) (w : ∀ c ∈ cs, c.within 7) (hl : cs.length ≤ 45) (hi : -53 ≤ i ∧ i ≤ 53) (hj : -53 ≤ j ∧ j ≤ 53) (hk : -53 ≤ k ∧ k ≤ 53) : Wr (srtC (cs.map (mvT i j k))) where
  asc := srtC_asc _
  nd := srtC_nodup (by
    refine List.pairwise_map.mpr (nd.imp ?_)
    intro a b ne e
    apply ne
    obtain ⟨a1, a2, a3⟩ := a
    obtain ⟨b1, b2, b3⟩ := b
    simp only [mvT, C3.mk.injEq] at e
    simp only [C3.mk.injEq]
    lia)
  near := fun c hc => by
    obtain ⟨d, hd, rfl⟩ := List.mem_map.mp ((srtC_perm _).mem_iff.mp hc)
    obtain ⟨⟨a1, a2⟩, ⟨b1, b2⟩, c1, c2⟩ := w d hd
    simp only [C3.within, mvT]
    lia
  len := by
    rw [(srtC_perm _).length_eq, List.length_map]
    exact hl
  few := fun ax c hc d hd => by
    obtain ⟨c', hc', rfl⟩ := List.mem_map.mp ((srtC_perm _).mem_iff.mp hc)
    obtain ⟨d', hd', rfl⟩ := List.mem_map.mp ((srtC_perm _).mem_iff.mp hd)
    obtain ⟨⟨a1, a2⟩, ⟨b1, b2⟩, e1, e2⟩ := w c' hc'
    obtain ⟨⟨f1, f2⟩, ⟨g1, g2⟩, h1, h2⟩ := w d' hd'
    cases ax <;> simp only [Ax.at, mvT] <;> lia
theorem lays_ly {cs : List C3} : laysOf cs = (List.range (wd .z cs)).map fun u : Nat => lyT cs (loA .x cs) (hiA .x cs) (loA .y cs) (hiA .y cs) (loA .z cs + u) := rfl
theorem ly_ok {ms : List C3} {x0 x1 y0 y1 z : Int} (h1 : Fit x0 x1) (h2 : Fit y0 y1) : LayOk (lyT ms x0 x1 y0 y1 z) := by
  have a1 := h1.few
  have a2 := h1.le
  have b1 := h2.few
  have b2 := h2.le
  exact lay_ok (by lia) (by lia) (by lia)
theorem ly_rows {ms : List C3} {x0 x1 y0 y1 z : Int} (h2 : Fit y0 y1) : (List.range (y1 - y0 + 1).toNat).map (fun i : Nat => rowT (fun e => decide ((⟨x0 + e, y1 + (i : Int) * (-1), z⟩ : C3) ∈ ms)) (x1 - x0 + 1).toNat) = lyT ms x0 x1 y0 y1 z := by
  unfold lyT layT
  refine List.ext_getElem? fun i => ?_
  by_cases hi : i < (y1 - y0 + 1).toNat
  · rw [List.getElem?_reverse (by simpa using hi)]
    rw [List.getElem?_map, List.getElem?_range hi, List.getElem?_map, List.length_map, List.length_range, List.getElem?_range (by omega)]
    simp only [Option.map_some, Option.some.injEq]
    congr 1
    funext e
    have : y0 + (((y1 - y0 + 1).toNat - 1 - i : Nat) : Int) = y1 + (i : Int) * (-1) := by lia
    rw [this]
  · rw [List.getElem?_eq_none (by simpa using hi), List.getElem?_eq_none (by simpa using hi)]
theorem row_snoc {f : Nat → Bool} {k : Nat} : rowT f (k + 1) = rowT f k ++ [if f k then 35 else 46] := by
  unfold rowT
  rw [List.range_succ, List.map_append]
  rfl
theorem layT_succ {f : Nat → Nat → Bool} {w d : Nat} : layT f w (d + 1) = rowT (f d) w :: layT f w d := by
  unfold layT
  rw [List.range_succ, List.map_append, List.reverse_append]
  rfl
end Pc
set_option Elab.async false
set_option linter.all false
set_option maxRecDepth 100000
set_option maxHeartbeats 4000000
local macro_rules | `(tactic| walk_at "lk") => `(tactic| first | assumption | exact L2.upd_same | ((apply L2.lk_old); (assumption); (walk_at "lk")) | ((apply L2.lk_same); (assumption); (walk_at "lk")) | ((apply L2.lk_ne); (assumption); (walk_at "lk")))
local macro_rules | `(tactic| walk_at "sq") => `(tactic| first | assumption | ((with_reducible apply L2.SqL.of); (walk_at "lk")) | ((with_reducible apply L2.SqT.of); (walk_at "lk")) | ((with_reducible apply L2.sqL_new); (assumption); (walk_at "sq")) | ((with_reducible apply L2.sqT_new); (assumption); (walk_at "sq")) | ((with_reducible apply L2.Same.seq); (assumption); (walk_at "sq")) | ((with_reducible apply L2.sqT_up); (assumption); (walk_at "sq")))
local macro_rules | `(tactic| walk_at "sz") => `(tactic| first | exact Pc.le0 | exact Pc.le1 | exact Pc.le2 | exact Pc.le3 | exact Pc.le4 | exact Pc.le5 | exact Pc.le6)
local macro_rules | `(tactic| walk_at "rd1") => `(tactic| first
  | (with_reducible (first | refine L2.rd_seq ?_ | refine L2.rd_asg ?_ | refine L2.rd_gname ?_))
  | ((with_reducible apply L2.rd_var); (exact rfl))
  | (with_reducible (first | refine L2.rd_c ?_ | refine L2.rd_op ?_ | refine L2.rd_un ?_ | refine L2.rd_i0 ?_))
  | ((with_reducible refine L2.rd_mod ?_ ?_); (first | decide | lia))
  | ((with_reducible refine L2.rd_fdiv ?_ ?_); (first | decide | (constructor <;> lia)))
  | ((with_reducible refine L2.rd_mulR ?_ ?_); (first | decide | (constructor <;> lia)))
  | (with_reducible (first | refine L2.rd_u ?_ | refine L2.rd_eqI ?_ | refine L2.rd_neI ?_ | refine L2.rd_eqS ?_ | refine L2.rd_neS ?_ | refine L2.rd_test ?_ | refine L2.rd_tb ?_ | refine L2.rd_bl ?_ | refine L2.rd_ifs ?_ | refine L2.rd_ifx ?_ | refine L2.rd_and ?_ | refine L2.rd_or ?_ | refine L2.rd_not ?_ | refine L2.rd_andV ?_ | refine L2.rd_notV ?_ | refine L2.rd_next ?_ | refine L2.rd_ret ?_ | refine L2.rd_drop ?_ | refine L2.rd_nil ?_ | refine L2.rd_cons ?_ | refine L2.rd_tup ?_ | refine L2.rd_lst ?_ | refine L2.rd_call ?_ | refine L2.rd_cb ?_ | refine L2.rd_bm ?_ | refine L2.rd_sl ?_ | refine L2.rd_nop ?_ | refine L2.rd_part ?_ | refine L2.rd_int ?_))
  | ((with_reducible apply L2.rd_ixLn); (walk_at "sq"); (exact rfl))
  | ((with_reducible apply L2.rd_ixTn); (walk_at "sq"); (exact rfl))
  | (with_reducible (first | refine L2.rd_true ?_ | refine L2.rd_false ?_ | refine L2.rd_ntrue ?_ | refine L2.rd_nfalse ?_))
  | ((with_reducible apply L2.rd_gtup); (walk_at "sq"); (exact rfl))
  | (with_reducible (first | refine L2.rd_gnil ?_ | refine L2.rd_gcons ?_ | refine L2.rd_intB ?_ | refine L2.rd_abs ?_ | refine L2.rd_isII ?_ | refine L2.rd_isIB ?_))
  | ((with_reducible apply L2.rd_isTT); (walk_at "lk"))
  | ((with_reducible apply L2.rd_isLL); (walk_at "lk"))
  | ((with_reducible apply L2.rd_lenL); (walk_at "sq"))
  | ((with_reducible apply L2.rd_listL); (walk_at "sq"))
  | ((with_reducible apply L2.rd_tupL); (walk_at "sq"))
  | ((with_reducible apply L2.rd_sll); (walk_at "sq"))
  | (with_reducible (first | refine L2.rd_for ?_ | refine L2.rd_comp ?_ | refine L2.rd_ilist ?_ | refine L2.rd_itup ?_))
  | ((with_reducible apply L2.rd_il); (walk_at "sq"))
  | ((with_reducible apply L2.rd_it); (walk_at "sq"))
  | with_reducible refine L2.rd_irng1 ?_
  | ((with_reducible refine L2.rd_ir1 ?_ ?_ ?_); (first | decide | lia); (first | decide | lia))
  | with_reducible refine L2.rd_irng2 ?_
  | ((with_reducible refine L2.rd_ir2 ?_ ?_); (first | decide | lia))
  | (with_reducible (first | refine L2.rd_isNr ?_ | refine L2.rd_irng3 ?_ | refine L2.rd_dput ?_ | refine L2.rd_din ?_ | refine L2.rd_dnewT ?_ | refine L2.rd_truthx ?_ | refine L2.rd_istr ?_ | refine L2.rd_isS ?_ | refine L2.rd_ienumL ?_ | refine L2.rd_ienumS ?_ | refine L2.rd_ienumV ?_ | refine L2.rd_notNi ?_)))
local macro_rules | `(tactic| walk_at "rd") => `(tactic| repeat walk_at "rd1")
local macro_rules | `(tactic| walk_at "rdE") => `(tactic| repeat (first
  | (with_reducible (first | refine L2.rd_asg ?_ | refine L2.rd_gname ?_))
  | ((with_reducible apply L2.rd_var); (exact rfl))
  | (with_reducible (first | refine L2.rd_c ?_ | refine L2.rd_op ?_ | refine L2.rd_i0 ?_))
  | ((with_reducible refine L2.rd_mod ?_ ?_); (first | decide | lia))
  | ((with_reducible refine L2.rd_fdiv ?_ ?_); (first | decide | (constructor <;> lia)))
  | (with_reducible (first | refine L2.rd_int ?_ | refine L2.rd_next ?_))))
namespace P11
open PySem L2 Srt Pc
noncomputable def top (i : Nat) : Stmt := PySem.Challenge.pw_pourhall_k11_bodies_as_text.main.body.getD i (.Pass ⟨0, 0, 0, 0⟩)
noncomputable abbrev s_is_whole : Stmt := top 3
noncomputable abbrev s_is_near : Stmt := top 4
noncomputable abbrev s_is_cell : Stmt := top 5
noncomputable abbrev s_along : Stmt := top 6
noncomputable abbrev s_refuse_other_things : Stmt := top 14
noncomputable abbrev s_few_enough : Stmt := top 15
noncomputable abbrev s_body_of : Stmt := top 16
noncomputable abbrev s_span : Stmt := top 17
noncomputable abbrev s_marked : Stmt := top 18
noncomputable abbrev s_layer_shown : Stmt := top 25
noncomputable abbrev s_shown : Stmt := top 26
noncomputable abbrev s_number_of : Stmt := top 27
noncomputable abbrev s_three_numbers : Stmt := top 28
noncomputable abbrev s_corner_of : Stmt := top 29
noncomputable abbrev s_cells_drawn : Stmt := top 30
noncomputable abbrev s_body_drawn : Stmt := top 31
noncomputable abbrev s_read : Stmt := top 32
noncomputable abbrev s__law_cell_at : Stmt := top 34
noncomputable abbrev s__law_mix : Stmt := top 35
noncomputable abbrev s__law_step : Stmt := top 36
noncomputable abbrev s__law_drawn : Stmt := top 37
noncomputable abbrev s__law_moved : Stmt := top 38
noncomputable abbrev s__law_text : Stmt := top 39
noncomputable abbrev s__law_whole : Stmt := top 40
noncomputable abbrev s__law_right : Stmt := top 41
noncomputable abbrev s_law : Stmt := top 42
set_option genInjectivity false in
set_option genSizeOf false in
structure Ad where
  a_PLACES : Addr
  f_is_whole : Addr
  d_is_whole : FuncData
  f_is_near : Addr
  d_is_near : FuncData
  f_is_cell : Addr
  d_is_cell : FuncData
  f_along : Addr
  d_along : FuncData
  f_refuse_other_things : Addr
  d_refuse_other_things : FuncData
  f_few_enough : Addr
  d_few_enough : FuncData
  f_body_of : Addr
  d_body_of : FuncData
  f_span : Addr
  d_span : FuncData
  f_marked : Addr
  d_marked : FuncData
  f_layer_shown : Addr
  d_layer_shown : FuncData
  f_shown : Addr
  d_shown : FuncData
  f_number_of : Addr
  d_number_of : FuncData
  f_three_numbers : Addr
  d_three_numbers : FuncData
  f_corner_of : Addr
  d_corner_of : FuncData
  f_cells_drawn : Addr
  d_cells_drawn : FuncData
  f_body_drawn : Addr
  d_body_drawn : FuncData
  f_read : Addr
  d_read : FuncData
  f__law_cell_at : Addr
  d__law_cell_at : FuncData
  f__law_mix : Addr
  d__law_mix : FuncData
  f__law_step : Addr
  d__law_step : FuncData
  f__law_drawn : Addr
  d__law_drawn : FuncData
  f__law_moved : Addr
  d__law_moved : FuncData
  f__law_text : Addr
  d__law_text : FuncData
  f__law_whole : Addr
  d__law_whole : FuncData
  f__law_right : Addr
  d__law_right : FuncData
  f_law : Addr
  d_law : FuncData
structure All (K : PySem.W.Frag) (w : World) (mg : Str → Option Value) (ad : Ad) : Prop where
  m_PLACES : mg "PLACES" = some (.ref ad.a_PLACES)
  t_PLACES : TopD K w ad.a_PLACES plD
  m_FARTHEST : ∃ t, mg "FARTHEST" = some (.int 60 t)
  m_MOST_CELLS : ∃ t, mg "MOST_CELLS" = some (.int 600 t)
  m_NO_CELLS : ∃ t, mg "NO_CELLS" = some (.str "none" t)
  m_FULL : ∃ t, mg "FULL" = some (.str "#" t)
  m_BARE : ∃ t, mg "BARE" = some (.str "." t)
  m_FIGURES : ∃ t, mg "FIGURES" = some (.str "0123456789" t)
  m_MOST_FIGURES : ∃ t, mg "MOST_FIGURES" = some (.int 3 t)
  n_ValueError : mg "ValueError" = none
  n_abs : mg "abs" = none
  n_all : mg "all" = none
  n_bool : mg "bool" = none
  n_dict : mg "dict" = none
  n_enumerate : mg "enumerate" = none
  n_int : mg "int" = none
  n_isinstance : mg "isinstance" = none
  n_len : mg "len" = none
  n_list : mg "list" = none
  n_max : mg "max" = none
  n_min : mg "min" = none
  n_range : mg "range" = none
  n_reversed : mg "reversed" = none
  n_set : mg "set" = none
  n_sorted : mg "sorted" = none
  n_str : mg "str" = none
  n_tuple : mg "tuple" = none
  is_whole : Fn K mg "is_whole" s_is_whole ad.f_is_whole ad.d_is_whole ["thing"]
  is_near : Fn K mg "is_near" s_is_near ad.f_is_near ad.d_is_near ["thing"]
  is_cell : Fn K mg "is_cell" s_is_cell ad.f_is_cell ad.d_is_cell ["thing"]
  along : Fn K mg "along" s_along ad.f_along ad.d_along ["cell", "axis"]
  refuse_other_things : Fn K mg "refuse_other_things" s_refuse_other_things ad.f_refuse_other_things ad.d_refuse_other_things ["things"]
  few_enough : Fn K mg "few_enough" s_few_enough ad.f_few_enough ad.d_few_enough ["cells"]
  body_of : Fn K mg "body_of" s_body_of ad.f_body_of ad.d_body_of ["cells"]
  span : Fn K mg "span" s_span ad.f_span ad.d_span ["body", "axis"]
  marked : Fn K mg "marked" s_marked ad.f_marked ad.d_marked ["cells"]
  layer_shown : Fn K mg "layer_shown" s_layer_shown ad.f_layer_shown ad.d_layer_shown ["marks", "wide", "deep", "z"]
  shown : Fn K mg "shown" s_shown ad.f_shown ad.d_shown ["body"]
  number_of : Fn K mg "number_of" s_number_of ad.f_number_of ad.d_number_of ["word"]
  three_numbers : Fn K mg "three_numbers" s_three_numbers ad.f_three_numbers ad.d_three_numbers ["text", "sign"]
  corner_of : Fn K mg "corner_of" s_corner_of ad.f_corner_of ad.d_corner_of ["head"]
  cells_drawn : Fn K mg "cells_drawn" s_cells_drawn ad.f_cells_drawn ad.d_cells_drawn ["corner", "layers"]
  body_drawn : Fn K mg "body_drawn" s_body_drawn ad.f_body_drawn ad.d_body_drawn ["text"]
  read : Fn K mg "read" s_read ad.f_read ad.d_read ["text"]
  _law_cell_at : Fn K mg "_law_cell_at" s__law_cell_at ad.f__law_cell_at ad.d__law_cell_at ["_law_script", "_law_k"]
  _law_mix : Fn K mg "_law_mix" s__law_mix ad.f__law_mix ad.d__law_mix ["_law_cell", "_law_k"]
  _law_step : Fn K mg "_law_step" s__law_step ad.f__law_step ad.d__law_step ["_law_cell", "_law_number"]
  _law_drawn : Fn K mg "_law_drawn" s__law_drawn ad.f__law_drawn ad.d__law_drawn ["_law_cells", "_law_room"]
  _law_moved : Fn K mg "_law_moved" s__law_moved ad.f__law_moved ad.d__law_moved ["_law_cells", "_law_by"]
  _law_text : Fn K mg "_law_text" s__law_text ad.f__law_text ad.d__law_text ["_law_body"]
  _law_whole : Fn K mg "_law_whole" s__law_whole ad.f__law_whole ad.d__law_whole ["_law_number"]
  _law_right : Fn K mg "_law_right" s__law_right ad.f__law_right ad.d__law_right ["_law_body"]
  law : Fn K mg "law" s_law ad.f_law ad.d_law ["_law_script"]
section
variable {P : Program} {w : World} {K : PySem.W.Frag} {mg : Str → Option Value} {base : Heap} {ad : Ad}
theorem sc_is_whole : FnScope ["thing"] ["thing"] (defScope s_is_whole) := ⟨rfl, rfl, rfl, by decide +kernel, rfl, by decide +kernel, by decide +kernel⟩
theorem sc_is_near : FnScope ["thing"] ["thing"] (defScope s_is_near) := ⟨rfl, rfl, rfl, by decide +kernel, rfl, by decide +kernel, by decide +kernel⟩
theorem sc_is_cell : FnScope ["thing"] ["thing"] (defScope s_is_cell) := ⟨rfl, rfl, rfl, by decide +kernel, rfl, by decide +kernel, by decide +kernel⟩
theorem sc_along : FnScope ["cell", "axis"] ["cell", "axis"] (defScope s_along) := ⟨rfl, rfl, rfl, by decide +kernel, rfl, by decide +kernel, by decide +kernel⟩
theorem sc_refuse_other_things : FnScope ["things", "place", "thing"] ["things"] (defScope s_refuse_other_things) := ⟨rfl, rfl, rfl, by decide +kernel, rfl, by decide +kernel, by decide +kernel⟩
theorem sc_few_enough : FnScope ["cells"] ["cells"] (defScope s_few_enough) := ⟨rfl, rfl, rfl, by decide +kernel, rfl, by decide +kernel, by decide +kernel⟩
theorem sc_body_of : FnScope ["cells"] ["cells"] (defScope s_body_of) := ⟨rfl, rfl, rfl, by decide +kernel, rfl, by decide +kernel, by decide +kernel⟩
theorem sc_span : FnScope ["body", "axis", "numbers"] ["body", "axis"] (defScope s_span) := ⟨rfl, rfl, rfl, by decide +kernel, rfl, by decide +kernel, by decide +kernel⟩
theorem sc_marked : FnScope ["cells", "marks", "cell"] ["cells"] (defScope s_marked) := ⟨rfl, rfl, rfl, by decide +kernel, rfl, by decide +kernel, by decide +kernel⟩
theorem sc_layer_shown : FnScope ["marks", "wide", "deep", "z", "rows", "y", "signs"] ["marks", "wide", "deep", "z"] (defScope s_layer_shown) := ⟨rfl, rfl, rfl, by decide +kernel, rfl, by decide +kernel, by decide +kernel⟩
theorem sc_shown : FnScope ["body", "marks", "wide", "deep", "high", "x", "y", "z", "layers"] ["body"] (defScope s_shown) := ⟨rfl, rfl, rfl, by decide +kernel, rfl, by decide +kernel, by decide +kernel⟩
theorem sc_number_of : FnScope ["word", "figures"] ["word"] (defScope s_number_of) := ⟨rfl, rfl, rfl, by decide +kernel, rfl, by decide +kernel, by decide +kernel⟩
theorem sc_three_numbers : FnScope ["text", "sign", "numbers"] ["text", "sign"] (defScope s_three_numbers) := ⟨rfl, rfl, rfl, by decide +kernel, rfl, by decide +kernel, by decide +kernel⟩
theorem sc_corner_of : FnScope ["head", "corner"] ["head"] (defScope s_corner_of) := ⟨rfl, rfl, rfl, by decide +kernel, rfl, by decide +kernel, by decide +kernel⟩
theorem sc_cells_drawn : FnScope ["corner", "layers", "cells", "up", "layer", "north", "row", "east", "sign"] ["corner", "layers"] (defScope s_cells_drawn) := ⟨rfl, rfl, rfl, by decide +kernel, rfl, by decide +kernel, by decide +kernel⟩
theorem sc_body_drawn : FnScope ["text", "parts", "cells"] ["text"] (defScope s_body_drawn) := ⟨rfl, rfl, rfl, by decide +kernel, rfl, by decide +kernel, by decide +kernel⟩
theorem sc_read : FnScope ["text", "body"] ["text"] (defScope s_read) := ⟨rfl, rfl, rfl, by decide +kernel, rfl, by decide +kernel, by decide +kernel⟩
theorem sc__law_cell_at : FnScope ["_law_script", "_law_k"] ["_law_script", "_law_k"] (defScope s__law_cell_at) := ⟨rfl, rfl, rfl, by decide +kernel, rfl, by decide +kernel, by decide +kernel⟩
theorem sc__law_mix : FnScope ["_law_cell", "_law_k"] ["_law_cell", "_law_k"] (defScope s__law_mix) := ⟨rfl, rfl, rfl, by decide +kernel, rfl, by decide +kernel, by decide +kernel⟩
theorem sc__law_step : FnScope ["_law_cell", "_law_number", "_law_place", "_law_more"] ["_law_cell", "_law_number"] (defScope s__law_step) := ⟨rfl, rfl, rfl, by decide +kernel, rfl, by decide +kernel, by decide +kernel⟩
theorem sc__law_drawn : FnScope ["_law_cells", "_law_room", "_law_found", "_law_here", "_law_k", "_law_number"] ["_law_cells", "_law_room"] (defScope s__law_drawn) := ⟨rfl, rfl, rfl, by decide +kernel, rfl, by decide +kernel, by decide +kernel⟩
theorem sc__law_moved : FnScope ["_law_cells", "_law_by"] ["_law_cells", "_law_by"] (defScope s__law_moved) := ⟨rfl, rfl, rfl, by decide +kernel, rfl, by decide +kernel, by decide +kernel⟩
theorem sc__law_text : FnScope ["_law_body", "_law_least", "_law_most", "_law_spots", "_law_layers", "_law_z", "_law_rows", "_law_y", "_law_row", "_law_x"] ["_law_body"] (defScope s__law_text) := ⟨rfl, rfl, rfl, by decide +kernel, rfl, by decide +kernel, by decide +kernel⟩
theorem sc__law_whole : FnScope ["_law_number"] ["_law_number"] (defScope s__law_whole) := ⟨rfl, rfl, rfl, by decide +kernel, rfl, by decide +kernel, by decide +kernel⟩
theorem sc__law_right : FnScope ["_law_body", "_law_due", "_law_found", "_law_back", "_law_cell"] ["_law_body"] (defScope s__law_right) := ⟨rfl, rfl, rfl, by decide +kernel, rfl, by decide +kernel, by decide +kernel⟩
theorem sc_law : FnScope ["_law_script", "_law_by", "_law_cells", "_law_some"] ["_law_script"] (defScope s_law) := ⟨rfl, rfl, rfl, by decide +kernel, rfl, by decide +kernel, by decide +kernel⟩
end
end P11
namespace P11
open PySem L2 Srt Pc
section
variable {P : Program} {w : World} {K : PySem.W.Frag} {mg : Str → Option Value} {base : Heap} {ad : Ad}
theorem ok_is_whole (L : All K w mg ad) : FnOk P w K mg base CX0 1 ad.f_is_whole ad.d_is_whole ["thing"] spWhole := by
  refine L.is_whole.F.okQ sc_is_whole (fun vs H Q E h => ?_) (fun cdv A outer s H vs Q E hr h => ?_)
  · obtain ⟨x, rfl, _⟩ := h
    rfl
  obtain ⟨x, rfl, hs, k⟩ := h
  refine ⟨_, (qss_one (qs_ret (qe_and (qe_callB (qc_isI (K := K) rfl) rfl L.n_isinstance b_isinstance (qa_cons (qv 0) (qa_cons (qe_bltn (v := .ty "int") rfl L.n_int b_int rfl) qa_nil))) (qe_one (qe_not (qe_callB (qc_isI (K := K) rfl) rfl L.n_isinstance b_isinstance (qa_cons (qv 0) (qa_cons (qe_bltn (v := .ty "bool") rfl L.n_bool b_bool rfl) qa_nil)))))))), ?_⟩
  cases x with
  | non => exact ⟨_, rfl, _, _, _, false, rfl, .non, kit_non_int K, false, rfl, iteF k⟩
  | bl b => exact ⟨_, rfl, _, _, _, true, rfl, .bl b, kit_bool_int K, true, rfl, iteT ⟨_, rfl, _, _, _, true, rfl, .bl b, kit_bool_bool K, true, rfl, k⟩⟩
  | int i => exact ⟨_, rfl, _, _, _, true, rfl, .int i, kit_int_int K, true, rfl, iteT ⟨_, rfl, _, _, _, false, rfl, .int i, kit_int_bool K, false, rfl, k⟩⟩
  | str z => exact ⟨_, rfl, _, _, _, false, rfl, .str z, kit_str_int K, false, rfl, iteF k⟩
  | _ => cases hs
theorem ok_is_near (L : All K w mg ad) : FnOk P w K mg base CX0 2 ad.f_is_near ad.d_is_near ["thing"] spNear := by
  refine L.is_near.F.okQ sc_is_near (fun vs H Q E h => ?_) (fun cdv A outer s H vs Q E hr h => ?_)
  · obtain ⟨x, rfl, _⟩ := h
    rfl
  obtain ⟨x, rfl, hs, k⟩ := h
  refine ⟨_, (qss_one (qs_ret (qe_and (qe_call ((ok_is_whole L).mono (by decide)) hr rfl L.is_whole.m L.is_whole.F.kp L.is_whole.b .nil pass0 (qa_cons (qv 0) qa_nil)) (qe_one (qe_chain qo_le qo_le (qe_neg (qe_globI L.m_FARTHEST rfl)) (qv 0) (qe_globI L.m_FARTHEST rfl)))))), ?_⟩
  cases x with
  | non => exact ⟨_, rfl, _, rfl, rfl, false, rfl, iteF k⟩
  | bl b => exact ⟨_, rfl, _, rfl, rfl, false, rfl, iteF k⟩
  | str z => exact ⟨_, rfl, _, rfl, rfl, false, rfl, iteF k⟩
  | int i =>
    refine ⟨_, rfl, _, rfl, rfl, true, rfl, iteT ?_⟩
    refine ⟨60, rfl, _, rfl, _, _, rfl, rfl, _, rfl, ?_⟩
    have k : Q (.bl (decide (-60 ≤ i) && decide (i ≤ 60))) H := k
    cases e : decide (-60 ≤ i)
    · rw [e] at k
      exact iteF k
    · rw [e, Bool.true_and] at k
      exact iteT ⟨_, _, rfl, rfl, k⟩
  | _ => cases hs
theorem ok_is_cell (L : All K w mg ad) : FnOk P w K mg base CX0 3 ad.f_is_cell ad.d_is_cell ["thing"] (spCell K) := by
  refine L.is_cell.F.okQ sc_is_cell (fun vs H Q E h => ?_) (fun cdv A outer s H vs Q E hr h => ?_)
  · obtain ⟨x, rfl, _⟩ := h
    rfl
  obtain ⟨x, rfl, h⟩ := h
  refine ⟨_, (qss_cons (qs_if (QW.t (qw_or (qt_not (qt_val (qe_callB (qc_isI (K := K) rfl) rfl L.n_isinstance b_isinstance (qa_cons (qv 0) (qa_cons (qe_bltn (v := .ty "tuple") rfl L.n_tuple b_tuple rfl) qa_nil))))) (qw_or1 (qt_cmpR qo_ne (qe_callB (qc_len (K := K) rfl) rfl L.n_len b_len (qa_cons (qv 0) qa_nil)) qe_int (nomark _))))) (qss_one (qs_ret qe_bl)) qss_nil)
    (qss_one (qs_ret (qe_callB (qc_all (K := K) rfl rfl) rfl L.n_all b_all (qa_cons (qe_comp (N := ["number"]) ["number"] [] rfl rfl rfl rfl (qi_tup (K := K) rfl (qv 0)) (fun _ _ _ _ => (qg_name (i := 0) (by show (["number"] : List Str).Nodup; decide +kernel) rfl (Or.inl rfl))) (fun _ _ _ _ => qf_nil) (fun _ _ _ _ => (qe_call ((ok_is_near L).mono (by decide)) hr rfl L.is_near.m L.is_near.F.kp L.is_near.b .nil pass0 (qa_cons (qv 0) qa_nil)))) qa_nil))))), ?_⟩
  rcases h with ⟨a, xs, rfl, hS, hsm, hl4, k⟩ | ⟨⟨t, ty, hk⟩, k⟩
  · refine ⟨_, rfl, _, _, _, true, rfl, .tup hS, kit_tuple_tuple K, _, rfl, iteF ?_⟩
    refine ⟨_, rfl, a, _, rfl, .inr (SqT.of hS), rfl, _, rfl, ?_⟩
    by_cases h3 : xs.length = 3
    · rw [h3] at k ⊢
      refine iteF ?_
      refine ⟨_, rfl, a, rfl, ⟨_, SqT.of hS⟩, fun acc hacc => comp_turns (n := xs.length) (fun i σ' H' => (∃ o, σ' = [o]) ∧ Same H H' ∧ H' acc = some (.lst (((xs.take i).map nearV).map V.bl))) ?_ ?_ ?_⟩
      · exact ⟨⟨none, rfl⟩, same_nw (Same.refl H) hacc, upd_same⟩
      · rintro σ' H' ⟨_, s1, e1⟩
        rw [List.take_of_length_le (Nat.le_refl _)] at e1
        refine ⟨itt_stop (SqT.of (s1 _ _ hS)), acc, xs.map nearV, rfl, SqL.of e1, ?_⟩
        have e : (xs.map nearV).all id = (decide (3 = 3) && xs.all nearV) := by simp [List.all_map]
        rw [e]
        exact k H' s1
      · rintro i σ' H' hi ⟨⟨o, rfl⟩, s1, e1⟩
        refine ⟨itt_go (SqT.of (s1 _ _ hS)) hi, fun x H2 y => ?_⟩
        obtain ⟨rfl, ex⟩ := itt_yld (SqT.of (s1 _ _ hS)) y
        have sx : smp x = true := List.all_eq_true.mp hsm x (List.mem_of_getElem? ex)
        dsimp only [gName, tYes]
        refine iteT ?_
        refine ⟨_, rfl, x, rfl, sx, _, e1, ?_, ⟨_, rfl⟩, same_up s1 hacc, ?_⟩
        · rw [List.length_map, List.length_map, List.length_take]
          exact small1000 (by lia)
        · rw [upd_same, List.take_add_one, ex]
          simp
    · have e : (!decide (V.int (xs.length : Int) = V.int 3)) = true := by
        have : ¬ V.int (xs.length : Int) = V.int 3 := fun z => h3 (by have := V.int.inj z; lia)
        simp [this]
      rw [e]
      refine iteT ?_
      have q := k H (Same.refl H)
      rw [decide_eq_false h3] at q
      exact q
  · refine ⟨_, rfl, _, _, _, false, rfl, ty, hk, _, rfl, iteT ?_⟩
    exact k
theorem ok_along (L : All K w mg ad) : FnOk P w K mg base CX0 1 ad.f_along ad.d_along ["cell", "axis"] (spAlong K) := by
  refine L.along.F.okQ sc_along (fun vs H Q E h => ?_) (fun cdv A outer s H vs Q E hr h => ?_)
  · obtain ⟨a, ax, c, rfl, _⟩ := h
    rfl
  obtain ⟨a, ax, c, rfl, hS, k⟩ := h
  refine ⟨_, (qss_one (qs_ret (qe_ix (qx_tup (K := K) rfl) (qv 0) (qe_ix (qx_top (K := K) (w := w) rfl rfl) (qe_glob (v := .ref ad.a_PLACES) rfl L.m_PLACES rfl) (qv 1) (fun _ _ => rfl)) (fun _ _ => rfl)))), ?_⟩
  exact ⟨_, rfl, _, rfl, _, _, _, _, rfl, rfl, L.t_PLACES, mem_ax ax, a, _, _, _, rfl, rfl, hS, at_ax ax c, k⟩
theorem ok_refuse_other_things (L : All K w mg ad) : FnOk P w K mg base CX0 4 ad.f_refuse_other_things ad.d_refuse_other_things ["things"] (spRefuse K) := by
  refine L.refuse_other_things.F.okQ sc_refuse_other_things (fun vs H Q E h => ?_) (fun cdv A outer s H vs Q E hr h => ?_)
  · obtain ⟨a, ys, cs, rfl, _⟩ := h
    rfl
  obtain ⟨a, ys, cs, rfl, hS, hc, hl, hw, k⟩ := h
  refine ⟨_, (qss_one (qs_for PassesOwn.never rfl (qi_enumL (K := K) rfl rfl L.n_enumerate (qa_cons (qv 0) qa_nil)) (qg_tup (K := K) (n := 2) rfl rfl (qgs_cons (qg_name (i := 1) sc_refuse_other_things.nd rfl (Or.inl rfl)) (qgs_cons (qg_name (i := 2) sc_refuse_other_things.nd rfl (Or.inl rfl)) qgs_nil)))
      (qss_one (qs_if (qt_not (qt_val (qe_call ((ok_is_cell L).mono (by decide)) hr rfl L.is_cell.m L.is_cell.F.kp L.is_cell.b .nil pass0 (qa_cons (qv 2) qa_nil)))) (qss_one qs_never) qss_nil)))), ?_⟩
  walk_at "rd"
  refine ⟨a, rfl, ⟨_, hS⟩, ?_⟩
  refine for_feeds (R := IsN IsC) (H0 := H) (fun i σ H' => (∃ o1 o2, σ = [some (.ref a), o1, o2]) ∧ Same H H') (feeds_enumL hS hc) (fun _ _ _ q => q.2) ⟨⟨_, _, rfl⟩, Same.refl _⟩ ?_ ?_
  · rintro σ H' ⟨⟨o1, o2, rfl⟩, s1⟩
    exact k H' s1
  · rintro i ⟨j, c⟩ v σ H1 H' hi ex ⟨⟨o1, o2, rfl⟩, s1⟩ s2 ⟨t, u, rfl, et, b, rfl, eb⟩
    have hm : c ∈ cs := by
      have := List.mem_of_getElem? ex
      exact (List.of_mem_zip this).2
    have hwc := hw c hm
    walk_at "rd"
    refine ⟨_, rfl, .inl ⟨b, c.v, rfl, eb, rfl, by show 3 ≤ 4; decide, fun H2 s3 => ?_⟩⟩
    have ec : (decide (c.v.length = 3) && c.v.all nearV) = true := by
      obtain ⟨⟨a1, a2⟩, ⟨b1, b2⟩, ⟨c1, c2⟩⟩ := hwc
      obtain ⟨x, y, z⟩ := c
      dsimp only at *
      simp [C3.v, C3.l, nearV, near, a1, a2, b1, b2, c1, c2]
    rw [ec]
    walk_at "rd"
    exact ⟨⟨_, _, rfl⟩, s1.trans (s2.trans s3)⟩
theorem ok_few_enough (L : All K w mg ad) : FnOk P w K mg base CX0 1 ad.f_few_enough ad.d_few_enough ["cells"] (spFewN K) := by
  refine L.few_enough.F.okQ sc_few_enough (fun vs H Q E h => ?_) (fun cdv A outer s H vs Q E hr h => ?_)
  · obtain ⟨a, ys, rfl, _⟩ := h
    rfl
  obtain ⟨a, ys, rfl, hS, hl, k⟩ := h
  refine ⟨_, (qss_cons (qs_if (qt_cmpR qo_gt (qe_callB (qc_len (K := K) rfl) rfl L.n_len b_len (qa_cons (qv 0) qa_nil)) (qe_globI L.m_MOST_CELLS rfl) (nomark _)) (qss_one qs_never) qss_nil)
    (qss_one (qs_ret (qv 0)))), ?_⟩
  walk_at "rd"
  rw [decide_eq_false (show ¬ (600 : Int) < (ys.length : Int) by lia)]
  walk_at "rd"
  exact k H (Same.refl _)
theorem ok_body_of (L : All K w mg ad) : FnOk P w K mg base CX0 5 ad.f_body_of ad.d_body_of ["cells"] (spBodyN K) := by
  refine L.body_of.F.okQ sc_body_of (fun vs H Q E h => ?_) (fun cdv A outer s H vs Q E hr h => ?_)
  · obtain ⟨a, ys, cs, rfl, _⟩ := h
    rfl
  obtain ⟨a, ys, cs, rfl, hS, hc, hl, hin, h6, k⟩ := h
  refine ⟨_, (qss_cons (qs_expr (qe_call ((ok_refuse_other_things L).mono (by decide)) hr rfl L.refuse_other_things.m L.refuse_other_things.F.kp L.refuse_other_things.b .nil pass0 (qa_cons (qv 0) qa_nil)))
    (qss_one (qs_ret (qe_call ((ok_few_enough L).mono (by decide)) hr rfl L.few_enough.m L.few_enough.F.kp L.few_enough.b .nil pass0 (qa_cons (qe_callB (qc_sortS (w := w) rfl rfl) rfl L.n_sorted b_sorted (qa_cons (qe_callTy (qc_setC (K := K) (w := w) rfl rfl rfl hr.units) rfl L.n_set b_set (qa_cons (qv 0) qa_nil)) qa_nil)) qa_nil))))), ?_⟩
  walk_at "rd"
  refine ⟨a, ys, cs, rfl, hS, hc, by lia, hin, fun H1 s1 => ?_⟩
  have hcs := Rs.up s1 hc
  obtain ⟨ps, e1, e2, e3, e4⟩ := prs_of (K := K) hcs
  have hpl : ps.length = cs.length := by have := congrArg List.length e2; simpa using this
  walk_at "rd"
  refine ⟨a, ps, rfl, by rw [← e1]; exact s1.seq hS, e4, by lia, fun S es hSn hnd hm hes => ?_⟩
  have sS := same_new (o := SetO w S es) hSn
  walk_at "rd"
  have hlen64 : es.length < 64 := by
    have := keys_len hnd (cs := cs) (fun k => by rw [hm k, e2])
    rw [List.length_map] at this
    lia
  refine ⟨S, es, 2, rfl, upd_same, fun x hx => ⟨sS _ _ (hes x hx), ?_⟩, hlen64, fun p zs ks' hp hperm hsrt hr => ?_⟩
  · have := (hm x.1).mp (List.mem_map.mpr ⟨x, hx, rfl⟩)
    rw [e2] at this
    obtain ⟨c, _, e⟩ := List.mem_map.mp this
    rw [← e]
    rfl
  have hb := body_sorted (cs := cs) hperm hsrt hr hnd (fun k => by rw [hm k, e2])
  have sp := same_new (o := .lst zs) hp
  have sA := s1.trans (sS.trans sp)
  have hpn : H p = none := (s1.trans sS).free hp
  have hzl : zs.length = (bodyC cs).length := hb.len
  walk_at "rd"
  refine ⟨p, zs, rfl, upd_same, by lia, fun H2 s2 => ?_⟩
  exact k p zs H2 (sA.trans s2) hpn (s2 _ _ upd_same) (Rs.up s2 hb)
theorem ok_marked (L : All K w mg ad) : FnOk P w K mg base CX0 1 ad.f_marked ad.d_marked ["cells"] (spMarked K) := by
  refine L.marked.F.okQ sc_marked (fun vs H Q E h => ?_) (fun cdv A outer s H vs Q E hr h => ?_)
  · obtain ⟨a, ys, cs, rfl, _⟩ := h
    rfl
  obtain ⟨a, ys, cs, rfl, hS, hc, hl, k⟩ := h
  refine ⟨_, (qss_cons (qs_set (i := 1) sc_marked.nd rfl (Or.inl rfl) qe_dnewT)
    (qss_cons (qs_for PassesOwn.never rfl (qi_list (K := K) rfl (qv 0)) (qg_name (i := 2) sc_marked.nd rfl (Or.inl rfl))
      (qss_one (qs_dput (hu_of hr) (qv 1) (qv 2) qe_bl rfl)))
    (qss_one (qs_ret (qv 1))))), ?_⟩
  walk_at "rd"
  intro d hd
  walk_at "rd"
  refine for_feeds (R := IsC) (H0 := H) (fun i σ H' => (∃ o, σ = [some (.ref a), some (.ref d), o]) ∧ Same H H' ∧ Marks H' d ((cs.take i).foldl addC [])) (feeds_list hS hc) (fun _ _ _ q => q.2.1) ⟨⟨_, rfl⟩, same_new hd, upd_same⟩ ?_ ?_
  · rintro σ H' ⟨⟨o, rfl⟩, s1, e1⟩
    rw [List.take_of_length_le (Nat.le_refl _)] at e1
    walk_at "rd"
    exact k d H' s1 hd e1
  · rintro i c v σ H1 H' hi ex ⟨⟨o, rfl⟩, s1, e1⟩ s2 ⟨b, rfl, eb⟩
    walk_at "rd"
    have hl2 := fold_addC_len (cs.take i)
    rw [List.length_take] at hl2
    refine marks_put (s2 _ _ e1) eb (by lia) fun e3 => ⟨⟨_, rfl⟩, same_up (s1.trans s2) hd, ?_⟩
    rw [take_snoc ex, List.foldl_append]
    exact e3
theorem ok_span (L : All K w mg ad) : FnOk P w K mg base CX0 2 ad.f_span ad.d_span ["body", "axis"] (spSpan K) := by
  refine L.span.F.okQ sc_span (fun vs H Q E h => ?_) (fun cdv A outer s H vs Q E hr h => ?_)
  · obtain ⟨a, ax, ys, cs, rfl, _⟩ := h
    rfl
  obtain ⟨a, ax, ys, cs, rfl, hS, hc, hl, k0, k⟩ := h
  refine ⟨_, (qss_cons (qs_setU (i := 2) (N := ["cell", "axis"]) ["cell"] [1] sc_span.nd rfl (Or.inl rfl) rfl rfl rfl rfl (qi_list (K := K) rfl (qv 0)) (fun _ _ _ _ => (qg_name (i := 0) (by show (["cell", "axis"] : List Str).Nodup; decide +kernel) rfl (Or.inl rfl))) (fun _ _ _ _ => qf_nil) (fun _ _ _ _ => (qe_call ((ok_along L).mono (by decide)) hr rfl L.along.m L.along.F.kp L.along.b .nil pass0 (qa_cons (qv 0) (qa_cons (qv 1) qa_nil)))))
    (qss_cons (qs_if (qt_not (qt_truth (K := K) (qv 2) (fun _ => rfl) rfl)) (qss_one (qs_ret qe_non)) qss_nil)
    (qss_one (qs_ret (qe_tup (qa_cons (qe_callB (qc_minL (K := K) rfl rfl) rfl L.n_min b_min (qa_cons (qv 2) qa_nil)) (qa_cons (qe_callB (qc_maxL (K := K) rfl rfl) rfl L.n_max b_max (qa_cons (qv 2) qa_nil)) qa_nil))))))), ?_⟩
  walk_at "rd"
  intro acc hacc
  refine comp_map (S := IsI) (fun c : C3 => ax.at c) 1 [some (.str ax.s)] (feeds_list hS hc) (by lia) hacc ?_ ?_
  · rintro os v c H' R1 ho s3 _ ⟨b, rfl, eb⟩ kk
    obtain ⟨o, rfl⟩ := List.length_eq_one_iff.mp ho
    walk_at "rd"
    refine ⟨b, ax, c, rfl, SqT.of eb, ?_⟩
    exact kk [_] _ _ rfl (Same.refl _) rfl
  intro zs H1 s1 e1 r1
  rw [ints_eq r1] at e1
  walk_at "rd"
  refine ⟨_, SqL.tru (SqL.of e1), ?_⟩
  by_cases hcs : cs = []
  · subst hcs
    walk_at "rd"
    exact k0 rfl H1 s1
  · have hne : (cs.map fun c => ax.at c) ≠ [] := by simpa using hcs
    have e0 : (!((cs.map fun c => ax.at c).map V.int).isEmpty) = true := by
      cases cs with
      | nil => exact absurd rfl hcs
      | cons => rfl
    rw [e0]
    walk_at "rd"
    refine rd_minL (SqL.of e1) hne fun m hm lm => ?_
    walk_at "rd"
    refine rd_maxL (SqL.of e1) hne fun M hM lM => ?_
    have h1 : IsLo ax cs m := ⟨let ⟨c, hc, e⟩ := List.mem_map.mp hm; ⟨c, hc, e⟩, fun c hc => lm _ (List.mem_map.mpr ⟨c, hc, rfl⟩)⟩
    have h2 : IsHi ax cs M := ⟨let ⟨c, hc, e⟩ := List.mem_map.mp hM; ⟨c, hc, e⟩, fun c hc => lM _ (List.mem_map.mpr ⟨c, hc, rfl⟩)⟩
    walk_at "rd"
    refine ⟨le2, fun p hp => ?_⟩
    walk_at "rd"
    have e1' := h1.eq
    have e2' := h2.eq
    subst e1' e2'
    exact k hcs h1 h2 p _ (s1.trans (same_new hp)) upd_same
end
end P11
set_option Elab.async false
set_option linter.all false
set_option maxRecDepth 100000
set_option maxHeartbeats 4000000
namespace P11
open PySem L2 Srt Pc
section
variable {P : Program} {w : World} {K : PySem.W.Frag} {mg : Str → Option Value} {base : Heap} {ad : Ad}
theorem ok_layer_shown (L : All K w mg ad) : FnOk P w K mg base CX0 1 ad.f_layer_shown ad.d_layer_shown ["marks", "wide", "deep", "z"] (spLayer K) := by
  refine L.layer_shown.F.okQ sc_layer_shown (fun vs H Q E h => ?_) (fun cdv A outer s H vs Q E hr h => ?_)
  · obtain ⟨d, wa, de, x0, x1, y0, y1, z, ms, rfl, _⟩ := h
    rfl
  obtain ⟨d, wa, de, x0, x1, y0, y1, z, ms, rfl, hd, hw, he, fx, fy, k⟩ := h
  obtain ⟨xa, xb, xc, xd⟩ := id fx
  obtain ⟨ya, yb, yc, yd⟩ := id fy
  refine ⟨_, (qss_cons (qs_set (i := 4) sc_layer_shown.nd rfl (Or.inl rfl) (qe_lst qa_nil))
    (qss_cons (qs_for PassesOwn.never rfl (qi_range3 rfl L.n_range (qa_cons (qe_ix (qx_tup (K := K) rfl) (qv 2) qe_int (fun _ _ => rfl)) (qa_cons (qe_op qo_sub (qe_ix (qx_tup (K := K) rfl) (qv 2) qe_int (fun _ _ => rfl)) qe_int) (qa_cons (qe_neg qe_int) qa_nil)))) (qg_name (i := 5) sc_layer_shown.nd rfl (Or.inr rfl))
      (qss_cons (qs_setU (i := 6) (N := ["x", "marks", "y", "z"]) ["x"] [0, 5, 3] sc_layer_shown.nd rfl (Or.inl rfl) rfl rfl rfl rfl (qi_range2 rfl L.n_range (qa_cons (qe_ix (qx_tup (K := K) rfl) (qv 1) qe_int (fun _ _ => rfl)) (qa_cons (qe_op qo_add (qe_ix (qx_tup (K := K) rfl) (qv 1) qe_int (fun _ _ => rfl)) qe_int) qa_nil))) (fun _ _ _ _ => (qg_name (i := 0) (by show (["x", "marks", "y", "z"] : List Str).Nodup; decide +kernel) rfl (Or.inl rfl))) (fun _ _ _ _ => qf_nil) (fun _ _ _ _ => (qe_ifExp (qt_din (hu_of hr) (qe_tup (qa_cons (qv 0) (qa_cons (qv 2) (qa_cons (qv 3) qa_nil)))) (qv 1) rfl) (qe_globS L.m_FULL rfl) (qe_globS L.m_BARE rfl))))
    (qss_one (qs_expr (qe_bm (K := K) rfl PySem.F.plainAttrs_list PySem.F.slot_list_append PySem.F.type_list_append mt_append (qv 4) (qa_cons (qe_bm (K := K) rfl PySem.F.plainAttrs_str PySem.F.slot_str_join PySem.F.type_str_join (mt_join (K := K) rfl) qe_str (qa_cons (qv 6) qa_nil)) qa_nil))))))
    (qss_one (qs_ret (qe_bm (K := K) rfl PySem.F.plainAttrs_str PySem.F.slot_str_join PySem.F.type_str_join (mt_join (K := K) rfl) qe_str (qa_cons (qv 4) qa_nil)))))), ?_⟩
  walk_at "rd"
  refine ⟨le0, fun rs hrs => ?_⟩
  walk_at "rd"
  refine ⟨y1, y0 - 1, -1, (y1 - y0 + 1).toNat, rfl, ⟨by decide, by decide, (rngD ya yb yc).1, (rngD ya yb yc).2⟩, ?_⟩
  refine for_feeds (R := IsI) (H0 := H) (fun i σ H' => (∃ o1 o2, σ = [some (.ref d), some (.ref wa), some (.ref de), some (.int z), some (.ref rs), o1, o2]) ∧ Same H H' ∧ H' rs = some (.lst (((List.range i).map fun i : Nat => Tx.mkS (Tx.rowT (fun e => decide ((⟨x0 + e, y1 + (i : Int) * (-1), z⟩ : C3) ∈ ms)) (x1 - x0 + 1).toNat)).map V.str))) feeds_rangeS (fun _ _ _ q => q.2.1) ⟨⟨_, _, rfl⟩, same_new hrs, upd_same⟩ ?_ ?_
  · rintro σ H' ⟨⟨o1, o2, rfl⟩, s1, e1⟩
    have ek : ((List.range (y1 - y0 + 1).toNat).map fun i : Nat => Tx.mkS (Tx.rowT (fun e => decide ((⟨x0 + e, y1 + (i : Int) * (-1), z⟩ : C3) ∈ ms)) (x1 - x0 + 1).toNat)) = (lyT ms x0 x1 y0 y1 z).map Tx.mkS := by
      rw [← ly_rows fy, List.map_map]
      rfl
    rw [List.length_map, List.length_range, ek] at e1
    have ok := ly_ok (ms := ms) (z := z) fx fy
    walk_at "rd"
    refine ⟨rfl, ?_⟩
    walk_at "rd"
    refine rd_joinX (ts := (lyT ms x0 x1 y0 y1 z).map Tx.mkS) (SqL.of e1) (Tx.joinOk (B := 15) (fun t ht => ?_) ?_) ?_
    · obtain ⟨r, hr, rfl⟩ := List.mem_map.mp ht
      rw [Tx.mkS_len]
      exact ok.row r hr
    · have := ok.len
      rw [List.length_map, show (("/" : Str)).length = 1 from rfl]
      lia
    exact k H' s1
  · rintro i x v σ H1 H' hi ex ⟨⟨o1, o2, rfl⟩, s1, e1⟩ s2 rfl
    rw [List.length_map, List.length_range] at hi
    have hx : x = y1 + (i : Int) * (-1) := by
      rw [List.getElem?_map, List.getElem?_range hi] at ex
      exact (Option.some.inj ex).symm
    subst hx
    have s3 := s1.trans s2
    walk_at "rd"
    intro acc hacc
    refine comp_map (S := IsS) (fun x : Int => if decide ((⟨x, y1 + (i : Int) * (-1), z⟩ : C3) ∈ ms) then Tx.mkS [35] else Tx.mkS [46]) 1 [some (.ref d), some (.int (y1 + (i : Int) * (-1))), some (.int z)] feeds_range (by simp; lia) hacc ?_ ?_
    · rintro os v x H2 R1 ho s4 _ rfl kk
      obtain ⟨o, rfl⟩ := List.length_eq_one_iff.mp ho
      walk_at "rd"
      refine ⟨le3, fun t ht => ?_⟩
      walk_at "rd"
      refine ⟨d, _, rfl, marks_get (c := ⟨x, y1 + (i : Int) * (-1), z⟩) (.inl ((s3.trans (s4.trans (same_new ht))) _ _ hd)) upd_same, ?_⟩
      rw [val_marks]
      by_cases g : (⟨x, y1 + (i : Int) * (-1), z⟩ : C3) ∈ ms
      · rw [decide_eq_true g]
        walk_at "rd"
        exact kk [_] _ _ rfl (same_new ht) (by rw [decide_eq_true g]; rfl)
      · rw [decide_eq_false g]
        walk_at "rd"
        exact kk [_] _ _ rfl (same_new ht) (by rw [decide_eq_false g]; rfl)
    intro zs H2 s4 e2 r2
    have el := s4 _ _ (s2 _ _ e1)
    have ez := strs_eq r2
    have er : (((List.range (x1 + 1 - x0).toNat).map fun i : Nat => x0 + (i : Int)).map fun x : Int => if decide ((⟨x, y1 + (i : Int) * (-1), z⟩ : C3) ∈ ms) then Tx.mkS [35] else Tx.mkS [46]) = (Tx.rowT (fun e => decide ((⟨x0 + e, y1 + (i : Int) * (-1), z⟩ : C3) ∈ ms)) (x1 - x0 + 1).toNat).map fun c => Tx.mkS [c] := by
      unfold Tx.rowT
      rw [List.map_map, List.map_map, show (x1 + 1 - x0).toNat = (x1 - x0 + 1).toNat by lia]
      refine List.map_congr_left fun e _ => ?_
      simp only [Function.comp]
      split <;> rfl
    rw [er] at ez
    subst ez
    walk_at "rd"
    refine ⟨.inl ⟨rfl, _, SqL.of el⟩, ?_⟩
    walk_at "rd"
    refine ⟨rfl, ?_⟩
    walk_at "rd"
    refine rd_joinX (SqL.of e2) (Tx.joinOk (B := 1) (fun t ht => ?_) ?_) ?_
    · obtain ⟨r, hr, rfl⟩ := List.mem_map.mp ht
      exact Nat.le_refl _
    · rw [List.length_map, Tx.row_len, show (("" : Str)).length = 0 from rfl]
      lia
    rw [Tx.join_signs]
    walk_at "rd"
    refine ⟨rs, _, _, rfl, rfl, el, by rw [List.length_map, List.length_map, List.length_range, sizeLine_eq]; lia, ?_⟩
    walk_at "rd"
    refine ⟨⟨_, _, rfl⟩, same_up (s3.trans s4) hrs, ?_⟩
    rw [upd_same, List.range_succ, List.map_append, List.map_append]
    rfl
theorem ok_shown (L : All K w mg ad) : FnOk P w K mg base CX0 3 ad.f_shown ad.d_shown ["body"] (spShown K) := by
  refine L.shown.F.okQ sc_shown (fun vs H Q E h => ?_) (fun cdv A outer s H vs Q E hr h => ?_)
  · obtain ⟨a, ys, cs, rfl, _⟩ := h
    rfl
  obtain ⟨a, ys, cs, rfl, hS, hc, hw, k⟩ := h
  have h45 := hw.len
  refine ⟨_, (qss_cons (qs_if (qt_not (qt_truth (K := K) (qv 0) (fun _ => rfl) rfl)) (qss_one (qs_ret (qe_globS L.m_NO_CELLS rfl))) qss_nil)
    (qss_cons (qs_set (i := 1) sc_shown.nd rfl (Or.inr rfl) (qe_call ((ok_marked L).mono (by decide)) hr rfl L.marked.m L.marked.F.kp L.marked.b .nil pass0 (qa_cons (qv 0) qa_nil)))
    (qss_cons (qs_set (i := 2) sc_shown.nd rfl (Or.inr rfl) (qe_call ((ok_span L).mono (by decide)) hr rfl L.span.m L.span.F.kp L.span.b .nil pass0 (qa_cons (qv 0) (qa_cons qe_str qa_nil))))
    (qss_cons (qs_set (i := 3) sc_shown.nd rfl (Or.inr rfl) (qe_call ((ok_span L).mono (by decide)) hr rfl L.span.m L.span.F.kp L.span.b .nil pass0 (qa_cons (qv 0) (qa_cons qe_str qa_nil))))
    (qss_cons (qs_set (i := 4) sc_shown.nd rfl (Or.inl rfl) (qe_call ((ok_span L).mono (by decide)) hr rfl L.span.m L.span.F.kp L.span.b .nil pass0 (qa_cons (qv 0) (qa_cons qe_str qa_nil))))
    (qss_cons (qs_set (i := 5) sc_shown.nd rfl (Or.inl rfl) (qe_ix (qx_tup (K := K) rfl) (qv 2) qe_int (fun _ _ => rfl)))
    (qss_cons (qs_set (i := 6) sc_shown.nd rfl (Or.inl rfl) (qe_ix (qx_tup (K := K) rfl) (qv 3) qe_int (fun _ _ => rfl)))
    (qss_cons (qs_set (i := 7) sc_shown.nd rfl (Or.inl rfl) (qe_ix (qx_tup (K := K) rfl) (qv 4) qe_int (fun _ _ => rfl)))
    (qss_cons (qs_set (i := 8) sc_shown.nd rfl (Or.inl rfl) (qe_bm (K := K) rfl PySem.F.plainAttrs_str PySem.F.slot_str_join PySem.F.type_str_join (mt_join (K := K) rfl) qe_str (qa_cons (qe_comp (N := ["height", "marks", "wide", "deep"]) ["height"] [1, 2, 3] rfl rfl rfl rfl (qi_range2 rfl L.n_range (qa_cons (qv 7) (qa_cons (qe_op qo_add (qe_ix (qx_tup (K := K) rfl) (qv 4) qe_int (fun _ _ => rfl)) qe_int) qa_nil))) (fun _ _ _ _ => (qg_name (i := 0) (by show (["height", "marks", "wide", "deep"] : List Str).Nodup; decide +kernel) rfl (Or.inl rfl))) (fun _ _ _ _ => qf_nil) (fun _ _ _ _ => (qe_call ((ok_layer_shown L).mono (by decide)) hr rfl L.layer_shown.m L.layer_shown.F.kp L.layer_shown.b .nil pass0 (qa_cons (qv 1) (qa_cons (qv 2) (qa_cons (qv 3) (qa_cons (qv 0) qa_nil))))))) qa_nil)))
    (qss_one (qs_ret (qe_fs4 (qv 5) (qv 6) (qv 7) (qv 8) (by decide +kernel) (by decide +kernel) (by decide +kernel))))))))))))), ?_⟩
  walk_at "rd"
  refine ⟨_, SqL.tru hS, ?_⟩
  by_cases hn : cs = []
  · subst hn
    cases hc
    walk_at "rd"
    have := k H (Same.refl _)
    unfold Tx.textC at this
    rw [if_pos rfl] at this
    exact this
  have e0 : (!ys.isEmpty) = true := by
    have := hc.len
    cases ys with
    | nil => exact absurd (List.length_eq_zero_iff.mp this.symm) hn
    | cons => rfl
  rw [e0]
  have et : Tx.textC cs = Tx.allTx (loA .x cs) (loA .y cs) (loA .z cs) (Tx.laysOf cs) := by unfold Tx.textC; rw [if_neg hn]
  have fx := Wr.fit hw hn .x
  have fy := Wr.fit hw hn .y
  have fz := Wr.fit hw hn .z
  have hdr := hw.draw hn
  walk_at "rd"
  refine ⟨a, ys, cs, rfl, hS, hc, by lia, fun d H1 s1 hd e1 => ?_⟩
  rw [addC_nodup hw.nd] at e1
  walk_at "rd"
  refine ⟨a, .x, ys, cs, rfl, s1.seq hS, Rs.up s1 hc, by lia, fun z => absurd z hn, fun _ _ _ wx H2 s2 e2 => ?_⟩
  walk_at "rd"
  refine ⟨a, .y, ys, cs, rfl, (s1.trans s2).seq hS, Rs.up (s1.trans s2) hc, by lia, fun z => absurd z hn, fun _ _ _ wy H3 s3 e3 => ?_⟩
  walk_at "rd"
  refine ⟨a, .z, ys, cs, rfl, (s1.trans (s2.trans s3)).seq hS, Rs.up (s1.trans (s2.trans s3)) hc, by lia, fun z => absurd z hn, fun _ _ _ wz H4 s4 e4 => ?_⟩
  have e3' := s4 _ _ e3
  have e2' := (s3.trans s4) _ _ e2
  have e1' := (s2.trans (s3.trans s4)) _ _ e1
  obtain ⟨za, zb, zc, zd⟩ := id fz
  walk_at "rd"
  refine ⟨rfl, ?_⟩
  walk_at "rd"
  intro acc hacc
  refine comp_map (S := IsLay) (fun x : Int => lyT cs (loA .x cs) (hiA .x cs) (loA .y cs) (hiA .y cs) x) 1 [some (.ref d), some (.ref wx), some (.ref wy)] feeds_range (by simp; lia) hacc ?_ ?_
  · rintro os v x H5 R1 ho s5 _ rfl kk
    obtain ⟨o, rfl⟩ := List.length_eq_one_iff.mp ho
    walk_at "rd"
    refine ⟨d, wx, wy, _, _, _, _, x, cs, rfl, s5 _ _ e1', s5 _ _ e2', s5 _ _ e3', fx, fy, fun H6 s6 => ?_⟩
    exact kk [_] _ _ rfl s6 rfl
  intro zs H5 s5 e5 r5
  have el : ((List.range (hiA .z cs + 1 - loA .z cs).toNat).map fun i : Nat => loA .z cs + (i : Int)).map (fun x : Int => lyT cs (loA .x cs) (hiA .x cs) (loA .y cs) (hiA .y cs) x) = Tx.laysOf cs := by
    rw [lays_ly, List.map_map, show (hiA .z cs + 1 - loA .z cs).toNat = Tx.wd .z cs by unfold Tx.wd; lia]
    rfl
  rw [el] at r5
  have ez := lays_eq r5
  subst ez
  walk_at "rd"
  refine rd_joinX (SqL.of e5) (Tx.joinOk (B := 240) (fun t ht => ?_) ?_) ?_
  · obtain ⟨r, hr, rfl⟩ := List.mem_map.mp ht
    exact (hdr.lay r hr).tl
  · have := hdr.len
    rw [List.length_map, show (("; " : Str)).length = 2 from rfl]
    lia
  have htl := hdr.tl
  have hx := hw.lo hn .x
  have hy := hw.lo hn .y
  have hz := hw.lo hn .z
  walk_at "rd"
  unfold tFs4
  walk_at "rd"
  refine ⟨Tx.num_log hx.1 hx.2, ?_⟩
  walk_at "rd"
  refine ⟨Tx.num_log hy.1 hy.2, ?_⟩
  walk_at "rd"
  refine ⟨Tx.num_log hz.1 hz.2, ?_⟩
  walk_at "rd"
  refine ⟨_, rfl, by show (Tx.laysTx (Tx.laysOf cs)).length ≤ 100000; lia, ?_⟩
  have := k H5 (s1.trans (s2.trans (s3.trans (s4.trans s5))))
  rw [et, ← Tx.all_fs] at this
  exact this
end
end P11
set_option Elab.async false
set_option linter.all false
set_option maxRecDepth 100000
set_option maxHeartbeats 4000000
namespace P11
open PySem L2 Srt Pc
section
variable {P : Program} {w : World} {K : PySem.W.Frag} {mg : Str → Option Value} {base : Heap} {ad : Ad}
theorem ok_number_of (L : All K w mg ad) : FnOk P w K mg base CX0 1 ad.f_number_of ad.d_number_of ["word"] spNumOf := by
  refine L.number_of.F.okQ sc_number_of (fun vs H Q E h => ?_) (fun cdv A outer s H vs Q E hr h => ?_)
  · obtain ⟨p, hp, rfl, _⟩ := h
    rfl
  obtain ⟨p, hp, rfl, k⟩ := h
  obtain ⟨f1, f2, f3, f4, f5⟩ := Tx.word_figs p hp
  obtain ⟨w1, w2⟩ := Tx.word_ne p hp
  refine ⟨_, (qss_cons (qs_set (i := 1) sc_number_of.nd rfl (Or.inl rfl) (qe_ifExp (qt_val (qe_bm (K := K) rfl PySem.F.plainAttrs_str PySem.F.slot_str_startswith PySem.F.type_str_startswith mt_starts (qv 0) (qa_cons qe_str qa_nil))) (qe_slS (qv 0) (qo_some qe_int) qo_none) (qv 0)))
    (qss_cons (qs_if (QW.t (qw_or (qt_cmpR qo_lt (qe_callB qc_lenS rfl L.n_len b_len (qa_cons (qv 1) qa_nil)) qe_int (nomark _)) (qw_or1 (qt_cmpR qo_gt (qe_callB qc_lenS rfl L.n_len b_len (qa_cons (qv 1) qa_nil)) (qe_globI L.m_MOST_FIGURES rfl) (nomark _))))) (qss_one (qs_ret qe_non)) qss_nil)
    (qss_cons (qs_if (qt_not (qt_val (qe_callB (qc_all (K := K) rfl rfl) rfl L.n_all b_all (qa_cons (qe_comp (N := ["sign"]) ["sign"] [] rfl rfl rfl rfl (qi_str (qv 1)) (fun _ _ _ _ => (qg_name (i := 0) (by show (["sign"] : List Str).Nodup; decide +kernel) rfl (Or.inl rfl))) (fun _ _ _ _ => qf_nil) (fun _ _ _ _ => (qe_cmpR qo_in_str (qv 0) (qe_globS L.m_FIGURES rfl) rfl))) qa_nil)))) (qss_one (qs_ret qe_non)) qss_nil)
    (qss_cons (qs_if (QW.t (qw_and (qt_cmpR qo_eq (qe_ix qx_str (qv 1) qe_int (fun _ _ => rfl)) qe_str (nomark _)) (qw_and1 (qt_cmpR qo_ne (qv 0) qe_str (nomark _))))) (qss_one (qs_ret qe_non)) qss_nil)
    (qss_one (qs_ret (qe_callTy qc_intW rfl L.n_int b_int (qa_cons (qv 0) qa_nil)))))))), ?_⟩
  have hlen : (Tx.mkS p.1).length ≤ sizeLine := by rw [Tx.mkS_len, sizeLine_eq]; lia
  have go : ∀ (N : St → Hp → Prop), N [some (.str (Tx.mkS p.1)), some (.str (Tx.figs (Tx.mkS p.1)))] H → (if Txt.startswith (Tx.mkS p.1) "-" = true then N [some (.str (Tx.mkS p.1)), some (.str (Txt.slice (Tx.mkS p.1) (some 1) none))] H else N [some (.str (Tx.mkS p.1)), some (.str (Tx.mkS p.1))] H) := by
    intro N h
    unfold Tx.figs at h
    split
    · rename_i g; rwa [if_pos g] at h
    · rename_i g; rwa [if_neg g] at h
  with_reducible refine rd_seqK fun N hN => ?_
  walk_at "rd"
  refine ⟨rfl, ?_⟩
  walk_at "rd"
  refine ⟨_, _, rfl, rfl, ?_⟩
  walk_at "rd"
  have g0 := go N ?_
  · split
    · rename_i g
      rw [if_pos g] at g0
      walk_at "rd"
      refine rd_slS hlen ?_
      walk_at "rd"
      exact g0
    · rename_i g
      rw [if_neg g] at g0
      walk_at "rd"
      exact g0
  apply hN
  have hz : (Tx.figs (Tx.mkS p.1)).length ≤ sizeLine := by rw [sizeLine_eq]; lia
  walk_at "rd"
  refine rd_lenX hz ?_
  walk_at "rd"
  rw [decide_eq_false (show ¬ (((Tx.figs (Tx.mkS p.1)).length : Int) < 1) by lia)]
  walk_at "rd"
  refine rd_lenX hz ?_
  walk_at "rd"
  rw [decide_eq_false (show ¬ ((3 : Int) < ((Tx.figs (Tx.mkS p.1)).length : Int)) by lia)]
  walk_at "rd"
  refine ⟨_, rfl, f4, ?_⟩
  intro acc hacc
  refine comp_map (S := IsB) (fun s : Str => !(Builtin.Str.occurrences "0123456789" s 0 (("0123456789" : Str)).length 1).isEmpty) 1 [] feeds_str (by rw [List.length_map]; have := Tx.len_list (Tx.figs (Tx.mkS p.1)); lia) hacc ?_ ?_
  · rintro os v x H2 R1 ho s4 _ rfl kk
    obtain ⟨o, rfl⟩ := List.length_eq_one_iff.mp ho
    walk_at "rd"
    refine rd_inS ?_
    exact kk [_] _ _ rfl (Same.refl _) rfl
  intro zs H2 s1 e1 r1
  have ez := bools_eq r1
  subst ez
  walk_at "rd"
  refine ⟨acc, _, rfl, SqL.of e1, ?_⟩
  have ea : (((Tx.figs (Tx.mkS p.1)).cps.toList.map fun c => (⟨#[c]⟩ : Str)).map fun s : Str => !(Builtin.Str.occurrences "0123456789" s 0 (("0123456789" : Str)).length 1).isEmpty).all id = true := by
    rw [List.all_eq_true]
    intro b hb
    obtain ⟨s, hs, rfl⟩ := List.mem_map.mp hb
    obtain ⟨c, hc, rfl⟩ := List.mem_map.mp hs
    exact f3 c hc
  rw [ea]
  walk_at "rd"
  have hne : ∃ c r, (Tx.figs (Tx.mkS p.1)).cps.toList = c :: r := by
    cases hx : (Tx.figs (Tx.mkS p.1)).cps.toList with
    | nil =>
      have := Tx.len_list (Tx.figs (Tx.mkS p.1))
      rw [hx] at this
      simp at this
      lia
    | cons c r => exact ⟨c, r, rfl⟩
  obtain ⟨c, r, hc⟩ := hne
  refine rd_str hz (c := c) (by rw [hc]; exact atI_nat (xs := c :: r) (j := 0) rfl) ?_
  walk_at "rd"
  have e48 : (⟨#[c]⟩ : Str) = "0" → Tx.mkS p.1 = "0" := fun e => f5 (by
    rw [hc]
    have := congrArg (fun x : Str => x.cps.toList) e
    have : [c] = [48] := this
    rw [List.head?_cons, List.cons.inj this |>.1])
  by_cases g : (⟨#[c]⟩ : Str) = "0"
  · rw [decide_eq_true g]
    walk_at "rd"
    rw [decide_eq_true (e48 g)]
    walk_at "rd"
    exact ⟨p, hp, rfl, k _ s1⟩
  · rw [decide_eq_false g]
    walk_at "rd"
    exact ⟨p, hp, rfl, k _ s1⟩
theorem ok_three_numbers (L : All K w mg ad) : FnOk P w K mg base CX0 2 ad.f_three_numbers ad.d_three_numbers ["text", "sign"] spThree := by
  refine L.three_numbers.F.okQ sc_three_numbers (fun vs H Q E h => ?_) (fun cdv A outer s H vs Q E hr h => ?_)
  · obtain ⟨a, b, c, rfl, _⟩ := h
    rfl
  obtain ⟨a, b, c, rfl, ha, hb, hc, k⟩ := h
  refine ⟨_, (qss_cons (qs_setU (i := 2) (N := ["word"]) ["word"] [] sc_three_numbers.nd rfl (Or.inl rfl) rfl rfl rfl rfl (qi_list (K := K) rfl (qe_bm (K := K) rfl PySem.F.plainAttrs_str PySem.F.slot_str_split PySem.F.type_str_split mt_split (qv 0) (qa_cons (qv 1) qa_nil))) (fun _ _ _ _ => (qg_name (i := 0) (by show (["word"] : List Str).Nodup; decide +kernel) rfl (Or.inl rfl))) (fun _ _ _ _ => qf_nil) (fun _ _ _ _ => (qe_call ((ok_number_of L).mono (by decide)) hr rfl L.number_of.m L.number_of.F.kp L.number_of.b .nil pass0 (qa_cons (qv 0) qa_nil))))
    (qss_cons (qs_if (QW.t (qw_or (qt_cmpR qo_ne (qe_callB (qc_len (K := K) rfl) rfl L.n_len b_len (qa_cons (qv 2) qa_nil)) qe_int (nomark _)) (qw_or1 (qt_cmpR (qo_in (K := K) rfl) qe_non (qv 2) rfl)))) (qss_one (qs_ret qe_non)) qss_nil)
    (qss_one (qs_ret (qe_callTy (qc_tuple (K := K) rfl) rfl L.n_tuple b_tuple (qa_cons (qv 2) qa_nil)))))), ?_⟩
  walk_at "rd"
  refine ⟨rfl, ?_⟩
  walk_at "rd"
  refine ⟨_, _, rfl, rfl, rfl, by have := Tx.head_len ha hb hc; lia, fun l hl => ?_⟩
  rw [Tx.head_split ha hb hc]
  walk_at "rd"
  intro acc hacc
  obtain ⟨p1, hp1, e1, q1⟩ := Tx.num_word ha.1 ha.2
  obtain ⟨p2, hp2, e2, q2⟩ := Tx.num_word hb.1 hb.2
  obtain ⟨p3, hp3, e3, q3⟩ := Tx.num_word hc.1 hc.2
  subst e1 e2 e3
  have hR : Rs IsWd (upd H l (.lst ([Tx.numS p1.2, Tx.numS p2.2, Tx.numS p3.2].map V.str))) ([Tx.numS p1.2, Tx.numS p2.2, Tx.numS p3.2].map V.str) [p1, p2, p3] := .cons ⟨congrArg V.str q1, hp1⟩ (.cons ⟨congrArg V.str q2, hp2⟩ (.cons ⟨congrArg V.str q3, hp3⟩ .nil))
  refine comp_map (S := IsI) (fun p : List Nat × Int => p.2) 1 [] (feeds_list (SqL.of upd_same) hR) (by show 3 ≤ 16000000; decide) hacc ?_ ?_
  · rintro os v x H2 R1 ho s4 _ ⟨rfl, hx⟩ kk
    obtain ⟨o, rfl⟩ := List.length_eq_one_iff.mp ho
    walk_at "rd"
    exact ⟨x, hx, rfl, fun H3 s5 => kk [_] _ _ rfl s5 rfl⟩
  intro zs H2 s1 e1 r1
  have ez := ints_eq r1
  subst ez
  walk_at "rd"
  rw [show decide (((List.map V.int (List.map (fun p : List Nat × Int => p.2) [p1, p2, p3])).length : Int) = 3) = true from rfl]
  walk_at "rd"
  refine ⟨acc, _, rfl, .inl (SqL.of e1), rfl, rfl, ?_⟩
  rw [show inV V.non (List.map V.int (List.map (fun p : List Nat × Int => p.2) [p1, p2, p3])) = false from rfl]
  walk_at "rd"
  rw [if_neg (by decide)]
  walk_at "rd"
  intro p hp
  exact k p _ (((same_new hl).trans s1).trans (same_new hp)) upd_same
theorem ok_corner_of (L : All K w mg ad) : FnOk P w K mg base CX0 3 ad.f_corner_of ad.d_corner_of ["head"] spCorner := by
  refine L.corner_of.F.okQ sc_corner_of (fun vs H Q E h => ?_) (fun cdv A outer s H vs Q E hr h => ?_)
  · obtain ⟨a, b, c, rfl, _⟩ := h
    rfl
  obtain ⟨a, b, c, rfl, ha, hb, hc, k⟩ := h
  refine ⟨_, (qss_cons (qs_set (i := 1) sc_corner_of.nd rfl (Or.inl rfl) (qe_call ((ok_three_numbers L).mono (by decide)) hr rfl L.three_numbers.m L.three_numbers.F.kp L.three_numbers.b .nil pass0 (qa_cons (qv 0) (qa_cons qe_str qa_nil))))
    (qss_cons (qs_if (qt_cmpR qo_isN (qv 1) qe_non (nomark _)) (qss_one qs_never) qss_nil)
    (qss_one (qs_ret (qv 1))))), ?_⟩
  walk_at "rd"
  refine ⟨a, b, c, rfl, ha, hb, hc, fun p H1 s1 e1 => ?_⟩
  walk_at "rd"
  exact k p H1 s1 e1
theorem ok_cells_drawn (L : All K w mg ad) : FnOk P w K mg base CX0 1 ad.f_cells_drawn ad.d_cells_drawn ["corner", "layers"] (spDrawnT K) := by
  refine L.cells_drawn.F.okQ sc_cells_drawn (fun vs H Q E h => ?_) (fun cdv A outer s H vs Q E hr h => ?_)
  · obtain ⟨cn, c0, ls, rfl, _⟩ := h
    rfl
  obtain ⟨cn, c0, ls, rfl, hcn, hdr, k⟩ := h
  refine ⟨_, (qss_cons (qs_set (i := 2) sc_cells_drawn.nd rfl (Or.inl rfl) (qe_lst qa_nil))
    (qss_cons (qs_for PassesOwn.never rfl (qi_enumL (K := K) rfl rfl L.n_enumerate (qa_cons (qe_bm (K := K) rfl PySem.F.plainAttrs_str PySem.F.slot_str_split PySem.F.type_str_split mt_split (qv 1) (qa_cons qe_str qa_nil)) qa_nil)) (qg_tup (K := K) (n := 2) rfl rfl (qgs_cons (qg_name (i := 3) sc_cells_drawn.nd rfl (Or.inl rfl)) (qgs_cons (qg_name (i := 4) sc_cells_drawn.nd rfl (Or.inl rfl)) qgs_nil)))
      (qss_one (qs_for PassesOwn.never rfl (qi_enumV (K := K) rfl rfl L.n_enumerate rfl L.n_reversed (qa_cons (qe_bm (K := K) rfl PySem.F.plainAttrs_str PySem.F.slot_str_split PySem.F.type_str_split mt_split (qv 4) (qa_cons qe_str qa_nil)) qa_nil)) (qg_tup (K := K) (n := 2) rfl rfl (qgs_cons (qg_name (i := 5) sc_cells_drawn.nd rfl (Or.inl rfl)) (qgs_cons (qg_name (i := 6) sc_cells_drawn.nd rfl (Or.inl rfl)) qgs_nil)))
      (qss_one (qs_for PassesOwn.never rfl (qi_enumS rfl L.n_enumerate (qa_cons (qv 6) qa_nil)) (qg_tup (K := K) (n := 2) rfl rfl (qgs_cons (qg_name (i := 7) sc_cells_drawn.nd rfl (Or.inl rfl)) (qgs_cons (qg_name (i := 8) sc_cells_drawn.nd rfl (Or.inl rfl)) qgs_nil)))
      (qss_one (qs_if (qt_cmpR qo_eq (qv 8) (qe_globS L.m_FULL rfl) (nomark _)) (qss_one (qs_expr (qe_bm (K := K) rfl PySem.F.plainAttrs_list PySem.F.slot_list_append PySem.F.type_list_append mt_append (qv 2) (qa_cons (qe_tup (qa_cons (qe_op qo_add (qe_ix (qx_tup (K := K) rfl) (qv 0) qe_int (fun _ _ => rfl)) (qv 7)) (qa_cons (qe_op qo_add (qe_ix (qx_tup (K := K) rfl) (qv 0) qe_int (fun _ _ => rfl)) (qv 5)) (qa_cons (qe_op qo_add (qe_ix (qx_tup (K := K) rfl) (qv 0) qe_int (fun _ _ => rfl)) (qv 3)) qa_nil)))) qa_nil)))) qss_nil)))))))
    (qss_one (qs_ret (qv 2))))), ?_⟩
  walk_at "rd"
  refine ⟨le0, fun cl hcl => ?_⟩
  walk_at "rd"
  refine ⟨rfl, ?_⟩
  walk_at "rd"
  have htl := hdr.tl
  have hls := hdr.len
  refine ⟨_, _, rfl, rfl, rfl, by lia, fun l hl => ?_⟩
  rw [hdr.split]
  walk_at "rd"
  refine ⟨l, rfl, ⟨_, SqL.of upd_same⟩, ?_⟩
  have nlc : l ≠ cl := fun z => by rw [z, upd_same] at hl; cases hl
  have hlH : H l = none := (same_new (o := .lst []) hcl).free hl
  have c0n : (upd H l (.lst ((ls.map Tx.layTx).map V.str))) cl = none := by rw [upd_ne nlc.symm]; exact hcl
  have s0 : Same (upd H l (.lst ((ls.map Tx.layTx).map V.str))) (upd (upd H cl (.lst [])) l (.lst ((ls.map Tx.layTx).map V.str))) := by
    rw [upd_comm nlc]
    exact same_new c0n
  have sH : Same H (upd H l (.lst ((ls.map Tx.layTx).map V.str))) := same_new hlH
  have f0 : SqL K (upd H l (.lst ((ls.map Tx.layTx).map V.str))) l ((ls.map Tx.layTx).map V.str) := SqL.of upd_same
  have hcn0 := sH _ _ hcn
  generalize hH0 : upd H l (.lst ((ls.map Tx.layTx).map V.str)) = H0 at c0n s0 sH f0 hcn0
  refine for_feeds (R := IsN IsLay) (H0 := H0) (fun i σ H' => (∃ o1 o2 o3 o4 o5 o6, σ = [some (.ref cn), some (.str (Tx.laysTx ls)), some (.ref cl), o1, o2, o3, o4, o5, o6]) ∧ Same H0 H' ∧ ∃ zs ds, H' cl = some (.lst zs) ∧ Cs H' zs ds ∧ ds.length ≤ i * 225 ∧ ∀ c, c ∈ ds ↔ Tx.Bef ls c0 i 0 0 c) (feeds_enumL f0 (rs_lays ls)) (fun _ _ _ q => q.2.1)
    ⟨⟨_, _, _, _, _, _, rfl⟩, s0, [], [], lk_old hl upd_same, .nil, Nat.zero_le _, fun c => ⟨(fun z => nomatch z), fun z => absurd z Tx.bef_zero⟩⟩ ?_ ?_
  · rintro σ H' ⟨⟨o1, o2, o3, o4, o5, o6, rfl⟩, s1, zs, ds, e1, r1, n1, m1⟩
    walk_at "rd"
    have hl0 : ((List.range ls.length).zip ls).length = ls.length := by simp
    rw [hl0] at n1 m1
    exact k cl zs ds H' (sH.trans s1) hcl e1 r1 (by lia) fun c => (m1 c).trans Tx.bef_all
  · rintro i ⟨i', lay⟩ v σ H1 H' hi ex ⟨⟨o1, o2, o3, o4, o5, o6, rfl⟩, s1, zs, ds, e1, r1, n1, m1⟩ s2 ⟨t, u, rfl, et, rfl⟩
    obtain ⟨rfl, exl⟩ := zipR_at ex
    have lok := hdr.lay lay (List.mem_of_getElem? exl)
    have ltl := lok.tl
    have lln := lok.len
    have hi15 : i < 15 := by
      have := (List.getElem?_eq_some_iff.mp exl).1
      lia
    walk_at "rd"
    refine ⟨rfl, ?_⟩
    walk_at "rd"
    refine ⟨Tx.layTx lay, _, rfl, rfl, rfl, by lia, fun l2 hl2 => ?_⟩
    rw [lok.split]
    walk_at "rd"
    refine ⟨l2, _, rfl, SqL.of upd_same, ?_⟩
    have ecl := s2 _ _ e1
    have n2 : l2 ≠ cl := fun z => by rw [z, ecl] at hl2; cases hl2
    have s3 : Same H0 (hid (upd H' l2 (.lst ((lay.map Tx.mkS).map V.str))) cl) := same_hid ((s1.trans s2).trans (same_new hl2)) c0n
    have f2 : SqL K (hid (upd H' l2 (.lst ((lay.map Tx.mkS).map V.str))) cl) l2 ((lay.map Tx.mkS).map V.str) := SqL.of (hid_at n2 upd_same)
    have hid0 : hid (upd H' l2 (.lst ((lay.map Tx.mkS).map V.str))) cl cl = none := hid_none
    have sA : Same (hid (upd H' l2 (.lst ((lay.map Tx.mkS).map V.str))) cl) (upd H' l2 (.lst ((lay.map Tx.mkS).map V.str))) := hid_same
    have eA : (upd H' l2 (.lst ((lay.map Tx.mkS).map V.str))) cl = some (.lst zs) := lk_old hl2 ecl
    have rA : Cs (upd H' l2 (.lst ((lay.map Tx.mkS).map V.str))) zs ds := Rs.up (s2.trans (same_new hl2)) r1
    generalize hid (upd H' l2 (.lst ((lay.map Tx.mkS).map V.str))) cl = Hm at s3 f2 hid0 sA
    generalize upd H' l2 (.lst ((lay.map Tx.mkS).map V.str)) = Ha at sA eA rA ⊢
    refine for_feeds (R := IsN IsRow) (H0 := Hm) (fun j σ H5 => (∃ o3 o4 o5 o6, σ = [some (.ref cn), some (.str (Tx.laysTx ls)), some (.ref cl), some (.int (i : Int)), some (.str (Tx.layTx lay)), o3, o4, o5, o6]) ∧ Same Hm H5 ∧ ∃ zs ds, H5 cl = some (.lst zs) ∧ Cs H5 zs ds ∧ ds.length ≤ i * 225 + j * 15 ∧ ∀ c, c ∈ ds ↔ Tx.Bef ls c0 i j 0 c) (feeds_enumV f2 (rs_rows lay)) (fun _ _ _ q => q.2.1)
      ⟨⟨_, _, _, _, rfl⟩, sA, zs, ds, eA, rA, by omega, m1⟩ ?_ ?_
    · rintro σ H5 ⟨⟨o3, o4, o5, o6, rfl⟩, s5, zs5, ds5, e5, r5, n5, m5⟩
      have hl0 : ((List.range lay.length).zip lay.reverse).length = lay.length := by simp
      rw [hl0] at n5 m5
      exact ⟨⟨_, _, _, _, _, _, rfl⟩, s3.trans s5, zs5, ds5, e5, r5, by lia, fun c => (m5 c).trans (Tx.bef_lay exl)⟩
    · rintro j ⟨j', row⟩ v σ H5 H6 hj exj ⟨⟨o3, o4, o5, o6, rfl⟩, s5, zs5, ds5, e5, r5, n5, m5⟩ s6 ⟨t2, u2, rfl, et2, rfl⟩
      obtain ⟨rfl, exr⟩ := zipR_at exj
      have hrow : row ∈ lay := List.mem_reverse.mp (List.mem_of_getElem? exr)
      have rl := lok.row row hrow
      have hj15 : j < 15 := by
        have := (List.getElem?_eq_some_iff.mp exr).1
        rw [List.length_reverse] at this
        lia
      walk_at "rd"
      refine ⟨_, rfl, lok.ascii hrow, ?_⟩
      have fS := feeds_enumS (H := Hm) (x := Tx.mkS row)
      rw [Tx.mkS_list] at fS
      refine for_feeds (R := IsNS) (H0 := Hm) (fun e σ H7 => (∃ o5 o6, σ = [some (.ref cn), some (.str (Tx.laysTx ls)), some (.ref cl), some (.int (i : Int)), some (.str (Tx.layTx lay)), some (.int (j : Int)), some (.str (Tx.mkS row)), o5, o6]) ∧ Same Hm H7 ∧ ∃ zs ds, H7 cl = some (.lst zs) ∧ Cs H7 zs ds ∧ ds.length ≤ i * 225 + j * 15 + e ∧ ∀ c, c ∈ ds ↔ Tx.Bef ls c0 i j e c) fS (fun _ _ _ q => q.2.1)
        ⟨⟨_, _, rfl⟩, s5.trans s6, zs5, ds5, s6 _ _ e5, Rs.up s6 r5, by omega, m5⟩ ?_ ?_
      · rintro σ H7 ⟨⟨o5, o6, rfl⟩, s7, zs7, ds7, e7, r7, n7, m7⟩
        have hl0 : ((List.range row.length).zip row).length = row.length := by simp
        rw [hl0] at n7 m7
        exact ⟨⟨_, _, _, _, rfl⟩, s7, zs7, ds7, e7, r7, by lia, fun c => (m7 c).trans (Tx.bef_row exl exr)⟩
      · rintro e ⟨e', sg⟩ v σ H7 H8 he exe ⟨⟨o5, o6, rfl⟩, s7, zs7, ds7, e7, r7, n7, m7⟩ s8 ⟨t3, rfl, et3⟩
        obtain ⟨rfl, exs⟩ := zipR_at exe
        have he15 : e < 15 := by
          have := (List.getElem?_eq_some_iff.mp exs).1
          lia
        have ecn := (s3.trans (s7.trans s8)) _ _ hcn0
        walk_at "rd"
        by_cases g : sg = 35
        · subst g
          rw [decide_eq_true (show (⟨#[35]⟩ : Str) = "#" from rfl)]
          walk_at "rd"
          refine ⟨.inl ⟨rfl, _, SqL.of (s8 _ _ e7)⟩, ?_⟩
          walk_at "rd"
          refine ⟨le3, fun t4 ht4 => ?_⟩
          have e8 := (s8.trans (same_new (o := .tup [.int (c0.x + (e : Int)), .int (c0.y + (j : Int)), .int (c0.z + (i : Int))]) ht4)) _ _ e7
          have hl7 := r7.len
          walk_at "rd"
          refine ⟨cl, _, _, rfl, rfl, e8, by rw [sizeLine_eq]; lia, ?_⟩
          walk_at "rd"
          refine ⟨⟨_, _, rfl⟩, same_up ((s7.trans s8).trans (same_new ht4)) hid0, _, ds7 ++ [Tx.pt3 c0 i j e], upd_same, ?_, by rw [List.length_append, List.length_singleton]; lia, fun c => ?_⟩
          · exact Rs.lst e8 (Rs.app (Rs.up (s8.trans (same_new ht4)) r7) (.cons ⟨t4, rfl, upd_same⟩ .nil))
          · rw [List.mem_append, List.mem_singleton, m7 c, Tx.bef_yes exl exr exs]
        · rw [decide_eq_false (show ¬ (⟨#[sg]⟩ : Str) = "#" from fun z => g (by
            have z : [sg] = [35] := congrArg (fun x : Str => x.cps.toList) z
            exact (List.cons.inj z).1))]
          walk_at "rd"
          exact ⟨⟨_, _, rfl⟩, s7.trans s8, zs7, ds7, s8 _ _ e7, Rs.up s8 r7, by lia, fun c => (m7 c).trans (Tx.bef_no exl exr (by rw [exs]; intro z; exact g (Option.some.inj z))).symm⟩
theorem ok_body_drawn (L : All K w mg ad) : FnOk P w K mg base CX0 6 ad.f_body_drawn ad.d_body_drawn ["text"] spReadT := by
  refine L.body_drawn.F.okQ sc_body_drawn (fun vs H Q E h => ?_) (fun cdv A outer s H vs Q E hr h => ?_)
  · obtain ⟨cs, rfl, _⟩ := h
    rfl
  obtain ⟨cs, rfl, hw, k⟩ := h
  refine ⟨_, (qss_cons (qs_if (qt_cmpR qo_eq (qv 0) (qe_globS L.m_NO_CELLS rfl) (nomark _)) (qss_one (qs_ret (qe_lst qa_nil))) qss_nil)
    (qss_cons (qs_set (i := 1) sc_body_drawn.nd rfl (Or.inl rfl) (qe_bm (K := K) rfl PySem.F.plainAttrs_str PySem.F.slot_str_partition PySem.F.type_str_partition mt_partition (qv 0) (qa_cons qe_str qa_nil)))
    (qss_cons (qs_set (i := 2) sc_body_drawn.nd rfl (Or.inl rfl) (qe_call ((ok_cells_drawn L).mono (by decide)) hr rfl L.cells_drawn.m L.cells_drawn.F.kp L.cells_drawn.b .nil pass0 (qa_cons (qe_call ((ok_corner_of L).mono (by decide)) hr rfl L.corner_of.m L.corner_of.F.kp L.corner_of.b .nil pass0 (qa_cons (qe_ix (qx_tup (K := K) rfl) (qv 1) qe_int (fun _ _ => rfl)) qa_nil)) (qa_cons (qe_ix (qx_tup (K := K) rfl) (qv 1) qe_int (fun _ _ => rfl)) qa_nil))))
    (qss_one (qs_tryN (fun _ _ h => h) (qss_one (qs_ret (qe_call ((ok_body_of L).mono (by decide)) hr rfl L.body_of.m L.body_of.F.kp L.body_of.b .nil pass0 (qa_cons (qv 2) qa_nil))))))))), ?_⟩
  walk_at "rd"
  by_cases hn : cs = []
  · subst hn
    rw [decide_eq_true (show Tx.textC [] = "none" from by unfold Tx.textC; rw [if_pos rfl])]
    walk_at "rd"
    refine ⟨le0, fun p hp => ?_⟩
    exact k p [] _ (same_new hp) hp upd_same .nil
  have et : Tx.textC cs = Tx.allTx (loA .x cs) (loA .y cs) (loA .z cs) (Tx.laysOf cs) := by unfold Tx.textC; rw [if_neg hn]
  have hx := hw.lo hn .x
  have hy := hw.lo hn .y
  have hz := hw.lo hn .z
  have hdr := hw.draw hn
  have hlen := Tx.all_len hx hy hz hdr
  obtain ⟨i, oc, o1, o2, o3⟩ := Tx.all_part (ls := Tx.laysOf cs) hx hy hz
  rw [et, decide_eq_false (Tx.all_ne hx)]
  walk_at "rd"
  refine ⟨rfl, ?_⟩
  walk_at "rd"
  refine ⟨_, _, i, oc, rfl, rfl, rfl, by lia, o1, fun l hl => ?_⟩
  rw [o2, o3]
  walk_at "rd"
  refine ⟨_, _, _, rfl, hx, hy, hz, fun p H1 s1 e1 => ?_⟩
  have el := s1 _ _ (upd_same (H := H) (a := l) (o := .tup [.str (Tx.headTx (loA .x cs) (loA .y cs) (loA .z cs)), .str ": ", .str (Tx.laysTx (Tx.laysOf cs))]))
  walk_at "rd"
  refine ⟨p, Tx.cornerC cs, Tx.laysOf cs, rfl, e1, hdr, fun q zs ds H2 s2 hq e2 r2 n2 m2 => ?_⟩
  have hm : ∀ c, c ∈ ds ↔ c ∈ cs := fun c => (m2 c).trans (Tx.drw_mem hn)
  have hb : bodyC ds = cs := asc_ext (bodyC_asc ds) hw.asc (bodyC_nodup ds) hw.nd fun c => (bodyC_mem ds c).trans (hm c)
  have sl := (same_new (o := .tup [.str (Tx.headTx (loA .x cs) (loA .y cs) (loA .z cs)), .str ": ", .str (Tx.laysTx (Tx.laysOf cs))]) hl).trans (s1.trans s2)
  have h45 := hw.len
  walk_at "rd"
  refine ⟨q, zs, ds, rfl, SqL.of e2, r2, by lia, fun c hc => hw.near c ((hm c).mp hc), by rw [hb]; lia, fun p2 zs2 H3 s3 hp2 e3 r3 => ?_⟩
  rw [hb] at r3
  walk_at "rd"
  exact k p2 zs2 H3 (sl.trans s3) (sl.free hp2) e3 r3
theorem ok_read (L : All K w mg ad) : FnOk P w K mg base CX0 7 ad.f_read ad.d_read ["text"] spReadT := by
  refine L.read.F.okQ sc_read (fun vs H Q E h => ?_) (fun cdv A outer s H vs Q E hr h => ?_)
  · obtain ⟨cs, rfl, _⟩ := h
    rfl
  obtain ⟨cs, rfl, hw, k⟩ := h
  refine ⟨_, (qss_cons (qs_if (qt_not (qt_val (qe_callB (qc_isI (K := K) rfl) rfl L.n_isinstance b_isinstance (qa_cons (qv 0) (qa_cons (qe_bltn (v := .ty "str") rfl L.n_str b_str rfl) qa_nil))))) (qss_one qs_never) qss_nil)
    (qss_cons (qs_set (i := 1) sc_read.nd rfl (Or.inl rfl) (qe_call ((ok_body_drawn L).mono (by decide)) hr rfl L.body_drawn.m L.body_drawn.F.kp L.body_drawn.b .nil pass0 (qa_cons (qv 0) qa_nil)))
    (qss_cons (qs_if (qt_cmpR qo_ne (qe_call ((ok_shown L).mono (by decide)) hr rfl L.shown.m L.shown.F.kp L.shown.b .nil pass0 (qa_cons (qv 1) qa_nil)) (qv 0) (nomark _)) (qss_one qs_never) qss_nil)
    (qss_one (qs_ret (qv 1)))))), ?_⟩
  walk_at "rd"
  refine ⟨cs, rfl, hw, fun p zs H1 s1 hp e1 r1 => ?_⟩
  walk_at "rd"
  refine ⟨p, zs, cs, rfl, SqL.of e1, r1, hw, fun H2 s2 => ?_⟩
  walk_at "rd"
  rw [decide_eq_true rfl]
  walk_at "rd"
  exact k p zs H2 (s1.trans s2) hp (s2 _ _ e1) (Rs.up s2 r1)
end
end P11
set_option Elab.async false
set_option linter.all false
set_option maxRecDepth 100000
set_option maxHeartbeats 4000000
namespace P11
open PySem L2 Srt Pc
section
variable {P : Program} {w : World} {K : PySem.W.Frag} {mg : Str → Option Value} {base : Heap} {ad : Ad}
theorem ok__law_cell_at (L : All K w mg ad) : FnOk P w K mg base CX0 1 ad.f__law_cell_at ad.d__law_cell_at ["_law_script", "_law_k"] (spCellAt K) := by
  refine L._law_cell_at.F.okQ sc__law_cell_at (fun vs H Q E h => ?_) (fun cdv A outer s H vs Q E hr h => ?_)
  · obtain ⟨a, ns, k, rfl, _⟩ := h
    rfl
  obtain ⟨a, ns, k, rfl, hS, h0, q⟩ := h
  refine ⟨_, (qss_cons (qs_if (qt_cmpR qo_lt (qv 1) (qe_callB (qc_len (K := K) rfl) rfl L.n_len b_len (qa_cons (qv 0) qa_nil)) (nomark _)) (qss_one (qs_ret (qe_ix (qx_list (K := K) rfl) (qv 0) (qv 1) (fun _ _ => rfl)))) qss_nil)
    (qss_one (qs_ret qe_int))), ?_⟩
  refine ⟨_, rfl, _, rfl, a, _, rfl, .inl hS, _, _, rfl, rfl, _, rfl, ?_⟩
  refine ite2 (fun c => ?_) (fun c => q 0)
  have c' := of_decide_eq_true c
  rw [List.length_map] at c'
  have hk : k.toNat < ns.length := by lia
  have e : atI (ns.map V.int) k = some (.int ns[k.toNat]) := by
    have q : atI (ns.map V.int) ((k.toNat : Nat) : Int) = some (.int ns[k.toNat]) := atI_nat (by rw [List.getElem?_map, List.getElem?_eq_getElem hk] <;> rfl)
    rwa [show ((k.toNat : Nat) : Int) = k by lia] at q
  exact ⟨_, rfl, _, rfl, a, _, _, _, rfl, rfl, hS, e, q _⟩
theorem ok__law_mix (L : All K w mg ad) : FnOk P w K mg base CX0 1 ad.f__law_mix ad.d__law_mix ["_law_cell", "_law_k"] spMix := by
  refine L._law_mix.F.okQ sc__law_mix (fun vs H Q E h => ?_) (fun cdv A outer s H vs Q E hr h => ?_)
  · obtain ⟨a, b, rfl, _⟩ := h
    rfl
  obtain ⟨a, b, rfl, b0, b1, k⟩ := h
  refine ⟨_, (qss_one (qs_ret (qe_op qo_mod (qe_op qo_mul (qe_op qo_add (qe_op qo_add (qe_op qo_mod (qv 0) qe_int) (qe_op qo_mul qe_int (qv 1))) qe_int) qe_int) qe_int))), ?_⟩
  walk_at "rd"
  exact k _ (Int.emod_nonneg _ (by decide)) (Int.emod_lt_of_pos _ (by decide))
theorem ok__law_step (L : All K w mg ad) : FnOk P w K mg base CX0 1 ad.f__law_step ad.d__law_step ["_law_cell", "_law_number"] (spStepD K) := by
  refine L._law_step.F.okQ sc__law_step (fun vs H Q E h => ?_) (fun cdv A outer s H vs Q E hr h => ?_)
  · obtain ⟨a, c, n, rfl, _⟩ := h
    rfl
  obtain ⟨a, c, n, rfl, hS, n0, k⟩ := h
  refine ⟨_, (qss_cons (qs_set (i := 2) sc__law_step.nd rfl (Or.inl rfl) (qe_op qo_mod (qv 1) qe_int))
    (qss_cons (qs_set (i := 3) sc__law_step.nd rfl (Or.inl rfl) (qe_op qo_add (qe_ix (qx_tup (K := K) rfl) (qv 0) (qv 2) (fun _ _ => rfl)) (qe_ix (qx_list (K := K) rfl) (qe_lst (qa_cons qe_int (qa_cons (qe_neg qe_int) (qa_cons qe_int (qa_cons (qe_neg qe_int) (qa_cons qe_int (qa_cons (qe_neg qe_int) qa_nil))))))) (qe_op qo_mod (qe_op qo_fdiv (qv 1) qe_int) qe_int) (fun _ _ => rfl))))
    (qss_one (qs_ret (qe_op qo_catG (qe_op qo_catG (qe_slT (K := K) rfl (qv 0) qo_none (qo_some (qv 2))) (qe_tup (qa_cons (qv 3) qa_nil))) (qe_slT (K := K) rfl (qv 0) (qo_some (qe_op qo_add (qv 2) qe_int)) qo_none)))))), ?_⟩
  have ht0 : 0 ≤ n % 3 := Int.emod_nonneg _ (by decide)
  have ht1 : n % 3 < 3 := Int.emod_lt_of_pos _ (by decide)
  have hm0 : 0 ≤ n / 3 % 6 := Int.emod_nonneg _ (by decide)
  have hm1 : n / 3 % 6 < 6 := Int.emod_lt_of_pos _ (by decide)
  obtain ⟨q1, hq1⟩ := at3 c _ ht0 ht1
  obtain ⟨q2, hq2⟩ := at6 1 (-1) 1 (-1) 2 (-3) _ hm0 hm1
  walk_at "rd"
  refine rd_ixT hS hq1 ?_
  walk_at "rd"
  refine ⟨le6, fun l hl => ?_⟩
  walk_at "rd"
  refine rd_ixL (SqL.of upd_same) hq2 ?_
  walk_at "rd"
  have s0 := same_new (o := .lst [V.int 1, V.int (-1), V.int 1, V.int (-1), V.int 2, V.int (-3)]) hl
  refine rd_slT (same_tup s0 hS) (cut_lo c _ ht0 ht1) fun p1 h1 => ?_
  have s1 := s0.trans (same_new (o := .tup (cutV c.v none (some (n % 3)))) h1)
  walk_at "rd"
  refine ⟨le1, fun p2 h2 => ?_⟩
  have s2 := s1.trans (same_new (o := .tup [V.int (q1 + q2)]) h2)
  have z1 := cut_z (xs := c.v) (lo := none) (hi := some (n % 3)) (by show 3 ≤ 10; decide)
  have z2 := cut_z (xs := c.v) (lo := some (n % 3 + 1)) (hi := none) (by show 3 ≤ 10; decide)
  refine rd_catG (lk_old h2 upd_same) upd_same (Nat.le_of_lt (small1000 (by simp only [List.length_cons, List.length_nil]; lia))) fun p3 H3 s3 e3 => ?_
  walk_at "rd"
  refine rd_slT (same_tup (s2.trans s3) hS) (cut_hi c _ ht0 ht1) fun p4 h4 => ?_
  walk_at "rd"
  refine rd_catG (lk_old h4 e3) upd_same (Nat.le_of_lt (small1000 (by simp only [List.length_append, List.length_cons, List.length_nil]; lia))) fun p5 H5 s5 e5 => ?_
  obtain ⟨d, ed⟩ := cut_put c.x c.y c.z (q1 + q2) _ ht0 ht1
  have ed : cutV c.v none (some (n % 3)) ++ [V.int (q1 + q2)] ++ cutV c.v (some (n % 3 + 1)) none = d.v := ed
  rw [ed] at e5
  exact k p5 d H5 ((s2.trans s3).trans ((same_new h4).trans s5)) e5
theorem ok__law_drawn (L : All K w mg ad) : FnOk P w K mg base CX0 2 ad.f__law_drawn ad.d__law_drawn ["_law_cells", "_law_room"] (spDrawnS K) := by
  refine L._law_drawn.F.okQ sc__law_drawn (fun vs H Q E h => ?_) (fun cdv A outer s H vs Q E hr h => ?_)
  · obtain ⟨a, ns, room, rfl, _⟩ := h
    rfl
  obtain ⟨a, ns, room, rfl, hS, hn, hroom, k⟩ := h
  refine ⟨_, (qss_cons (qs_set (i := 2) sc__law_drawn.nd rfl (Or.inl rfl) (qe_lst qa_nil))
    (qss_cons (qs_set (i := 3) sc__law_drawn.nd rfl (Or.inl rfl) (qe_tup (qa_cons qe_int (qa_cons qe_int (qa_cons qe_int qa_nil)))))
    (qss_cons (qs_for PassesOwn.never rfl (qi_range1 rfl L.n_range (qa_cons (qe_callB (qc_len (K := K) rfl) rfl L.n_len b_len (qa_cons (qv 0) qa_nil)) qa_nil)) (qg_name (i := 4) sc__law_drawn.nd rfl (Or.inl rfl))
      (qss_cons (qs_set (i := 5) sc__law_drawn.nd rfl (Or.inl rfl) (qe_call ((ok__law_mix L).mono (by decide)) hr rfl L._law_mix.m L._law_mix.F.kp L._law_mix.b .nil pass0 (qa_cons (qe_ix (qx_list (K := K) rfl) (qv 0) (qv 4) (fun _ _ => rfl)) (qa_cons (qv 4) qa_nil))))
    (qss_cons (qs_if (QW.t (qw_and (qt_cmpR (qo_neR (K := K) rfl hr.units) (qv 2) (qe_lst qa_nil) (nomark _)) (qw_and1 (qt_cmpR qo_eq (qe_op qo_mod (qv 5) qe_int) qe_int (nomark _))))) (qss_one (qs_set (i := 3) sc__law_drawn.nd rfl (Or.inl rfl) (qe_ix (qx_list (K := K) rfl) (qv 2) (qe_op qo_mod (qe_op qo_fdiv (qv 5) qe_int) (qe_callB (qc_len (K := K) rfl) rfl L.n_len b_len (qa_cons (qv 2) qa_nil))) (fun _ _ => rfl)))) qss_nil)
    (qss_cons (qs_set (i := 3) sc__law_drawn.nd rfl (Or.inl rfl) (qe_call ((ok__law_step L).mono (by decide)) hr rfl L._law_step.m L._law_step.F.kp L._law_step.b .nil pass0 (qa_cons (qv 3) (qa_cons (qe_op qo_fdiv (qv 5) qe_int) qa_nil))))
    (qss_cons (qs_if (qt_cmpR qo_gt (qe_callB (qc_maxL (K := K) rfl rfl) rfl L.n_max b_max (qa_cons (qe_comp (N := ["_law_part"]) ["_law_part"] [] rfl rfl rfl rfl (qi_tup (K := K) rfl (qv 3)) (fun _ _ _ _ => (qg_name (i := 0) (by show (["_law_part"] : List Str).Nodup; decide +kernel) rfl (Or.inl rfl))) (fun _ _ _ _ => qf_nil) (fun _ _ _ _ => (qe_callB qc_abs rfl L.n_abs b_abs (qa_cons (qv 0) qa_nil)))) qa_nil)) (qv 1) (nomark _)) (qss_one (qs_set (i := 3) sc__law_drawn.nd rfl (Or.inl rfl) (qe_tup (qa_cons (qe_op qo_mod (qv 5) qe_int) (qa_cons (qe_op qo_mod (qe_op qo_fdiv (qv 5) qe_int) qe_int) (qa_cons (qe_op qo_mod (qe_op qo_fdiv (qv 5) qe_int) qe_int) qa_nil)))))) qss_nil)
    (qss_one (qs_if (qt_cmpR (qo_notInC (K := K) rfl hr.units) (qv 3) (qv 2) rfl) (qss_one (qs_expr (qe_bm (K := K) rfl PySem.F.plainAttrs_list PySem.F.slot_list_append PySem.F.type_list_append mt_append (qv 2) (qa_cons (qv 3) qa_nil)))) qss_nil)))))))
    (qss_one (qs_ret (qv 2)))))), ?_⟩
  walk_at "rd"
  refine ⟨le0, fun l hl => ?_⟩
  walk_at "rd"
  refine ⟨le3, fun h0 hh0 => ?_⟩
  walk_at "rd"
  have elen : ((ns.map V.int).length : Int).toNat = ns.length := by simp
  have elen2 : ((List.range ns.length).map fun i : Nat => (0 : Int) + (i : Int)).length = ns.length := by simp
  refine ⟨_, rfl, by rw [List.length_map]; lia, by rw [List.length_map]; lia, ?_⟩
  rw [elen]
  refine for_feeds (R := IsI) (H0 := H) (fun i σ H' => (∃ hp hc o4 o5, σ = [some (.ref a), some (.int room), some (.ref l), some (.ref hp), o4, o5] ∧ H' hp = some (.tup (C3.v hc))) ∧ Same H H' ∧ ∃ ys cs, H' l = some (.lst ys) ∧ Cs H' ys cs ∧ cs.Nodup ∧ (∀ c ∈ cs, C3.within room c) ∧ cs.length ≤ i) feeds_range (fun _ _ _ q => q.2.1)
    ⟨⟨h0, ⟨0, 0, 0⟩, none, none, rfl, upd_same⟩, (same_new hl).trans (same_new hh0), [], [], lk_old hh0 upd_same, .nil, List.nodup_nil, (fun _ h => nomatch h), Nat.le_refl _⟩ ?_ ?_
  · rintro σ H' ⟨⟨hp, hc, o4, o5, rfl, eh⟩, s1, ys, cs, e1, r1, nd, wi, hlc⟩
    walk_at "rd"
    rw [elen2] at hlc
    exact k l ys cs H' s1 hl e1 r1 nd wi hlc
  · rintro i x v σ H1 H' hi ex ⟨⟨hp, hc, o4, o5, rfl, eh⟩, s1, ys, cs, e1, r1, nd, wi, hlc⟩ s2 rfl
    rw [elen2] at hi
    have hx : x = (i : Int) := by
      rw [List.getElem?_map, List.getElem?_eq_getElem (by simpa using hi)] at ex
      have ex : (0 : Int) + ((List.range ns.length)[i]'(by simpa using hi) : Int) = x := Option.some.inj ex
      rw [List.getElem_range] at ex
      lia
    subst hx
    walk_at "rd"
    refine rd_ixL ((s1.trans s2).seq hS) (atI_nat (by rw [List.getElem?_map, List.getElem?_eq_getElem hi]; rfl)) ?_
    walk_at "rd"
    refine ⟨_, _, rfl, by lia, by lia, fun n n0 n1 => ?_⟩
    refine rd_gname ?_
    with_reducible refine rd_seqK fun N hN => ?_
    have el := s2 _ _ e1
    have rest : ∀ (hp' : Addr) (hc' : C3) (H2 : Hp), Same H' H2 → H2 hp' = some (.tup hc'.v) → N [some (.ref a), some (.int room), some (.ref l), some (.ref hp'), some (.int (i : Int)), some (.int n)] H2 := by
      intro hp' hc' H2 s3 eh'
      apply hN
      walk_at "rd"
      refine ⟨_, hc', _, rfl, SqT.of eh', by lia, fun p d H3 s4 e4 => ?_⟩
      refine rd_gname ?_
      with_reducible refine rd_seqK fun N2 hN2 => ?_
      have last : ∀ (q : Addr) (c : C3) (H4 : Hp), Same H3 H4 → H4 q = some (.tup c.v) → C3.within room c → N2 [some (.ref a), some (.int room), some (.ref l), some (.ref q), some (.int (i : Int)), some (.int n)] H4 := by
        intro q c H4 s5 e5 w
        have s6 : Same H' H4 := s3.trans (s4.trans s5)
        apply hN2
        walk_at "rd"
        refine rd_notInC (SqT.of e5) (SqL.of (s6 _ _ el)) (Rs.up (s2.trans s6) r1) ?_
        walk_at "rd"
        by_cases hm : c ∈ cs
        · rw [decide_eq_true hm]
          walk_at "rd"
          exact ⟨⟨q, c, _, _, rfl, e5⟩, s1.trans (s2.trans s6), ys, cs, s6 _ _ el, Rs.up (s2.trans s6) r1, nd, wi, Nat.le_succ_of_le hlc⟩
        · rw [decide_eq_false hm]
          walk_at "rd"
          refine ⟨.inl ⟨rfl, _, SqL.of (s6 _ _ el)⟩, ?_⟩
          walk_at "rd"
          have hz : ys.length < sizeLine := by
            have := r1.len
            exact small1000 (by lia)
          refine ⟨l, _, _, rfl, rfl, s6 _ _ el, hz, ?_⟩
          walk_at "rd"
          refine ⟨⟨q, c, _, _, rfl, lk_kind (s6 _ _ el) (by intro z; cases z) e5⟩, same_up (s1.trans (s2.trans s6)) hl, _, cs ++ [c], upd_same, Rs.lst (s6 _ _ el) (Rs.app (Rs.up (s2.trans s6) r1) (.cons ⟨q, rfl, e5⟩ .nil)), ?_, ?_, ?_⟩
          · rw [List.nodup_append]
            refine ⟨nd, by simp, fun x hx y hy => ?_⟩
            rw [List.mem_singleton] at hy
            subst hy
            exact fun e => hm (e ▸ hx)
          · intro y hy
            rcases List.mem_append.mp hy with hy | hy
            · exact wi y hy
            · rw [List.mem_singleton] at hy
              subst hy
              exact w
          · rw [List.length_append, List.length_singleton]
            lia
      walk_at "rd"
      intro acc hacc
      refine comp_map (S := IsI) (fun z : Int => if z < 0 then -z else z) 1 [] (feeds_tup (SqT.of e4) (Rs.ints d.l)) (by show 3 ≤ 16000000; decide) hacc ?_ ?_
      · rintro os v z H4 R1 ho s5 _ rfl kk
        obtain ⟨o, rfl⟩ := List.length_eq_one_iff.mp ho
        walk_at "rd"
        exact kk [_] _ _ rfl (Same.refl _) rfl
      · intro zs H4 s5 e5 r5
        walk_at "rd"
        have ez := ints_eq r5
        rw [ez] at e5
        refine rd_maxL (SqL.of e5) (by simp [C3.l]) fun M hM hle => ?_
        walk_at "rd"
        by_cases hg : room < M
        · rw [decide_eq_true hg]
          walk_at "rd"
          refine ⟨le3, fun q hq => ?_⟩
          walk_at "rd"
          refine last q ⟨n % 3, n / 3 % 3, n / 9 % 3⟩ _ (s5.trans (same_new hq)) upd_same ?_
          refine ⟨?_, ?_, ?_⟩ <;> constructor <;> dsimp only <;> lia
        · rw [decide_eq_false hg]
          walk_at "rd"
          refine last p d H4 s5 (s5 _ _ e4) ?_
          exact within_of fun z hz => by
            have := hle (if z < 0 then -z else z) (List.mem_map.mpr ⟨z, hz, rfl⟩)
            lia
    walk_at "rd"
    refine ⟨le0, fun p0 hp0 => ?_⟩
    have el0 : upd H' p0 (.lst []) l = some (.lst ys) := lk_old hp0 el
    have r0 : Cs (upd H' p0 (.lst [])) ys cs := Rs.up (s2.trans (same_new hp0)) r1
    refine rd_neR (SqL.of el0) r0 (SqL.of upd_same) .nil ?_
    walk_at "rd"
    by_cases hcs : cs = []
    · rw [decide_eq_true hcs]
      walk_at "rd"
      exact rest hp hc _ (same_new hp0) (lk_old hp0 (s2 _ _ eh))
    · rw [decide_eq_false hcs]
      walk_at "rd"
      have hpos : 0 < ys.length := by
        have := r1.len
        have := List.length_pos_iff.mpr hcs
        lia
      by_cases h5 : n % 5 = 0
      · rw [decide_eq_true h5]
        walk_at "rd"
        have hi0 : 0 ≤ n / 5 % (ys.length : Int) := Int.emod_nonneg _ (by lia)
        have hi1 : n / 5 % (ys.length : Int) < (ys.length : Int) := Int.emod_lt_of_pos _ (by lia)
        obtain ⟨j, hj⟩ : ∃ j : Nat, n / 5 % (ys.length : Int) = (j : Int) := ⟨_, (Int.toNat_of_nonneg hi0).symm⟩
        rw [hj] at hi1 ⊢
        have hjl : j < ys.length := by lia
        obtain ⟨c', hc', a', ea', ta'⟩ := r0.get (List.getElem?_eq_getElem hjl)
        refine rd_ixL (SqL.of el0) (atI_nat (List.getElem?_eq_getElem hjl)) ?_
        rw [ea']
        refine rd_gname ?_
        exact rest a' c' _ (same_new hp0) ta'
      · rw [decide_eq_false h5]
        walk_at "rd"
        exact rest hp hc _ (same_new hp0) (lk_old hp0 (s2 _ _ eh))
theorem ok__law_moved (L : All K w mg ad) : FnOk P w K mg base CX0 1 ad.f__law_moved ad.d__law_moved ["_law_cells", "_law_by"] (spMovedB K) := by
  refine L._law_moved.F.okQ sc__law_moved (fun vs H Q E h => ?_) (fun cdv A outer s H vs Q E hr h => ?_)
  · obtain ⟨a, b, ys, cs, i, j, kz, rfl, _⟩ := h
    rfl
  obtain ⟨a, b, ys, cs, i, j, kz, rfl, hS, hc, hl, hb, k⟩ := h
  refine ⟨_, (qss_one (qs_ret (qe_callB (qc_sortC (K := K) rfl) rfl L.n_sorted b_sorted (qa_cons (qe_comp (N := ["_law_x", "_law_y", "_law_z", "_law_by"]) ["_law_x", "_law_y", "_law_z"] [1] rfl rfl rfl rfl (qi_list (K := K) rfl (qv 0)) (fun _ _ _ _ => (qg_tup (K := K) (n := 3) rfl rfl (qgs_cons (qg_name (i := 0) (by show (["_law_x", "_law_y", "_law_z", "_law_by"] : List Str).Nodup; decide +kernel) rfl (Or.inl rfl)) (qgs_cons (qg_name (i := 1) (by show (["_law_x", "_law_y", "_law_z", "_law_by"] : List Str).Nodup; decide +kernel) rfl (Or.inl rfl)) (qgs_cons (qg_name (i := 2) (by show (["_law_x", "_law_y", "_law_z", "_law_by"] : List Str).Nodup; decide +kernel) rfl (Or.inl rfl)) qgs_nil))))) (fun _ _ _ _ => qf_nil) (fun _ _ _ _ => (qe_tup (qa_cons (qe_op qo_add (qv 0) (qe_ix (qx_list (K := K) rfl) (qv 3) qe_int (fun _ _ => rfl))) (qa_cons (qe_op qo_add (qv 1) (qe_ix (qx_list (K := K) rfl) (qv 3) qe_int (fun _ _ => rfl))) (qa_cons (qe_op qo_add (qv 2) (qe_ix (qx_list (K := K) rfl) (qv 3) qe_int (fun _ _ => rfl))) qa_nil)))))) qa_nil)))), ?_⟩
  walk_at "rd"
  intro acc hacc
  refine comp_map (S := IsC) (mvT i j kz) 3 [some (.ref b)] (feeds_list hS hc) (by lia) hacc ?_ ?_
  · rintro os v c H' R1 ho s1 _ ⟨p, rfl, ep⟩ kk
    obtain ⟨o1, o2, o3, rfl⟩ := st3 ho
    have hb1 := s1.seq hb
    obtain ⟨cx, cy, cz⟩ := c
    have ep : H' p = some (.tup [.int cx, .int cy, .int cz]) := ep
    walk_at "rd"
    refine ⟨le3, fun t ht => ?_⟩
    exact kk [_, _, _] _ _ rfl (same_new ht) ⟨t, rfl, upd_same⟩
  intro zs H1 s1 e1 r1
  walk_at "rd"
  refine rd_sortC (SqL.of e1) r1 (by rw [List.length_map]; lia) fun p zs2 hp hc2 => ?_
  walk_at "rd"
  exact k p zs2 _ (s1.trans (same_new hp)) (s1.free hp) upd_same hc2
theorem ok__law_text (L : All K w mg ad) : FnOk P w K mg base CX0 1 ad.f__law_text ad.d__law_text ["_law_body"] (spShown K) := by
  refine L._law_text.F.okQ sc__law_text (fun vs H Q E h => ?_) (fun cdv A outer s H vs Q E hr h => ?_)
  · obtain ⟨a, ys, cs, rfl, _⟩ := h
    rfl
  obtain ⟨a, ys, cs, rfl, hS, hc, hw, k⟩ := h
  have h45 := hw.len
  refine ⟨_, (qss_cons (qs_if (qt_cmpR (qo_eqR (K := K) rfl hr.units) (qv 0) (qe_lst qa_nil) (nomark _)) (qss_one (qs_ret qe_str)) qss_nil)
    (qss_cons (qs_setU (i := 1) (N := ["_law_place", "_law_body"]) ["_law_place"] [0] sc__law_text.nd rfl (Or.inl rfl) rfl rfl rfl rfl (qi_range1 rfl L.n_range (qa_cons qe_int qa_nil)) (fun _ _ _ _ => (qg_name (i := 0) (by show (["_law_place", "_law_body"] : List Str).Nodup; decide +kernel) rfl (Or.inr rfl))) (fun _ _ _ _ => qf_nil) (fun _ _ _ _ => (qe_callB (qc_minL (K := K) rfl rfl) rfl L.n_min b_min (qa_cons (qe_comp (N := ["_law_cell", "_law_place"]) ["_law_cell"] [0] rfl rfl rfl rfl (qi_list (K := K) rfl (qv 1)) (fun _ _ _ _ => (qg_name (i := 0) (by show (["_law_cell", "_law_place"] : List Str).Nodup; decide +kernel) rfl (Or.inl rfl))) (fun _ _ _ _ => qf_nil) (fun _ _ _ _ => (qe_ix (qx_tup (K := K) rfl) (qv 0) (qv 1) (fun _ _ => rfl)))) qa_nil))))
    (qss_cons (qs_setU (i := 2) (N := ["_law_place", "_law_body"]) ["_law_place"] [0] sc__law_text.nd rfl (Or.inl rfl) rfl rfl rfl rfl (qi_range1 rfl L.n_range (qa_cons qe_int qa_nil)) (fun _ _ _ _ => (qg_name (i := 0) (by show (["_law_place", "_law_body"] : List Str).Nodup; decide +kernel) rfl (Or.inr rfl))) (fun _ _ _ _ => qf_nil) (fun _ _ _ _ => (qe_callB (qc_maxL (K := K) rfl rfl) rfl L.n_max b_max (qa_cons (qe_comp (N := ["_law_cell", "_law_place"]) ["_law_cell"] [0] rfl rfl rfl rfl (qi_list (K := K) rfl (qv 1)) (fun _ _ _ _ => (qg_name (i := 0) (by show (["_law_cell", "_law_place"] : List Str).Nodup; decide +kernel) rfl (Or.inl rfl))) (fun _ _ _ _ => qf_nil) (fun _ _ _ _ => (qe_ix (qx_tup (K := K) rfl) (qv 0) (qv 1) (fun _ _ => rfl)))) qa_nil))))
    (qss_cons (qs_set (i := 3) sc__law_text.nd rfl (Or.inl rfl) (qe_callTy (qc_dictP (K := K) rfl rfl (hu2_of hr)) rfl L.n_dict b_dict (qa_cons (qe_comp (N := ["_law_cell"]) ["_law_cell"] [] rfl rfl rfl rfl (qi_list (K := K) rfl (qv 0)) (fun _ _ _ _ => (qg_name (i := 0) (by show (["_law_cell"] : List Str).Nodup; decide +kernel) rfl (Or.inl rfl))) (fun _ _ _ _ => qf_nil) (fun _ _ _ _ => (qe_tup (qa_cons (qv 0) (qa_cons qe_bl qa_nil))))) qa_nil)))
    (qss_cons (qs_set (i := 4) sc__law_text.nd rfl (Or.inl rfl) (qe_lst qa_nil))
    (qss_cons (qs_for PassesOwn.never rfl (qi_range2 rfl L.n_range (qa_cons (qe_ix (qx_list (K := K) rfl) (qv 1) qe_int (fun _ _ => rfl)) (qa_cons (qe_op qo_add (qe_ix (qx_list (K := K) rfl) (qv 2) qe_int (fun _ _ => rfl)) qe_int) qa_nil))) (qg_name (i := 5) sc__law_text.nd rfl (Or.inl rfl))
      (qss_cons (qs_set (i := 6) sc__law_text.nd rfl (Or.inl rfl) (qe_lst qa_nil))
    (qss_cons (qs_for PassesOwn.never rfl (qi_range2 rfl L.n_range (qa_cons (qe_ix (qx_list (K := K) rfl) (qv 1) qe_int (fun _ _ => rfl)) (qa_cons (qe_op qo_add (qe_ix (qx_list (K := K) rfl) (qv 2) qe_int (fun _ _ => rfl)) qe_int) qa_nil))) (qg_name (i := 7) sc__law_text.nd rfl (Or.inl rfl))
      (qss_cons (qs_set (i := 8) sc__law_text.nd rfl (Or.inl rfl) qe_str)
    (qss_cons (qs_for PassesOwn.never rfl (qi_range2 rfl L.n_range (qa_cons (qe_ix (qx_list (K := K) rfl) (qv 1) qe_int (fun _ _ => rfl)) (qa_cons (qe_op qo_add (qe_ix (qx_list (K := K) rfl) (qv 2) qe_int (fun _ _ => rfl)) qe_int) qa_nil))) (qg_name (i := 9) sc__law_text.nd rfl (Or.inl rfl))
      (qss_one (qs_set (i := 8) sc__law_text.nd rfl (Or.inl rfl) (qe_op qo_add_str (qv 8) (qe_ix (qx_list (K := K) rfl) (qe_lst (qa_cons qe_str (qa_cons qe_str qa_nil))) (qe_callTy qc_int rfl L.n_int b_int (qa_cons (qe_din (hu_of hr) (qe_tup (qa_cons (qv 9) (qa_cons (qv 7) (qa_cons (qv 5) qa_nil)))) (qv 3) rfl) qa_nil)) (fun _ _ => rfl))))))
    (qss_one (qs_expr (qe_bm (K := K) rfl PySem.F.plainAttrs_list PySem.F.slot_list_insert PySem.F.type_list_insert mt_insert (qv 6) (qa_cons qe_int (qa_cons (qv 8) qa_nil))))))))
    (qss_one (qs_expr (qe_bm (K := K) rfl PySem.F.plainAttrs_list PySem.F.slot_list_append PySem.F.type_list_append mt_append (qv 4) (qa_cons (qe_bm (K := K) rfl PySem.F.plainAttrs_str PySem.F.slot_str_join PySem.F.type_str_join (mt_join (K := K) rfl) qe_str (qa_cons (qv 6) qa_nil)) qa_nil)))))))
    (qss_one (qs_ret (qe_op qo_add_str (qe_op qo_add_str (qe_bm (K := K) rfl PySem.F.plainAttrs_str PySem.F.slot_str_join PySem.F.type_str_join (mt_join (K := K) rfl) qe_str (qa_cons (qe_comp (N := ["_law_part"]) ["_law_part"] [] rfl rfl rfl rfl (qi_list (K := K) rfl (qv 1)) (fun _ _ _ _ => (qg_name (i := 0) (by show (["_law_part"] : List Str).Nodup; decide +kernel) rfl (Or.inl rfl))) (fun _ _ _ _ => qf_nil) (fun _ _ _ _ => (qe_callTy qc_str rfl L.n_str b_str (qa_cons (qv 0) qa_nil)))) qa_nil)) qe_str) (qe_bm (K := K) rfl PySem.F.plainAttrs_str PySem.F.slot_str_join PySem.F.type_str_join (mt_join (K := K) rfl) qe_str (qa_cons (qv 4) qa_nil))))))))))), ?_⟩
  walk_at "rd"
  refine ⟨le0, fun e0 he0 => ?_⟩
  refine rd_eqR ((same_new he0).seq hS) (Rs.up (same_new he0) hc) (SqL.of upd_same) .nil ?_
  by_cases hn : cs = []
  · subst hn
    rw [decide_eq_true rfl]
    walk_at "rd"
    have := k _ (same_new (o := .lst []) he0)
    unfold Tx.textC at this
    rw [if_pos rfl] at this
    exact this
  rw [decide_eq_false hn]
  have et : Tx.textC cs = Tx.allTx (loA .x cs) (loA .y cs) (loA .z cs) (Tx.laysOf cs) := by unfold Tx.textC; rw [if_neg hn]
  have s0 := same_new (o := .lst []) he0
  have hS0 := s0.seq hS
  have hc0 := Rs.up s0 hc
  generalize upd H e0 (.lst []) = H1 at s0 hS0 hc0 ⊢
  walk_at "rd"
  intro acc hacc
  have hne : ∀ p : Int, (cs.map fun c => (axI p).at c) ≠ [] := fun p => by simpa using hn
  refine comp_map (S := IsI) (fun p : Int => loA (axI p) cs) 1 [some (.ref a)] feeds_range (by simp) hacc ?_ ?_
  · rintro os v x H2 R1 ho s2 hx rfl kk
    obtain ⟨o, rfl⟩ := List.length_eq_one_iff.mp ho
    obtain ⟨i, hi, rfl⟩ := List.mem_map.mp hx
    have hi : i < 3 := by simpa using hi
    walk_at "rd"
    intro acc2 hacc2
    refine comp_map (S := IsI) (fun c : C3 => (axI (0 + (i : Int))).at c) 1 [some (.int (0 + (i : Int)))] (feeds_list (s2.seq hS0) (Rs.up s2 hc0)) (by lia) hacc2 ?_ ?_
    · rintro os v c H3 R2 ho s3 _ ⟨b, rfl, eb⟩ kk2
      obtain ⟨o, rfl⟩ := List.length_eq_one_iff.mp ho
      walk_at "rd"
      refine rd_ixT (SqT.of eb) (at_k (by lia) (by lia) c) ?_
      exact kk2 [_] _ _ rfl (Same.refl _) (by rw [axI_at]; rfl)
    intro zs H3 s3 e3 r3
    rw [ints_eq r3] at e3
    walk_at "rd"
    refine rd_minL (SqL.of e3) (hne _) fun m hm lm => ?_
    have h1 : IsLo (axI (0 + (i : Int))) cs m := ⟨let ⟨c, hc, e⟩ := List.mem_map.mp hm; ⟨c, hc, e⟩, fun c hc => lm _ (List.mem_map.mpr ⟨c, hc, rfl⟩)⟩
    exact kk [_] _ _ rfl s3 (by show V.int m = V.int _; rw [h1.eq])
  intro zs H2 s2 e2 r2
  rw [ints_eq r2] at e2
  have e2 : H2 acc = some (.lst [.int (loA .x cs), .int (loA .y cs), .int (loA .z cs)]) := e2
  have hS2 := s2.seq hS0
  have hc2 := Rs.up s2 hc0
  walk_at "rd"
  intro mo hmo
  refine comp_map (S := IsI) (fun p : Int => hiA (axI p) cs) 1 [some (.ref a)] feeds_range (by simp) hmo ?_ ?_
  · rintro os v x H3 R1 ho s3 hx rfl kk
    obtain ⟨o, rfl⟩ := List.length_eq_one_iff.mp ho
    obtain ⟨i, hi, rfl⟩ := List.mem_map.mp hx
    have hi : i < 3 := by simpa using hi
    walk_at "rd"
    intro acc2 hacc2
    refine comp_map (S := IsI) (fun c : C3 => (axI (0 + (i : Int))).at c) 1 [some (.int (0 + (i : Int)))] (feeds_list (s3.seq hS2) (Rs.up s3 hc2)) (by lia) hacc2 ?_ ?_
    · rintro os v c H3 R2 ho s3 _ ⟨b, rfl, eb⟩ kk2
      obtain ⟨o, rfl⟩ := List.length_eq_one_iff.mp ho
      walk_at "rd"
      refine rd_ixT (SqT.of eb) (at_k (by lia) (by lia) c) ?_
      exact kk2 [_] _ _ rfl (Same.refl _) (by rw [axI_at]; rfl)
    intro zs H4 s4 e4 r4
    rw [ints_eq r4] at e4
    walk_at "rd"
    refine rd_maxL (SqL.of e4) (hne _) fun m hm lm => ?_
    have h1 : IsHi (axI (0 + (i : Int))) cs m := ⟨let ⟨c, hc, e⟩ := List.mem_map.mp hm; ⟨c, hc, e⟩, fun c hc => lm _ (List.mem_map.mpr ⟨c, hc, rfl⟩)⟩
    exact kk [_] _ _ rfl s4 (by show V.int m = V.int _; rw [h1.eq])
  intro zs H3 s3 e3 r3
  rw [ints_eq r3] at e3
  have e3 : H3 mo = some (.lst [.int (hiA .x cs), .int (hiA .y cs), .int (hiA .z cs)]) := e3
  have e2' := s3 _ _ e2
  walk_at "rd"
  intro kl hkl
  refine comp_map (S := IsKV) (fun c : C3 => (c, V.bl true)) 1 [] (feeds_list (s3.seq hS2) (Rs.up s3 hc2)) (by lia) hkl ?_ ?_
  · rintro os v c H4 R1 ho s4 _ ⟨b, rfl, eb⟩ kk
    obtain ⟨o, rfl⟩ := List.length_eq_one_iff.mp ho
    walk_at "rd"
    refine ⟨le2, fun t ht => ?_⟩
    exact kk [_] _ _ rfl (same_new ht) ⟨t, b, rfl, upd_same, lk_old ht eb⟩
  intro kz H4 s4 e4 r4
  walk_at "rd"
  refine rd_dictP (SqL.of e4) r4 fun d hd => ?_
  have s5 := s4.trans (same_new (o := .dT (dctC (cs.map fun c => (c, V.bl true)))) hd)
  have eS : (upd H4 d (.dT (dctC (cs.map fun c => (c, V.bl true))))) d = some (.dT (dctC (cs.map fun c => (c, V.bl true)))) := upd_same
  have eL := s5 _ _ e2'
  have eM := s5 _ _ e3
  have sA := s0.trans (s2.trans (s3.trans s5))
  generalize upd H4 d (.dT (dctC (cs.map fun c => (c, V.bl true)))) = H5 at s5 eS eL eM sA ⊢
  clear e4 r4 hkl e2 e3 e2' hS2 hc2 hS0 hc0
  have fx := Wr.fit hw hn .x
  have fy := Wr.fit hw hn .y
  have fz := Wr.fit hw hn .z
  obtain ⟨xa, xb, xc, xd⟩ := id fx
  obtain ⟨ya, yb, yc, yd⟩ := id fy
  obtain ⟨za, zb, zc, zd⟩ := id fz
  have hdr := hw.draw hn
  walk_at "rd"
  refine ⟨le0, fun ly hly => ?_⟩
  have sL := same_new (o := .lst []) hly
  walk_at "rd"
  refine for_feeds (R := IsI) (H0 := H5) (fun i σ H' => (∃ o1 o2 o3 o4 o5, σ = [some (.ref a), some (.ref acc), some (.ref mo), some (.ref d), some (.ref ly), o1, o2, o3, o4, o5]) ∧ Same H5 H' ∧ H' ly = some (.lst (((List.range i).map fun u : Nat => Tx.layTx (lyT cs (loA .x cs) (hiA .x cs) (loA .y cs) (hiA .y cs) (loA .z cs + u))).map V.str))) feeds_range (fun _ _ _ q => q.2.1)
    ⟨⟨_, _, _, _, _, rfl⟩, sL, upd_same⟩ ?_ ?_
  · rintro σ H6 ⟨⟨o1, o2, o3, o4, o5, rfl⟩, s6, e6⟩
    have ell : ((List.range (hiA .z cs + 1 - loA .z cs).toNat).map fun i : Nat => loA .z cs + (i : Int)).length = Tx.wd .z cs := by
      rw [List.length_map, List.length_range]
      unfold Tx.wd
      lia
    rw [ell] at e6
    have e6' : ((List.range (Tx.wd .z cs)).map fun u : Nat => Tx.layTx (lyT cs (loA .x cs) (hiA .x cs) (loA .y cs) (hiA .y cs) (loA .z cs + u))) = (Tx.laysOf cs).map Tx.layTx := by
      rw [lays_ly, List.map_map]
      rfl
    rw [e6'] at e6
    have eL6 := s6 _ _ eL
    walk_at "rd"
    refine ⟨rfl, ?_⟩
    walk_at "rd"
    intro ac hac
    refine comp_map (S := IsS) Tx.numS 1 [] (feeds_list (SqL.of eL6) (Rs.ints [loA .x cs, loA .y cs, loA .z cs])) (by show 3 ≤ 16000000; decide) hac ?_ ?_
    · rintro os v n H7 R1 ho s7 hm rfl kk
      obtain ⟨o, rfl⟩ := List.length_eq_one_iff.mp ho
      have hN : Tx.N60 n := by
        simp only [List.mem_cons, List.not_mem_nil, or_false] at hm
        rcases hm with rfl | rfl | rfl
        · exact hw.lo hn .x
        · exact hw.lo hn .y
        · exact hw.lo hn .z
      walk_at "rd"
      exact rd_strI (Tx.num_log hN.1 hN.2) (kk [_] _ _ rfl (Same.refl _) rfl)
    intro zs H7 s7 e7 r7
    rw [strs_eq r7] at e7
    have hhl := Tx.head_len (hw.lo hn .x) (hw.lo hn .y) (hw.lo hn .z)
    have htl := hdr.tl
    have hal := Tx.all_len (hw.lo hn .x) (hw.lo hn .y) (hw.lo hn .z) hdr
    walk_at "rd"
    refine rd_joinX (ts := [Tx.numS (loA .x cs), Tx.numS (loA .y cs), Tx.numS (loA .z cs)]) (SqL.of e7) (Tx.joinOk (B := 3) (fun t ht => ?_) ?_) ?_
    · simp only [List.mem_cons, List.not_mem_nil, or_false] at ht
      rcases ht with rfl | rfl | rfl
      · exact (Tx.num_len (hw.lo hn .x).1 (hw.lo hn .x).2).1
      · exact (Tx.num_len (hw.lo hn .y).1 (hw.lo hn .y).2).1
      · exact (Tx.num_len (hw.lo hn .z).1 (hw.lo hn .z).2).1
    · show 3 * (3 + 1) ≤ 100000
      decide
    walk_at "rd"
    refine ⟨_, _, rfl, rfl, ?_, ?_⟩
    · show (Tx.headTx (loA .x cs) (loA .y cs) (loA .z cs)).length + 2 ≤ sizeLine
      rw [sizeLine_eq]
      lia
    walk_at "rd"
    refine ⟨rfl, ?_⟩
    walk_at "rd"
    refine rd_joinX (ts := (Tx.laysOf cs).map Tx.layTx) (SqL.of (s7 _ _ e6)) (Tx.joinOk (B := 240) (fun t ht => ?_) ?_) ?_
    · obtain ⟨r, hr, rfl⟩ := List.mem_map.mp ht
      exact (hdr.lay r hr).tl
    · have := hdr.len
      rw [List.length_map, show (("; " : Str)).length = 2 from rfl]
      lia
    refine ⟨_, _, rfl, rfl, ?_, ?_⟩
    · show (Tx.headTx (loA .x cs) (loA .y cs) (loA .z cs) ++ ": ").length + (Tx.laysTx (Tx.laysOf cs)).length ≤ sizeLine
      rw [strLen_append, show ((": " : Str)).length = 2 from rfl, sizeLine_eq]
      lia
    have := k H7 (sA.trans (s6.trans s7))
    rw [et] at this
    exact this
  · rintro i x v σ H6 H7 hi ex ⟨⟨o1, o2, o3, o4, o5, rfl⟩, s6, e6⟩ s7 rfl
    obtain ⟨rfl, hin⟩ := rng_at ex
    have s67 := s6.trans s7
    have eL7 := s67 _ _ eL
    have eM7 := s67 _ _ eM
    have eS7 := s67 _ _ eS
    have e7 := s7 _ _ e6
    walk_at "rd"
    refine ⟨le0, fun rw hrw => ?_⟩
    have sR := same_new (o := .lst []) hrw
    have hok := ly_ok (ms := cs) (z := loA .z cs + (i : Int)) fx fy
    walk_at "rd"
    refine for_feeds (R := IsI) (H0 := H7) (fun j σ H' => (∃ o3 o4 o5, σ = [some (.ref a), some (.ref acc), some (.ref mo), some (.ref d), some (.ref ly), some (.int (loA .z cs + (i : Int))), some (.ref rw), o3, o4, o5]) ∧ Same H7 H' ∧ H' rw = some (.lst (((Tx.layT (fun n e => decide ((⟨loA .x cs + e, loA .y cs + n, loA .z cs + (i : Int)⟩ : C3) ∈ cs)) (hiA .x cs - loA .x cs + 1).toNat j).map Tx.mkS).map V.str))) feeds_range (fun _ _ _ q => q.2.1)
      ⟨⟨_, _, _, rfl⟩, sR, upd_same⟩ ?_ ?_
    · rintro σ H8 ⟨⟨o3, o4, o5, rfl⟩, s8, e8⟩
      have ell : ((List.range (hiA .y cs + 1 - loA .y cs).toNat).map fun i : Nat => loA .y cs + (i : Int)).length = (hiA .y cs - loA .y cs + 1).toNat := by
        rw [List.length_map, List.length_range]
        lia
      rw [ell] at e8
      have e8 : H8 rw = some (.lst (((lyT cs (loA .x cs) (hiA .x cs) (loA .y cs) (hiA .y cs) (loA .z cs + (i : Int))).map Tx.mkS).map V.str)) := e8
      walk_at "rd"
      refine ⟨.inl ⟨rfl, _, SqL.of (s8 _ _ e7)⟩, ?_⟩
      walk_at "rd"
      refine ⟨rfl, ?_⟩
      walk_at "rd"
      refine rd_joinX (ts := (lyT cs (loA .x cs) (hiA .x cs) (loA .y cs) (hiA .y cs) (loA .z cs + (i : Int))).map Tx.mkS) (SqL.of e8) (Tx.joinOk (B := 15) (fun t ht => ?_) ?_) ?_
      · obtain ⟨r, hr, rfl⟩ := List.mem_map.mp ht
        rw [Tx.mkS_len]
        exact hok.row r hr
      · have := hok.len
        rw [List.length_map, show (("/" : Str)).length = 1 from rfl]
        lia
      walk_at "rd"
      refine ⟨ly, _, _, rfl, rfl, s8 _ _ e7, by rw [List.length_map, List.length_map, List.length_range, sizeLine_eq]; lia, ?_⟩
      walk_at "rd"
      refine ⟨⟨_, _, _, _, _, rfl⟩, same_up (s67.trans s8) hly, ?_⟩
      rw [upd_same, List.range_succ, List.map_append, List.map_append]
      rfl
    · rintro j y v σ H8 H9 hj exj ⟨⟨o3, o4, o5, rfl⟩, s8, e8⟩ s9 rfl
      obtain ⟨rfl, hjn⟩ := rng_at exj
      have s89 := s8.trans s9
      have eL9 := s89 _ _ eL7
      have eM9 := s89 _ _ eM7
      have eS9 := s89 _ _ eS7
      have e9 := s9 _ _ e8
      walk_at "rd"
      refine for_feeds (R := IsI) (H0 := H9) (fun e σ H' => (∃ o5, σ = [some (.ref a), some (.ref acc), some (.ref mo), some (.ref d), some (.ref ly), some (.int (loA .z cs + (i : Int))), some (.ref rw), some (.int (loA .y cs + (j : Int))), some (.str (Tx.mkS (Tx.rowT (fun e => decide ((⟨loA .x cs + e, loA .y cs + j, loA .z cs + (i : Int)⟩ : C3) ∈ cs)) e))), o5]) ∧ Same H9 H') feeds_range (fun _ _ _ q => q.2)
        ⟨⟨_, rfl⟩, Same.refl _⟩ ?_ ?_
      · rintro σ H10 ⟨⟨o5, rfl⟩, s10⟩
        have ell : ((List.range (hiA .x cs + 1 - loA .x cs).toNat).map fun i : Nat => loA .x cs + (i : Int)).length = (hiA .x cs - loA .x cs + 1).toNat := by
          rw [List.length_map, List.length_range]
          lia
        rw [ell]
        walk_at "rd"
        refine ⟨.inl ⟨rfl, _, SqL.of (s10 _ _ e9)⟩, ?_⟩
        walk_at "rd"
        refine ⟨rw, _, 0, _, rfl, rfl, s10 _ _ e9, by decide, by lia, by rw [List.length_map, List.length_map]; simp [Tx.layT]; lia, ?_⟩
        walk_at "rd"
        refine ⟨⟨_, _, _, rfl⟩, same_up (s89.trans s10) hrw, ?_⟩
        rw [upd_same, layT_succ]
        rfl
      · rintro e x v σ H10 H11 he exe ⟨⟨o5, rfl⟩, s10⟩ s11 rfl
        obtain ⟨rfl, hen⟩ := rng_at exe
        have s1011 := s10.trans s11
        have eS11 := s1011 _ _ eS9
        walk_at "rd"
        refine ⟨le2, fun q hq => ?_⟩
        walk_at "rd"
        refine ⟨le3, fun t ht => ?_⟩
        walk_at "rd"
        have eSt := lk_old (o := .tup [.int (loA .x cs + (e : Int)), .int (loA .y cs + (j : Int)), .int (loA .z cs + (i : Int))]) ht (lk_old (o := .lst [.str ".", .str "#"]) hq eS11)
        refine ⟨d, _, rfl, dget_c (c := ⟨loA .x cs + (e : Int), loA .y cs + (j : Int), loA .z cs + (i : Int)⟩) eSt upd_same, ?_⟩
        rw [val_dct]
        have hsz : (Tx.mkS (Tx.rowT (fun e => decide ((⟨loA .x cs + e, loA .y cs + j, loA .z cs + (i : Int)⟩ : C3) ∈ cs)) e)).length + 1 ≤ sizeLine := by
          rw [Tx.mkS_len, Tx.row_len, sizeLine_eq]
          lia
        by_cases g : (⟨loA .x cs + (e : Int), loA .y cs + (j : Int), loA .z cs + (i : Int)⟩ : C3) ∈ cs
        · rw [if_pos g]
          walk_at "rd"
          refine rd_ixL (v := .str "#") (SqL.of (lk_old ht upd_same)) rfl ?_
          refine ⟨_, _, rfl, rfl, hsz, ?_⟩
          walk_at "rd"
          refine ⟨⟨some (.int (loA .x cs + (e : Int))), ?_⟩, s1011.trans ((same_new hq).trans (same_new ht))⟩
          rw [row_snoc, if_pos (decide_eq_true g), ← Tx.mkS_app]
          rfl
        · rw [if_neg g]
          walk_at "rd"
          refine rd_ixL (v := .str ".") (SqL.of (lk_old ht upd_same)) rfl ?_
          refine ⟨_, _, rfl, rfl, hsz, ?_⟩
          walk_at "rd"
          refine ⟨⟨some (.int (loA .x cs + (e : Int))), ?_⟩, s1011.trans ((same_new hq).trans (same_new ht))⟩
          rw [row_snoc, if_neg (show ¬ decide _ = true by rw [decide_eq_true_eq]; exact g), ← Tx.mkS_app]
          rfl
theorem ok__law_whole (L : All K w mg ad) : FnOk P w K mg base CX0 1 ad.f__law_whole ad.d__law_whole ["_law_number"] spWholeL := by
  refine L._law_whole.F.okQ sc__law_whole (fun vs H Q E h => ?_) (fun cdv A outer s H vs Q E hr h => ?_)
  · obtain ⟨n, rfl, _⟩ := h
    rfl
  obtain ⟨n, rfl, k⟩ := h
  refine ⟨_, (qss_one (qs_ret (qe_and (qe_callB (qc_isI (K := K) rfl) rfl L.n_isinstance b_isinstance (qa_cons (qv 0) (qa_cons (qe_bltn (v := .ty "int") rfl L.n_int b_int rfl) qa_nil))) (qe_one (qe_not (qe_callB (qc_isI (K := K) rfl) rfl L.n_isinstance b_isinstance (qa_cons (qv 0) (qa_cons (qe_bltn (v := .ty "bool") rfl L.n_bool b_bool rfl) qa_nil)))))))), ?_⟩
  walk_at "rd"
  exact k
theorem ok__law_right (L : All K w mg ad) : FnOk P w K mg base CX0 8 ad.f__law_right ad.d__law_right ["_law_body"] (spRightT K) := by
  refine L._law_right.F.okQ sc__law_right (fun vs H Q E h => ?_) (fun cdv A outer s H vs Q E hr h => ?_)
  · obtain ⟨a, ys, cs, rfl, _⟩ := h
    rfl
  obtain ⟨a, ys, cs, rfl, hS, hc, hw, k⟩ := h
  have h45 := hw.len
  refine ⟨_, (qss_cons (qs_set (i := 1) sc__law_right.nd rfl (Or.inl rfl) (qe_call ((ok__law_text L).mono (by decide)) hr rfl L._law_text.m L._law_text.F.kp L._law_text.b .nil pass0 (qa_cons (qv 0) qa_nil)))
    (qss_cons (qs_set (i := 2) sc__law_right.nd rfl (Or.inl rfl) (qe_call ((ok_shown L).mono (by decide)) hr rfl L.shown.m L.shown.F.kp L.shown.b .nil pass0 (qa_cons (qe_callTy (qc_list (K := K) rfl) rfl L.n_list b_list (qa_cons (qv 0) qa_nil)) qa_nil)))
    (qss_cons (qs_if (QW.t (qw_or (qt_not (qt_val (qe_callB (qc_isI (K := K) rfl) rfl L.n_isinstance b_isinstance (qa_cons (qv 2) (qa_cons (qe_bltn (v := .ty "str") rfl L.n_str b_str rfl) qa_nil))))) (qw_or1 (qt_cmpR qo_ne (qv 2) (qv 1) (nomark _))))) (qss_one (qs_ret qe_bl)) qss_nil)
    (qss_cons (qs_set (i := 3) sc__law_right.nd rfl (Or.inl rfl) (qe_call ((ok_read L).mono (by decide)) hr rfl L.read.m L.read.F.kp L.read.b .nil pass0 (qa_cons (qv 1) qa_nil)))
    (qss_cons (qs_if (QW.t (qw_or (qt_not (qt_val (qe_callB (qc_isI (K := K) rfl) rfl L.n_isinstance b_isinstance (qa_cons (qv 3) (qa_cons (qe_bltn (v := .ty "list") rfl L.n_list b_list rfl) qa_nil))))) (qw_or1 (qt_cmpR (qo_neR (K := K) rfl hr.units) (qv 3) (qv 0) (nomark _))))) (qss_one (qs_ret qe_bl)) qss_nil)
    (qss_cons (qs_for PassesOwn.never rfl (qi_list (K := K) rfl (qv 3)) (qg_name (i := 4) sc__law_right.nd rfl (Or.inl rfl))
      (qss_one (qs_if (QW.t (qw_or (qt_not (qt_val (qe_callB (qc_isI (K := K) rfl) rfl L.n_isinstance b_isinstance (qa_cons (qv 4) (qa_cons (qe_bltn (v := .ty "tuple") rfl L.n_tuple b_tuple rfl) qa_nil))))) (qw_or1 (qt_not (qt_val (qe_callB (qc_all (K := K) rfl rfl) rfl L.n_all b_all (qa_cons (qe_comp (N := ["_law_part"]) ["_law_part"] [] rfl rfl rfl rfl (qi_tup (K := K) rfl (qv 4)) (fun _ _ _ _ => (qg_name (i := 0) (by show (["_law_part"] : List Str).Nodup; decide +kernel) rfl (Or.inl rfl))) (fun _ _ _ _ => qf_nil) (fun _ _ _ _ => (qe_call ((ok__law_whole L).mono (by decide)) hr rfl L._law_whole.m L._law_whole.F.kp L._law_whole.b .nil pass0 (qa_cons (qv 0) qa_nil)))) qa_nil))))))) (qss_one (qs_ret qe_bl)) qss_nil)))
    (qss_cons (qs_expr (qe_bm (K := K) rfl PySem.F.plainAttrs_list PySem.F.slot_list_append PySem.F.type_list_append mt_append (qv 3) (qa_cons qe_non qa_nil)))
    (qss_one (qs_ret (qe_cmpR (qo_eqR (K := K) rfl hr.units) (qe_call ((ok_read L).mono (by decide)) hr rfl L.read.m L.read.F.kp L.read.b .nil pass0 (qa_cons (qv 1) qa_nil)) (qv 0) (nomark _))))))))))), ?_⟩
  walk_at "rd"
  refine ⟨a, ys, cs, rfl, SqL.of hS, hc, hw, fun H1 s1 => ?_⟩
  have eA1 := s1 _ _ hS
  walk_at "rd"
  intro p hp
  have s2 := s1.trans (same_new (o := .lst ys) hp)
  walk_at "rd"
  refine ⟨p, ys, cs, rfl, SqL.of upd_same, Rs.up s2 hc, hw, fun H2 s3 => ?_⟩
  have s4 := s2.trans s3
  walk_at "rd"
  rw [decide_eq_true rfl]
  walk_at "rd"
  refine ⟨cs, rfl, hw, fun q zs H3 s5 hq e3 r3 => ?_⟩
  have s6 := s4.trans s5
  have eA3 := s6 _ _ hS
  have rA3 := Rs.up s6 hc
  walk_at "rd"
  refine rd_neR (SqL.of e3) r3 (SqL.of eA3) rA3 ?_
  rw [decide_eq_true rfl]
  walk_at "rd"
  refine for_feeds (R := IsC) (H0 := H3) (fun i σ H' => (∃ o, σ = [some (.ref a), some (.str (Tx.textC cs)), some (.str (Tx.textC cs)), some (.ref q), o]) ∧ Same H3 H') (feeds_list (SqL.of e3) r3) (fun _ _ _ q => q.2) ⟨⟨_, rfl⟩, Same.refl _⟩ ?_ ?_
  · rintro σ H4 ⟨⟨o, rfl⟩, s7⟩
    have e4 := s7 _ _ e3
    have hz := r3.len
    walk_at "rd"
    refine ⟨.inl ⟨rfl, _, SqL.of e4⟩, ?_⟩
    walk_at "rd"
    refine ⟨q, _, _, rfl, rfl, e4, by rw [sizeLine_eq]; lia, ?_⟩
    have sU : Same H (upd H4 q (.lst (zs ++ [.non]))) := same_up (s6.trans s7) (s4.free hq)
    walk_at "rd"
    refine ⟨cs, rfl, hw, fun q2 zs2 H5 s8 hq2 e5 r5 => ?_⟩
    walk_at "rd"
    refine rd_eqR (SqL.of e5) r5 (SqL.of ((sU.trans s8) _ _ hS)) (Rs.up (sU.trans s8) hc) ?_
    rw [decide_eq_true rfl]
    walk_at "rd"
    exact k H5 (sU.trans s8)
  · rintro i c v σ H4 H5 hi ex ⟨⟨o, rfl⟩, s7⟩ s8 ⟨b, rfl, eb⟩
    walk_at "rd"
    intro acc hacc
    refine comp_map (S := IsB) (fun _ : Int => true) 1 [] (feeds_tup (SqT.of eb) (Rs.ints c.l)) (by show 3 ≤ 16000000; decide) hacc ?_ ?_
    · rintro os v n H6 R1 ho s9 _ rfl kk
      obtain ⟨o, rfl⟩ := List.length_eq_one_iff.mp ho
      walk_at "rd"
      exact ⟨n, rfl, kk [_] _ _ rfl (Same.refl _) rfl⟩
    intro zb H6 s9 e6 r6
    have ez := bools_eq r6
    subst ez
    walk_at "rd"
    refine ⟨acc, _, rfl, SqL.of e6, ?_⟩
    rw [show ((c.l.map fun _ : Int => true).all id) = true from rfl]
    walk_at "rd"
    exact ⟨⟨_, rfl⟩, s7.trans (s8.trans s9)⟩
end
end P11
set_option Elab.async false
set_option linter.all false
set_option maxRecDepth 100000
set_option maxHeartbeats 4000000
namespace P11
open PySem L2 Srt Pc
section
variable {P : Program} {w : World} {K : PySem.W.Frag} {mg : Str → Option Value} {base : Heap} {ad : Ad}
theorem ok_law (L : All K w mg ad) : FnOk P w K mg base CX0 9 ad.f_law ad.d_law ["_law_script"] (spLaw K) := by
  refine L.law.F.okQ sc_law (fun vs H Q E h => ?_) (fun cdv A outer s H vs Q E hr h => ?_)
  · obtain ⟨x, ns, rfl, _⟩ := h
    rfl
  obtain ⟨x, ns, rfl, hS, hl, k⟩ := h
  refine ⟨_, (qss_cons (qs_setU (i := 1) (N := ["_law_k", "_law_script"]) ["_law_k"] [0] sc_law.nd rfl (Or.inl rfl) rfl rfl rfl rfl (qi_range1 rfl L.n_range (qa_cons qe_int qa_nil)) (fun _ _ _ _ => (qg_name (i := 0) (by show (["_law_k", "_law_script"] : List Str).Nodup; decide +kernel) rfl (Or.inl rfl))) (fun _ _ _ _ => qf_nil) (fun _ _ _ _ => (qe_op qo_sub (qe_op qo_mod (qe_call ((ok__law_cell_at L).mono (by decide)) hr rfl L._law_cell_at.m L._law_cell_at.F.kp L._law_cell_at.b .nil pass0 (qa_cons (qv 1) (qa_cons (qv 0) qa_nil))) qe_int) qe_int)))
    (qss_cons (qs_set (i := 2) sc_law.nd rfl (Or.inl rfl) (qe_call ((ok__law_drawn L).mono (by decide)) hr rfl L._law_drawn.m L._law_drawn.F.kp L._law_drawn.b .nil pass0 (qa_cons (qe_slL (K := K) rfl (qv 0) (qo_some qe_int) (qo_some qe_int)) (qa_cons qe_int qa_nil))))
    (qss_cons (qs_for PassesOwn.never rfl (qi_list (K := K) rfl (qe_lst (qa_cons (qv 2) (qa_cons (qe_lst qa_nil) (qa_cons (qe_slL (K := K) rfl (qv 2) qo_none (qo_some qe_int)) (qa_cons (qe_slL (K := K) rfl (qv 2) (qo_some (qe_op qo_fdiv (qe_callB (qc_len (K := K) rfl) rfl L.n_len b_len (qa_cons (qv 2) qa_nil)) qe_int)) qo_none) qa_nil)))))) (qg_name (i := 3) sc_law.nd rfl (Or.inl rfl))
      (qss_one (qs_if (qt_not (qt_val (qe_call ((ok__law_right L).mono (by decide)) hr rfl L._law_right.m L._law_right.F.kp L._law_right.b .nil pass0 (qa_cons (qe_call ((ok__law_moved L).mono (by decide)) hr rfl L._law_moved.m L._law_moved.F.kp L._law_moved.b .nil pass0 (qa_cons (qv 3) (qa_cons (qv 1) qa_nil))) qa_nil)))) (qss_one (qs_ret qe_bl)) qss_nil)))
    (qss_one (qs_ret (qe_and (qe_call ((ok__law_right L).mono (by decide)) hr rfl L._law_right.m L._law_right.F.kp L._law_right.b .nil pass0 (qa_cons (qe_call ((ok__law_moved L).mono (by decide)) hr rfl L._law_moved.m L._law_moved.F.kp L._law_moved.b .nil pass0 (qa_cons (qv 2) (qa_cons (qv 1) qa_nil))) qa_nil)) (qe_one (qe_call ((ok__law_right L).mono (by decide)) hr rfl L._law_right.m L._law_right.F.kp L._law_right.b .nil pass0 (qa_cons (qe_call ((ok__law_moved L).mono (by decide)) hr rfl L._law_moved.m L._law_moved.F.kp L._law_moved.b .nil pass0 (qa_cons (qe_slL (K := K) rfl (qv 2) qo_none (qo_some qe_int)) (qa_cons (qe_lst (qa_cons (qe_ix (qx_list (K := K) rfl) (qv 1) qe_int (fun _ _ => rfl)) (qa_cons (qe_ix (qx_list (K := K) rfl) (qv 1) qe_int (fun _ _ => rfl)) (qa_cons (qe_ix (qx_list (K := K) rfl) (qv 1) qe_int (fun _ _ => rfl)) qa_nil)))) qa_nil))) qa_nil))))))))), ?_⟩
  walk_at "rd"
  intro acc hacc
  refine comp_map (S := IsZ (-53) 53) (fun _ : Int => ()) 1 [some (.ref x)] feeds_range (by simp) hacc ?_ ?_
  · rintro os v y H2 R1 ho s2 hy rfl kk
    obtain ⟨o, rfl⟩ := List.length_eq_one_iff.mp ho
    obtain ⟨i, hi, rfl⟩ := List.mem_map.mp hy
    walk_at "rd"
    refine ⟨x, ns, _, rfl, s2.seq hS, by lia, fun n => ?_⟩
    walk_at "rd"
    exact kk [_] _ _ rfl (Same.refl _) ⟨_, rfl, by lia, by lia⟩
  intro zs H1 s1 e1 r1
  obtain ⟨bi, bj, bk, rfl, b1, b2, b3⟩ := isZ3 r1 (by simp)
  walk_at "rd"
  intro l2 hl2
  rw [cut_ints]
  have hS1 := s1.seq hS
  have lcut : (cutX ns (some 3) (some 48)).length ≤ 45 := cut_45 ns
  walk_at "rd"
  refine ⟨l2, _, 7, rfl, SqL.of upd_same, by lia, by decide, fun p ys cs H2 s2 hp e2 r2 nd wi hcl => ?_⟩
  have s02 := (same_new (o := .lst ((cutX ns (some 3) (some 48)).map V.int)) hl2).trans s2
  have eb := s02 _ _ e1
  have hyl := r2.len
  walk_at "rd"
  refine ⟨le0, fun n0 hn0 => ?_⟩
  walk_at "rd"
  intro q1 hq1
  walk_at "rd"
  intro q2 hq2
  walk_at "rd"
  refine ⟨le4, fun bl hbl => ?_⟩
  have z0 := same_new (o := .lst []) hn0
  have z1 := same_new (o := .lst (cutV ys none (some 1))) hq1
  have z2 := same_new (o := .lst (cutV ys (some ((ys.length : Int) / 2)) none)) hq2
  have z3 := same_new (o := .lst [.ref p, .ref n0, .ref q1, .ref q2]) hbl
  have ep3 := (z0.trans (z1.trans (z2.trans z3))) _ _ e2
  have en3 := (z1.trans (z2.trans z3)) _ _ (upd_same (H := H2) (a := n0) (o := .lst []))
  have eq1 := (z2.trans z3) _ _ (upd_same (H := upd H2 n0 (.lst [])) (a := q1) (o := .lst (cutV ys none (some 1))))
  have eq2 := z3 _ _ (upd_same (H := upd (upd H2 n0 (.lst [])) q1 (.lst (cutV ys none (some 1)))) (a := q2) (o := .lst (cutV ys (some ((ys.length : Int) / 2)) none)))
  have eb3 := (z0.trans (z1.trans (z2.trans z3))) _ _ eb
  have r3 := Rs.up (z0.trans (z1.trans (z2.trans z3))) r2
  have el3 := upd_same (H := upd (upd (upd H2 n0 (.lst [])) q1 (.lst (cutV ys none (some 1)))) q2 (.lst (cutV ys (some ((ys.length : Int) / 2)) none))) (a := bl) (o := .lst [.ref p, .ref n0, .ref q1, .ref q2])
  generalize upd (upd (upd (upd H2 n0 (.lst [])) q1 (.lst (cutV ys none (some 1)))) q2 (.lst (cutV ys (some ((ys.length : Int) / 2)) none))) bl (.lst [.ref p, .ref n0, .ref q1, .ref q2]) = H3 at ep3 en3 eq1 eq2 eb3 r3 el3 ⊢
  clear z0 z1 z2 z3
  have hl45 : cs.length ≤ 45 := by lia
  have sub : ∀ (lo hi : Option Int), (cutX cs lo hi).Nodup ∧ (∀ c ∈ cutX cs lo hi, c.within 7) ∧ (cutX cs lo hi).length ≤ 45 := fun lo hi =>
    ⟨(cut_sub' cs lo hi).nodup nd, fun c hc => wi c ((cut_sub' cs lo hi).subset hc), Nat.le_trans (cut_sub' cs lo hi).length_le hl45⟩
  have hR : Rs IsSm H3 [.ref p, .ref n0, .ref q1, .ref q2] [(), (), (), ()] :=
    .cons ⟨p, ys, cs, rfl, ep3, r3, nd, wi, hl45⟩ (.cons ⟨n0, [], [], rfl, en3, .nil, List.nodup_nil, (fun _ h => nomatch h), Nat.zero_le _⟩ (.cons ⟨q1, _, _, rfl, eq1, cut_rs _ _ r3, sub _ _⟩ (.cons ⟨q2, _, _, rfl, eq2, cut_rs _ _ r3, sub _ _⟩ .nil)))
  walk_at "rd"
  refine for_feeds (R := IsSm) (H0 := H3) (fun i σ H' => (∃ o, σ = [some (.ref x), some (.ref acc), some (.ref p), o]) ∧ Same H3 H') (feeds_listG (R := IsSm) (fun s h => IsSm.up s h) (SqL.of el3) hR) (fun _ _ _ q => q.2) ⟨⟨_, rfl⟩, Same.refl _⟩ ?_ ?_
  · rintro σ H4 ⟨⟨o, rfl⟩, s3⟩
    walk_at "rd"
    refine ⟨p, acc, ys, cs, bi, bj, bk, rfl, SqL.of (s3 _ _ ep3), Rs.up s3 r3, hl45, SqL.of (s3 _ _ eb3), fun m zs H6 s6 hm e6 r6 => ?_⟩
    walk_at "rd"
    refine ⟨m, zs, _, rfl, e6, r6, mv_wr nd wi hl45 b1 b2 b3, fun H7 s7 => ?_⟩
    have s8 := s3.trans (s6.trans s7)
    have ep8 := s8 _ _ ep3
    have eb8 := s8 _ _ eb3
    walk_at "rd"
    intro q3 hq3
    walk_at "rd"
    refine ⟨le3, fun w3 hw3 => ?_⟩
    walk_at "rd"
    refine ⟨q3, w3, _, cutX cs none (some 3), bj, bk, bi, rfl, SqL.of (lk_old hw3 upd_same), cut_rs _ _ (Rs.up (s8.trans ((same_new hq3).trans (same_new hw3))) r3), (sub _ _).2.2, SqL.of upd_same, fun m2 zs2 H8 s9 hm2 e8 r8 => ?_⟩
    walk_at "rd"
    exact ⟨m2, zs2, _, rfl, e8, r8, mv_wr (sub _ _).1 (sub _ _).2.1 (sub _ _).2.2 b2 b3 b1, fun H9 s10 => k H9⟩
  · rintro i u v σ H4 H5 hi ex ⟨⟨o, rfl⟩, s3⟩ s4 ⟨p', ys', ds, rfl, ep', rp', nd', wi', l'⟩
    have s34 := s3.trans s4
    walk_at "rd"
    refine ⟨p', acc, ys', ds, bi, bj, bk, rfl, SqL.of ep', rp', l', SqL.of (s34 _ _ eb3), fun m zs H6 s6 hm e6 r6 => ?_⟩
    walk_at "rd"
    refine ⟨m, zs, _, rfl, e6, r6, mv_wr nd' wi' l' b1 b2 b3, fun H7 s7 => ?_⟩
    walk_at "rd"
    exact ⟨⟨_, rfl⟩, s34.trans (s6.trans s7)⟩
end
end P11
set_option Elab.async false
namespace Pc
theorem args1 {us : List PySem.Value} (h : us.length = 1) : ∃ a0, us = [a0] := by
  cases us with
  | nil => cases h
  | cons a0 us =>
  replace h := Nat.succ.inj h
  cases us with
  | nil => exact ⟨a0, rfl⟩
  | cons _ _ => cases h
theorem args2 {us : List PySem.Value} (h : us.length = 2) : ∃ a0 a1, us = [a0, a1] := by
  cases us with
  | nil => cases h
  | cons a0 us =>
  replace h := Nat.succ.inj h
  cases us with
  | nil => cases h
  | cons a1 us =>
  replace h := Nat.succ.inj h
  cases us with
  | nil => exact ⟨a0, a1, rfl⟩
  | cons _ _ => cases h
theorem args4 {us : List PySem.Value} (h : us.length = 4) : ∃ a0 a1 a2 a3, us = [a0, a1, a2, a3] := by
  cases us with
  | nil => cases h
  | cons a0 us =>
  replace h := Nat.succ.inj h
  cases us with
  | nil => cases h
  | cons a1 us =>
  replace h := Nat.succ.inj h
  cases us with
  | nil => cases h
  | cons a2 us =>
  replace h := Nat.succ.inj h
  cases us with
  | nil => cases h
  | cons a3 us =>
  replace h := Nat.succ.inj h
  cases us with
  | nil => exact ⟨a0, a1, a2, a3, rfl⟩
  | cons _ _ => cases h
end Pc
open PySem PySem.W PyProof.Rows
set_option maxRecDepth 100000 in
set_option maxHeartbeats 0 in
theorem PySem.Challenge.cw_pourhall_k11_bodies_as_text_holds : PySem.Challenge.rw_pourhall_k11_bodies_as_text.Holds := by
  w_on; o_law; k_head; (case hw => w_witness2)
  k_fill
  refine Pc.walkK (l := PySem.Challenge.rw_pourhall_k11_bodies_as_text) (k := 9) (by decide) rfl rfl (fun w h Y => PySem.W.kIn_of Y) ?F
  case F =>
    intro w mg fa h KX G hmg
    have t_PLACES : ∃ a, mg "PLACES" = some (.ref a) ∧ L2.TopD (L2.KOf KX) w a Pc.plD := by
      dsimp only [L2.KOf]
      refine' Pc.place_mk KX G ?m ?l ?k ?x0 ?x1 ?x2
      (case m => k_is); (case l => k_is); (case k => k_keys); (case x0 => k_is); (case x1 => k_is); (case x2 => k_is)
    obtain ⟨a_PLACES, m_PLACES, t_PLACES⟩ := t_PLACES
    have m_FARTHEST : ∃ t, mg "FARTHEST" = some (.int 60 t) := by refine' Pc.int_mk KX G ?e; (case e => k_is)
    have m_MOST_CELLS : ∃ t, mg "MOST_CELLS" = some (.int 600 t) := by refine' Pc.int_mk KX G ?e; (case e => k_is)
    have m_NO_CELLS : ∃ t, mg "NO_CELLS" = some (.str "none" t) := by refine' Pc.str_mk KX G ?e; (case e => k_is)
    have m_FULL : ∃ t, mg "FULL" = some (.str "#" t) := by refine' Pc.str_mk KX G ?e; (case e => k_is)
    have m_BARE : ∃ t, mg "BARE" = some (.str "." t) := by refine' Pc.str_mk KX G ?e; (case e => k_is)
    have m_FIGURES : ∃ t, mg "FIGURES" = some (.str "0123456789" t) := by refine' Pc.str_mk KX G ?e; (case e => k_is)
    have m_MOST_FIGURES : ∃ t, mg "MOST_FIGURES" = some (.int 3 t) := by refine' Pc.int_mk KX G ?e; (case e => k_is)
    have n_ValueError : mg "ValueError" = none := by refine' PySem.W.mg_none_of KX G ?e; (case e => k_is)
    have n_abs : mg "abs" = none := by refine' PySem.W.mg_none_of KX G ?e; (case e => k_is)
    have n_all : mg "all" = none := by refine' PySem.W.mg_none_of KX G ?e; (case e => k_is)
    have n_bool : mg "bool" = none := by refine' PySem.W.mg_none_of KX G ?e; (case e => k_is)
    have n_dict : mg "dict" = none := by refine' PySem.W.mg_none_of KX G ?e; (case e => k_is)
    have n_enumerate : mg "enumerate" = none := by refine' PySem.W.mg_none_of KX G ?e; (case e => k_is)
    have n_int : mg "int" = none := by refine' PySem.W.mg_none_of KX G ?e; (case e => k_is)
    have n_isinstance : mg "isinstance" = none := by refine' PySem.W.mg_none_of KX G ?e; (case e => k_is)
    have n_len : mg "len" = none := by refine' PySem.W.mg_none_of KX G ?e; (case e => k_is)
    have n_list : mg "list" = none := by refine' PySem.W.mg_none_of KX G ?e; (case e => k_is)
    have n_max : mg "max" = none := by refine' PySem.W.mg_none_of KX G ?e; (case e => k_is)
    have n_min : mg "min" = none := by refine' PySem.W.mg_none_of KX G ?e; (case e => k_is)
    have n_range : mg "range" = none := by refine' PySem.W.mg_none_of KX G ?e; (case e => k_is)
    have n_reversed : mg "reversed" = none := by refine' PySem.W.mg_none_of KX G ?e; (case e => k_is)
    have n_set : mg "set" = none := by refine' PySem.W.mg_none_of KX G ?e; (case e => k_is)
    have n_sorted : mg "sorted" = none := by refine' PySem.W.mg_none_of KX G ?e; (case e => k_is)
    have n_str : mg "str" = none := by refine' PySem.W.mg_none_of KX G ?e; (case e => k_is)
    have n_tuple : mg "tuple" = none := by refine' PySem.W.mg_none_of KX G ?e; (case e => k_is)
    have h_is_whole : ∃ f fd, Pc.Fn (L2.KOf KX) mg "is_whole" P11.s_is_whole f fd ["thing"] := by
      dsimp only [L2.KOf]
      refine' Pc.fn_mk KX G ?a ?l ?c ?k ?b
      (case a => k_is); (case l => k_is); (case c => k_is); (case k => k_is); (case b => exact fun _ _ _ _ _ _ us hl => by obtain ⟨_, rfl⟩ := Pc.args1 hl; rfl)
    obtain ⟨f_is_whole, d_is_whole, h_is_whole⟩ := h_is_whole
    have h_is_near : ∃ f fd, Pc.Fn (L2.KOf KX) mg "is_near" P11.s_is_near f fd ["thing"] := by
      dsimp only [L2.KOf]
      refine' Pc.fn_mk KX G ?a ?l ?c ?k ?b
      (case a => k_is); (case l => k_is); (case c => k_is); (case k => k_is); (case b => exact fun _ _ _ _ _ _ us hl => by obtain ⟨_, rfl⟩ := Pc.args1 hl; rfl)
    obtain ⟨f_is_near, d_is_near, h_is_near⟩ := h_is_near
    have h_is_cell : ∃ f fd, Pc.Fn (L2.KOf KX) mg "is_cell" P11.s_is_cell f fd ["thing"] := by
      dsimp only [L2.KOf]
      refine' Pc.fn_mk KX G ?a ?l ?c ?k ?b
      (case a => k_is); (case l => k_is); (case c => k_is); (case k => k_is); (case b => exact fun _ _ _ _ _ _ us hl => by obtain ⟨_, rfl⟩ := Pc.args1 hl; rfl)
    obtain ⟨f_is_cell, d_is_cell, h_is_cell⟩ := h_is_cell
    have h_along : ∃ f fd, Pc.Fn (L2.KOf KX) mg "along" P11.s_along f fd ["cell", "axis"] := by
      dsimp only [L2.KOf]
      refine' Pc.fn_mk KX G ?a ?l ?c ?k ?b
      (case a => k_is); (case l => k_is); (case c => k_is); (case k => k_is); (case b => exact fun _ _ _ _ _ _ us hl => by obtain ⟨_, _, rfl⟩ := Pc.args2 hl; rfl)
    obtain ⟨f_along, d_along, h_along⟩ := h_along
    have h_refuse_other_things : ∃ f fd, Pc.Fn (L2.KOf KX) mg "refuse_other_things" P11.s_refuse_other_things f fd ["things"] := by
      dsimp only [L2.KOf]
      refine' Pc.fn_mk KX G ?a ?l ?c ?k ?b
      (case a => k_is); (case l => k_is); (case c => k_is); (case k => k_is); (case b => exact fun _ _ _ _ _ _ us hl => by obtain ⟨_, rfl⟩ := Pc.args1 hl; rfl)
    obtain ⟨f_refuse_other_things, d_refuse_other_things, h_refuse_other_things⟩ := h_refuse_other_things
    have h_few_enough : ∃ f fd, Pc.Fn (L2.KOf KX) mg "few_enough" P11.s_few_enough f fd ["cells"] := by
      dsimp only [L2.KOf]
      refine' Pc.fn_mk KX G ?a ?l ?c ?k ?b
      (case a => k_is); (case l => k_is); (case c => k_is); (case k => k_is); (case b => exact fun _ _ _ _ _ _ us hl => by obtain ⟨_, rfl⟩ := Pc.args1 hl; rfl)
    obtain ⟨f_few_enough, d_few_enough, h_few_enough⟩ := h_few_enough
    have h_body_of : ∃ f fd, Pc.Fn (L2.KOf KX) mg "body_of" P11.s_body_of f fd ["cells"] := by
      dsimp only [L2.KOf]
      refine' Pc.fn_mk KX G ?a ?l ?c ?k ?b
      (case a => k_is); (case l => k_is); (case c => k_is); (case k => k_is); (case b => exact fun _ _ _ _ _ _ us hl => by obtain ⟨_, rfl⟩ := Pc.args1 hl; rfl)
    obtain ⟨f_body_of, d_body_of, h_body_of⟩ := h_body_of
    have h_span : ∃ f fd, Pc.Fn (L2.KOf KX) mg "span" P11.s_span f fd ["body", "axis"] := by
      dsimp only [L2.KOf]
      refine' Pc.fn_mk KX G ?a ?l ?c ?k ?b
      (case a => k_is); (case l => k_is); (case c => k_is); (case k => k_is); (case b => exact fun _ _ _ _ _ _ us hl => by obtain ⟨_, _, rfl⟩ := Pc.args2 hl; rfl)
    obtain ⟨f_span, d_span, h_span⟩ := h_span
    have h_marked : ∃ f fd, Pc.Fn (L2.KOf KX) mg "marked" P11.s_marked f fd ["cells"] := by
      dsimp only [L2.KOf]
      refine' Pc.fn_mk KX G ?a ?l ?c ?k ?b
      (case a => k_is); (case l => k_is); (case c => k_is); (case k => k_is); (case b => exact fun _ _ _ _ _ _ us hl => by obtain ⟨_, rfl⟩ := Pc.args1 hl; rfl)
    obtain ⟨f_marked, d_marked, h_marked⟩ := h_marked
    have h_layer_shown : ∃ f fd, Pc.Fn (L2.KOf KX) mg "layer_shown" P11.s_layer_shown f fd ["marks", "wide", "deep", "z"] := by
      dsimp only [L2.KOf]
      refine' Pc.fn_mk KX G ?a ?l ?c ?k ?b
      (case a => k_is); (case l => k_is); (case c => k_is); (case k => k_is); (case b => exact fun _ _ _ _ _ _ us hl => by obtain ⟨_, _, _, _, rfl⟩ := Pc.args4 hl; rfl)
    obtain ⟨f_layer_shown, d_layer_shown, h_layer_shown⟩ := h_layer_shown
    have h_shown : ∃ f fd, Pc.Fn (L2.KOf KX) mg "shown" P11.s_shown f fd ["body"] := by
      dsimp only [L2.KOf]
      refine' Pc.fn_mk KX G ?a ?l ?c ?k ?b
      (case a => k_is); (case l => k_is); (case c => k_is); (case k => k_is); (case b => exact fun _ _ _ _ _ _ us hl => by obtain ⟨_, rfl⟩ := Pc.args1 hl; rfl)
    obtain ⟨f_shown, d_shown, h_shown⟩ := h_shown
    have h_number_of : ∃ f fd, Pc.Fn (L2.KOf KX) mg "number_of" P11.s_number_of f fd ["word"] := by
      dsimp only [L2.KOf]
      refine' Pc.fn_mk KX G ?a ?l ?c ?k ?b
      (case a => k_is); (case l => k_is); (case c => k_is); (case k => k_is); (case b => exact fun _ _ _ _ _ _ us hl => by obtain ⟨_, rfl⟩ := Pc.args1 hl; rfl)
    obtain ⟨f_number_of, d_number_of, h_number_of⟩ := h_number_of
    have h_three_numbers : ∃ f fd, Pc.Fn (L2.KOf KX) mg "three_numbers" P11.s_three_numbers f fd ["text", "sign"] := by
      dsimp only [L2.KOf]
      refine' Pc.fn_mk KX G ?a ?l ?c ?k ?b
      (case a => k_is); (case l => k_is); (case c => k_is); (case k => k_is); (case b => exact fun _ _ _ _ _ _ us hl => by obtain ⟨_, _, rfl⟩ := Pc.args2 hl; rfl)
    obtain ⟨f_three_numbers, d_three_numbers, h_three_numbers⟩ := h_three_numbers
    have h_corner_of : ∃ f fd, Pc.Fn (L2.KOf KX) mg "corner_of" P11.s_corner_of f fd ["head"] := by
      dsimp only [L2.KOf]
      refine' Pc.fn_mk KX G ?a ?l ?c ?k ?b
      (case a => k_is); (case l => k_is); (case c => k_is); (case k => k_is); (case b => exact fun _ _ _ _ _ _ us hl => by obtain ⟨_, rfl⟩ := Pc.args1 hl; rfl)
    obtain ⟨f_corner_of, d_corner_of, h_corner_of⟩ := h_corner_of
    have h_cells_drawn : ∃ f fd, Pc.Fn (L2.KOf KX) mg "cells_drawn" P11.s_cells_drawn f fd ["corner", "layers"] := by
      dsimp only [L2.KOf]
      refine' Pc.fn_mk KX G ?a ?l ?c ?k ?b
      (case a => k_is); (case l => k_is); (case c => k_is); (case k => k_is); (case b => exact fun _ _ _ _ _ _ us hl => by obtain ⟨_, _, rfl⟩ := Pc.args2 hl; rfl)
    obtain ⟨f_cells_drawn, d_cells_drawn, h_cells_drawn⟩ := h_cells_drawn
    have h_body_drawn : ∃ f fd, Pc.Fn (L2.KOf KX) mg "body_drawn" P11.s_body_drawn f fd ["text"] := by
      dsimp only [L2.KOf]
      refine' Pc.fn_mk KX G ?a ?l ?c ?k ?b
      (case a => k_is); (case l => k_is); (case c => k_is); (case k => k_is); (case b => exact fun _ _ _ _ _ _ us hl => by obtain ⟨_, rfl⟩ := Pc.args1 hl; rfl)
    obtain ⟨f_body_drawn, d_body_drawn, h_body_drawn⟩ := h_body_drawn
    have h_read : ∃ f fd, Pc.Fn (L2.KOf KX) mg "read" P11.s_read f fd ["text"] := by
      dsimp only [L2.KOf]
      refine' Pc.fn_mk KX G ?a ?l ?c ?k ?b
      (case a => k_is); (case l => k_is); (case c => k_is); (case k => k_is); (case b => exact fun _ _ _ _ _ _ us hl => by obtain ⟨_, rfl⟩ := Pc.args1 hl; rfl)
    obtain ⟨f_read, d_read, h_read⟩ := h_read
    have h__law_cell_at : ∃ f fd, Pc.Fn (L2.KOf KX) mg "_law_cell_at" P11.s__law_cell_at f fd ["_law_script", "_law_k"] := by
      dsimp only [L2.KOf]
      refine' Pc.fn_mk KX G ?a ?l ?c ?k ?b
      (case a => k_is); (case l => k_is); (case c => k_is); (case k => k_is); (case b => exact fun _ _ _ _ _ _ us hl => by obtain ⟨_, _, rfl⟩ := Pc.args2 hl; rfl)
    obtain ⟨f__law_cell_at, d__law_cell_at, h__law_cell_at⟩ := h__law_cell_at
    have h__law_mix : ∃ f fd, Pc.Fn (L2.KOf KX) mg "_law_mix" P11.s__law_mix f fd ["_law_cell", "_law_k"] := by
      dsimp only [L2.KOf]
      refine' Pc.fn_mk KX G ?a ?l ?c ?k ?b
      (case a => k_is); (case l => k_is); (case c => k_is); (case k => k_is); (case b => exact fun _ _ _ _ _ _ us hl => by obtain ⟨_, _, rfl⟩ := Pc.args2 hl; rfl)
    obtain ⟨f__law_mix, d__law_mix, h__law_mix⟩ := h__law_mix
    have h__law_step : ∃ f fd, Pc.Fn (L2.KOf KX) mg "_law_step" P11.s__law_step f fd ["_law_cell", "_law_number"] := by
      dsimp only [L2.KOf]
      refine' Pc.fn_mk KX G ?a ?l ?c ?k ?b
      (case a => k_is); (case l => k_is); (case c => k_is); (case k => k_is); (case b => exact fun _ _ _ _ _ _ us hl => by obtain ⟨_, _, rfl⟩ := Pc.args2 hl; rfl)
    obtain ⟨f__law_step, d__law_step, h__law_step⟩ := h__law_step
    have h__law_drawn : ∃ f fd, Pc.Fn (L2.KOf KX) mg "_law_drawn" P11.s__law_drawn f fd ["_law_cells", "_law_room"] := by
      dsimp only [L2.KOf]
      refine' Pc.fn_mk KX G ?a ?l ?c ?k ?b
      (case a => k_is); (case l => k_is); (case c => k_is); (case k => k_is); (case b => exact fun _ _ _ _ _ _ us hl => by obtain ⟨_, _, rfl⟩ := Pc.args2 hl; rfl)
    obtain ⟨f__law_drawn, d__law_drawn, h__law_drawn⟩ := h__law_drawn
    have h__law_moved : ∃ f fd, Pc.Fn (L2.KOf KX) mg "_law_moved" P11.s__law_moved f fd ["_law_cells", "_law_by"] := by
      dsimp only [L2.KOf]
      refine' Pc.fn_mk KX G ?a ?l ?c ?k ?b
      (case a => k_is); (case l => k_is); (case c => k_is); (case k => k_is); (case b => exact fun _ _ _ _ _ _ us hl => by obtain ⟨_, _, rfl⟩ := Pc.args2 hl; rfl)
    obtain ⟨f__law_moved, d__law_moved, h__law_moved⟩ := h__law_moved
    have h__law_text : ∃ f fd, Pc.Fn (L2.KOf KX) mg "_law_text" P11.s__law_text f fd ["_law_body"] := by
      dsimp only [L2.KOf]
      refine' Pc.fn_mk KX G ?a ?l ?c ?k ?b
      (case a => k_is); (case l => k_is); (case c => k_is); (case k => k_is); (case b => exact fun _ _ _ _ _ _ us hl => by obtain ⟨_, rfl⟩ := Pc.args1 hl; rfl)
    obtain ⟨f__law_text, d__law_text, h__law_text⟩ := h__law_text
    have h__law_whole : ∃ f fd, Pc.Fn (L2.KOf KX) mg "_law_whole" P11.s__law_whole f fd ["_law_number"] := by
      dsimp only [L2.KOf]
      refine' Pc.fn_mk KX G ?a ?l ?c ?k ?b
      (case a => k_is); (case l => k_is); (case c => k_is); (case k => k_is); (case b => exact fun _ _ _ _ _ _ us hl => by obtain ⟨_, rfl⟩ := Pc.args1 hl; rfl)
    obtain ⟨f__law_whole, d__law_whole, h__law_whole⟩ := h__law_whole
    have h__law_right : ∃ f fd, Pc.Fn (L2.KOf KX) mg "_law_right" P11.s__law_right f fd ["_law_body"] := by
      dsimp only [L2.KOf]
      refine' Pc.fn_mk KX G ?a ?l ?c ?k ?b
      (case a => k_is); (case l => k_is); (case c => k_is); (case k => k_is); (case b => exact fun _ _ _ _ _ _ us hl => by obtain ⟨_, rfl⟩ := Pc.args1 hl; rfl)
    obtain ⟨f__law_right, d__law_right, h__law_right⟩ := h__law_right
    have h_law : ∃ f fd, Pc.Fn (L2.KOf KX) mg "law" P11.s_law f fd ["_law_script"] := by
      dsimp only [L2.KOf]
      refine' Pc.fn_mk KX G ?a ?l ?c ?k ?b
      (case a => k_is); (case l => k_is); (case c => k_is); (case k => k_is); (case b => exact fun _ _ _ _ _ _ us hl => by obtain ⟨_, rfl⟩ := Pc.args1 hl; rfl)
    obtain ⟨f_law, d_law, h_law⟩ := h_law
    have L : P11.All (L2.KOf KX) w mg ⟨a_PLACES, f_is_whole, d_is_whole, f_is_near, d_is_near, f_is_cell, d_is_cell, f_along, d_along, f_refuse_other_things, d_refuse_other_things, f_few_enough, d_few_enough, f_body_of, d_body_of, f_span, d_span, f_marked, d_marked, f_layer_shown, d_layer_shown, f_shown, d_shown, f_number_of, d_number_of, f_three_numbers, d_three_numbers, f_corner_of, d_corner_of, f_cells_drawn, d_cells_drawn, f_body_drawn, d_body_drawn, f_read, d_read, f__law_cell_at, d__law_cell_at, f__law_mix, d__law_mix, f__law_step, d__law_step, f__law_drawn, d__law_drawn, f__law_moved, d__law_moved, f__law_text, d__law_text, f__law_whole, d__law_whole, f__law_right, d__law_right, f_law, d_law⟩ := ⟨m_PLACES, t_PLACES, m_FARTHEST, m_MOST_CELLS, m_NO_CELLS, m_FULL, m_BARE, m_FIGURES, m_MOST_FIGURES, n_ValueError, n_abs, n_all, n_bool, n_dict, n_enumerate, n_int, n_isinstance, n_len, n_list, n_max, n_min, n_range, n_reversed, n_set, n_sorted, n_str, n_tuple, h_is_whole, h_is_near, h_is_cell, h_along, h_refuse_other_things, h_few_enough, h_body_of, h_span, h_marked, h_layer_shown, h_shown, h_number_of, h_three_numbers, h_corner_of, h_cells_drawn, h_body_drawn, h_read, h__law_cell_at, h__law_mix, h__law_step, h__law_drawn, h__law_moved, h__law_text, h__law_whole, h__law_right, h_law⟩
    have q0 := hmg.symm.trans h_law.m
    cases q0
    exact ⟨d_law, fun s u => h_law.bt s [u] rfl, fun base _ _ => P11.ok_law L⟩
