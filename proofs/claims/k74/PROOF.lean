import PyProof.Rows.All
import Wide.All
import OpenK.AllK
import Wide.FinOn
import Lean
import PyProof.EqAt
import PyProof.EqKinds
import PyProof.TupleCall
import KE.KEqDeep
import PyProof.Rows.SortRuns
import KE.KRevIter
import PySem.Challenge.RW_pourhall_k74_whole_least_levels
set_option Elab.async false
set_option linter.all false
set_option maxRecDepth 100000
namespace L2
open PySem PySem.Spec PyProof.Rows
abbrev Key := Sum Int Str
def keyIs : Key → Value → Bool
  | .inl k, v => Value.isInt k v
  | .inr x, v => Value.isStrOf x v
def keyH (w : World) : Key → Int
  | .inl k => hashInt k
  | .inr x => hashStr w x
theorem keyIs_shape : ∀ {k : Key} {v : Value}, keyIs k v = true → (∃ i t, k = Sum.inl i ∧ v = Value.int i t) ∨ (∃ x t, k = Sum.inr x ∧ v = Value.str x t)
  | .inl i, v, h => by
    obtain ⟨t, e⟩ := Value.isInt_shape (k := i) (v := v) h
    exact .inl ⟨i, t, rfl, e⟩
  | .inr x, v, h => by
    obtain ⟨t, e⟩ := Value.isStrOf_shape (x := x) (v := v) h
    exact .inr ⟨x, t, rfl, e⟩
theorem keyIs_int (i : Int) (t : Tok) : keyIs (.inl i) (.int i t) = true := by simp [keyIs, Value.isInt]
theorem keyIs_str (x : Str) (t : Tok) : keyIs (.inr x) (.str x t) = true := by simp [keyIs, Value.isStrOf]
theorem key_ll (a b : Int) : decide ((Sum.inl a : Key) = Sum.inl b) = (a == b) := by
  by_cases e : a = b
  · subst e; simp
  · have h : ¬ (Sum.inl a : Key) = Sum.inl b := fun q => e (Sum.inl.inj q)
    rw [decide_eq_false h]
    exact (beq_eq_false_iff_ne.mpr e).symm
theorem key_rr (a b : Str) : decide ((Sum.inr a : Key) = Sum.inr b) = decide (a = b) := by
  by_cases e : a = b
  · subst e; simp
  · have h : ¬ (Sum.inr a : Key) = Sum.inr b := fun q => e (Sum.inr.inj q)
    rw [decide_eq_false h, decide_eq_false e]
theorem key_lr (a : Int) (b : Str) : decide ((Sum.inl a : Key) = Sum.inr b) = false := decide_eq_false (fun q => nomatch q)
theorem key_rl (a : Str) (b : Int) : decide ((Sum.inr a : Key) = Sum.inl b) = false := decide_eq_false (fun q => nomatch q)
def mixKind (prog : Program) (w : World) : PySem.KeyKind prog w Key where
  is := keyIs
  hash := keyH w
  inj := fun v a b ha hb => by
    rcases keyIs_shape ha with ⟨i, t, rfl, rfl⟩ | ⟨x, t, rfl, rfl⟩
    · rcases keyIs_shape hb with ⟨j, u, rfl, e⟩ | ⟨y, u, rfl, e⟩
      · injection e with e1 _; rw [e1]
      · exact nomatch e
    · rcases keyIs_shape hb with ⟨j, u, rfl, e⟩ | ⟨y, u, rfl, e⟩
      · exact nomatch e
      · injection e with e1 _; rw [e1]
  byValue := fun k v h => by
    rcases keyIs_shape h with ⟨i, t, rfl, rfl⟩ | ⟨x, t, rfl, rfl⟩ <;> rfl
  pyHash := fun hv h => by
    rcases keyIs_shape hv with ⟨i, t, rfl, rfl⟩ | ⟨x, t, rfl, rfl⟩
    · exact wpAny_pyHash_int h
    · exact wpAny_pyHash_str h
  eqBool := fun hu hv h => by
    rcases keyIs_shape hu with ⟨i, t, rfl, rfl⟩ | ⟨x, t, rfl, rfl⟩
    · rcases keyIs_shape hv with ⟨j, u, rfl, rfl⟩ | ⟨y, u, rfl, rfl⟩
      · rw [key_ll] at h; exact wpAny_eqBool_int h
      · rw [key_lr] at h; exact SeqAt.EqAt.int_str i t y u _ _ _ _ h
    · rcases keyIs_shape hv with ⟨j, u, rfl, rfl⟩ | ⟨y, u, rfl, rfl⟩
      · rw [key_rl] at h; exact SeqAt.EqAt.str_int x t j u _ _ _ _ h
      · rw [key_rr] at h; exact wpAny_eqBool_str h
  «strs» := fun k x t v h => by
    rcases keyIs_shape h with ⟨i, u, rfl, e⟩ | ⟨y, u, rfl, e⟩
    · exact nomatch e
    · injection e with e1 _
      subst e1
      cases v <;> rfl
theorem mixKind_int (prog : Program) (w : World) (i : Int) (t : Tok) : (mixKind prog w).is (.inl i) (.int i t) = true := keyIs_int i t
theorem mixKind_str (prog : Program) (w : World) (x : Str) (t : Tok) : (mixKind prog w).is (.inr x) (.str x t) = true := keyIs_str x t
end L2
namespace L2
open PySem PySem.Spec PyProof.Rows
inductive V where
  | non | bl (b : Bool) | int (i : Int) | str (x : Str) | byt (b : Array UInt8) | flt (b : UInt64) | ref (a : Addr) | ty (n : String)
  deriving DecidableEq
def RelV : V → Value → Prop
  | .non, u => u = Value.none
  | .bl b, u => u = Value.bool b
  | .int i, u => ∃ t, u = Value.int i t
  | .str x, u => ∃ t, u = Value.str x t
  | .byt b, u => ∃ t, u = Value.bytes b t
  | .flt b, u => ∃ t, u = Value.float b t
  | .ref a, u => u = Value.ref a
  | .ty n, u => u = Value.type n
abbrev Vals : List V → List Value → Prop := Paired RelV
theorem Vals.length {xs : List V} {us : List Value} (r : Vals xs us) : xs.length = us.length := Paired.length r
theorem Vals.get : ∀ {xs : List V} {us : List Value} {i : Nat} {x : V}, Vals xs us → xs[i]? = some x → ∃ u, us[i]? = some u ∧ RelV x u
  | _, _, _, _, .nil, e => by simp at e
  | _, _, 0, _, .cons r _, e => by simp at e; subst e; exact ⟨_, rfl, r⟩
  | _, _, i + 1, x, .cons _ t, e => by
    obtain ⟨u, h1, h2⟩ := Vals.get (i := i) (x := x) t (by simpa using e)
    exact ⟨u, by simpa using h1, h2⟩
theorem Vals.set {x : V} {u : Value} (r : RelV x u) : ∀ {xs : List V} {us : List Value} (i : Nat), Vals xs us → Vals (xs.set i x) (us.set i u)
  | _, _, _, .nil => .nil
  | _, _, 0, .cons _ t => .cons r t
  | _, _, i + 1, .cons q t => .cons q (Vals.set r i t)
theorem Vals.append : ∀ {xs ys : List V} {us ws : List Value}, Vals xs us → Vals ys ws → Vals (xs ++ ys) (us ++ ws)
  | _, _, _, _, .nil, s => s
  | _, _, _, _, .cons r t, s => .cons r (Vals.append t s)
theorem Vals.take : ∀ {xs : List V} {us : List Value} (n : Nat), Vals xs us → Vals (xs.take n) (us.take n)
  | _, _, 0, _ => .nil
  | _, _, _ + 1, .nil => .nil
  | _, _, n + 1, .cons r t => .cons r (Vals.take n t)
theorem Vals.drop : ∀ {xs : List V} {us : List Value} (n : Nat), Vals xs us → Vals (xs.drop n) (us.drop n)
  | _, _, 0, r => r
  | _, _, _ + 1, .nil => .nil
  | _, _, n + 1, .cons _ t => Vals.drop n t
def RelO : Option V → Option Value → Prop
  | some v, some u => RelV v u
  | none, none => True
  | _, _ => False
def KV {κ : Type} : List (κ × V) → List (κ × Value) → Prop := Paired fun (p : κ × V) (q : κ × Value) => p.1 = q.1 ∧ RelV p.2 q.2
def kV : Key → V
  | .inl i => .int i
  | .inr x => .str x
inductive HO where
  | lst (xs : List V)
  | tup (xs : List V)
  | dK (kvs : List (Key × V)) | dT (kvs : List (List Key × V))
  | set (S : Int → Bool) (n : Nat)
  | ins (C dx : Addr) (fs : List (Str × V))
  | own (x : Addr)
  | xd (fs : List (Str × V))
  | met (f x : Addr)
  | rng (lo hi : Int)
  | frz (o : Obj) (u : HO)
  | tbl (ps : Array Value)
  | ext (φ : Heap → Prop)
abbrev Hp := Addr → Option HO
def upd (H : Hp) (a : Addr) (o : HO) : Hp := fun b => if b = a then some o else H b
theorem upd_same {H : Hp} {a : Addr} {o : HO} : upd H a o a = some o := by unfold upd; rw [if_pos rfl]
theorem upd_ne {H : Hp} {a b : Addr} {o : HO} (h : b ≠ a) : upd H a o b = H b := by unfold upd; rw [if_neg h]
theorem ne_of {H : Hp} {a b : Addr} {o u : HO} (h : H a = some o) (h' : H b = some u) (d : o ≠ u) : a ≠ b := by
  intro e; subst e; rw [h] at h'; exact d (Option.some.inj h')
theorem ne_of_none {H : Hp} {a b : Addr} {o : HO} (h : H a = some o) (h' : H b = none) : a ≠ b := by
  intro e; subst e; rw [h] at h'; cases h'
section
variable (P : Program) (w : World)
def ObjOk (H : Hp) (h : Heap) (a : Addr) : HO → Prop
  | .lst xs => xs.length ≤ sizeLine ∧ ∃ (its : List Value) (n : Nat), Vals xs its ∧ h.get? a = some { cls := .type "list", data := .seq its.toArray n }
  | .tup xs => xs.length ≤ sizeLine ∧ ∃ its : List Value, Vals xs its ∧ IsTup h a its.toArray
  | .dK kvs => kvs.length ≤ sizeLine ∧ (a == sysModules) = false ∧ ∃ vs, KV kvs vs ∧ h.DictOf (mixKind P w) a vs
  | .dT kvs => kvs.length ≤ sizeLine ∧ (a == sysModules) = false ∧ ∃ xs : List (List Key × Addr × Value),
      Paired (fun (p : List Key × V) (q : List Key × Addr × Value) => p.1 = q.1 ∧ H q.2.1 = some (.tup (p.1.map kV)) ∧ RelV p.2 q.2.2) kvs xs ∧
      ∃ o es ep, h.get? a = some o ∧ o.ExactDict ∧ o.data = .dict es ep ∧ es.toList = xs.map (entryOfKey (tupleKind (mixKind P w))) ∧ (xs.map (·.1)).Nodup
  | .set S n => h.SetOf (intKind P w) a S n
  | .ins C dx fs => H dx = some (.own a) ∧ fs.length ≤ 1000 ∧ dx ≠ a ∧ h.get? a = some (PySem.W.instObj C dx) ∧
      ∃ mA, h.Ns1 dx mA ∧ (∀ f, RelO (fs.lookup f) (mA f)) ∧ PySem.Within mA (fs.map (·.1))
  | .own _ => ∃ o, h.get? a = some o
  | .xd fs => ∃ mA, h.Ns1 a mA ∧ ∀ f, RelO (fs.lookup f) (mA f)
  | .rng lo hi => ∃ t u v, h.get? a = some { cls := .type "range", data := .fields #[.int lo t, .int hi u, .int 1 v] }
  | .frz o u => h.get? a = some o ∧ ObjOk H h a u
  | .tbl ps => h.get? a = some { cls := .none, data := .fields ps }
  | .met f x => h.get? a = some (PySem.W.methodObj (.ref f) (.ref x))
  | .ext φ => φ h ∧ (∃ o, h.get? a = some o) ∧ ∀ h1 h2 : Heap, φ h1 → (∀ o, h1.get? a = some o → h2.get? a = some o) → φ h2
def HOk (H : Hp) (h : Heap) : Prop := ∀ a o, H a = some o → ObjOk P w H h a o
end
section
variable {P : Program} {w : World} {H H' : Hp} {h h' : Heap} {a : Addr} {o : HO}
theorem ObjOk.lt (x : ObjOk P w H h a o) : a < h.objs.size := by
  cases o with
  | lst xs => obtain ⟨_, _, _, _, e⟩ := x; exact Heap.lt_size e
  | tup xs => obtain ⟨_, _, _, p⟩ := x; exact p.lt
  | dK kvs => obtain ⟨_, _, _, _, o, _, _, e, _⟩ := x; exact Heap.lt_size e
  | dT kvs => obtain ⟨_, _, _, _, o, _, _, e, _⟩ := x; exact Heap.lt_size e
  | set S n => obtain ⟨o, _, _, _, e, _⟩ := x; exact Heap.lt_size e
  | ins C dx fs => obtain ⟨_, _, _, e, _⟩ := x; exact Heap.lt_size e
  | own y => obtain ⟨_, e⟩ := x; exact Heap.lt_size e
  | xd fs => obtain ⟨_, ⟨_, _, _, e, _⟩, _⟩ := x; exact Heap.lt_size e
  | rng lo hi => obtain ⟨_, _, _, e⟩ := x; exact Heap.lt_size e
  | frz ob u => obtain ⟨e, _⟩ := x; exact Heap.lt_size e
  | tbl ps => exact Heap.lt_size (show h.get? a = some _ from x)
  | met f y => exact Heap.lt_size (show h.get? a = some _ from x)
  | ext φ => obtain ⟨_, ⟨_, e⟩, _⟩ := x; exact Heap.lt_size e
theorem Paired.mapP {α β : Type} {F G : α → β → Prop} : ∀ {l₁ : List α} {l₂ : List β}, Paired F l₁ l₂ → (∀ a b, F a b → G a b) → Paired G l₁ l₂
  | _, _, .nil, _ => .nil
  | _, _, .cons r t, f => .cons (f _ _ r) (Paired.mapP t f)
theorem ObjOk.stay (x : ObjOk P w H h a o) (k : ∀ b u, (b = a ∨ H b = some (.own a)) → h.get? b = some u → h'.get? b = some u)
    (ho : ∀ b, H b = some (.own a) → H' b = some (.own a)) (ht : ∀ b xs, H b = some (.tup xs) → H' b = some (.tup xs)) : ObjOk P w H' h' a o := by
  induction o with
  | lst xs => obtain ⟨z, its, n, r, e⟩ := x; exact ⟨z, its, n, r, k _ _ (.inl rfl) e⟩
  | tup xs => obtain ⟨z, its, r, ob, e, c⟩ := x; exact ⟨z, its, r, ob, k _ _ (.inl rfl) e, c⟩
  | dK kvs => obtain ⟨z, y, vs, r, ob, es, ep, e, c⟩ := x; exact ⟨z, y, vs, r, ob, es, ep, k _ _ (.inl rfl) e, c⟩
  | dT kvs =>
    obtain ⟨z, y, xs, r, ob, es, ep, e, c⟩ := x
    exact ⟨z, y, xs, Paired.mapP r fun p q z => ⟨z.1, ht _ _ z.2.1, z.2.2⟩, ob, es, ep, k _ _ (.inl rfl) e, c⟩
  | set S n => obtain ⟨ob, es, ep, t, e, c⟩ := x; exact ⟨ob, es, ep, t, k _ _ (.inl rfl) e, c⟩
  | ins C dx fs =>
    obtain ⟨d, z, ne, e, mA, ⟨od, es, ep, e2, c⟩, r⟩ := x
    exact ⟨ho _ d, z, ne, k _ _ (.inl rfl) e, mA, ⟨od, es, ep, k _ _ (.inr d) e2, c⟩, r⟩
  | own y => obtain ⟨ob, e⟩ := x; exact ⟨ob, k _ _ (.inl rfl) e⟩
  | xd fs => obtain ⟨mA, ⟨od, es, ep, e, c⟩, r⟩ := x; exact ⟨mA, ⟨od, es, ep, k _ _ (.inl rfl) e, c⟩, r⟩
  | rng lo hi => obtain ⟨t, u, v, e⟩ := x; exact ⟨t, u, v, k _ _ (.inl rfl) e⟩
  | frz ob u ih => obtain ⟨e, q⟩ := x; exact ⟨k _ _ (.inl rfl) e, ih q⟩
  | tbl ps =>
    have e : h.get? a = some { cls := .none, data := .fields ps } := x
    show h'.get? a = some { cls := .none, data := .fields ps }
    exact k a _ (.inl rfl) e
  | met f y =>
    have e : h.get? a = some (PySem.W.methodObj (.ref f) (.ref y)) := x
    show h'.get? a = some (PySem.W.methodObj (.ref f) (.ref y))
    exact k a _ (.inl rfl) e
  | ext φ => obtain ⟨p, ⟨o, e⟩, st⟩ := x; exact ⟨st _ _ p fun o q => k _ _ (.inl rfl) q, ⟨o, k _ _ (.inl rfl) e⟩, st⟩
theorem HOk.lt (x : HOk P w H h) (e : H a = some o) : a < h.objs.size := (x a o e).lt
theorem HOk.fresh (x : HOk P w H h) (e : h.objs.size ≤ a) : H a = none := by
  cases q : H a with
  | none => rfl
  | some u => exact absurd (Nat.lt_of_lt_of_le (x.lt q) e) (Nat.lt_irrefl _)
theorem HOk.kept (x : HOk P w H h) (k : ∀ b u, h.get? b = some u → h'.get? b = some u) : HOk P w H h' := fun a o e =>
  (x a o e).stay (fun b u _ q => k b u q) (fun _ q => q) fun _ _ q => q
theorem HOk.laid (x : HOk P w H h) (k : ∀ b u, h.get? b = some u → h'.get? b = some u) (hp : h.objs.size ≤ a) (new : ObjOk P w (upd H a o) h' a o) : HOk P w (upd H a o) h' := fun b u e => by
  have hn := x.fresh hp
  by_cases hb : b = a
  · subst hb; rw [upd_same] at e; cases e; exact new
  · rw [upd_ne hb] at e
    exact (x b u e).stay (fun c v _ q => k c v q) (fun c q => by rw [upd_ne (ne_of_none q hn)]; exact q) fun c xs q => by rw [upd_ne (ne_of_none q hn)]; exact q
end
def Rd (H : Hp) (a : Addr) (u : HO) : Prop := H a = some u ∨ ∃ o, H a = some (.frz o u)
theorem Rd.ok {P : Program} {w : World} {H : Hp} {h : Heap} {a : Addr} {u : HO} (r : Rd H a u) (x : HOk P w H h) : ObjOk P w H h a u := by
  rcases r with r | ⟨o, r⟩
  · exact x a u r
  · obtain ⟨_, q⟩ := x a _ r
    exact q
def Mut : Option HO → Prop
  | some (.lst _) => True
  | some (.dK _) => True
  | some (.dT _) => True
  | some (.set _ _) => True
  | some (.ins _ _ _) => True
  | some (.ext _) => True
  | _ => False
section
variable {P : Program} {w : World} {H : Hp} {h h' : Heap} {x e : Addr} {o' : HO}
theorem HOk.write (ok : HOk P w H h) (mu : Mut (H x)) (he : e = x ∨ H e = some (.own x)) (k : ∀ b u, b ≠ e → h.get? b = some u → h'.get? b = some u) (heo : ∃ u, h'.get? e = some u)
    (new : ObjOk P w (upd H x o') h' x o') : HOk P w (upd H x o') h' := fun b u q => by
  have nown : ∀ c y, H c = some (.own y) → c ≠ x := fun c y r z => by subst z; rw [r] at mu; exact mu
  have ntup : ∀ c xs, H c = some (.tup xs) → c ≠ x := fun c xs r z => by subst z; rw [r] at mu; exact mu
  by_cases hb : b = x
  · subst hb; rw [upd_same] at q; cases q; exact new
  · rw [upd_ne hb] at q
    by_cases hbe : b = e
    · have q' : H b = some (.own x) := by
        rcases he with z | z
        · exact absurd (hbe.trans z) hb
        · rw [hbe]; exact z
      rw [q] at q'; cases q'
      obtain ⟨v, hv⟩ := heo
      exact ⟨v, by rw [hbe]; exact hv⟩
    · refine (ok b u q).stay (fun c v hc r => k c v ?_ r) (fun c r => by rw [upd_ne (nown c b r)]; exact r) fun c xs r => by rw [upd_ne (ntup c xs r)]; exact r
      rcases hc with rfl | hc
      · exact hbe
      · rintro rfl
        rcases he with z | z
        · exact nown c b hc z
        · rw [hc] at z; cases z; exact hb rfl
end
structure Un (fs ex : List Addr) (H H' : Hp) (h h' : Heap) : Prop where
  keep : ∀ b o, h.get? b = some o → H b = none → b ∉ fs → b ∉ ex → h'.get? b = some o
  slot : ∀ b o, h.get? b = some o → H b = none → b ∈ fs → b ∉ ex → ∃ sl, h'.get? b = some { o with slots := sl }
  free : ∀ b o, h.get? b = some o → H b = none → b ∉ ex → H' b = none
  there : ∀ b o, h.get? b = some o → b ∉ ex → ∃ o', h'.get? b = some o'
  tups : ∀ b xs, H b = some (.tup xs) → H' b = some (.tup xs)
  frzs : ∀ b o u, H b = some (.frz o u) → H' b = some (.frz o u)
  tbls : ∀ b ps, H b = some (.tbl ps) → ∃ more, H' b = some (.tbl (ps ++ more))
section
variable {fs fs' ex ex' : List Addr} {H H1 H2 : Hp} {h h1 h2 h' : Heap} {a x e : Addr} {o : HO}
theorem Un.any (u : Un fs ex H H1 h h1) {b : Addr} {ob : Obj} (q : h.get? b = some ob) (n : H b = none) (hx : b ∉ ex) : ∃ sl, h1.get? b = some { ob with slots := sl } := by
  by_cases hb : b ∈ fs
  · exact u.slot b ob q n hb hx
  · exact ⟨ob.slots, u.keep b ob q n hb hx⟩
theorem Un.kept (k : ∀ b u, h.get? b = some u → h'.get? b = some u) : Un fs ex H H h h' :=
  ⟨fun b ob q _ _ _ => k b ob q, fun b ob q _ _ _ => ⟨ob.slots, k b ob q⟩, fun _ _ _ n _ => n, fun b ob q _ => ⟨ob, k b ob q⟩, fun _ _ q => q, fun _ _ _ q => q, fun _ ps q => ⟨#[], by rw [q]; simp⟩⟩
theorem Un.refl : Un fs ex H H h h := Un.kept fun _ _ q => q
theorem Un.laid (k : ∀ b u, h.get? b = some u → h'.get? b = some u) (hp : h.objs.size ≤ a) (hn : H a = none) : Un fs ex H (upd H a o) h h' where
  keep := fun b u q _ _ _ => k b u q
  slot := fun b u q _ _ _ => ⟨u.slots, k b u q⟩
  free := fun b u q n _ => by rw [upd_ne (Nat.ne_of_lt (Nat.lt_of_lt_of_le (Heap.lt_size q) hp))]; exact n
  there := fun b u q _ => ⟨u, k b u q⟩
  tups := fun b xs q => by rw [upd_ne (ne_of_none q hn)]; exact q
  frzs := fun b u xs q => by rw [upd_ne (ne_of_none q hn)]; exact q
  tbls := fun b ps q => ⟨#[], by rw [upd_ne (ne_of_none q hn), q]; simp⟩
theorem Un.write (mu : Mut (H x)) (he : e = x ∨ H e = some (.own x)) (k : ∀ b u, b ≠ e → h.get? b = some u → h'.get? b = some u) (heo : ∃ u, h'.get? e = some u) : Un fs ex H (upd H x o) h h' := by
  have hx : ∀ b, H b = none → b ≠ x := fun b n z => by subst z; rw [n] at mu; exact mu
  have hb : ∀ b, H b = none → b ≠ e := fun b n z => by
    subst z
    rcases he with r | r
    · exact hx b n r
    · rw [n] at r; cases r
  have hm : ∀ b u, H b = some u → ¬ Mut (some u) → b ≠ x := fun b u q nm z => by subst z; rw [q] at mu; exact nm mu
  refine ⟨fun b u q n _ _ => k b u (hb b n) q, fun b u q n _ _ => ⟨u.slots, k b u (hb b n) q⟩, fun b u q n _ => by rw [upd_ne (hx b n)]; exact n, fun b u q _ => ?_,
    fun b xs q => by rw [upd_ne (hm b _ q fun z => z)]; exact q, fun b u xs q => by rw [upd_ne (hm b _ q fun z => z)]; exact q, fun b ps q => ⟨#[], by rw [upd_ne (hm b _ q fun z => z), q]; simp⟩⟩
  by_cases hbe : b = e
  · subst hbe; exact heo
  · exact ⟨u, k b u hbe q⟩
end
def trk (h : Heap) (H : Hp) : List Addr := (List.range h.objs.size).filter fun a => (H a).isSome
def hidT (h : Heap) (H : Hp) : Heap := PySem.W.hideAll h (trk h H)
theorem hidT_size (h : Heap) (H : Hp) : (hidT h H).objs.size = h.objs.size := PySem.W.hideAll_size _ _
theorem hidT_get {h : Heap} {H : Hp} {b : Addr} {o : Obj} (e : h.get? b = some o) (n : H b = none) : (hidT h H).get? b = some o :=
  PySem.W.hideAll_get _ e fun hm => by
    have q : (H b).isSome = true := (List.mem_filter.mp hm).2
    rw [n] at q; simp at q
theorem of_hidT {h : Heap} {H : Hp} {b : Addr} {o : Obj} (e : (hidT h H).get? b = some o) : h.get? b = some o ∧ H b = none := by
  have e' : h.get? b = some o := PySem.W.of_hideAll (trk h H) e
  refine ⟨e', ?_⟩
  cases q : H b with
  | none => rfl
  | some x =>
    have hm : b ∈ trk h H := List.mem_filter.mpr ⟨List.mem_range.mpr (Heap.lt_size e'), by simp [q]⟩
    have z : (hidT h H).get? b = none := PySem.W.hideAll_none (trk h H) hm
    rw [z] at e; cases e
def allNews (g h : Heap) (L : Addr) : List (Addr × Obj) := (List.range h.objs.size).filterMap fun a => if a = L ∨ (g.get? a).isSome = true then none else (h.get? a).map fun o => (a, o)
theorem mem_allNews {g h : Heap} {L a : Addr} {o : Obj} (h1 : a ≠ L) (h2 : g.get? a = none) (h3 : h.get? a = some o) : (a, o) ∈ allNews g h L :=
  List.mem_filterMap.mpr ⟨a, List.mem_range.mpr (Heap.lt_size h3), by simp [h1, h2, h3]⟩
theorem of_mem_allNews {g h : Heap} {L : Addr} {p : Addr × Obj} (hp : p ∈ allNews g h L) : p.1 ≠ L ∧ g.get? p.1 = none ∧ h.get? p.1 = some p.2 := by
  obtain ⟨b, _, e⟩ := List.mem_filterMap.mp hp
  split at e
  · cases e
  · rename_i hn
    cases q : h.get? b with
    | none => rw [q] at e; simp at e
    | some u =>
      rw [q] at e
      simp only [Option.map_some, Option.some.injEq] at e
      subst e
      refine ⟨fun z => hn (.inl z), ?_, q⟩
      show g.get? b = none
      cases r : g.get? b with
      | none => rfl
      | some v => exact (hn (.inr (by simp [r]))).elim
def rest (g h : Heap) (L d : Addr) : List (Addr × Obj) := (allNews g h L).filter fun p => decide (p.1 ≠ d)
theorem news_all {g h : Heap} {L : Addr} : News g L h (allNews g h L) := fun p hp => let ⟨a, b, c⟩ := of_mem_allNews hp; ⟨c, a, b⟩
end L2
namespace L2
open PySem PySem.Spec PyProof.Rows
structure Mod (K : PySem.W.Frag) (mg : Str → Option Value) (base : Heap) : Prop where
  kin : K.In base
  glob : base.Ns mainGlobals mg
  blt : ∃ mb, base.Ns builtinsNs mb ∧ ∀ x : Str, x ≠ "__name__" → mb x = bootBuiltins x
  nolimit : base.NoLimit
structure Cx where
  prog : Program
  w : World
  K : PySem.W.Frag
  mg : Str → Option Value
  base : Heap
  A : Around
  N : List Str
  s₀ : Shared
  H₀ : Hp
  env : Env
  outer : List Env
  stack : List Env
  ex : List Addr
  fn : Str → Bool
  calm : Bool
  pn : List (Addr × Obj)
  xe : Value → Shared → Prop
def frs (l : List Env) : List Addr := l.filterMap (·.frame)
abbrev Cx.fs (X : Cx) : List Addr := frs X.outer
def Vis (sc : Scope) (x : Str) : Prop := sc.names.lookup x = some .local ∨ sc.names.lookup x = some .cell ∨ sc.names.lookup x = some .free
def Loc (sc : Scope) (x : Str) : Prop := sc.names.lookup x = some .local ∨ sc.names.lookup x = some .cell
def Look (env : Env) (h : Heap) (m : Str → Option Value) (x : Str) (u : Value) : Prop :=
  (env.kindOf x = some .local ∧ m x = some u) ∨ ((env.kindOf x = some .cell ∨ env.kindOf x = some .free) ∧ ∃ c, env.cells.lookup x = some c ∧ h.IsCell c (some u))
structure Cx.Ok (X : Cx) : Prop where
  mod : Mod X.K X.mg X.base
  kind : X.env.scope.kind = .function
  glob : X.env.globals = mainGlobals
  blt : X.env.builtins = builtinsNs
  above : X.s₀.heap.objs.size ≤ X.env.locals
  inj : ∀ x y c, X.env.cells.lookup x = some c → X.env.cells.lookup y = some c → x = y
  has : ∀ x, (X.env.kindOf x = some .cell ∨ X.env.kindOf x = some .free) → ∃ c, X.env.cells.lookup x = some c
  cab : ∀ x c, X.fn x = true → X.env.cells.lookup x = some c → X.s₀.heap.objs.size ≤ c
  hd : X.calm = true → X.A.handled = none
  frames : X.A.frames = some X.stack
  stk : X.stack = X.outer ∨ (X.stack = X.env :: X.outer ∧ X.env.frame = some X.env.locals)
  exf : ∀ b ∈ X.ex, b ≠ X.env.locals ∧ ∀ x c, X.env.cells.lookup x = some c → c ≠ b
  bs : ∀ b o, X.base.get? b = some o → X.s₀.heap.get? b = some o ∧ X.H₀ b = none
  bsz : X.base.objs.size ≤ X.s₀.heap.objs.size
  noex : ∀ b o, X.base.get? b = some o → b ∉ X.ex
  exfs : ∀ b ∈ X.ex, b ∉ X.fs
  funs : X.s₀.heap.FunFrames X.base X.outer
  frf : ∀ b ∈ X.fs, X.H₀ b = none
structure Inv (X : Cx) (pins : List (Addr × Obj)) (σ : List (Option V)) (H : Hp) (s : Shared) : Prop where
  ok : X.Ok
  os : s.os = X.s₀.os
  bare : AllBare s.gens
  base : Un X.fs X.ex X.H₀ H X.s₀.heap s.heap
  loc : ∃ m, s.heap.Ns X.env.locals m ∧ ∀ (i : Nat) (x : Str) (v : V), X.N[i]? = some x → σ[i]? = some (some v) → Vis X.env.scope x → ∃ u, RelV v u ∧ Look X.env s.heap m x u
  cell : ∀ x c, X.env.cells.lookup x = some c → ∃ v, s.heap.IsCell c v
  free : H X.env.locals = none
  freeC : ∀ x c, X.env.cells.lookup x = some c → H c = none
  pin : ∀ p ∈ X.pn ++ pins, s.heap.get? p.1 = some p.2 ∧ H p.1 = none ∧ p.1 ≠ X.env.locals ∧ p.1 ∉ X.fs ∧ ∀ v, p.2.data ≠ .cell v
  hok : HOk X.prog X.w H s.heap
  len : σ.length = X.N.length
section
variable {X : Cx} {pins : List (Addr × Obj)} {σ : List (Option V)} {H H' : Hp} {s : Shared} {h' : Heap}
theorem Cx.Ok.nofr (ok : X.Ok) {b : Addr} {o : Obj} (e : X.base.get? b = some o) : b ∉ X.fs := fun hb => by
  have := (ok.funs.mem hb).1
  rw [e] at this; cases this
theorem Inv.bs (I : Inv X pins σ H s) : ∀ b o, X.base.get? b = some o → s.heap.get? b = some o ∧ H b = none := fun b o e =>
  ⟨I.base.keep b o (I.ok.bs b o e).1 (I.ok.bs b o e).2 (I.ok.nofr e) (I.ok.noex b o e), I.base.free b o (I.ok.bs b o e).1 (I.ok.bs b o e).2 (I.ok.noex b o e)⟩
theorem Inv.bk (I : Inv X pins σ H s) : ∀ b o, X.base.get? b = some o → s.heap.get? b = some o := fun b o e => (I.bs b o e).1
theorem Inv.mod (I : Inv X pins σ H s) : Mod X.K X.mg X.base := I.ok.mod
theorem Inv.kIn (I : Inv X pins σ H s) : X.K.In s.heap := I.ok.mod.kin.keeps I.bk
theorem Inv.nolimit (I : Inv X pins σ H s) : s.heap.NoLimit := I.ok.mod.nolimit.keeps I.bk
theorem Inv.fr (I : Inv X pins σ H s) : ∃ m, Fr X.base X.env.locals s.heap m :=
  let ⟨m, hn, _⟩ := I.loc
  ⟨m, hn, I.bk, Nat.le_trans I.ok.bsz I.ok.above⟩
theorem Inv.lt (I : Inv X pins σ H s) : X.env.locals < s.heap.objs.size := let ⟨_, hn, _⟩ := I.loc; hn.lt
theorem Inv.sz (I : Inv X pins σ H s) : X.s₀.heap.objs.size ≤ s.heap.objs.size := Nat.le_trans I.ok.above (Nat.le_of_lt I.lt)
theorem Inv.nofs (I : Inv X pins σ H s) {a : Addr} (h : s.heap.objs.size ≤ a) : a ∉ X.fs := fun hb => by
  obtain ⟨_, o, ho, _⟩ := I.ok.funs.mem hb
  exact absurd (Nat.lt_of_lt_of_le (Heap.lt_size ho) (Nat.le_trans I.sz h)) (Nat.lt_irrefl _)
theorem Inv.cne (I : Inv X pins σ H s) : ∀ x c, X.env.cells.lookup x = some c → c ≠ X.env.locals := fun x c e z => by
  obtain ⟨v, o, ho, hd⟩ := I.cell x c e
  obtain ⟨m, ⟨o', es, ep, ho', hd', _⟩, _⟩ := I.loc
  rw [z, ho'] at ho; cases ho; rw [hd'] at hd; cases hd
theorem Inv.funs (I : Inv X pins σ H s) : s.heap.FunFrames X.base X.outer := by
  have all : ∀ (l : List Env), (∀ b ∈ frs l, b ∈ X.fs) → X.s₀.heap.FunFrames X.base l → s.heap.FunFrames X.base l := by
    intro l
    induction l with
    | nil => intro _ _; trivial
    | cons env r ih =>
      intro hs hl
      obtain ⟨hk, ⟨L, o, hf, hn, ho, hd⟩, hr⟩ := hl
      have hL : L ∈ X.fs := hs L (by unfold frs; rw [List.filterMap_cons, hf]; exact List.mem_cons_self)
      obtain ⟨sl, e⟩ := I.base.slot L o ho (I.ok.frf L hL) hL fun z => I.ok.exfs L z hL
      exact ⟨hk, ⟨L, _, hf, hn, e, hd⟩, ih (fun b hb => hs b (by unfold frs; rw [List.filterMap_cons, hf]; exact List.mem_cons_of_mem _ hb)) hr⟩
  exact all X.outer (fun _ hb => hb) I.ok.funs
theorem Inv.stack (I : Inv X pins σ H s) : s.heap.FunFrames X.base X.stack := by
  rcases I.ok.stk with e | ⟨e, hf⟩
  · rw [e]; exact I.funs
  · rw [e]
    obtain ⟨m, hn, _⟩ := I.loc
    refine .cons (by rw [I.ok.kind]; decide) hf hn ?_ I.funs
    exact Heap.get?_none_of_le (Nat.le_trans I.ok.bsz I.ok.above)
theorem Inv.stkSub (I : Inv X pins σ H s) : ∀ b ∈ frs X.stack, b ∈ X.env.locals :: X.fs := fun b hb => by
  rcases I.ok.stk with e | ⟨e, hf⟩
  · rw [e] at hb; exact List.mem_cons_of_mem _ hb
  · rw [e] at hb
    unfold frs at hb
    rw [List.filterMap_cons, hf] at hb
    exact hb
theorem Inv.stkFree (I : Inv X pins σ H s) : ∀ b ∈ frs X.stack, H b = none := fun b hb => by
  rcases List.mem_cons.mp (I.stkSub b hb) with e | hb
  · rw [e]; exact I.free
  · obtain ⟨_, o, ho, _⟩ := I.ok.funs.mem hb
    exact I.base.free b o ho (I.ok.frf b hb) fun z => I.ok.exfs b z hb
theorem Inv.step {g' : Array GenState} {t' : Nat} {d' : Drawn} {ch : List Addr} (I : Inv X pins σ H s)
    (hch : ∀ b ∈ ch, (b ∈ X.ex ∨ X.s₀.heap.objs.size ≤ b) ∧ b ≠ X.env.locals ∧ (∀ x c, X.env.cells.lookup x = some c → c ≠ b) ∧ ∀ p ∈ X.pn ++ pins, p.1 ≠ b)
    (keep : ∀ b o, b ≠ X.env.locals → b ∉ X.fs → b ∉ ch → s.heap.get? b = some o → H b = none → h'.get? b = some o)
    (slot : ∀ b o, b ≠ X.env.locals → b ∈ X.fs → b ∉ ch → s.heap.get? b = some o → H b = none → ∃ sl, h'.get? b = some { o with slots := sl }) (free : ∀ b o, b ∉ ch → s.heap.get? b = some o → H b = none → H' b = none)
    (there : ∀ b o, b ∉ ch → s.heap.get? b = some o → ∃ o', h'.get? b = some o')
    (tups : ∀ b xs, H b = some (.tup xs) → H' b = some (.tup xs)) (frzs : ∀ b o u, H b = some (.frz o u) → H' b = some (.frz o u)) (tbls : ∀ b ps, H b = some (.tbl ps) → ∃ more, H' b = some (.tbl (ps ++ more)))
    (ns : ∀ m, s.heap.Ns X.env.locals m → h'.Ns X.env.locals m) (hok : HOk X.prog X.w H' h') (hg : AllBare g') :
    Inv X pins σ H' { s with heap := h', gens := g', drawn := d', toks := t' } := by
  have neL : ∀ b o, X.s₀.heap.get? b = some o → b ≠ X.env.locals := fun b o e => Nat.ne_of_lt (Nat.lt_of_lt_of_le (Heap.lt_size e) I.ok.above)
  have neC : ∀ b o, X.s₀.heap.get? b = some o → b ∉ X.ex → b ∉ ch := fun b o e hx hb => by
    rcases (hch b hb).1 with z | z
    · exact hx z
    · exact absurd (Nat.lt_of_lt_of_le (Heap.lt_size e) z) (Nat.lt_irrefl _)
  have cellK : ∀ x c, X.env.cells.lookup x = some c → ∀ v, s.heap.IsCell c v → h'.IsCell c v := fun x c e v ⟨o, ho, hd⟩ => by
    have nch : c ∉ ch := fun z => (hch c z).2.2.1 x c e rfl
    by_cases hc : c ∈ X.fs
    · obtain ⟨sl, q⟩ := slot c o (I.cne x c e) hc nch ho (I.freeC x c e)
      exact ⟨_, q, hd⟩
    · exact ⟨o, keep c o (I.cne x c e) hc nch ho (I.freeC x c e), hd⟩
  refine ⟨I.ok, I.os, hg, ⟨fun b o e n hb hx => ?_, fun b o e n hb hx => ?_, fun b o e n hx => ?_, fun b o e hx => ?_, fun b xs e => tups b xs (I.base.tups b xs e), fun b o xs e => frzs b o xs (I.base.frzs b o xs e), fun b ps e => ?_⟩, ?_, fun x c e => ?_, ?_, fun x c e => ?_, fun p hp => ?_, hok, I.len⟩
  · exact keep b o (neL b o e) hb (neC b o e hx) (I.base.keep b o e n hb hx) (I.base.free b o e n hx)
  · obtain ⟨sl, e1⟩ := I.base.slot b o e n hb hx
    obtain ⟨sl', e2⟩ := slot b _ (neL b o e) hb (neC b o e hx) e1 (I.base.free b o e n hx)
    exact ⟨sl', e2⟩
  · obtain ⟨o', e1⟩ := I.base.there b o e hx
    exact free b o' (neC b o e hx) e1 (I.base.free b o e n hx)
  · obtain ⟨o', e1⟩ := I.base.there b o e hx
    exact there b o' (neC b o e hx) e1
  · obtain ⟨m1, e1⟩ := I.base.tbls b ps e
    obtain ⟨m2, e2⟩ := tbls b _ e1
    exact ⟨m1 ++ m2, by rw [e2, Array.append_assoc]⟩
  · obtain ⟨m, hn, hl⟩ := I.loc
    refine ⟨m, ns m hn, fun i x v e1 e2 e3 => ?_⟩
    obtain ⟨u, r, l⟩ := hl i x v e1 e2 e3
    refine ⟨u, r, ?_⟩
    rcases l with l | ⟨k, c, e, z⟩
    · exact .inl l
    · exact .inr ⟨k, c, e, cellK x c e _ z⟩
  · obtain ⟨v, z⟩ := I.cell x c e
    exact ⟨v, cellK x c e v z⟩
  · obtain ⟨m, ⟨o, _, _, ho, _⟩, _⟩ := I.loc
    exact free _ o (fun z => (hch _ z).2.1 rfl) ho I.free
  · obtain ⟨v, o, ho, hd⟩ := I.cell x c e
    exact free c o (fun z => (hch c z).2.2.1 x c e rfl) ho (I.freeC x c e)
  · obtain ⟨e, n, ne, nf, d⟩ := I.pin p hp
    have nch : p.1 ∉ ch := fun z => (hch p.1 z).2.2.2 p hp rfl
    exact ⟨keep p.1 p.2 ne nf nch e n, free p.1 p.2 nch e n, ne, nf, d⟩
theorem Inv.un {t' : Nat} (I : Inv X pins σ H s) (u : Un X.fs [] H H' s.heap h') (hok : HOk X.prog X.w H' h') : Inv X pins σ H' { s with heap := h', toks := t' } := by
  obtain ⟨m, ⟨o, es, ep, ho, r⟩, _⟩ := id I.loc
  obtain ⟨sl, hL⟩ := u.any ho I.free (by simp)
  exact I.step (g' := s.gens) (d' := s.drawn) (ch := []) (fun _ z => nomatch z) (fun b o _ hb _ e n => u.keep b o e n hb (by simp)) (fun b o _ hb _ e n => u.slot b o e n hb (by simp)) (fun b o _ e n => u.free b o e n (by simp)) (fun b o _ e => u.there b o e (by simp)) u.tups u.frzs u.tbls (fun m' hm => by
    obtain ⟨o', es', ep', ho', r'⟩ := hm
    rw [ho] at ho'; cases ho'
    exact ⟨_, es', ep', hL, r'⟩) hok I.bare
theorem Inv.call {g' : Array GenState} {t' : Nat} {d' : Drawn} {ch : List Addr} (I : Inv X pins σ H s) (u : Un (frs X.stack) ch H H' s.heap h') (hok : HOk X.prog X.w H' h') (hg : AllBare g')
    (hch : ∀ b ∈ ch, (b ∈ X.ex ∨ X.s₀.heap.objs.size ≤ b) ∧ b ≠ X.env.locals ∧ (∀ x c, X.env.cells.lookup x = some c → c ≠ b) ∧ ∀ p ∈ X.pn ++ pins, p.1 ≠ b) :
    Inv X pins σ H' { s with heap := h', gens := g', drawn := d', toks := t' } := by
  obtain ⟨m, ⟨o, es, ep, ho, r⟩, _⟩ := id I.loc
  obtain ⟨sl, hL⟩ := u.any ho I.free fun z => (hch _ z).2.1 rfl
  exact I.step (ch := ch) hch (fun b o hL hb hc e n => u.keep b o e n (fun z => (List.mem_cons.mp (I.stkSub b z)).elim hL hb) hc) (fun b o _ _ hc e n => u.any e n hc) (fun b o hc e n => u.free b o e n hc) (fun b o hc e => u.there b o e hc) u.tups u.frzs u.tbls (fun m' hm => by
    obtain ⟨o', es', ep', ho', r'⟩ := hm
    rw [ho] at ho'; cases ho'
    exact ⟨_, es', ep', hL, r'⟩) hok hg
theorem Inv.turned {t' : Nat} {it : Addr} (I : Inv X pins σ H s) (k : ∀ b o, b ≠ it → s.heap.get? b = some o → h'.get? b = some o) (hn : H it = none) (hL : it ≠ X.env.locals)
    (h1 : it ∈ X.ex ∨ X.s₀.heap.objs.size ≤ it) (h2 : ∀ x c, X.env.cells.lookup x = some c → c ≠ it) (h3 : ∀ p ∈ X.pn ++ pins, p.1 ≠ it) : Inv X pins σ H { s with heap := h', toks := t' } := by
  have nit : ∀ b u, H b = some u → b ≠ it := fun b u e z => by rw [z, hn] at e; cases e
  refine I.step (g' := s.gens) (d' := s.drawn) (ch := [it]) (fun b hb => ?_) (fun b o _ _ hc e _ => k b o (fun z => hc (by simp [z])) e) (fun b o _ _ hc e _ => ⟨o.slots, k b o (fun z => hc (by simp [z])) e⟩) (fun _ _ _ _ n => n)
    (fun b o hc e => ⟨o, k b o (fun z => hc (by simp [z])) e⟩) (fun _ _ e => e) (fun _ _ _ e => e) (fun b ps e => ⟨#[], by rw [e]; simp⟩) (fun m hm => ?_) (fun b u e => ?_) I.bare
  · have e : b = it := by simpa using hb
    subst e
    exact ⟨h1, hL, h2, h3⟩
  · obtain ⟨o, es, ep, ho, r⟩ := hm
    exact ⟨o, es, ep, k _ o (Ne.symm hL) ho, r⟩
  · refine (I.hok b u e).stay (fun c v hc q => k c v ?_ q) (fun _ q => q) fun _ _ q => q
    rcases hc with z | z
    · rw [z]; exact nit b u e
    · exact nit c _ z
theorem Inv.tok (I : Inv X pins σ H s) (t : Nat) : Inv X pins σ H { s with toks := t } := I.un (h' := s.heap) (t' := t) Un.refl I.hok
theorem Inv.kept {t' : Nat} (I : Inv X pins σ H s) (k : ∀ b u, s.heap.get? b = some u → h'.get? b = some u) : Inv X pins σ H { s with heap := h', toks := t' } := I.un (Un.kept k) (I.hok.kept k)
theorem Inv.laid {a : Addr} {o : HO} {t' : Nat} (I : Inv X pins σ H s) (k : ∀ b u, s.heap.get? b = some u → h'.get? b = some u) (hp : s.heap.objs.size ≤ a) (new : ObjOk X.prog X.w (upd H a o) h' a o) :
    Inv X pins σ (upd H a o) { s with heap := h', toks := t' } := I.un (Un.laid k hp (I.hok.fresh hp)) (I.hok.laid k hp new)
theorem Inv.write {x e : Addr} {o : HO} {t' : Nat} (I : Inv X pins σ H s) (mu : Mut (H x)) (he : e = x ∨ H e = some (.own x)) (k : ∀ b u, b ≠ e → s.heap.get? b = some u → h'.get? b = some u) (heo : ∃ u, h'.get? e = some u)
    (new : ObjOk X.prog X.w (upd H x o) h' x o) : Inv X pins σ (upd H x o) { s with heap := h', toks := t' } := I.un (Un.write mu he k heo) (I.hok.write mu he k heo new)
theorem Inv.pins_of {pins' : List (Addr × Obj)} (I : Inv X pins σ H s) (h : ∀ p ∈ pins', s.heap.get? p.1 = some p.2 ∧ H p.1 = none ∧ p.1 ≠ X.env.locals ∧ p.1 ∉ X.fs ∧ ∀ v, p.2.data ≠ .cell v) : Inv X pins' σ H s :=
  ⟨I.ok, I.os, I.bare, I.base, I.loc, I.cell, I.free, I.freeC, fun p hp => (List.mem_append.mp hp).elim (fun z => I.pin p (List.mem_append_left _ z)) (h p), I.hok, I.len⟩
theorem nodup_ix {N : List Str} (hN : N.Nodup) {i j : Nat} {x : Str} (a : N[i]? = some x) (b : N[j]? = some x) : i = j := by
  obtain ⟨h1, e1⟩ := List.getElem?_eq_some_iff.mp a
  obtain ⟨h2, e2⟩ := List.getElem?_eq_some_iff.mp b
  exact (List.getElem_inj hN).mp (e1.trans e2.symm)
theorem store_ok2 {M : Model} {A : Around} {E : Value → Shared → Prop} {i : Nat} {x : Str} {v : V} {u : Value} {Q : Unit → Shared → Prop} (I : Inv X pins σ H s) (hN : X.N.Nodup) (hi : X.N[i]? = some x) (hx : Loc X.env.scope x) (r : RelV v u)
    (h : ∀ s', Inv X pins (σ.set i (some v)) H s' → (∃ a, Heap.SameBut a s.heap s'.heap ∧ (a = X.env.locals ∨ X.env.cells.lookup x = some a)) → Q () s') (hf : X.fn x = true ∨ X.env.scope.names.lookup x = some .local := by first | exact .inl rfl | exact .inr rfl | assumption) : wpAny M A (storeName X.env x u) Q E s := by
  obtain ⟨m, hn, hl⟩ := id I.loc
  have hcls : (X.env.scope.kind == .class || (X.env.scope.kind == .module && X.env.locals != X.env.globals)) = false := by rw [I.ok.kind]; rfl
  have hiσ : i < σ.length := by rw [I.len]; exact (List.getElem?_eq_some_iff.mp hi).1
  have cne := I.cne
  have tracked : ∀ {a : Addr} {h' : Heap}, (∃ o, s.heap.get? a = some o ∧ H a = none) → Heap.SameBut a s.heap h' → HOk X.prog X.w H h' := fun {a h'} ha hs b ob e => by
    obtain ⟨_, _, hfree⟩ := ha
    refine (I.hok b ob e).stay (fun c w' hc q => (hs.2 c ?_).trans q) (fun _ q => q) fun _ _ q => q
    rintro rfl
    rcases hc with rfl | hc
    · rw [hfree] at e; cases e
    · rw [hfree] at hc; cases hc
  rcases hx with hk | hk
  · refine wpAny_storeName_local hk hn (fun h' hn' hs => ?_) hcls
    obtain ⟨oL, _, _, hoL, _⟩ := id hn
    refine h _ ⟨I.ok, I.os, I.bare, ⟨fun b o e n hb hx => ?_, fun b o e n hb hx => ?_, I.base.free, fun b o e hx => ?_, I.base.tups, I.base.frzs, I.base.tbls⟩, ⟨_, hn', fun j y v' e1 e2 e3 => ?_⟩, fun y c e => ?_, I.free, I.freeC, fun p hp => ?_, tracked ⟨oL, hoL, I.free⟩ hs, by simpa using I.len⟩ ⟨_, hs, .inl rfl⟩
    · exact (hs.2 b (Nat.ne_of_lt (Nat.lt_of_lt_of_le (Heap.lt_size e) I.ok.above))).trans (I.base.keep b o e n hb hx)
    · obtain ⟨sl, e1⟩ := I.base.slot b o e n hb hx
      exact ⟨sl, (hs.2 b (Nat.ne_of_lt (Nat.lt_of_lt_of_le (Heap.lt_size e) I.ok.above))).trans e1⟩
    · obtain ⟨o', e1⟩ := I.base.there b o e hx
      exact ⟨o', (hs.2 b (Nat.ne_of_lt (Nat.lt_of_lt_of_le (Heap.lt_size e) I.ok.above))).trans e1⟩
    · by_cases hj : j = i
      · subst hj
        rw [hi] at e1; cases e1
        rw [List.getElem?_set_self hiσ] at e2
        cases e2
        exact ⟨u, r, .inl ⟨hk, by simp⟩⟩
      · rw [List.getElem?_set_ne (Ne.symm hj)] at e2
        obtain ⟨u', r', q⟩ := hl j y v' e1 e2 e3
        refine ⟨u', r', ?_⟩
        rcases q with ⟨k, e⟩ | ⟨k, c, e, z⟩
        · refine .inl ⟨k, ?_⟩
          have : y ≠ x := fun e => hj (nodup_ix hN e1 (e ▸ hi))
          simp [this, e]
        · exact .inr ⟨k, c, e, z.sameBut hs (cne y c e)⟩
    · obtain ⟨w', z⟩ := I.cell y c e
      exact ⟨w', z.sameBut hs (cne y c e)⟩
    · obtain ⟨e, n, ne, nf, d⟩ := I.pin p hp
      exact ⟨(hs.2 p.1 ne).trans e, n, ne, nf, d⟩
  · have hfn : X.fn x = true := by
      rcases hf with z | z
      · exact z
      · rw [z] at hk; cases hk
    obtain ⟨c, hc⟩ := I.ok.has x (.inl hk)
    obtain ⟨w', z⟩ := I.cell x c hc
    refine wpAny_storeName_cell I.ok.kind hk hc z (fun h' hc' hs => ?_)
    obtain ⟨oc, hoc, hocd⟩ := id z
    refine h { s with heap := h' } ⟨I.ok, I.os, I.bare, ⟨fun b o e n hb hx => ?_, fun b o e n hb hx => ?_, I.base.free, fun b o e hx => ?_, I.base.tups, I.base.frzs, I.base.tbls⟩, ⟨m, hn.sameBut hs (Ne.symm (cne x c hc)), fun j y v' e1 e2 e3 => ?_⟩, fun y c' e => ?_, I.free, I.freeC, fun p hp => ?_, tracked ⟨oc, hoc, I.freeC x c hc⟩ hs, by simpa using I.len⟩ ⟨c, hs, .inr hc⟩
    · exact (hs.2 b (Nat.ne_of_lt (Nat.lt_of_lt_of_le (Heap.lt_size e) (I.ok.cab x c hfn hc)))).trans (I.base.keep b o e n hb hx)
    · obtain ⟨sl, e1⟩ := I.base.slot b o e n hb hx
      exact ⟨sl, (hs.2 b (Nat.ne_of_lt (Nat.lt_of_lt_of_le (Heap.lt_size e) (I.ok.cab x c hfn hc)))).trans e1⟩
    · obtain ⟨o', e1⟩ := I.base.there b o e hx
      exact ⟨o', (hs.2 b (Nat.ne_of_lt (Nat.lt_of_lt_of_le (Heap.lt_size e) (I.ok.cab x c hfn hc)))).trans e1⟩
    · by_cases hj : j = i
      · subst hj
        rw [hi] at e1; cases e1
        rw [List.getElem?_set_self hiσ] at e2
        cases e2
        exact ⟨u, r, .inr ⟨.inl hk, c, hc, hc'⟩⟩
      · rw [List.getElem?_set_ne (Ne.symm hj)] at e2
        obtain ⟨u', r', q⟩ := hl j y v' e1 e2 e3
        refine ⟨u', r', ?_⟩
        rcases q with q | ⟨k, c', e, z'⟩
        · exact .inl q
        · refine .inr ⟨k, c', e, z'.sameBut hs ?_⟩
          rintro rfl
          exact hj (nodup_ix hN e1 (I.ok.inj _ _ _ e hc ▸ hi))
    · by_cases hcc : c' = c
      · subst hcc; exact ⟨_, hc'⟩
      · obtain ⟨w2, z2⟩ := I.cell y c' e
        exact ⟨w2, z2.sameBut hs hcc⟩
    · obtain ⟨e, n, ne, nf, d⟩ := I.pin p hp
      refine ⟨(hs.2 p.1 ?_).trans e, n, ne, nf, d⟩
      intro q
      rw [q, hoc] at e
      have q' : oc = p.2 := Option.some.inj e
      exact d w' (by rw [← q']; exact hocd)
theorem store_ok {M : Model} {A : Around} {E : Value → Shared → Prop} {i : Nat} {x : Str} {v : V} {u : Value} {Q : Unit → Shared → Prop} (I : Inv X pins σ H s) (hN : X.N.Nodup) (hi : X.N[i]? = some x) (hx : Loc X.env.scope x) (r : RelV v u)
    (h : ∀ s', Inv X pins (σ.set i (some v)) H s' → Q () s') (hf : X.fn x = true ∨ X.env.scope.names.lookup x = some .local := by first | exact .inl rfl | exact .inr rfl | assumption) : wpAny M A (storeName X.env x u) Q E s :=
  store_ok2 I hN hi hx r (fun s' I' _ => h s' I') hf
theorem Inv.call' {s' : Shared} {ch : List Addr} (I : Inv X pins σ H s) (ho : s'.os = s.os) (u : Un (frs X.stack) ch H H' s.heap s'.heap) (hok : HOk X.prog X.w H' s'.heap) (hg : AllBare s'.gens)
    (hch : ∀ b ∈ ch, (b ∈ X.ex ∨ X.s₀.heap.objs.size ≤ b) ∧ b ≠ X.env.locals ∧ (∀ x c, X.env.cells.lookup x = some c → c ≠ b) ∧ ∀ p ∈ X.pn ++ pins, p.1 ≠ b) : Inv X pins σ H' s' := by
  obtain ⟨h', g', d', t', o'⟩ := s'
  have e : o' = s.os := ho
  subst e
  exact I.call (g' := g') (t' := t') (d' := d') u hok hg hch
end
abbrev XK := Value → Option Addr → Hp → Prop
abbrev St := List (Option V)
abbrev VK := V → Hp → Prop
abbrev TE := St → Hp → VK → Prop
abbrev TT := St → Hp → (Bool → Hp → Prop) → Prop
abbrev TA := St → Hp → (List V → Hp → Prop) → Prop
structure Ends where
  nx : St → Hp → Prop
  rt : VK
  bk : St → Hp → Prop := fun _ _ => False
  ct : St → Hp → Prop := fun _ _ => False
abbrev TS := Ends → St → Hp → Prop
def EP (X : Cx) (pins : List (Addr × Obj)) (σ : St) (Q : VK) (u : Value) (s' : Shared) : Prop := ∃ v H', Inv X pins σ H' s' ∧ RelV v u ∧ Q v H'
def TP (X : Cx) (pins : List (Addr × Obj)) (σ : St) (Q : Bool → Hp → Prop) (b : Bool) (s' : Shared) : Prop := ∃ H', Inv X pins σ H' s' ∧ Q b H'
def AP (X : Cx) (pins : List (Addr × Obj)) (σ : St) (Q : List V → Hp → Prop) (us : List Value) (s' : Shared) : Prop := ∃ vs H', Inv X pins σ H' s' ∧ Vals vs us ∧ Q vs H'
def SP (X : Cx) (pins : List (Addr × Obj)) (D : Ends) (f : Flow) (s' : Shared) : Prop :=
  match f with
  | .next => ∃ σ' H', Inv X pins σ' H' s' ∧ D.nx σ' H'
  | .brk => ∃ σ' H', Inv X pins σ' H' s' ∧ D.bk σ' H'
  | .cont => ∃ σ' H', Inv X pins σ' H' s' ∧ D.ct σ' H'
  | .ret u => ∃ v σ' H', Inv X pins σ' H' s' ∧ RelV v u ∧ D.rt v H'
def PE (X : Cx) (e : Expr) (t : TE) : Prop :=
  ∀ (pins : List (Addr × Obj)) (s : Shared) (σ : St) (H : Hp) (Q : VK), Inv X pins σ H s → t σ H Q → wpAny (model X.prog X.w) X.A (eval e X.env) (EP X pins σ Q) X.xe s
def PT (X : Cx) (e : Expr) (t : TT) : Prop :=
  ∀ (pins : List (Addr × Obj)) (s : Shared) (σ : St) (H : Hp) (Q : Bool → Hp → Prop), Inv X pins σ H s → t σ H Q → wpAny (model X.prog X.w) X.A (isTrue e X.env (eval e X.env)) (TP X pins σ Q) X.xe s
def PW (X : Cx) (e : Expr) (t : TT) : Prop :=
  ∀ (whole : Sem Value) (pins : List (Addr × Obj)) (s : Shared) (σ : St) (H : Hp) (Q : Bool → Hp → Prop), Inv X pins σ H s → t σ H Q → wpAny (model X.prog X.w) X.A (isTrue e X.env whole) (TP X pins σ Q) X.xe s
theorem PW.pt {X : Cx} {e : Expr} {t : TT} (h : PW X e t) : PT X e t := h _
def PA (X : Cx) (es : List Expr) (t : TA) : Prop :=
  ∀ (pos : Pos) (pins : List (Addr × Obj)) (s : Shared) (σ : St) (H : Hp) (Q : List V → Hp → Prop), Inv X pins σ H s → t σ H Q → wpAny (model X.prog X.w) X.A (spliced (backTo pos (starEach es X.env))) (AP X pins σ Q) X.xe s
def PS (X : Cx) (st : Stmt) (t : TS) : Prop :=
  ∀ (pins : List (Addr × Obj)) (s : Shared) (σ : St) (H : Hp) (D : Ends), Inv X pins σ H s → t D σ H → wpAny (model X.prog X.w) X.A (exec st X.env) (SP X pins D) X.xe s
def PSs (X : Cx) (st : List Stmt) (t : TS) : Prop :=
  ∀ (pins : List (Addr × Obj)) (s : Shared) (σ : St) (H : Hp) (D : Ends), Inv X pins σ H s → t D σ H → wpAny (model X.prog X.w) X.A (execs st X.env) (SP X pins D) X.xe s
theorem thn {α : Type} {t : Sem α} {Q Q' : α → Shared → Prop} {M : Model} {A : Around} {E : Value → Shared → Prop} {s : Shared} (h : wpAny M A t Q E s) (hQ : ∀ a s, Q a s → Q' a s) : wpAny M A t Q' E s := wpAny_mono h hQ fun _ _ x => x
end L2
namespace L2
open PySem PySem.Spec PyProof.Rows
section
variable {X : Cx}
def tVar (i : Nat) : TE := fun σ H Q => ∃ v, σ[i]? = some (some v) ∧ Q v H
def tC (v : V) : TE := fun _ H Q => Q v H
theorem pe_var {i : Nat} {x : Str} {pos : Pos} (hN : X.N[i]? = some x) (hv : Vis X.env.scope x) (hd : (x == ("__debug__" : Str)) = false := by decide) (hcd : (x == ("__classdict__" : Str)) = false := by decide) : PE X (.Name x pos) (tVar i) := by
  intro pins s σ H Q I h
  obtain ⟨v, e, h⟩ := h
  obtain ⟨m, hn, hl⟩ := I.loc
  obtain ⟨u, r, l⟩ := hl i x v hN e hv
  have fin : EP X pins σ Q u s := ⟨v, H, I, r, h⟩
  rcases l with ⟨hk, hm⟩ | ⟨hk, c, hc, hcell⟩
  · exact wpAny_Name (wpAny_loadName_local I.ok.kind hk hn hm fin) hd
  · rcases hk with hk | hk
    · exact wpAny_Name (wpAny_loadName_cell I.ok.kind hk hc hcell fin) hd
    · exact wpAny_Name (wpAny_loadName_free I.ok.kind hk hc hcell fin hcd) hd
theorem pe_int {i j pos} : PE X (.Constant (.int i) j pos) (tC (.int i)) := fun _ _ _ H _ I h => wpAny_Constant_int ⟨.int i, H, I.tok _, ⟨_, rfl⟩, h⟩
theorem pe_bl {b j pos} : PE X (.Constant (.bool b) j pos) (tC (.bl b)) := fun _ _ _ H _ I h => Constant_bool ⟨.bl b, H, I, rfl, h⟩
theorem pe_non {j pos} : PE X (.Constant .none j pos) (tC .non) := fun _ _ _ H _ I h => Constant_none ⟨.non, H, I, rfl, h⟩
theorem pe_str {x j pos} : PE X (.Constant (.str x) j pos) (tC (.str x)) := fun _ _ _ H _ I h => Calls.Constant_str ⟨.str x, H, I.tok _, ⟨_, rfl⟩, h⟩
def Gl (X : Cx) (x : Str) : Prop := X.env.kindOf x = some .globalImplicit
theorem ld_glob {E : Value → Shared → Prop} {pins : List (Addr × Obj)} {s : Shared} {σ : St} {H : Hp} {x : Str} {u : Value} {pos : Pos} {Q : Value → Shared → Prop} (I : Inv X pins σ H s) (hg : Gl X x) (hm : X.mg x = some u) (h : Q u s)
    (hd : (x == ("__debug__" : Str)) = false := by decide) : wpAny (model X.prog X.w) X.A (eval (.Name x pos) X.env) Q E s :=
  Calls.Name_function_global I.ok.kind hg (Calls.loadGlobal_global (by rw [I.ok.glob]; exact I.mod.glob.keeps I.bk) hm h) hd
theorem ld_blt {E : Value → Shared → Prop} {pins : List (Addr × Obj)} {s : Shared} {σ : St} {H : Hp} {x : Str} {u : Value} {pos : Pos} {Q : Value → Shared → Prop} (I : Inv X pins σ H s) (hg : Gl X x) (hm : X.mg x = none) (hv : bootBuiltins x = some u) (h : Q u s)
    (hn : x ≠ "__name__" := by decide) (hd : (x == ("__debug__" : Str)) = false := by decide) : wpAny (model X.prog X.w) X.A (eval (.Name x pos) X.env) Q E s := by
  obtain ⟨mb, h1, h2⟩ := I.mod.blt
  exact Calls.Name_function_global I.ok.kind hg (Calls.loadGlobal_builtin (by rw [I.ok.glob]; exact I.mod.glob.keeps I.bk) hm (by rw [I.ok.blt]; exact h1.keeps I.bk) ((h2 x hn).trans hv) h) hd
theorem pe_glob {x : Str} {v : V} {u : Value} {pos : Pos} (hg : Gl X x) (hm : X.mg x = some u) (r : RelV v u) (hd : (x == ("__debug__" : Str)) = false := by decide) : PE X (.Name x pos) (tC v) :=
  fun _ _ _ H _ I h => ld_glob I hg hm ⟨v, H, I, r, h⟩ hd
variable {a b : Expr} {ta tb : TE} {pos : Pos}
def PC (X : Cx) (op : CmpOp) (a b : Expr) (t : TE) : Prop :=
  ∀ (pins : List (Addr × Obj)) (s : Shared) (σ : St) (H : Hp) (Q : VK), Inv X pins σ H s → t σ H Q →
    wpAny (model X.prog X.w) X.A (eval a X.env) (fun v s₁ => wpAny (model X.prog X.w) X.A (eval b X.env) (fun u s₂ => wpAny (model X.prog X.w) X.A (compareOp op v u) (EP X pins σ Q) X.xe s₂) X.xe s₁) X.xe s
def tB (t : TE) : TT := fun σ H Q => t σ H fun x H1 => ∃ c, x = .bl c ∧ Q c H1
theorem pt_cmp {op : CmpOp} {t : TE} (h : PC X op a b t) (h1 : behindInMarks op b = false := by first | exact nobehind _ (by decide) (by decide) | rfl) : PT X (.Compare a [op] [b] pos) (tB t) := by
  intro pins s σ H Q I hw
  refine wpAny_isTrue_Compare1 (thn (h pins s σ H _ I hw) fun v s1 h1 => thn h1 fun u s2 h2 => thn h2 fun c s3 ⟨x, H1, I1, r1, q1⟩ => ?_) h1
  obtain ⟨d, rfl, q⟩ := q1
  cases r1
  exact wpAny_truthy_bool ⟨H1, I1, q⟩
theorem pt_val {e : Expr} {t : TE} (h : PE X e t) (he : ∀ whole, isTrue e X.env whole = (do let v ← whole; standAt e.pos; holding [v] (truthy v)) := by intro _; rfl) : PT X e (tB t) := by
  intro pins s σ H Q I hw
  refine isTrue_plain (thn (h pins s σ H _ I hw) fun v s1 ⟨x, H1, I1, r1, q1⟩ => ?_) (he _)
  obtain ⟨d, rfl, q⟩ := q1
  cases r1
  exact wpAny_truthy_bool ⟨H1, I1, q⟩
variable {tA tB' : TT} {rest : List Expr}
def tAnd (t u : TT) : TT := fun σ H Q => t σ H fun c H1 => if c = true then u σ H1 Q else Q false H1
def tOr (t u : TT) : TT := fun σ H Q => t σ H fun c H1 => if c = true then Q true H1 else u σ H1 Q
def tNot (t : TT) : TT := fun σ H Q => t σ H fun c H1 => Q (!c) H1
theorem pw_and1 (ha : PT X a tA) : PW X (.BoolOp .And [a] pos) tA := by
  intro wh pins s σ H Q I h
  refine isTrue_and (thn (ha pins s σ H Q I h) fun c s1 e => ?_)
  cases c with
  | true => exact isTrue_and_nil e
  | false => exact e
theorem pw_or1 (ha : PT X a tA) : PW X (.BoolOp .Or [a] pos) tA := by
  intro wh pins s σ H Q I h
  refine isTrue_or (thn (ha pins s σ H Q I h) fun c s1 e => ?_)
  cases c with
  | false => exact isTrue_or_nil e
  | true => exact e
theorem pw_and (ha : PT X a tA) (hb : PW X (.BoolOp .And (b :: rest) pos) tB') : PW X (.BoolOp .And (a :: b :: rest) pos) (tAnd tA tB') := by
  intro wh pins s σ H Q I h
  refine isTrue_and (thn (ha pins s σ H _ I h) fun c s1 ⟨H1, I1, q1⟩ => ?_)
  cases c with
  | true => exact hb wh pins s1 σ H1 Q I1 q1
  | false => exact ⟨H1, I1, q1⟩
theorem pw_or (ha : PT X a tA) (hb : PW X (.BoolOp .Or (b :: rest) pos) tB') : PW X (.BoolOp .Or (a :: b :: rest) pos) (tOr tA tB') := by
  intro wh pins s σ H Q I h
  refine isTrue_or (thn (ha pins s σ H _ I h) fun c s1 ⟨H1, I1, q1⟩ => ?_)
  cases c with
  | true => exact ⟨H1, I1, q1⟩
  | false => exact hb wh pins s1 σ H1 Q I1 q1
theorem pt_not (ha : PT X a tA) : PT X (.UnaryOp .Not a pos) (tNot tA) := by
  intro pins s σ H Q I h
  exact isTrue_not (ha pins s σ H (fun c H1 => Q (!c) H1) I h)
def tIf (t : TT) (ta tb : TE) : TE := fun σ H Q => t σ H fun c H1 => if c = true then ta σ H1 Q else tb σ H1 Q
theorem pe_ifExp {c : Expr} (hc : PT X c tA) (ha : PE X a ta) (hb : PE X b tb) : PE X (.IfExp c a b pos) (tIf tA ta tb) := by
  intro pins s σ H Q I h
  refine wpAny_IfExp (thn (hc pins s σ H _ I h) fun d s1 ⟨H1, I1, q1⟩ => ?_)
  cases d with
  | true => exact ha pins s1 σ H1 Q I1 q1
  | false => exact hb pins s1 σ H1 Q I1 q1
end
end L2
namespace L2
open PySem PySem.Spec PyProof.Rows
def SqL (K : PySem.W.Frag) (H : Hp) (a : Addr) (xs : List V) : Prop :=
  Rd H a (.lst xs) ∨
    ∃ (o : Obj) (its : Array Value) (n : Nat), K.lookup a = some o ∧ o.cls = .type "list" ∧ o.dict = none ∧ o.data = .seq its n ∧ its.size ≤ sizeLine ∧ Vals xs its.toList
def SqT (K : PySem.W.Frag) (H : Hp) (a : Addr) (xs : List V) : Prop :=
  Rd H a (.tup xs) ∨
    ∃ (o : Obj) (its : Array Value) (n : Nat), K.lookup a = some o ∧ o.cls = .type "tuple" ∧ o.data = .seq its n ∧ its.size ≤ sizeLine ∧ Vals xs its.toList
def absV : Value → Option V
  | .none => some .non
  | .bool b => some (.bl b)
  | .int i _ => some (.int i)
  | .str x _ => some (.str x)
  | .bytes b _ => some (.byt b)
  | .float b _ => some (.flt b)
  | .ref a => some (.ref a)
  | .type n => some (.ty n)
  | _ => none
theorem RelV.abs {x : V} {u : Value} (r : RelV x u) : absV u = some x := by
  cases x with
  | non => cases r; rfl
  | bl _ => cases r; rfl
  | int _ => obtain ⟨t, rfl⟩ := r; rfl
  | str _ => obtain ⟨t, rfl⟩ := r; rfl
  | byt _ => obtain ⟨t, rfl⟩ := r; rfl
  | flt _ => obtain ⟨t, rfl⟩ := r; rfl
  | ref _ => cases r; rfl
  | ty _ => cases r; rfl
theorem RelV.inj {x y : V} {u : Value} (r : RelV x u) (q : RelV y u) : x = y := Option.some.inj (r.abs.symm.trans q.abs)
theorem Vals.inj : ∀ {xs ys : List V} {us : List Value}, Vals xs us → Vals ys us → xs = ys
  | _, _, _, .nil, .nil => rfl
  | _, _, _, .cons r t, .cons r' t' => by rw [r.inj r', Vals.inj t t']
section
variable {X : Cx} {pins : List (Addr × Obj)} {σ : St} {H : Hp} {s : Shared} {a : Addr} {xs ys : List V}
theorem SqL.of {K : PySem.W.Frag} (h : H a = some (.lst xs)) : SqL K H a xs := .inl (.inl h)
theorem SqT.of {K : PySem.W.Frag} (h : H a = some (.tup xs)) : SqT K H a xs := .inl (.inl h)
theorem Inv.list (I : Inv X pins σ H s) (h : SqL X.K H a xs) : ∃ its : List Value, Vals xs its ∧ PlainL s.heap a its.toArray ∧ xs.length ≤ sizeLine := by
  rcases h with h | ⟨o, its, n, hk, hc, hd, hs, hz, r⟩
  · obtain ⟨z, its, n, r, e⟩ := h.ok I.hok
    exact ⟨its, r, ⟨_, n, e, rfl, rfl, rfl⟩, z⟩
  · refine ⟨its.toList, r, ⟨o, n, I.kIn a o hk, hc, hd, by simpa using hs⟩, ?_⟩
    have e := r.length
    simp only [Array.length_toList] at e
    omega
theorem Inv.tuple (I : Inv X pins σ H s) (h : SqT X.K H a xs) : ∃ its : List Value, Vals xs its ∧ IsTup s.heap a its.toArray ∧ xs.length ≤ sizeLine := by
  rcases h with h | ⟨o, its, n, hk, hc, hs, hz, r⟩
  · obtain ⟨z, its, r, p⟩ := h.ok I.hok
    exact ⟨its, r, p, z⟩
  · refine ⟨its.toList, r, ⟨o, I.kIn a o hk, hc, n, by simpa using hs⟩, ?_⟩
    have e := r.length
    simp only [Array.length_toList] at e
    omega
theorem Inv.list_inj (I : Inv X pins σ H s) (h : SqL X.K H a xs) (h' : SqL X.K H a ys) : xs = ys := by
  obtain ⟨its, r, ⟨o, n, e, _, _, d⟩, _⟩ := I.list h
  obtain ⟨its', r', ⟨o', n', e', _, _, d'⟩, _⟩ := I.list h'
  rw [e] at e'; cases e'
  rw [d] at d'
  injection d' with d1 _
  have : its = its' := by simpa using congrArg Array.toList d1
  subst this
  exact r.inj r'
theorem Inv.tuple_inj (I : Inv X pins σ H s) (h : SqT X.K H a xs) (h' : SqT X.K H a ys) : xs = ys := by
  obtain ⟨its, r, ⟨o, e, _, n, d⟩, _⟩ := I.tuple h
  obtain ⟨its', r', ⟨o', e', _, n', d'⟩, _⟩ := I.tuple h'
  rw [e] at e'; cases e'
  rw [d] at d'
  injection d' with d1 _
  have : its = its' := by simpa using congrArg Array.toList d1
  subst this
  exact r.inj r'
end
abbrev Cx.wish (X : Cx) (E : Value → Shared → Prop) : Cx := { X with xe := E }
abbrev Cx.nox (X : Cx) : Cx := X.wish fun _ _ => False
theorem Cx.Ok.wish {X : Cx} (ok : X.Ok) (E : Value → Shared → Prop) : (X.wish E).Ok :=
  ⟨ok.mod, ok.kind, ok.glob, ok.blt, ok.above, ok.inj, ok.has, ok.cab, ok.hd, ok.frames, ok.stk, ok.exf, ok.bs, ok.bsz, ok.noex, ok.exfs, ok.funs, ok.frf⟩
theorem Cx.Ok.unwish {X : Cx} {E : Value → Shared → Prop} (ok : (X.wish E).Ok) : X.Ok :=
  ⟨ok.mod, ok.kind, ok.glob, ok.blt, ok.above, ok.inj, ok.has, ok.cab, ok.hd, ok.frames, ok.stk, ok.exf, ok.bs, ok.bsz, ok.noex, ok.exfs, ok.funs, ok.frf⟩
section
variable {X : Cx} {pins : List (Addr × Obj)} {σ : St} {H : Hp} {s : Shared} {E : Value → Shared → Prop}
theorem Inv.wish (I : Inv X pins σ H s) (E : Value → Shared → Prop) : Inv (X.wish E) pins σ H s := ⟨I.ok.wish E, I.os, I.bare, I.base, I.loc, I.cell, I.free, I.freeC, I.pin, I.hok, I.len⟩
theorem Inv.unwish (I : Inv (X.wish E) pins σ H s) : Inv X pins σ H s := ⟨I.ok.unwish, I.os, I.bare, I.base, I.loc, I.cell, I.free, I.freeC, I.pin, I.hok, I.len⟩
theorem SP.unwish {D : Ends} {f : Flow} {s' : Shared} (h : SP (X.wish E) pins D f s') : SP X pins D f s' := by
  cases f with
  | next => obtain ⟨σ', H', I, q⟩ := h; exact ⟨σ', H', I.unwish, q⟩
  | brk => obtain ⟨σ', H', I, q⟩ := h; exact ⟨σ', H', I.unwish, q⟩
  | cont => obtain ⟨σ', H', I, q⟩ := h; exact ⟨σ', H', I.unwish, q⟩
  | ret u => obtain ⟨v, σ', H', I, r, q⟩ := h; exact ⟨v, σ', H', I.unwish, r, q⟩
theorem PSs.nox {st : List Stmt} {t : TS} (h : PSs X.nox st t) : PSs X st t := fun pins s σ H D I hw =>
  wpAny_mono (h pins s σ H D (I.wish _) hw) (fun _ _ q => q.unwish) fun _ _ z => False.elim z
end
section
variable {X : Cx} {st : Stmt} {rest : List Stmt} {t u : TS} {e : Expr} {te : TE} {pos : Pos}
def tNext : TS := fun D σ H => D.nx σ H
def tSeq (t u : TS) : TS := fun D σ H => t { D with nx := u D } σ H
theorem pss_nil : PSs X [] tNext := fun _ _ σ H _ I h => wpAny_execs_nil ⟨σ, H, I, h⟩
theorem pss_cons (h1 : PS X st t) (h2 : PSs X rest u) : PSs X (st :: rest) (tSeq t u) := by
  intro pins s σ H D I h
  refine wpAny_execs_cons (thn (h1 pins s σ H { D with nx := u D } I h) fun f s1 q => ?_)
  cases f with
  | next =>
    obtain ⟨σ', H', I', q⟩ := q
    exact h2 pins s1 σ' H' D I' q
  | ret v => exact q
  | brk => exact q
  | cont => exact q
theorem pss_one (h1 : PS X st t) : PSs X [st] t := by
  intro pins s σ H D I h
  refine wpAny_execs_cons (thn (h1 pins s σ H D I h) fun f s1 q => ?_)
  cases f with
  | next => exact wpAny_execs_nil q
  | ret v => exact q
  | brk => exact q
  | cont => exact q
theorem Inv.quiet {pins : List (Addr × Obj)} {σ : St} {H : Hp} {s : Shared} (I : Inv X pins σ H s) : interactive X.env = false := by simp [interactive, I.ok.kind]
def tDrop (te : TE) : TS := fun D σ H => te σ H fun _ H1 => D.nx σ H1
theorem ps_expr (he : PE X e te) (hs : swapsWith e none pos.line X.env = pure false := by rfl) : PS X (.Expr e pos) (tDrop te) := by
  intro pins s σ H D I h
  exact wpAny_Expr_any (thn (he pins s σ H _ I h) fun v s1 ⟨x, H1, I1, r1, q1⟩ => ⟨σ, H1, I1, q1⟩) I.quiet hs
def tRet (te : TE) : TS := fun D σ H => te σ H D.rt
theorem ps_ret (he : PE X e te) : PS X (.Return (some e) pos) (tRet te) := by
  intro pins s σ H D I h
  exact wpAny_Return_some (thn (he pins s σ H _ I h) fun v s1 ⟨x, H1, I1, r1, q1⟩ => ⟨x, σ, H1, I1, r1, q1⟩)
def tIfS (c : TT) (t u : TS) : TS := fun D σ H => c σ H fun b H1 => if b = true then t D σ H1 else u D σ H1
theorem ps_if {c : Expr} {a b : List Stmt} {tc : TT} (hc : PT X c tc) (ha : PSs X a t) (hb : PSs X b u) : PS X (.If c a b pos) (tIfS tc t u) := by
  intro pins s σ H D I h
  refine wpAny_If (thn (hc pins s σ H _ I h) fun d s1 ⟨H1, I1, q1⟩ => ?_)
  cases d with
  | true => exact ha pins s1 σ H1 D I1 q1
  | false => exact hb pins s1 σ H1 D I1 q1
end
abbrev TG := V → St → Hp → (St → Hp → Prop) → Prop
abbrev TGs := List V → St → Hp → (St → Hp → Prop) → Prop
def PG (X : Cx) (target : Expr) (t : TG) : Prop :=
  ∀ (pins : List (Addr × Obj)) (s : Shared) (σ : St) (H : Hp) (v : V) (u : Value) (Q : St → Hp → Prop), Inv X pins σ H s → RelV v u → t v σ H Q →
    wpAny (model X.prog X.w) X.A (assign target X.env u) (fun _ s' => ∃ σ' H', Inv X pins σ' H' s' ∧ Q σ' H') X.xe s
def PGs (X : Cx) (ts : List Expr) (t : TGs) : Prop :=
  ∀ (pins : List (Addr × Obj)) (s : Shared) (σ : St) (H : Hp) (vs : List V) (us : List Value) (Q : St → Hp → Prop), Inv X pins σ H s → Vals vs us → t vs σ H Q →
    wpAny (model X.prog X.w) X.A (assignInOrder ((assignEach ts X.env).map (·.2)) us) (fun _ s' => ∃ σ' H', Inv X pins σ' H' s' ∧ Q σ' H') X.xe s
abbrev TSet := V → V → V → Hp → (Hp → Prop) → Prop
def PSet (X : Cx) (t : TSet) : Prop :=
  ∀ (pins : List (Addr × Obj)) (s : Shared) (σ : St) (H : Hp) (o i v : V) (ov iv u : Value) (Q : Hp → Prop), Inv X pins σ H s → RelV o ov → RelV i iv → RelV v u → t o i v H Q →
    wpAny (model X.prog X.w) X.A (setItem ov iv u) (fun _ s' => ∃ H', Inv X pins σ H' s' ∧ Q H') X.xe s
section
variable {X : Cx} {pos : Pos}
def gName (i : Nat) : TG := fun v σ H Q => Q (σ.set i (some v)) H
theorem pg_name {i : Nat} {x : Str} (hN : X.N.Nodup) (hi : X.N[i]? = some x) (hx : Loc X.env.scope x) (hf : X.fn x = true ∨ X.env.scope.names.lookup x = some .local := by first | exact .inl rfl | exact .inr rfl | assumption) : PG X (.Name x pos) (gName i) := by
  intro pins s σ H v u Q I r h
  exact wpAny_assign_Name (store_ok I hN hi hx r (fun s' I' => ⟨_, H, I', h⟩) hf)
def gSub (to ti : TE) (t : TSet) : TG := fun v σ H Q => to σ H fun o H1 => ti σ H1 fun i H2 => t o i v H2 fun H3 => Q σ H3
theorem pg_sub {o i : Expr} {to ti : TE} {t : TSet} (ho : PE X o to) (hi : PE X i ti) (hs : PSet X t)
    (ha : ∀ v, assign (.Subscript o i pos) X.env v = (do
      let ov ← holding [v] (eval o X.env)
      let iv ← holding [v, ov] (eval i X.env)
      standAt pos
      holding [v, ov, iv] (setItem ov iv v)
      release [v, ov, iv] []) := by intro _; rfl) : PG X (.Subscript o i pos) (gSub to ti t) := by
  intro pins s σ H v u Q I r h
  rw [ha]
  refine wpAny_bind (wpAny_holding (thn (ho pins s σ H _ I h) fun ov s1 ⟨x, H1, I1, r1, q1⟩ => ?_))
  refine wpAny_bind (wpAny_holding (thn (hi pins s1 σ H1 _ I1 q1) fun iv s2 ⟨y, H2, I2, r2, q2⟩ => ?_))
  refine wpAny_bind (wpAny_standAt (wpAny_bind (wpAny_holding (thn (hs pins s2 σ H2 x y v ov iv u _ I2 r1 r2 r q2) fun _ s3 ⟨H3, I3, q3⟩ => ?_))))
  exact wpAny_release ⟨σ, H3, I3, q3⟩
def tAsg (te : TE) (g : TG) : TS := fun D σ H => te σ H fun x H1 => g x σ H1 D.nx
theorem ps_asg {tg e : Expr} {te : TE} {g : TG} (he : PE X e te) (hg : PG X tg g) (hs : swapsWithSole [tg] e pos.line X.env = pure false := by rfl) (hw : swappedStores [tg] e X.env = pure none := by rfl)
    (h1 : (assignEach [tg] X.env).map (·.2) = [assign tg X.env] := by rfl) : PS X (.Assign [tg] e pos) (tAsg te g) := by
  intro pins s σ H D I h
  refine wpAny_Assign_stores (thn (he pins s σ H _ I h) fun v s1 ⟨x, H1, I1, r1, q1⟩ => ?_) hs hw
  rw [h1]
  exact thn (hg pins s1 σ H1 x v _ I1 r1 q1) fun _ s2 q => q
theorem ps_set {i : Nat} {x : Str} {e : Expr} {te : TE} {pos' : Pos} (hN : X.N.Nodup) (hi : X.N[i]? = some x) (hx : Loc X.env.scope x) (he : PE X e te) (hs : swapsWith e (some (.Name x pos')) pos.line X.env = pure false := by rfl) (hf : X.fn x = true ∨ X.env.scope.names.lookup x = some .local := by first | exact .inl rfl | exact .inr rfl | assumption) :
    PS X (.Assign [.Name x pos'] e pos) (tAsg te (gName i)) := by
  intro pins s σ H D I h
  refine wpAny_Assign_Name (thn (he pins s σ H _ I h) fun v s1 ⟨y, H1, I1, r1, q1⟩ => ?_) hs
  exact store_ok I1 hN hi hx r1 (fun s2 I2 => ⟨_, H1, I2, q1⟩) hf
end
section
variable {X : Cx} {pos : Pos}
def tWhile (c : TT) (tb : TS) : TS := fun D σ H => ∃ W : Nat → St → Hp → Prop, (∃ m, W m σ H) ∧ ∀ m σ H, W m σ H →
  c σ H fun b H1 => if b = true then ∃ N : St → Hp → Prop, (∀ σ' H', N σ' H' → ∃ m', m' < m ∧ W m' σ' H') ∧ tb { D with nx := N, ct := N, bk := D.nx } σ H1 else D.nx σ H1
theorem ps_while {c : Expr} {body : List Stmt} {tc : TT} {tb : TS} (hp : PassesOwn (model X.prog X.w) X.A X.env X.xe) (hc : PT X c tc) (hb : PSs X body tb) : PS X (.While c body [] pos) (tWhile tc tb) := by
  intro pins s σ H D I h
  obtain ⟨W, ⟨m0, w0⟩, turn⟩ := h
  refine wpAny_While (codeAny_whileLoop (fun n s' => ∃ σ' H', Inv X pins σ' H' s' ∧ W n σ' H') ?_ m0 ⟨σ, H, I, w0⟩)
  rintro n s1 ⟨σ1, H1, I1, w1⟩
  refine wpAny_passesOwn hp (thn (hc pins s1 σ1 H1 _ I1 (turn n σ1 H1 w1)) fun b s2 ⟨H2, I2, q2⟩ => ?_)
  cases b with
  | true =>
    obtain ⟨N, hN, q2⟩ := q2
    rw [if_pos rfl]
    refine wpAny_passesOwn hp (thn (hb pins s2 σ1 H2 _ I2 q2) fun f s3 q3 => ?_)
    cases f with
    | next =>
      obtain ⟨σ3, H3, I3, n3⟩ := q3
      obtain ⟨m', hm, w3⟩ := hN σ3 H3 n3
      exact ⟨m', hm, σ3, H3, I3, w3⟩
    | cont =>
      obtain ⟨σ3, H3, I3, n3⟩ := q3
      obtain ⟨m', hm, w3⟩ := hN σ3 H3 n3
      exact ⟨m', hm, σ3, H3, I3, w3⟩
    | brk => exact q3
    | ret v => exact q3
  | false =>
    rw [if_neg Bool.false_ne_true]
    exact wpAny_execs_nil ⟨σ1, H2, I2, q2⟩
end
structure It where
  go : Nat → Hp → Prop
  yld : Nat → Hp → V → Hp → Prop
  stop : Nat → Hp → Prop
def FpOk (X : Cx) (pins : List (Addr × Obj)) (H : Hp) (b : Addr) : Prop :=
  H b = none ∧ b ≠ X.env.locals ∧ b ∉ X.fs ∧ (b ∈ X.ex ∨ X.s₀.heap.objs.size ≤ b) ∧ (∀ x c, X.env.cells.lookup x = some c → c ≠ b) ∧ ∀ p ∈ X.pn ++ pins, p.1 ≠ b
theorem Inv.fpOk {X : Cx} {pins : List (Addr × Obj)} {σ : St} {H H' : Hp} {s : Shared} {b : Addr} (I : Inv X pins σ H s) (hb : s.heap.objs.size ≤ b) (hn : H' b = none) : FpOk X pins H' b := by
  refine ⟨hn, Nat.ne_of_gt (Nat.lt_of_lt_of_le I.lt hb), I.nofs hb, .inr (Nat.le_trans I.sz hb), fun x c e z => ?_, fun p hp z => ?_⟩
  · obtain ⟨v, q⟩ := I.cell x c e
    exact absurd (Nat.lt_of_lt_of_le q.lt (by rw [z]; exact hb)) (Nat.lt_irrefl _)
  · exact absurd (Nat.lt_of_lt_of_le (Heap.lt_size (I.pin p hp).1) (by rw [z]; exact hb)) (Nat.lt_irrefl _)
structure Turn (P : Program) (w : World) (K : PySem.W.Frag) (tg : Expr) (J : It) (fp : List Addr) (it : Addr) (tn : Nat → Heap → Prop) : Prop where
  mem : it ∈ fp
  obj : ∀ i h, tn i h → ∀ b ∈ fp, ∃ o, h.get? b = some o ∧ ∀ v, o.data ≠ .cell v
  keep : ∀ i h h', tn i h → (∀ b ∈ fp, ∀ o, h.get? b = some o → h'.get? b = some o) → tn i h'
  item : ∀ (X : Cx), X.prog = P → X.w = w → X.K = K → X.calm = true → ∀ (i : Nat) (pins : List (Addr × Obj)) (s : Shared) (σ : St) (H : Hp) (E : Value → Shared → Prop), Inv X pins σ H s → (∀ b ∈ fp, FpOk X pins H b) → tn i s.heap → J.go i H →
    wpAny (model P w) X.A (pyNext (.ref it)) (fun r s1 => ∃ u, r = some u ∧
      wpAny (model P w) X.A (letOwnedTupleGo tg (.ref it) u) (fun _ s2 => ∃ x H', Inv X pins σ H' s2 ∧ RelV x u ∧ J.yld i H x H' ∧ tn (i + 1) s2.heap ∧ ∀ b ∈ fp, H' b = none) E s1) E s
  done : ∀ (X : Cx), X.prog = P → X.w = w → X.K = K → X.calm = true → ∀ (i : Nat) (pins : List (Addr × Obj)) (s : Shared) (σ : St) (H : Hp) (E : Value → Shared → Prop), Inv X pins σ H s → (∀ b ∈ fp, FpOk X pins H b) → tn i s.heap → J.stop i H →
    wpAny (model P w) X.A (pyNext (.ref it)) (fun r s1 => r = none ∧ Inv X pins σ H s1) E s
  self : ∀ (A : Around) (i : Nat) (s : Shared) (Q : Value → Shared → Prop) (E : Value → Shared → Prop), tn i s.heap → Q (.ref it) s → wpAny (model P w) A (pyIter (.ref it)) Q E s
abbrev TI := St → Hp → (It → Hp → Prop) → Prop
def PIE (X : Cx) (pins : List (Addr × Obj)) (σ : St) (tg : Expr) (R : It → Hp → Prop) (itv : Value) (s2 : Shared) : Prop :=
  ∃ (it : Addr) (fp : List Addr) (tn : Nat → Heap → Prop) (J : It) (H' : Hp), itv = .ref it ∧ Inv X pins σ H' s2 ∧ Turn X.prog X.w X.K tg J fp it tn ∧ tn 0 s2.heap ∧ (∀ b ∈ fp, FpOk X pins H' b) ∧ R J H'
def PI (X : Cx) (tg iter : Expr) (wi : TI) : Prop :=
  ∀ (pins : List (Addr × Obj)) (s : Shared) (σ : St) (H : Hp) (R : It → Hp → Prop), Inv X pins σ H s → wi σ H R →
    wpAny (model X.prog X.w) X.A (eval iter X.env) (fun v s1 => wpAny (model X.prog X.w) X.A (pyIter v) (PIE X pins σ tg R) X.xe s1) X.xe s
theorem go_of {M : Model} {A : Around} {E : Value → Shared → Prop} {s : Shared} {tg : Expr} {it : Addr} {u : Value} {o : Obj} {n : String} {vs : Array Value} {Q : Unit → Shared → Prop} (ho : s.heap.get? it = some o) (hc : o.cls = .type n) (hd : o.data = .fields vs)
    (hn : ["enumerate", "zip", "dict_itemiterator", "dict_reverseitemiterator", "odict_iterator", "itertools.zip_longest", "itertools.pairwise"].contains n = false) (hQ : Q () s) : wpAny M A (letOwnedTupleGo tg (.ref it) u) Q E s := by
  unfold letOwnedTupleGo
  cases tg <;> first
    | exact wpAny_pure hQ
    | (cases u <;> first
        | exact wpAny_pure hQ
        | (refine wpAny_bind (wpAny_load ho ?_)
           rw [hc, hd]
           show wpAny M A (if (["enumerate", "zip", "dict_itemiterator", "dict_reverseitemiterator", "odict_iterator", "itertools.zip_longest", "itertools.pairwise"].contains n && vs[0]? == some (rawInt _)) = true then _ else _) Q E s
           rw [if_neg (by intro h; rw [hn, Bool.false_and] at h; cases h)]
           exact wpAny_pure hQ))
def Itl (K : PySem.W.Frag) (a : Addr) : It :=
  ⟨fun i H => ∃ xs x, SqL K H a xs ∧ xs[i]? = some x, fun i H x H' => H' = H ∧ ∀ xs, SqL K H a xs → xs[i]? = some x, fun i H => ∃ xs, SqL K H a xs ∧ xs.length ≤ i⟩
def Itt (K : PySem.W.Frag) (a : Addr) : It :=
  ⟨fun i H => ∃ xs x, SqT K H a xs ∧ xs[i]? = some x, fun i H x H' => H' = H ∧ ∀ xs, SqT K H a xs → xs[i]? = some x, fun i H => ∃ xs, SqT K H a xs ∧ xs.length ≤ i⟩
def Itr (lo : Int) (n : Nat) : It := ⟨fun i _ => i < n, fun i H x H' => H' = H ∧ x = .int (lo + i), fun i _ => n ≤ i⟩
theorem turn_list {P : Program} {w : World} {K : PySem.W.Frag} {tg : Expr} (a it : Addr) : Turn P w K tg (Itl K a) [it] it (fun i h => h.IsListIter it a i) where
  mem := by simp
  obj := fun i h st b hb => by
    have e : b = it := by simpa using hb
    subst e
    obtain ⟨o, e, c, d⟩ := st
    exact ⟨o, e, fun v z => by rw [d] at z; cases z⟩
  keep := fun i h h' st k => st.at fun o e => k it (by simp) o e
  item := by
    intro X hP hw hK hc i pins s σ H E I hf st hg
    subst hP hw hK
    obtain ⟨xs, x, hq, hx⟩ := hg
    obtain ⟨its, rv, p, hz⟩ := I.list hq
    obtain ⟨u, hu, ru⟩ := rv.get hx
    obtain ⟨f0, f1, f2, f3, f4, f5⟩ := hf it (by simp)
    refine wpAny_pyNext_list_item st p.isList (x := u) (by simpa using hu) fun h' st' sb => ?_
    have I1 : Inv X pins σ H { s with heap := h' } := I.turned (t' := s.toks) (fun b o hb e => (sb.2 b hb).trans e) f0 f1 f3 f4 f5
    obtain ⟨o, e, c, d⟩ := id st'
    exact ⟨u, rfl, go_of (s := { s with heap := h' }) e c d (by decide) ⟨x, H, I1, ru, ⟨rfl, fun ys hy => by rw [I.list_inj hy hq]; exact hx⟩, st', fun b hb => (hf b hb).1⟩⟩
  done := by
    intro X hP hw hK hc i pins s σ H E I hf st hg
    subst hP hw hK
    obtain ⟨xs, hq, hx⟩ := hg
    obtain ⟨its, rv, p, hz⟩ := I.list hq
    obtain ⟨f0, f1, f2, f3, f4, f5⟩ := hf it (by simp)
    have hl := rv.length
    exact wpAny_pyNext_list_end (I.ok.hd hc) st p.isList (by simp; omega) fun h' eb => ⟨rfl, I.turned (t' := s.toks) (fun b o hb e => eb b o hb e) f0 f1 f3 f4 f5⟩
  self := fun _ _ _ _ _ st h => wpAny_pyIter_listiter st h
theorem turn_tuple {P : Program} {w : World} {K : PySem.W.Frag} {tg : Expr} (a it : Addr) : Turn P w K tg (Itt K a) [it] it (fun i h => h.IsTupleIter it a i) where
  mem := by simp
  obj := fun i h st b hb => by
    have e : b = it := by simpa using hb
    subst e
    obtain ⟨o, e, c, d⟩ := st
    exact ⟨o, e, fun v z => by rw [d] at z; cases z⟩
  keep := fun i h h' st k => st.at fun o e => k it (by simp) o e
  item := by
    intro X hP hw hK hc i pins s σ H E I hf st hg
    subst hP hw hK
    obtain ⟨xs, x, hq, hx⟩ := hg
    obtain ⟨its, rv, p, hz⟩ := I.tuple hq
    obtain ⟨u, hu, ru⟩ := rv.get hx
    obtain ⟨f0, f1, f2, f3, f4, f5⟩ := hf it (by simp)
    refine wpAny_pyNext_tuple_item st (show s.heap.IsTuple a its.toArray from p) (x := u) (by simpa using hu) fun h' st' sb => ?_
    have I1 : Inv X pins σ H { s with heap := h' } := I.turned (t' := s.toks) (fun b o hb e => (sb.2 b hb).trans e) f0 f1 f3 f4 f5
    obtain ⟨o, e, c, d⟩ := id st'
    exact ⟨u, rfl, go_of (s := { s with heap := h' }) e c d (by decide) ⟨x, H, I1, ru, ⟨rfl, fun ys hy => by rw [I.tuple_inj hy hq]; exact hx⟩, st', fun b hb => (hf b hb).1⟩⟩
  done := by
    intro X hP hw hK hc i pins s σ H E I hf st hg
    subst hP hw hK
    obtain ⟨xs, hq, hx⟩ := hg
    obtain ⟨its, rv, p, hz⟩ := I.tuple hq
    obtain ⟨f0, f1, f2, f3, f4, f5⟩ := hf it (by simp)
    have hl := rv.length
    exact wpAny_pyNext_tuple_end (I.ok.hd hc) st (show s.heap.IsTuple a its.toArray from p) (by simp; omega) fun h' eb => ⟨rfl, I.turned (t' := s.toks) (fun b o hb e => eb b o hb e) f0 f1 f3 f4 f5⟩
  self := fun _ _ _ _ _ st h => wpAny_pyIter_tupleiter st h
theorem turn_range {P : Program} {w : World} {K : PySem.W.Frag} {tg : Expr} (it : Addr) (lo : Int) (n : Nat) : Turn P w K tg (Itr lo n) [it] it (fun i h => IsRangeIter h it (lo + (i : Nat) * 1) ((n : Int) - (i : Nat)) 1) where
  mem := by simp
  obj := fun i h st b hb => by
    have e : b = it := by simpa using hb
    subst e
    exact ⟨_, st, fun v z => by
      have z' : Data.fields _ = Data.cell v := z
      cases z'⟩
  keep := fun i h h' st k => k it (by simp) _ st
  item := by
    intro X hP hw hK hc i pins s σ H E I hf st hg
    subst hP hw hK
    obtain ⟨f0, f1, f2, f3, f4, f5⟩ := hf it (by simp)
    have W := Walks.range (prog := X.prog) (w := X.w) (I.ok.hd hc) it lo 1 n
    refine W.item i s _ _ hg st fun v h' tk hv st' kk => ?_
    obtain ⟨t, rfl⟩ := hv
    have I1 : Inv X pins σ H { s with heap := h', toks := tk } := I.turned (fun b o hb e => kk b o (by simpa using hb) e) f0 f1 f3 f4 f5
    refine ⟨_, rfl, go_of (s := { s with heap := h', toks := tk }) (n := "range_iterator") st' rfl rfl (by decide) ⟨.int (lo + i), H, I1, ⟨t, ?_⟩, ⟨rfl, rfl⟩, st', fun b hb => (hf b hb).1⟩⟩
    rw [Int.mul_one]
  done := by
    intro X hP hw hK hc i pins s σ H E I hf st hg
    subst hP hw hK
    obtain ⟨f0, f1, f2, f3, f4, f5⟩ := hf it (by simp)
    exact wpAny_pyNext_range_end (I.ok.hd hc) st (by have : n ≤ i := hg; omega) fun h' eb => ⟨rfl, I.turned (t' := s.toks) (fun b o hb e => eb b o hb e) f0 f1 f3 f4 f5⟩
  self := fun _ _ _ _ _ st h => wpAny_pyIter_rangeiter st h
end L2
namespace L2
open PySem PySem.Spec PyProof.Rows
section
variable {X : Cx} {tg : Expr}
def iList (K : PySem.W.Frag) (tl : TE) : TI := fun σ H R => tl σ H fun x H1 => ∃ a, x = .ref a ∧ (∃ xs, SqL K H1 a xs) ∧ R (Itl K a) H1
def iTup (K : PySem.W.Frag) (tl : TE) : TI := fun σ H R => tl σ H fun x H1 => ∃ a, x = .ref a ∧ (∃ xs, SqT K H1 a xs) ∧ R (Itt K a) H1
theorem pi_list {l : Expr} {tl : TE} (hl : PE X l tl) : PI X tg l (iList X.K tl) := by
  intro pins s σ H R I h
  refine thn (hl pins s σ H _ I h) fun v s1 ⟨x, H1, I1, r1, q1⟩ => ?_
  obtain ⟨a, e, ⟨xs, hq⟩, q⟩ := q1
  subst e
  cases r1
  obtain ⟨its, rv, p, hz⟩ := I1.list hq
  refine wpAny_pyIter_list p.isList ?_
  refine ⟨s1.heap.objs.size, [s1.heap.objs.size], _, _, H1, rfl, I1.kept (t' := s1.toks) fun b o e => Heap.get?_push_of_some _ e, turn_list a _, ⟨_, Heap.get?_push_size _ rfl, rfl, rfl⟩, fun b hb => ?_, q⟩
  have e : b = s1.heap.objs.size := by simpa using hb
  subst e
  exact I1.fpOk (Nat.le_refl _) (I1.hok.fresh (Nat.le_refl _))
theorem pi_tup {l : Expr} {tl : TE} (hl : PE X l tl) : PI X tg l (iTup X.K tl) := by
  intro pins s σ H R I h
  refine thn (hl pins s σ H _ I h) fun v s1 ⟨x, H1, I1, r1, q1⟩ => ?_
  obtain ⟨a, e, ⟨xs, hq⟩, q⟩ := q1
  subst e
  cases r1
  obtain ⟨its, rv, p, hz⟩ := I1.tuple hq
  refine wpAny_pyIter_tuple (show s1.heap.IsTuple a its.toArray from p) ?_
  refine ⟨s1.heap.objs.size, [s1.heap.objs.size], _, _, H1, rfl, I1.kept (t' := s1.toks) fun b o e => Heap.get?_push_of_some _ e, turn_tuple a _, ⟨_, Heap.get?_push_size _ rfl, rfl, rfl⟩, fun b hb => ?_, q⟩
  have e : b = s1.heap.objs.size := by simpa using hb
  subst e
  exact I1.fpOk (Nat.le_refl _) (I1.hok.fresh (Nat.le_refl _))
theorem range_it {pins : List (Addr × Obj)} {σ : St} {H : Hp} {s : Shared} {R : It → Hp → Prop} {E : Value → Shared → Prop} {lo hi : Int} {t u v : Tok} {tk : Nat} (I : Inv X pins σ H s) (h1 : -(2 ^ 62) ≤ lo) (h2 : lo < 2 ^ 62) (h3 : -(2 ^ 62) ≤ hi) (h4 : hi < 2 ^ 62)
    (q : R (Itr lo (hi - lo).toNat) H) : wpAny (model X.prog X.w) X.A (pyIter (.ref s.heap.objs.size)) (PIE X pins σ tg R) E { s with heap := s.heap.push { cls := .type "range", data := .fields #[.int lo t, .int hi u, .int 1 v] }, toks := tk } := by
  refine wpAny_pyIter_range (IsRange.new ..) (small_one h1 h2 h3 h4) ?_
  have I1 : Inv X pins σ H { s with heap := s.heap.push { cls := .type "range", data := .fields #[.int lo t, .int hi u, .int 1 v] }, toks := tk } := I.kept fun b o e => Heap.get?_push_of_some _ e
  refine ⟨(s.heap.push { cls := .type "range", data := .fields #[.int lo t, .int hi u, .int 1 v] }).objs.size, [(s.heap.push { cls := .type "range", data := .fields #[.int lo t, .int hi u, .int 1 v] }).objs.size], _, _, H, rfl,
    I1.kept (t' := tk) fun b o e => Heap.get?_push_of_some _ e, turn_range _ lo (hi - lo).toNat, ?_, fun b hb => ?_, q⟩
  · have e1 : lo + ((0 : Nat) : Int) * 1 = lo := by simp
    have e2 : (((hi - lo).toNat : Nat) : Int) - ((0 : Nat) : Int) = Builtin.Range.rangeSize lo hi 1 := by rw [rangeSize_one]; split <;> omega
    show IsRangeIter _ _ (lo + ((0 : Nat) : Int) * 1) ((((hi - lo).toNat : Nat) : Int) - ((0 : Nat) : Int)) 1
    rw [e1, e2]
    exact Heap.get?_push_size _ rfl
  · have e : b = (s.heap.push { cls := .type "range", data := .fields #[.int lo t, .int hi u, .int 1 v] }).objs.size := by simpa using hb
    subst e
    exact I1.fpOk (Nat.le_refl _) (I1.hok.fresh (Nat.le_refl _))
def iRng1 (ta : TA) : TI := fun σ H R => ta σ H fun vs H1 => ∃ j : Int, vs = [.int j] ∧ -(2 ^ 62) ≤ j ∧ j < 2 ^ 62 ∧ R (Itr 0 j.toNat) H1
theorem pi_range1 {a : Expr} {ta : TA} {p pos : Pos} (hg : Gl X "range") (hm : X.mg "range" = none) (ha : PA X [a] ta) (hs : starEach [a] X.env = [(false, eval a X.env)] := by rfl) : PI X tg (.Call (.Name "range" p) [a] [] pos) (iRng1 ta) := by
  intro pins s σ H R I h
  refine Call_ (ld_blt I hg hm boot_range (PyProof.Rows.callWith_type1 (thn (ha pos pins s σ H _ I h) fun us s1 ⟨vs, H1, I1, r1, q1⟩ => ?_) hs rfl))
  obtain ⟨j, e, q1, q2, q⟩ := q1
  subst e
  cases r1 with
  | cons r rr =>
    cases rr
    obtain ⟨t, rfl⟩ := r
    exact call_range_1 (range_it I1 (by omega) (by omega) q1 q2 (by simpa using q))
def tFor (wi : TI) (g : TG) (tb : TS) : TS := fun D σ H => wi σ H fun J H1 => ∃ W : Nat → Nat → St → Hp → Prop, (∃ m, W 0 m σ H1) ∧ ∀ i m σ H, W i m σ H →
  (J.stop i H ∧ D.nx σ H) ∨ (J.go i H ∧ ∃ N : St → Hp → Prop, (∀ σ' H', N σ' H' → ∃ m', m' < m ∧ W (i + 1) m' σ' H') ∧ ∀ x H', J.yld i H x H' → g x σ H' fun σ2 H2 => tb { D with nx := N, ct := N, bk := D.nx } σ2 H2)
def pinsAt (fp : List Addr) (h : Heap) : List (Addr × Obj) := fp.filterMap fun b => (h.get? b).map fun o => (b, o)
theorem mem_pinsAt {fp : List Addr} {h : Heap} {b : Addr} {o : Obj} (hb : b ∈ fp) (e : h.get? b = some o) : (b, o) ∈ pinsAt fp h := List.mem_filterMap.mpr ⟨b, hb, by rw [e]; rfl⟩
theorem of_pinsAt {fp : List Addr} {h : Heap} {p : Addr × Obj} (hp : p ∈ pinsAt fp h) : p.1 ∈ fp ∧ h.get? p.1 = some p.2 := by
  obtain ⟨b, hb, e⟩ := List.mem_filterMap.mp hp
  cases q : h.get? b with
  | none => rw [q] at e; cases e
  | some o =>
    rw [q] at e
    have e' : (b, o) = p := Option.some.inj e
    subst e'
    exact ⟨hb, q⟩
theorem Inv.pinned {pins : List (Addr × Obj)} {σ : St} {H : Hp} {s : Shared} {fp : List Addr} (I : Inv X pins σ H s) (hf : ∀ b ∈ fp, FpOk X pins H b) (ho : ∀ b ∈ fp, ∃ o, s.heap.get? b = some o ∧ ∀ v, o.data ≠ .cell v) : Inv X (pins ++ pinsAt fp s.heap) σ H s :=
  I.pins_of fun p hp => (List.mem_append.mp hp).elim (fun z => I.pin p (List.mem_append_right _ z)) fun z => by
    obtain ⟨hb, e⟩ := of_pinsAt z
    obtain ⟨f0, f1, f2, _⟩ := hf p.1 hb
    obtain ⟨o, e', d⟩ := ho p.1 hb
    rw [e] at e'; cases e'
    exact ⟨e, f0, f1, f2, d⟩
theorem Inv.unpinned {pins pl : List (Addr × Obj)} {σ : St} {H : Hp} {s : Shared} (I : Inv X (pins ++ pl) σ H s) : Inv X pins σ H s := I.pins_of fun p hp => I.pin p (List.mem_append_right _ (List.mem_append_left _ hp))
theorem ps_for {iter : Expr} {body : List Stmt} {wi : TI} {g : TG} {tb : TS} {pos : Pos} (hp : PassesOwn (model X.prog X.w) X.A X.env X.xe) (hc : X.calm = true) (hi : PI X tg iter wi) (hg : PG X tg g) (hb : PSs X body tb)
    (hs : ∀ x, foldedSetIterable iter X.env x = pure x := by intro _; rfl) : PS X (.For tg iter body [] pos) (tFor wi g tb) := by
  intro pins s σ H D I h
  refine wpAny_For (thn (hi pins s σ H _ I h) fun v s1 h1 => thn h1 fun itv s2 h2 => ?_) hs
  obtain ⟨it, fp, tn, J, H2, e, I2, T, st2, f2, W, ⟨m0, w0⟩, turn⟩ := h2
  subst e
  have stat : ∀ {H' : Hp}, (∀ b ∈ fp, H' b = none) → ∀ b ∈ fp, FpOk X pins H' b := fun hn b hb => ⟨hn b hb, (f2 b hb).2⟩
  refine codeAny_forLoop_any (fun n s' => ∃ i σ' H', Inv X pins σ' H' s' ∧ tn i s'.heap ∧ (∀ b ∈ fp, H' b = none) ∧ W i n σ' H') ?_ m0 ⟨0, σ, H2, I2, st2, fun b hb => (f2 b hb).1, w0⟩
  rintro n s3 ⟨i, σ3, H3, I3, st3, fr3, w3⟩
  rcases turn i n σ3 H3 w3 with ⟨stop, qn⟩ | ⟨go, N, hN, step⟩
  · refine wpAny_passesOwn hp (thn (T.done X rfl rfl rfl hc i pins s3 σ3 H3 X.xe I3 (stat fr3) st3 stop) fun r s4 ⟨hr, I4⟩ => ?_)
    subst hr
    exact wpAny_execs_nil ⟨σ3, H3, I4, qn⟩
  · refine wpAny_passesOwn hp (thn (T.item X rfl rfl rfl hc i pins s3 σ3 H3 X.xe I3 (stat fr3) st3 go) fun r s4 ⟨u, hr, h4⟩ => ?_)
    subst hr
    refine wpAny_passesOwn hp (thn h4 fun _ s5 ⟨x, H5, I5, r5, y5, st5, fr5⟩ => ?_)
    have I5' := I5.pinned (stat fr5) (T.obj _ _ st5)
    refine wpAny_passesOwn hp (thn (hg _ s5 σ3 H5 x u _ I5' r5 (step x H5 y5)) fun _ s6 ⟨σ6, H6, I6, q6⟩ => ?_)
    refine wpAny_passesOwn hp (thn (hb _ s6 σ6 H6 _ I6 q6) fun f s7 q7 => ?_)
    have again : ∀ {σ7 : St} {H7 : Hp}, Inv X (pins ++ pinsAt fp s5.heap) σ7 H7 s7 → N σ7 H7 → ∃ m, m < n ∧ ∃ i σ' H', Inv X pins σ' H' s7 ∧ tn i s7.heap ∧ (∀ b ∈ fp, H' b = none) ∧ W i m σ' H' := fun {σ7 H7} I7 n7 => by
      obtain ⟨m', hm, w7⟩ := hN σ7 H7 n7
      refine ⟨m', hm, i + 1, σ7, H7, I7.unpinned, T.keep _ _ _ st5 fun b hb o e => (I7.pin (b, o) (List.mem_append_right _ (List.mem_append_right _ (mem_pinsAt hb e)))).1, fun b hb => ?_, w7⟩
      obtain ⟨o, e, d⟩ := T.obj _ _ st5 b hb
      exact (I7.pin (b, o) (List.mem_append_right _ (List.mem_append_right _ (mem_pinsAt hb e)))).2.1
    cases f with
    | next => obtain ⟨σ7, H7, I7, n7⟩ := q7; exact again I7 n7
    | cont => obtain ⟨σ7, H7, I7, n7⟩ := q7; exact again I7 n7
    | brk => obtain ⟨σ7, H7, I7, q7⟩ := q7; exact ⟨σ7, H7, I7.unpinned, q7⟩
    | ret v => obtain ⟨x7, σ7, H7, I7, r7, q7⟩ := q7; exact ⟨x7, σ7, H7, I7.unpinned, r7, q7⟩
end
end L2
namespace L2
open PySem PySem.Spec PyProof.Rows
abbrev R2 := V → V → Hp → VK → Prop
def OpR (X : Cx) (f : Value → Value → Sem Value) (r : R2) : Prop :=
  ∀ (pins : List (Addr × Obj)) (s : Shared) (σ : St) (H : Hp) (x y : V) (v u : Value) (Q : VK), Inv X pins σ H s → RelV x v → RelV y u → r x y H Q →
    wpAny (model X.prog X.w) X.A (f v u) (EP X pins σ Q) X.xe s
def UnR (X : Cx) (f : Value → Sem Value) (r : V → Hp → VK → Prop) : Prop :=
  ∀ (pins : List (Addr × Obj)) (s : Shared) (σ : St) (H : Hp) (x : V) (v : Value) (Q : VK), Inv X pins σ H s → RelV x v → r x H Q →
    wpAny (model X.prog X.w) X.A (f v) (EP X pins σ Q) X.xe s
def CallR (X : Cx) (f : Value) (r : List V → Hp → VK → Prop) : Prop :=
  ∀ (pins : List (Addr × Obj)) (s : Shared) (σ : St) (H : Hp) (xs : List V) (us : List Value) (Q : VK), Inv X pins σ H s → Vals xs us → r xs H Q →
    wpAny (model X.prog X.w) X.A (call f us) (EP X pins σ Q) X.xe s
def TruR (X : Cx) (r : V → Hp → (Bool → Hp → Prop) → Prop) : Prop :=
  ∀ (pins : List (Addr × Obj)) (s : Shared) (σ : St) (H : Hp) (x : V) (v : Value) (Q : Bool → Hp → Prop), Inv X pins σ H s → RelV x v → r x H Q →
    wpAny (model X.prog X.w) X.A (truthy v) (TP X pins σ Q) X.xe s
def tOp (r : R2) (ta tb : TE) : TE := fun σ H Q => ta σ H fun x H1 => tb σ H1 fun y H2 => r x y H2 Q
def tUn (r : V → Hp → VK → Prop) (ta : TE) : TE := fun σ H Q => ta σ H fun x H1 => r x H1 Q
def rI (C : Int → Int → Prop) (g : Int → Int → V) : R2 := fun x y H Q => ∃ i j, x = .int i ∧ y = .int j ∧ C i j ∧ Q (g i j) H
def rI0 (g : Int → Int → V) : R2 := fun x y H Q => ∃ i j, x = .int i ∧ y = .int j ∧ Q (g i j) H
def rU (g : Int → V) : V → Hp → VK → Prop := fun x H Q => ∃ i, x = .int i ∧ Q (g i) H
section
variable {X : Cx} {a b c : Expr} {ta tb tc : TE} {pos : Pos}
theorem binT (ha : PE X a ta) (hb : PE X b tb) {pins : List (Addr × Obj)} {s : Shared} {σ : St} {H : Hp} {R : V → V → Hp → Prop} (I : Inv X pins σ H s)
    (h : ta σ H fun x H1 => tb σ H1 fun y H2 => R x y H2) {Q : Value → Shared → Prop} {f : Value → Value → Sem Value}
    (hf : ∀ v u s2 x y H2, Inv X pins σ H2 s2 → RelV x v → RelV y u → R x y H2 → wpAny (model X.prog X.w) X.A (f v u) Q X.xe s2) :
    wpAny (model X.prog X.w) X.A (eval a X.env) (fun v s₁ => wpAny (model X.prog X.w) X.A (eval b X.env) (fun u s₂ => wpAny (model X.prog X.w) X.A (f v u) Q X.xe s₂) X.xe s₁) X.xe s := by
  refine thn (ha pins s σ H _ I h) fun v s1 ⟨x, H1, I1, r1, q1⟩ => ?_
  refine thn (hb pins s1 σ H1 _ I1 q1) fun u s2 ⟨y, H2, I2, r2, q2⟩ => ?_
  exact hf v u s2 x y H2 I2 r1 r2 q2
theorem pe_op {op : Operator} {r : R2} (ho : OpR X (binaryOp op) r) (ha : PE X a ta) (hb : PE X b tb) : PE X (.BinOp a op b pos) (tOp r ta tb) := by
  intro pins s σ H Q I h
  exact wpAny_BinOp (binT ha hb I h fun v u s2 x y H2 I2 rx ry q => ho pins s2 σ H2 x y v u Q I2 rx ry q)
theorem pe_un {op : UnaryOp} {r : V → Hp → VK → Prop} (ho : UnR X (unaryOp op) r) (ha : PE X a ta) : PE X (.UnaryOp op a pos) (tUn r ta) := by
  intro pins s σ H Q I h
  exact UnaryOp_ (thn (ha pins s σ H _ I h) fun v s1 ⟨x, H1, I1, r1, q1⟩ => ho pins s1 σ H1 x v Q I1 r1 q1)
theorem opI {f : Value → Value → Sem Value} {C : Int → Int → Prop} {g : Int → Int → Int}
    (rule : ∀ (i j : Int) (t u : Tok) (s : Shared) (Q : Value → Shared → Prop) (E : Value → Shared → Prop), C i j → Q (.int (g i j) s.toks) { s with toks := s.toks + 1 } → wpAny (model X.prog X.w) X.A (f (.int i t) (.int j u)) Q E s) :
    OpR X f (rI C fun i j => .int (g i j)) := by
  intro pins s σ H x y v u Q I rx ry h
  obtain ⟨i, j, rfl, rfl, hc, q⟩ := h
  obtain ⟨t, rfl⟩ := rx
  obtain ⟨t', rfl⟩ := ry
  exact rule i j t t' s _ _ hc ⟨.int (g i j), H, I.tok _, ⟨_, rfl⟩, q⟩
theorem opI0 {f : Value → Value → Sem Value} {g : Int → Int → Int}
    (rule : ∀ (i j : Int) (t u : Tok) (s : Shared) (Q : Value → Shared → Prop) (E : Value → Shared → Prop), Q (.int (g i j) s.toks) { s with toks := s.toks + 1 } → wpAny (model X.prog X.w) X.A (f (.int i t) (.int j u)) Q E s) :
    OpR X f (rI0 fun i j => .int (g i j)) := by
  intro pins s σ H x y v u Q I rx ry h
  obtain ⟨i, j, rfl, rfl, q⟩ := h
  obtain ⟨t, rfl⟩ := rx
  obtain ⟨t', rfl⟩ := ry
  exact rule i j t t' s _ _ ⟨.int (g i j), H, I.tok _, ⟨_, rfl⟩, q⟩
theorem opB0 {f : Value → Value → Sem Value} {g : Int → Int → Bool}
    (rule : ∀ (i j : Int) (t u : Tok) (s : Shared) (Q : Value → Shared → Prop) (E : Value → Shared → Prop), Q (.bool (g i j)) s → wpAny (model X.prog X.w) X.A (f (.int i t) (.int j u)) Q E s) :
    OpR X f (rI0 fun i j => .bl (g i j)) := by
  intro pins s σ H x y v u Q I rx ry h
  obtain ⟨i, j, rfl, rfl, q⟩ := h
  obtain ⟨t, rfl⟩ := rx
  obtain ⟨t', rfl⟩ := ry
  exact rule i j t t' s _ _ ⟨.bl (g i j), H, I, rfl, q⟩
def CDiv (i j : Int) : Prop := 0 < j ∧ j < 1073741824
def CPow (i j : Int) : Prop := 0 ≤ j ∧ j ≤ 1000000 ∧ i.natAbs < 2 ^ 64
def CMul (i j : Int) : Prop := (-(2 ^ 64) < i ∧ i < 2 ^ 64) ∨ (-(2 ^ 64) < j ∧ j < 2 ^ 64)
theorem CMul.ok {i j : Int} (h : CMul i j) : IntMulOk i j := by
  rcases h with ⟨h1, h2⟩ | ⟨h1, h2⟩
  · exact .of_left (intBits_le_64 h1 h2)
  · exact .of_right (intBits_le_64 h1 h2)
theorem op_add : OpR X (binaryOp .Add) (rI0 fun i j => .int (i + j)) := opI0 fun _ _ _ _ _ _ _ q => add_int q
theorem op_sub : OpR X (binaryOp .Sub) (rI0 fun i j => .int (i - j)) := opI0 fun _ _ _ _ _ _ _ q => sub_int q
theorem op_mul : OpR X (binaryOp .Mult) (rI CMul fun i j => .int (i * j)) := opI fun _ _ _ _ _ _ _ hc q => mul_int q hc.ok
theorem op_fdiv : OpR X (binaryOp .FloorDiv) (rI CDiv fun i j => .int (i / j)) := opI fun i j _ _ _ _ _ hc q => by
  have h1 : (0 : Int) < j := hc.1
  have h2 : j < 1073741824 := hc.2
  exact floordiv_int (by omega) (by rw [Int.fdiv_eq_ediv_of_nonneg i (by omega)]; exact q) (.inl (PyProof.noPylong_small (by omega)))
theorem op_mod : OpR X (binaryOp .Mod) (rI (fun _ j => 0 < j) fun i j => .int (i % j)) := opI fun i j _ _ _ _ _ hc q => by
  have h1 : (0 : Int) < j := hc
  exact mod_int' (by omega) (by rw [Int.fmod_eq_emod_of_nonneg i (by omega)]; exact q)
theorem op_pow : OpR X (binaryOp .Pow) (rI CPow fun i j => .int (i ^ j.toNat)) := opI fun _ _ _ _ _ _ _ hc q => pow_int_small hc.1 hc.2.1 hc.2.2 q
theorem unI {f : Value → Sem Value} {g : Int → Int}
    (rule : ∀ (i : Int) (t : Tok) (s : Shared) (Q : Value → Shared → Prop) (E : Value → Shared → Prop), Q (.int (g i) s.toks) { s with toks := s.toks + 1 } → wpAny (model X.prog X.w) X.A (f (.int i t)) Q E s) :
    UnR X f (rU fun i => .int (g i)) := by
  intro pins s σ H x v Q I rx h
  obtain ⟨i, rfl, q⟩ := h
  obtain ⟨t, rfl⟩ := rx
  exact rule i t s _ _ ⟨.int (g i), H, I.tok _, ⟨_, rfl⟩, q⟩
theorem un_neg : UnR X (unaryOp .USub) (rU fun i => .int (-i)) := unI fun _ _ _ _ _ q => neg_int q
end
def scal : V → V → Bool
  | .non, .non => true | .non, .int _ => true | .int _, .non => true | .non, .bl _ => true | .bl _, .non => true | .non, .str _ => true | .str _, .non => true
  | .int _, .int _ => true | .bl _, .bl _ => true | .str _, .str _ => true | .byt _, .byt _ => true
  | .int _, .str _ => true | .str _, .int _ => true | .bl _, .str _ => true | .str _, .bl _ => true
  | _, _ => false
def rEq : R2 := fun x y H Q => scal x y = true ∧ Q (.bl (decide (x = y))) H
def rNe : R2 := fun x y H Q => scal x y = true ∧ Q (.bl (!decide (x = y))) H
theorem dec_int {i j : Int} : decide (V.int i = V.int j) = (i == j) := by
  rw [Bool.eq_iff_iff]
  simp
theorem dec_bl {i j : Bool} : decide (V.bl i = V.bl j) = (i == j) := by
  rw [Bool.eq_iff_iff]
  simp
theorem dec_str {i j : Str} : decide (V.str i = V.str j) = (i == j) := by
  rw [Bool.eq_iff_iff]
  simp
theorem dec_byt {i j : Array UInt8} : decide (V.byt i = V.byt j) = (i.toList == j.toList) := by
  rw [Bool.eq_iff_iff]
  cases i
  cases j
  simp
section
variable {X : Cx} {a b c : Expr} {ta tb tc : TE} {pos : Pos}
theorem fin_bl {pins : List (Addr × Obj)} {σ : St} {H : Hp} {s : Shared} {Q : VK} {k k' : Bool} (I : Inv X pins σ H s) (q : Q (.bl k) H) (e : k = k') : EP X pins σ Q (.bool k') s := by
  subst e
  exact ⟨.bl k, H, I, rfl, q⟩
theorem op_eq : OpR X (compareOp .Eq) rEq := by
  intro pins s σ H x y v u Q I rx ry h
  obtain ⟨hs, q⟩ := h
  cases x with
  | non =>
    cases rx
    cases y with
    | non => cases ry; exact PySem.EqNone.eq_none_none (fin_bl I q (by simp))
    | bl j => cases ry; exact PySem.EqNone.eq_none_bool (fin_bl I q (by simp))
    | int j => obtain ⟨t', rfl⟩ := ry; exact PySem.EqNone.eq_none_int (fin_bl I q (by simp))
    | str j => obtain ⟨t', rfl⟩ := ry; exact PySem.EqNone.eq_none_str (fin_bl I q (by simp))
    | _ => exact absurd (show false = true from hs) Bool.false_ne_true
  | bl i =>
    cases rx
    cases y with
    | non => cases ry; exact PySem.EqNone.eq_bool_none (fin_bl I q (by simp))
    | bl j => cases ry; exact eq_bool (fin_bl I q dec_bl)
    | str j => obtain ⟨t', rfl⟩ := ry; exact PySem.EqMixed.eq_bool_str (fin_bl I q (by simp))
    | _ => exact absurd (show false = true from hs) Bool.false_ne_true
  | int i =>
    obtain ⟨t, rfl⟩ := rx
    cases y with
    | non => cases ry; exact PySem.EqNone.eq_int_none (fin_bl I q (by simp))
    | int j => obtain ⟨t', rfl⟩ := ry; exact eq_int (fin_bl I q dec_int)
    | str j => obtain ⟨t', rfl⟩ := ry; exact PySem.EqMixed.eq_int_str (fin_bl I q (by simp))
    | _ => exact absurd (show false = true from hs) Bool.false_ne_true
  | str i =>
    obtain ⟨t, rfl⟩ := rx
    cases y with
    | non => cases ry; exact PySem.EqNone.eq_str_none (fin_bl I q (by simp))
    | bl j => cases ry; exact PySem.EqMixed.eq_str_bool (fin_bl I q (by simp))
    | int j => obtain ⟨t', rfl⟩ := ry; exact PySem.EqMixed.eq_str_int (fin_bl I q (by simp))
    | str j => obtain ⟨t', rfl⟩ := ry; exact eq_str (fin_bl I q dec_str)
    | _ => exact absurd (show false = true from hs) Bool.false_ne_true
  | byt i =>
    obtain ⟨t, rfl⟩ := rx
    cases y with
    | byt j => obtain ⟨t', rfl⟩ := ry; exact PySem.W.eq_bytes (fin_bl I q dec_byt)
    | _ => exact absurd (show false = true from hs) Bool.false_ne_true
  | _ => cases y <;> exact absurd (show false = true from hs) Bool.false_ne_true
theorem op_ne : OpR X (compareOp .NotEq) rNe := by
  intro pins s σ H x y v u Q I rx ry h
  obtain ⟨hs, q⟩ := h
  cases x with
  | non =>
    cases rx
    cases y with
    | non => cases ry; exact PySem.EqNone.ne_none_none (fin_bl I q (by simp))
    | bl j => cases ry; exact PySem.EqNone.ne_none_bool (fin_bl I q (by simp))
    | int j => obtain ⟨t', rfl⟩ := ry; exact PySem.EqNone.ne_none_int (fin_bl I q (by simp))
    | str j => obtain ⟨t', rfl⟩ := ry; exact PySem.EqNone.ne_none_str (fin_bl I q (by simp))
    | _ => exact absurd (show false = true from hs) Bool.false_ne_true
  | bl i =>
    cases rx
    cases y with
    | non => cases ry; exact PySem.EqNone.ne_bool_none (fin_bl I q (by simp))
    | bl j => cases ry; exact ne_bool (fin_bl I q (congrArg not dec_bl))
    | str j => obtain ⟨t', rfl⟩ := ry; exact PySem.EqMixed.ne_bool_str (fin_bl I q (by simp))
    | _ => exact absurd (show false = true from hs) Bool.false_ne_true
  | int i =>
    obtain ⟨t, rfl⟩ := rx
    cases y with
    | non => cases ry; exact PySem.EqNone.ne_int_none (fin_bl I q (by simp))
    | int j => obtain ⟨t', rfl⟩ := ry; exact ne_int (fin_bl I q (congrArg not dec_int))
    | str j => obtain ⟨t', rfl⟩ := ry; exact PySem.EqMixed.ne_int_str (fin_bl I q (by simp))
    | _ => exact absurd (show false = true from hs) Bool.false_ne_true
  | str i =>
    obtain ⟨t, rfl⟩ := rx
    cases y with
    | non => cases ry; exact PySem.EqNone.ne_str_none (fin_bl I q (by simp))
    | bl j => cases ry; exact PySem.EqMixed.ne_str_bool (fin_bl I q (by simp))
    | int j => obtain ⟨t', rfl⟩ := ry; exact PySem.EqMixed.ne_str_int (fin_bl I q (by simp))
    | str j => obtain ⟨t', rfl⟩ := ry; exact ne_str (fin_bl I q (congrArg not dec_str))
    | _ => exact absurd (show false = true from hs) Bool.false_ne_true
  | byt i =>
    obtain ⟨t, rfl⟩ := rx
    cases y with
    | byt j => obtain ⟨t', rfl⟩ := ry; exact PySem.W.ne_bytes (fin_bl I q (congrArg not dec_byt))
    | _ => exact absurd (show false = true from hs) Bool.false_ne_true
  | _ => cases y <;> exact absurd (show false = true from hs) Bool.false_ne_true
theorem op_lt : OpR X (compareOp .Lt) (rI0 fun i j => .bl (decide (i < j))) := opB0 fun _ _ _ _ _ _ _ q => lt_int q
theorem op_le : OpR X (compareOp .LtE) (rI0 fun i j => .bl (decide (i ≤ j))) := opB0 fun _ _ _ _ _ _ _ q => le_int q
theorem op_gt : OpR X (compareOp .Gt) (rI0 fun i j => .bl (decide (j < i))) := opB0 fun _ _ _ _ _ _ _ q => gt_int q
theorem op_isN : OpR X (compareOp .Is) (fun x y H Q => y = .non ∧ Q (.bl (decide (x = .non))) H) := by
  intro pins s σ H x y v u Q I rx ry h
  obtain ⟨rfl, q⟩ := h
  cases ry
  refine is_none_gen (fin_bl I q ?_)
  cases x <;> first
    | (cases rx; rfl)
    | (obtain ⟨t, rfl⟩ := rx; rfl)
theorem op_notN : OpR X (compareOp .IsNot) (fun x y H Q => y = .non ∧ Q (.bl (!decide (x = .non))) H) := by
  intro pins s σ H x y v u Q I rx ry h
  obtain ⟨rfl, q⟩ := h
  cases ry
  refine isnot_none_gen (fin_bl I q ?_)
  cases x <;> first
    | (cases rx; rfl)
    | (obtain ⟨t, rfl⟩ := rx; rfl)
theorem nomark (b : Expr) {op : CmpOp} (h : op ≠ .In := by decide) (h2 : op ≠ .NotIn := by decide) : behindInMarks op b = false := by
  have e1 : (op == CmpOp.In) = false := by cases op <;> first | rfl | exact absurd rfl h
  have e2 : (op == CmpOp.NotIn) = false := by cases op <;> first | rfl | exact absurd rfl h2
  cases b <;> simp [behindInMarks, e1, e2]
theorem pe_cmpR {op : CmpOp} {r : R2} (ho : OpR X (compareOp op) r) (ha : PE X a ta) (hb : PE X b tb) (hm : behindInMarks op b = false) : PE X (.Compare a [op] [b] pos) (tOp r ta tb) := by
  intro pins s σ H Q I h
  exact wpAny_Compare1 (binT ha hb I h fun v u s2 x y H2 I2 rx ry q => ho pins s2 σ H2 x y v u Q I2 rx ry q) hm
def tTest (t : TE) : TT := fun σ H Q => t σ H fun x H' => ∃ k, x = .bl k ∧ Q k H'
theorem pt_cmpR {op : CmpOp} {r : R2} (ho : OpR X (compareOp op) r) (ha : PE X a ta) (hb : PE X b tb) (hm : behindInMarks op b = false) : PT X (.Compare a [op] [b] pos) (tTest (tOp r ta tb)) := by
  intro pins s σ H Q I h
  refine wpAny_isTrue_Compare1 (thn (ha pins s σ H _ I h) fun v s1 ⟨x, H1, I1, r1, q1⟩ => thn (hb pins s1 σ H1 _ I1 q1) fun u s2 ⟨y, H2, I2, r2, q2⟩ =>
    thn (ho pins s2 σ H2 x y v u _ I2 r1 r2 q2) fun c s3 ⟨z, H3, I3, r3, k, e, q3⟩ => ?_) hm
  subst e
  cases r3
  exact wpAny_truthy_bool ⟨H3, I3, q3⟩
def TruV (K : PySem.W.Frag) (x : V) (H : Hp) (k : Bool) : Prop :=
  match x with
  | .non => k = false
  | .bl b => k = b
  | .int i => k = (i != 0)
  | .str y => y.length ≤ sizeLine ∧ k = ((y.length : Int) != 0)
  | .byt y => y.size ≤ sizeLine ∧ k = ((y.size : Int) != 0)
  | .ref p => (∃ xs, SqL K H p xs ∧ k = !xs.isEmpty) ∨ (∃ xs, SqT K H p xs ∧ k = !xs.isEmpty) ∨ ∃ kvs, H p = some (.dK kvs) ∧ k = !kvs.isEmpty
  | _ => False
theorem isEmpty_kv {κ : Type} {kvs : List (κ × V)} {vs : List (κ × Value)} (r : KV kvs vs) : (!vs.isEmpty) = !kvs.isEmpty := by
  cases r <;> rfl
theorem isEmpty_of {xs : List V} {its : List Value} (r : Vals xs its) : (!its.toArray.isEmpty) = !xs.isEmpty := by
  cases r <;> simp
theorem line63 : (sizeLine : Nat) < 2 ^ 63 := by rw [sizeLine_eq]; decide
theorem tru_ok : TruR X (fun x H Q => ∃ k, TruV X.K x H k ∧ Q k H) := by
  intro pins s σ H x v Q I rx h
  obtain ⟨k, e, q⟩ := h
  have hl := line63
  have hs : sizeLine = 16777216 := sizeLine_eq
  cases x with
  | non =>
    cases rx
    have e' : k = false := e
    subst e'
    exact truthy_none ⟨H, I, q⟩
  | bl b =>
    cases rx
    have e' : k = b := e
    subst e'
    exact wpAny_truthy_bool ⟨H, I, q⟩
  | int i =>
    obtain ⟨t, rfl⟩ := rx
    have e' : k = (i != 0) := e
    subst e'
    exact PySem.P.truthy_int ⟨H, I, q⟩
  | str y =>
    obtain ⟨t, rfl⟩ := rx
    obtain ⟨hy, e'⟩ : y.length ≤ sizeLine ∧ k = ((y.length : Int) != 0) := e
    subst e'
    exact PySem.P.truthy_str (by omega) ⟨H, I.tok _, q⟩
  | byt y =>
    obtain ⟨t, rfl⟩ := rx
    obtain ⟨hy, e'⟩ : y.size ≤ sizeLine ∧ k = ((y.size : Int) != 0) := e
    subst e'
    exact PySem.W.truthy_bytes (by omega) ⟨H, I.tok _, q⟩
  | ref p =>
    cases rx
    have e' : (∃ xs, SqL X.K H p xs ∧ k = !xs.isEmpty) ∨ (∃ xs, SqT X.K H p xs ∧ k = !xs.isEmpty) ∨ ∃ kvs, H p = some (.dK kvs) ∧ k = !kvs.isEmpty := e
    rcases e' with ⟨xs, hx, e'⟩ | ⟨xs, hx, e'⟩ | ⟨kvs, hx, e'⟩
    · subst e'
      obtain ⟨its, r, pl, hz⟩ := I.list hx
      have hlen := r.length
      exact wpAny_truthy_list pl.isList (by simp only [List.size_toArray]; omega) ⟨H, I.tok _, by rw [isEmpty_of r]; exact q⟩
    · subst e'
      obtain ⟨its, r, pl, hz⟩ := I.tuple hx
      have hlen := r.length
      exact truthy_tuple pl (by simp only [List.size_toArray]; omega) ⟨H, I.tok _, by rw [isEmpty_of r]; exact q⟩
    · subst e'
      obtain ⟨hz, hS, vs, r, m⟩ : kvs.length ≤ sizeLine ∧ (p == sysModules) = false ∧ ∃ vs, KV kvs vs ∧ s.heap.DictOf (mixKind X.prog X.w) p vs := I.hok p _ hx
      have hlen : kvs.length = vs.length := Paired.length r
      exact wpAny_truthy_dict hS m (by omega) ⟨H, I.tok _, by rw [isEmpty_kv r]; exact q⟩
  | _ => exact (show False from e).elim
theorem pt_truth (ha : PE X a ta) (he : ∀ whole, isTrue a X.env whole = (do let v ← whole; standAt a.pos; holding [v] (truthy v))) :
    PT X a (fun σ H Q => ta σ H fun x H' => ∃ k, TruV X.K x H' k ∧ Q k H') := by
  intro pins s σ H Q I h
  exact isTrue_plain (thn (ha pins s σ H _ I h) fun v s1 ⟨x, H1, I1, r1, q1⟩ => tru_ok pins s1 σ H1 x v Q I1 r1 q1) (he _)
theorem vals1 {x : V} {us : List Value} (r : Vals [x] us) : ∃ u, us = [u] ∧ RelV x u := by
  cases r with
  | cons r1 r2 => cases r2; exact ⟨_, rfl, r1⟩
theorem vals2 {x y : V} {us : List Value} (r : Vals [x, y] us) : ∃ u w', us = [u, w'] ∧ RelV x u ∧ RelV y w' := by
  cases r with
  | cons r1 r2 =>
    cases r2 with
    | cons r3 r4 => cases r4; exact ⟨_, _, rfl, r1, r3⟩
theorem call_abs : CallR X (.builtin "abs") (fun xs H Q => ∃ i, xs = [.int i] ∧ Q (.int (if i < 0 then -i else i)) H) := by
  intro pins s σ H xs us Q I r h
  obtain ⟨i, rfl, q⟩ := h
  obtain ⟨u, rfl, t, rfl⟩ := vals1 r
  exact call_abs_int fun u tk => ⟨.int (if i < 0 then -i else i), H, I.tok _, ⟨_, rfl⟩, q⟩
theorem call_max2 (hc : X.calm = true) : CallR X (.builtin "max") (fun xs H Q => ∃ i j, xs = [.int i, .int j] ∧ Q (.int (if j > i then j else i)) H) := by
  intro pins s σ H xs us Q I r h
  obtain ⟨i, j, rfl, q⟩ := h
  obtain ⟨u, w', rfl, ⟨t, rfl⟩, ⟨t', rfl⟩⟩ := vals2 r
  refine max_two_ints (I.ok.hd hc) fun h' tk k => ⟨_, H, I.kept k, ?_, q⟩
  by_cases hj : j > i
  · rw [if_pos hj, if_pos hj]; exact ⟨_, rfl⟩
  · rw [if_neg hj, if_neg hj]; exact ⟨_, rfl⟩
end
end L2
namespace L2
open PySem PySem.Spec PyProof.Rows
structure ObjM (h : Heap) (x dx C : Addr) (mA : Str → Option Value) : Prop where
  obj : h.get? x = some (PySem.W.instObj C dx)
  ns : h.Ns1 dx mA
  ne : dx ≠ x
section
variable {prog : Program} {w : World} {A : Around} {E : Value → Shared → Prop} {s : Shared} {K : PySem.W.Frag} {x dx C f : Addr} {mA : Str → Option Value} {name : Str} {v : Value}
end
theorem RelO.some_of {v : V} {o : Option Value} (r : RelO (some v) o) : ∃ u, o = some u ∧ RelV v u := by
  cases o with
  | none => exact (show False from r).elim
  | some u => exact ⟨u, rfl, r⟩
section
variable {P : Program} {w : World} {H H' : Hp} {h h' : Heap} {a C dx : Addr} {fs fs' : List (Str × V)}
end
structure Cls (K : PySem.W.Frag) (C : Addr) : Prop where
  pg : PySem.W.plainGet K C Str.empty = true
  hd : PySem.W.hasDictIn K C = true
  po : PySem.W.plainOver K C = true
  sa : PySem.W.findIn K (.ref C) "__setattr__" = some (some (.builtin "object.__setattr__"))
structure Con (K : PySem.W.Frag) (C : Addr) (f : Str) (v : V) (u : Value) : Prop where
  at_ : PySem.W.findIn K (.ref C) f = some (some u)
  rel : RelV v u
  get : PySem.W.specialIn K u "__get__" = some none
  cp : PySem.W.copiedNames.contains f = false
structure Meth (K : PySem.W.Frag) (C : Addr) (m : Str) (f : Addr) : Prop where
  at_ : PySem.W.findIn K (.ref C) m = some (some (.ref f))
  fn : PySem.W.isFn K (.ref f) = true
  kp : PySem.W.keepIn K (.ref f) = true
section
variable {X : Cx} {pins : List (Addr × Obj)} {σ : St} {H : Hp} {s : Shared} {a C dx : Addr} {fs : List (Str × V)} {f : Str} {v : V} {A : Around} {E : Value → Shared → Prop}
end
section
variable {X : Cx} {o e value : Expr} {f : Str} {pos pos' tpos : Pos} {ta tv : TE}
end
section
variable {X : Cx} {pins : List (Addr × Obj)} {σ : St} {H : Hp} {s : Shared} {A : Around} {E : Value → Shared → Prop} {Q : Value → Shared → Prop} {c : Value} {b : Bool}
inductive TyOf (K : PySem.W.Frag) (H : Hp) : V → Value → Prop where
  | non : TyOf K H .non (.type "NoneType")
  | bl (x : Bool) : TyOf K H (.bl x) (.type "bool")
  | int (i : Int) : TyOf K H (.int i) (.type "int")
  | str (x : Str) : TyOf K H (.str x) (.type "str")
  | flt (x : UInt64) : TyOf K H (.flt x) (.type "float")
  | lst {a : Addr} {xs : List V} (e : H a = some (.lst xs)) : TyOf K H (.ref a) (.type "list")
  | frz {a : Addr} {o : Obj} {xs : List V} (e : H a = some (.frz o (.lst xs))) : TyOf K H (.ref a) (.type "list")
  | tup {a : Addr} {xs : List V} (e : H a = some (.tup xs)) : TyOf K H (.ref a) (.type "tuple")
  | dK {a : Addr} {kvs : List (Key × V)} (e : H a = some (.dK kvs)) : TyOf K H (.ref a) (.type "dict")
  | dT {a : Addr} {kvs : List (List Key × V)} (e : H a = some (.dT kvs)) : TyOf K H (.ref a) (.type "dict")
  | ins {a C dx : Addr} {fs : List (Str × V)} (e : H a = some (.ins C dx fs)) (cl : Cls K C) (ha : PySem.W.findIn K (.ref C) "__class__" = some (some (.builtin "object.__class__")))
      (hn : PySem.W.specialIn K (.builtin "object.__class__") "__get__" = some (some (.builtin "getset_descriptor.__get__"))) (htk : PySem.W.takesIn K (.builtin "object.__class__") = some true)
      (hm : PySem.W.mroIn K C (.type "object") = some true) : TyOf K H (.ref a) (.ref C)
end
end L2
namespace L2
open PySem PySem.Spec PyProof.Rows
structure Room (k : Nat) (A : Around) : Prop where
  hd : A.handled = none
  dp : A.depth + 3 * k + 5 < recursionLimit
  un : A.units + 16 * k + 200 < cLine
theorem Room.mono {j k : Nat} {A : Around} (r : Room k A) (h : j ≤ k) : Room j A := ⟨r.hd, by have := r.dp; omega, by have := r.un; omega⟩
theorem Room.deeper {k : Nat} {A : Around} (r : Room (k + 1) A) (env : Env) : Room k (A.deeper env) :=
  ⟨r.hd, by have := r.dp; show A.depth + 1 + 3 * k + 5 < _; omega, by have := r.un; show A.units + 3 + 16 * k + 200 < _; omega⟩
theorem Room.in1 {k : Nat} {A : Around} (r : Room (k + 1) A) : Room k A.in1 :=
  ⟨r.hd, by have := r.dp; show A.depth + 3 * k + 5 < _; omega, by have := r.un; show A.units + 1 + 16 * k + 200 < _; omega⟩
theorem Room.depth {k : Nat} {A : Around} (r : Room k A) : A.depth < recursionLimit := by have := r.dp; omega
theorem Room.units {k : Nat} {A : Around} (r : Room k A) : A.units + 64 < cLine := by have := r.un; omega
def tNil : TA := fun _ H Q => Q [] H
def tCons (ta : TE) (tr : TA) : TA := fun σ H Q => ta σ H fun x H1 => tr σ H1 fun xs H2 => Q (x :: xs) H2
section
variable {X : Cx} {e : Expr} {es : List Expr} {te : TE} {t : TA} {pos : Pos}
theorem pa_nil : PA X [] tNil := fun _ _ _ _ H Q I h => Calls.spliced_nil ⟨[], H, I, .nil, h⟩
theorem pa_cons (ha : PE X e te) (hr : PA X es t) (hs : starEach (e :: es) X.env = (false, eval e X.env) :: starEach es X.env := by rfl) : PA X (e :: es) (tCons te t) := by
  intro pos pins s σ H Q I h
  rw [hs]
  show wpAny _ _ (spliced ((false, eval e X.env) :: backTo pos (starEach es X.env))) _ _ s
  refine Calls.spliced_cons (thn (ha pins s σ H _ I h) fun u s1 ⟨x, H1, I1, r1, q1⟩ => ?_)
  exact thn (hr pos pins s1 σ H1 _ I1 q1) fun us s2 ⟨xs, H2, I2, r2, q2⟩ => ⟨x :: xs, H2, I2, .cons r1 r2, q2⟩
def tTup (t : TA) : TE := fun σ H Q => t σ H fun xs H1 => xs.length ≤ sizeLine ∧ ∀ p, H1 p = none → Q (.ref p) (upd H1 p (.tup xs))
def tLst (t : TA) : TE := fun σ H Q => t σ H fun xs H1 => xs.length ≤ sizeLine ∧ ∀ p, H1 p = none → Q (.ref p) (upd H1 p (.lst xs))
theorem pe_tup {x1} (h : PA X es t) : PE X (.Tuple es x1 pos) (tTup t) := by
  intro pins s σ H Q I hq
  refine wpAny_Tuple_spliced (thn (h pos pins s σ H _ I hq) fun us s1 ⟨xs, H1, I1, r, z, q⟩ => ⟨by rw [← r.length]; exact z, ?_⟩)
  have hf : H1 s1.heap.objs.size = none := I1.hok.fresh (Nat.le_refl _)
  refine ⟨.ref s1.heap.objs.size, upd H1 s1.heap.objs.size (.tup xs), I1.laid (t' := s1.toks) (fun b u e => Heap.get?_push_of_some _ e) (Nat.le_refl _) ?_, rfl, q _ hf⟩
  exact ⟨z, us, r, ⟨_, Heap.get?_push_size _ rfl, rfl, _, rfl⟩⟩
theorem pe_lst (h : PA X es t) : PE X (.List es pos) (tLst t) := by
  intro pins s σ H Q I hq
  refine wpAny_List_spliced (thn (h pos pins s σ H _ I hq) fun us s1 ⟨xs, H1, I1, r, z, q⟩ => ⟨by rw [← r.length]; exact z, ?_⟩)
  have hf : H1 s1.heap.objs.size = none := I1.hok.fresh (Nat.le_refl _)
  refine ⟨.ref s1.heap.objs.size, upd H1 s1.heap.objs.size (.lst xs), I1.laid (t' := s1.toks) (fun b u e => Heap.get?_push_of_some _ e) (Nat.le_refl _) ?_, rfl, q _ hf⟩
  exact ⟨z, us, 0, r, Heap.get?_push_size _ rfl⟩
end
abbrev Sp := List V → Hp → VK → XK → Prop
abbrev CXT := List Env → Hp → Shared → XK → Value → Shared → Prop
structure Env0 (P : Program) (w : World) (K : PySem.W.Frag) (mg : Str → Option Value) (base : Heap) (A : Around) (outer : List Env) (s : Shared) (H : Hp) : Prop where
  frames : A.frames = some outer
  mod : Mod K mg base
  bs : ∀ b o, base.get? b = some o → s.heap.get? b = some o ∧ H b = none
  bsz : base.objs.size ≤ s.heap.objs.size
  funs : s.heap.FunFrames base outer
  frf : ∀ b ∈ frs outer, H b = none
  hok : HOk P w H s.heap
  bare : AllBare s.gens
def CE (outer : List Env) (P : Program) (w : World) (H : Hp) (s : Shared) (Q : VK) (u : Value) (s' : Shared) : Prop :=
  ∃ v H', s'.os = s.os ∧ AllBare s'.gens ∧ Un (frs outer) [] H H' s.heap s'.heap ∧ HOk P w H' s'.heap ∧ RelV v u ∧ Q v H'
def CR (CX : CXT) (outer : List Env) (P : Program) (w : World) (H : Hp) (s : Shared) (Q : VK) (E : XK) (r : Result) (s' : Shared) : Prop :=
  match r with
  | .ok (.ret u) => CE outer P w H s Q u s'
  | .ok _ => False
  | .error e => CX outer H s E e s'
structure FnOk (P : Program) (w : World) (K : PySem.W.Frag) (mg : Str → Option Value) (base : Heap) (CX : CXT) (k : Nat) (f : Addr) (fd : FuncData) (ps : List Str) (sp : Sp) : Prop where
  len : ∀ vs H Q E, sp vs H Q E → vs.length = ps.length
  run : ∀ (A : Around) (outer : List Env) (s : Shared) (H : Hp) (args : Args) (us : List Value) (vs : List V) (Q : VK) (E : XK), Room k A → Env0 P w K mg base A outer s H → BindsTo s fd args (ps.zip us) → Vals vs us → sp vs H Q E →
    codeAny (model P w) A (.call (.ref f) args) (CR CX outer P w H s Q E) s
theorem FnOk.mono {P : Program} {w : World} {K : PySem.W.Frag} {mg : Str → Option Value} {base : Heap} {CX : CXT} {j k : Nat} {f : Addr} {fd : FuncData} {ps : List Str} {sp : Sp} (F : FnOk P w K mg base CX j f fd ps sp) (h : j ≤ k) :
    FnOk P w K mg base CX k f fd ps sp := ⟨F.len, fun A outer s H args us vs Q E hr => F.run A outer s H args us vs Q E (hr.mono h)⟩
section
variable {X : Cx} {pins : List (Addr × Obj)} {σ : St} {H : Hp} {s s' : Shared}
theorem Inv.env0 (I : Inv X pins σ H s) : Env0 X.prog X.w X.K X.mg X.base X.A X.stack s H :=
  ⟨I.ok.frames, I.ok.mod, I.bs, Nat.le_trans I.ok.bsz I.sz, I.stack, I.stkFree, I.hok, I.bare⟩
theorem Inv.after {Q : VK} {u : Value} (I : Inv X pins σ H s) (h : CE X.stack X.prog X.w H s Q u s') : EP X pins σ Q u s' := by
  obtain ⟨v, H', os, bare, un, hok, r, q⟩ := h
  obtain ⟨hh, g, d, t, os'⟩ := s'
  obtain rfl : os' = s.os := os
  exact ⟨v, H', I.call (h' := hh) (g' := g) (d' := d) (t' := t) (ch := []) un hok bare (fun b z => absurd z (by simp)), r, q⟩
end
def tCall (sp : Sp) (dvs : List V) (E : XK) (t : TA) : TE := fun σ H Q => t σ H fun vs H1 => sp (vs ++ dvs) H1 Q E
def Binds (K : PySem.W.Frag) (fd : FuncData) (ps : List Str) (ds : List Value) : Prop :=
  ∀ (s : Shared) (us : List Value), K.In s.heap → (us ++ ds).length = ps.length → BindsTo s fd ⟨us, []⟩ (ps.zip (us ++ ds))
theorem Binds.all {K : PySem.W.Frag} {fd : FuncData} {ps : List Str} (h : ∀ us : List Value, us.length = ps.length → bindArgs fd ⟨us, []⟩ = pure (ps.zip us)) : Binds K fd ps [] := fun s us _ hl => by
  rw [List.append_nil] at hl ⊢
  exact .of_eq (h us hl)
def Passes (CX : CXT) (X : Cx) (E : XK) : Prop := ∀ (pins : List (Addr × Obj)) (σ : St) (H : Hp) (s : Shared) (e : Value) (s' : Shared), Inv X pins σ H s → CX X.stack H s E e s' → X.xe e s'
section
variable {X : Cx} {CX : CXT} {k : Nat} {f C : Addr} {fd : FuncData} {ps : List Str} {sp : Sp} {dvs : List V} {ds : List Value} {E : XK} {x m : Str} {p pos apos : Pos} {e o : Expr} {es : List Expr} {ta : TE} {t : TA}
theorem run_fn {pins : List (Addr × Obj)} {σ : St} {H : Hp} {s : Shared} {Q : VK} {us : List Value} {vs : List V} (F : FnOk X.prog X.w X.K X.mg X.base CX k f fd ps sp) (hr : Room k X.A) (hb : Binds X.K fd ps ds) (hd : Vals dvs ds) (hx : Passes CX X E)
    (I : Inv X pins σ H s) (r : Vals vs us) (h : sp (vs ++ dvs) H Q E) : wpAny (model X.prog X.w) X.A (call (.ref f) us) (EP X pins σ Q) X.xe s := by
  have r2 : Vals (vs ++ dvs) (us ++ ds) := r.append hd
  have hl : (us ++ ds).length = ps.length := by rw [← r2.length]; exact F.len _ _ _ _ h
  refine wpAny_call (codeAny_mono (F.run X.A X.stack s H ⟨us, []⟩ (us ++ ds) (vs ++ dvs) Q E hr I.env0 (hb s us I.kIn hl) r2 h) fun r s' hq => ?_)
  cases r with
  | error e => exact hx pins σ H s e s' I hq
  | ok fl =>
    cases fl with
    | ret u => exact I.after hq
    | next => exact False.elim hq
    | brk => exact False.elim hq
    | cont => exact False.elim hq
theorem pe_call (F : FnOk X.prog X.w X.K X.mg X.base CX k f fd ps sp) (hr : Room k X.A) (hg : Gl X x) (hm : X.mg x = some (.ref f)) (hk : PySem.W.keepIn X.K (.ref f) = true) (hb : Binds X.K fd ps ds) (hd : Vals dvs ds) (hx : Passes CX X E)
    (ha : PA X (e :: es) t) (hdb : (x == ("__debug__" : Str)) = false := by decide) (he : starEach (e :: es) X.env = (false, eval e X.env) :: starEach es X.env := by rfl) (hpl : (backTo pos (starEach es X.env)).any (·.1) = false := by rfl) :
    PE X (.Call (.Name x p) (e :: es) [] pos) (tCall sp dvs E t) := by
  intro pins s σ H Q I h
  refine wpAny_Call_Name_kw (ld_glob I hg hm ?_ hdb)
  refine PySem.W.callWith_K (h₀ := X.base) I.ok.mod.kin hk (thn (ha pos pins s σ H _ I h) fun us s1 ⟨vs, H1, I1, r, q⟩ => ⟨I1.kIn, ?_⟩) he hpl
  exact run_fn F hr hb hd hx I1 r q
structure Mk (K : PySem.W.Frag) (C f : Addr) : Prop where
  makes : PySem.W.makesIn K C = true
  init : PySem.W.findIn K (.ref C) "__init__" = some (some (.ref f))
  fn : PySem.W.isFn K (.ref f) = true
  kp : PySem.W.keepIn K (.ref C) = true
end
section
variable {X : Cx} {CX : CXT} {k : Nat} {f C : Addr} {fd : FuncData} {ps ks : List Str} {sp : Sp} {E : XK} {x m : Str} {p pos apos kpos : Pos} {e o : Expr} {es : List Expr} {kws : List Keyword} {te ta : TE} {t tk : TA} {nm : Option Str}
structure KBinds (K : PySem.W.Frag) (fd : FuncData) (ps ks : List Str) (g : List Value → List Value → List Value) (gV : List V → List V → List V) : Prop where
  to : ∀ (s : Shared) (us ws : List Value), K.In s.heap → (g us ws).length = ps.length → BindsTo s fd ⟨us, ks.zip ws⟩ (ps.zip (g us ws))
  rel : ∀ {vs : List V} {us : List Value} {zs : List V} {ws : List Value}, Vals vs us → Vals zs ws → Vals (gV vs zs) (g us ws)
variable {g : List Value → List Value → List Value} {gV : List V → List V → List V}
end
structure FnScope (N P : List Str) (sc : Scope) : Prop where
  kind : sc.kind = .function
  co : sc.isCoroutine = false
  gen : sc.isGenerator = false
  nd : N.Nodup
  pre : N.take P.length = P
  par : ∀ x ∈ P, sc.names.lookup x = some .local ∨ sc.names.lookup x = some .cell
  nofree : ∀ y ∈ sc.names, y.2 ≠ .free
theorem bindL_out {kindOf : Str → Option NameKind} {x : Str} : ∀ {binds : List (Str × Value)} {m : Str → Option Value}, (∀ v, (x, v) ∉ binds) → bindL kindOf binds m x = m x
  | [], _, _ => rfl
  | (n, v) :: r, m, h => by
    unfold bindL
    rw [bindL_out fun w hw => h w (List.mem_cons_of_mem _ hw)]
    split
    · have : x ≠ n := by rintro rfl; exact h v List.mem_cons_self
      simp [this]
    · rfl
theorem bindC_out {kindOf : Str → Option NameKind} {x : Str} : ∀ {binds : List (Str × Value)} {m : Str → Option Value}, (∀ v, (x, v) ∉ binds) → bindC kindOf binds m x = m x
  | [], _, _ => rfl
  | (n, v) :: r, m, h => by
    unfold bindC
    rw [bindC_out fun w hw => h w (List.mem_cons_of_mem _ hw)]
    split
    · rfl
    · have : x ≠ n := by rintro rfl; exact h v List.mem_cons_self
      simp [this]
theorem bindL_get {kindOf : Str → Option NameKind} {x : Str} {v : Value} : ∀ {P : List Str} {vs : List Value} {i : Nat} {m : Str → Option Value}, P.Nodup → P[i]? = some x → vs[i]? = some v → kindOf x = some .local →
    bindL kindOf (P.zip vs) m x = some v
  | [], _, _, _, _, h, _, _ => by simp at h
  | _ :: _, [], _, _, _, _, h, _ => by simp at h
  | p :: P, w :: vs, 0, m, nd, h1, h2, hk => by
    simp at h1 h2; subst h1; subst h2
    show bindL kindOf ((p, w) :: P.zip vs) m p = _
    unfold bindL
    rw [bindL_out fun v hv => (List.nodup_cons.mp nd).1 (List.of_mem_zip hv).1, if_pos hk]
    simp
  | p :: P, w :: vs, i + 1, m, nd, h1, h2, hk => by
    show bindL kindOf ((p, w) :: P.zip vs) m x = _
    unfold bindL
    exact bindL_get (i := i) (List.nodup_cons.mp nd).2 (by simpa using h1) (by simpa using h2) hk
theorem bindC_get {kindOf : Str → Option NameKind} {x : Str} {v : Value} : ∀ {P : List Str} {vs : List Value} {i : Nat} {m : Str → Option Value}, P.Nodup → P[i]? = some x → vs[i]? = some v → kindOf x ≠ some .local →
    bindC kindOf (P.zip vs) m x = some v
  | [], _, _, _, _, h, _, _ => by simp at h
  | _ :: _, [], _, _, _, _, h, _ => by simp at h
  | p :: P, w :: vs, 0, m, nd, h1, h2, hk => by
    simp at h1 h2; subst h1; subst h2
    show bindC kindOf ((p, w) :: P.zip vs) m p = _
    unfold bindC
    rw [bindC_out fun v hv => (List.nodup_cons.mp nd).1 (List.of_mem_zip hv).1, if_neg hk]
    simp
  | p :: P, w :: vs, i + 1, m, nd, h1, h2, hk => by
    show bindC kindOf ((p, w) :: P.zip vs) m x = _
    unfold bindC
    exact bindC_get (i := i) (List.nodup_cons.mp nd).2 (by simpa using h1) (by simpa using h2) hk
def start (N : List Str) (vs : List V) : St := vs.map some ++ List.replicate (N.length - vs.length) none
def cxOf (CX : CXT) (P : Program) (w : World) (K : PySem.W.Frag) (mg : Str → Option Value) (base : Heap) (N : List Str) (qual : Str) (scope : Scope) (f : Addr) (cd : Value) (A : Around) (outer : List Env) (s : Shared) (H : Hp) (E : XK) : Cx where
  prog := P
  w := w
  K := K
  mg := mg
  base := base
  A := A.deeper (envOfC qual scope s.heap.objs.size f cd)
  N := N
  s₀ := s
  H₀ := H
  env := envOfC qual scope s.heap.objs.size f cd
  outer := outer
  stack := envOfC qual scope s.heap.objs.size f cd :: outer
  ex := []
  calm := true
  fn := fun _ => true
  pn := []
  xe := fun e s' => wpAny (model P w) (A.deeper (envOfC qual scope s.heap.objs.size f cd)) (leaving (envOfC qual scope s.heap.objs.size f cd) e) (fun _ s'' => CX outer H s E e s'') (fun e' s'' => CX outer H s E e' s'') s'
theorem cell_has {sc : Scope} {n : Nat} {x : Str} (h : sc.names.lookup x = some .cell) : ∃ c, (cellsFrom n sc.names []).lookup x = some c := by
  have q := PySem.W.cellsFrom_some sc.names n [] (.inl h)
  exact Option.isSome_iff_exists.mp q
theorem inv_start {CX : CXT} {P : Program} {w : World} {K : PySem.W.Frag} {mg : Str → Option Value} {base : Heap} {N ps : List Str} {qual : Str} {scope : Scope} {f : Addr} {cd : Value} {A : Around} {outer : List Env} {s s1 : Shared} {H : Hp} {E : XK} {us : List Value} {vs : List V}
    (S : FnScope N ps scope) (hd : A.handled = none) (e0 : Env0 P w K mg base A outer s H) (hl : vs.length = ps.length) (r : Vals vs us)
    (x : InCallC s s.heap.objs.size (bindL (envOfC qual scope s.heap.objs.size f cd).kindOf (ps.zip us) fun _ => none) (cellsFrom (s.heap.objs.size + 1) scope.names []) (bindC (envOfC qual scope s.heap.objs.size f cd).kindOf (ps.zip us) fun _ => none) s1) :
    Inv (cxOf CX P w K mg base N qual scope f cd A outer s H E) [] (start N vs) H s1 := by
  have hpl : ps.length ≤ N.length := by have := congrArg List.length S.pre; rw [List.length_take] at this; omega
  obtain ⟨h1, tk, rfl, hk⟩ := x.done
  have noA : ∀ b : Addr, b ∉ (cxOf CX P w K mg base N qual scope f cd A outer s H E).ex := fun b z => absurd (show b ∈ ([] : List Addr) from z) (by simp)
  refine ⟨⟨e0.mod, S.kind, rfl, rfl, Nat.le_refl _, fun y z c h1 h2 => ?_, fun y hy => ?_, fun y c _ h => ?_, fun _ => hd, Around.frames_deeper e0.frames, .inr ⟨rfl, rfl⟩, fun b z => absurd z (noA b), e0.bs, e0.bsz, fun b _ _ => noA b, fun b z => absurd z (noA b), e0.funs, e0.frf⟩,
    rfl, e0.bare, Un.kept hk, ⟨_, x.toInCall.ns, fun i y v h1 h2 h3 => ?_⟩, fun y c h => ⟨_, x.cell y c h⟩, e0.hok.fresh (Nat.le_refl _), fun y c h => ?_, fun p hp => absurd (show p ∈ ([] : List (Addr × Obj)) from hp) (by simp), e0.hok.kept hk, ?_⟩
  · exact name_of_addr x.apart (PySem.mem_of_lookup h1) (PySem.mem_of_lookup h2)
  · have hy : scope.names.lookup y = some .cell ∨ scope.names.lookup y = some .free := hy
    rcases hy with hy | hy
    · exact cell_has hy
    · exact absurd rfl (S.nofree _ (PySem.mem_of_lookup hy))
  · exact Nat.le_of_lt (x.above y c (PySem.mem_of_lookup h))
  · have hi : i < vs.length := by
      unfold start at h2
      by_cases hi : i < vs.length
      · exact hi
      · rw [List.getElem?_append_right (by simpa using hi)] at h2
        rw [List.getElem?_replicate] at h2
        split at h2 <;> cases h2
    have ha : vs[i]? = some v := by
      unfold start at h2
      rw [List.getElem?_append_left (by simpa using hi), List.getElem?_map] at h2
      cases e : vs[i]? with
      | none => rw [e] at h2; cases h2
      | some a => rw [e] at h2; cases h2; rfl
    obtain ⟨u, hu, rv⟩ := r.get ha
    have hp : ps[i]? = some y := by
      rw [← S.pre, List.getElem?_take_of_lt (by omega)]; exact h1
    have ndP : ps.Nodup := by rw [← S.pre]; exact S.nd.sublist (List.take_sublist _ _)
    refine ⟨u, rv, ?_⟩
    rcases S.par y (List.mem_of_getElem? hp) with k | k
    · exact .inl ⟨k, bindL_get ndP hp hu k⟩
    · obtain ⟨c, e⟩ := cell_has (n := s.heap.objs.size + 1) k
      refine .inr ⟨.inl k, c, e, ?_⟩
      have q := x.cell y c e
      rw [bindC_get ndP hp hu (by show scope.names.lookup y ≠ _; rw [k]; decide)] at q
      exact q
  · exact e0.hok.fresh (Nat.le_of_lt (x.above y c (PySem.mem_of_lookup h)))
  · unfold start
    show _ = N.length
    rw [List.length_append, List.length_map, List.length_replicate]
    omega
theorem fn_of {CX : CXT} {P : Program} {w : World} {K : PySem.W.Frag} {mg : Str → Option Value} {base : Heap} {k : Nat} {f : Addr} {name qual : Str} {params : Arguments} {body : List Stmt} {scope : Scope} {dV kV doc pm cdv ct oc : Value} {an od : Option Addr}
    {osl : Array (Option Value)} {N ps : List Str} {sp : Sp} (lk : K.lookup f = some ⟨oc, od, .func (PySem.W.fnOf name qual params body scope dV kV doc pm an cdv ct), osl⟩) (hcd : PySem.W.codeIn K cdv qual = true) (S : FnScope N ps scope)
    (len : ∀ vs H Q E, sp vs H Q E → vs.length = ps.length)
    (hbody : ∀ (A : Around) (outer : List Env) (s : Shared) (H : Hp) (vs : List V) (Q : VK) (E : XK), Room k (A.deeper (envOfC qual scope s.heap.objs.size f cdv)) → sp vs H Q E →
      ∃ t, PSs (cxOf CX P w K mg base N qual scope f cdv A outer s H E) body t ∧ t { nx := fun _ H' => Q .non H', rt := Q } (start N vs) H) :
    FnOk P w K mg base CX (k + 1) f (PySem.W.fnOf name qual params body scope dV kV doc pm an cdv ct) ps sp := by
  refine ⟨len, fun A outer s H args us vs Q E hr e0 hb r hsp => ?_⟩
  have hl := len _ _ _ _ hsp
  have KX : K.In s.heap := e0.mod.kin.keeps fun b o e => (e0.bs b o e).1
  have lim : s.heap.NoLimit := e0.mod.nolimit.keeps fun b o e => (e0.bs b o e).1
  have hkind : ∀ y ∈ ps.zip us, scope.names.lookup y.1 = some .local ∨ (scope.names.lookup y.1 = some .cell ∧ ((cellsFrom (s.heap.objs.size + 1) scope.names []).lookup y.1).isSome = true) := fun ⟨n, v⟩ hy => by
    rcases S.par n (List.of_mem_zip hy).1 with q | q
    · exact .inl q
    · exact .inr ⟨q, PySem.W.cellsFrom_some _ _ _ (.inl q)⟩
  refine codeAny_call_function hr.depth (KX _ _ lk) rfl S.co S.gen rfl (PySem.W.codeRec_of KX hcd) (hb _ _ _ _ ?_)
  refine wpAny_newFunctionEnv_cells S.kind hkind fun env he s1 x => ?_
  subst he
  refine ⟨lim.keeps x.toInCall.keep, codeAny_func ?_⟩
  obtain ⟨t, ht, hq⟩ := hbody A outer s H vs Q E (hr.deeper _) hsp
  have I : Inv (cxOf CX P w K mg base N qual scope f cdv A outer s H E) [] (start N vs) H s1 := inv_start S hr.hd e0 hl r x
  refine wpAny_mono (ht [] s1 (start N vs) H _ I hq) (fun fl s' hs => ?_) fun e s' hs => hs
  have fin : ∀ {σ' : St} {H' : Hp} {v : V} {u : Value}, Inv (cxOf CX P w K mg base N qual scope f cdv A outer s H E) [] σ' H' s' → RelV v u → Q v H' → CE outer P w H s Q u s' :=
    fun {σ' H' v u} J rv q => ⟨v, H', J.os, J.bare, J.base, J.hok, rv, q⟩
  cases fl with
  | ret u =>
    obtain ⟨v, σ', H', J, rv, q⟩ := hs
    exact fin J rv q
  | next =>
    obtain ⟨σ', H', J, q⟩ := hs
    exact fin (v := V.non) (u := Value.none) J rfl q
  | brk =>
    obtain ⟨_, _, _, q⟩ := hs
    exact False.elim q
  | cont =>
    obtain ⟨_, _, _, q⟩ := hs
    exact False.elim q
end L2
namespace L2
open PySem PySem.Spec PyProof.Rows
section
variable {X : Cx} {x : Str} {p pos : Pos} {e : Expr} {es : List Expr} {t : TA} {id T : String} {r : List V → Hp → VK → Prop}
def tCB (r : List V → Hp → VK → Prop) (t : TA) : TE := fun σ H Q => t σ H fun vs H1 => r vs H1 Q
theorem pe_callB (hc : CallR X (.builtin id) r) (hg : Gl X x) (hm : X.mg x = none) (hv : bootBuiltins x = some (.builtin id)) (ha : PA X (e :: es) t) (hn : x ≠ "__name__" := by decide) (hdb : (x == ("__debug__" : Str)) = false := by decide)
    (he : starEach (e :: es) X.env = (false, eval e X.env) :: starEach es X.env := by rfl) (hpl : (backTo pos (starEach es X.env)).any (·.1) = false := by rfl) : PE X (.Call (.Name x p) (e :: es) [] pos) (tCB r t) := by
  intro pins s σ H Q I h
  refine wpAny_Call_Name_kw (ld_blt I hg hm hv ?_ hn hdb)
  exact PyProof.Rows.callWith_builtin1 (thn (ha pos pins s σ H _ I h) fun us s1 ⟨vs, H1, I1, r1, q1⟩ => hc pins s1 σ H1 vs us Q I1 r1 q1) he hpl
theorem pe_callTy (hc : CallR X (.type T) r) (hg : Gl X x) (hm : X.mg x = none) (hv : bootBuiltins x = some (.type T)) (ha : PA X (e :: es) t) (hn : x ≠ "__name__" := by decide) (hdb : (x == ("__debug__" : Str)) = false := by decide)
    (he : starEach (e :: es) X.env = (false, eval e X.env) :: starEach es X.env := by rfl) (hpl : (backTo pos (starEach es X.env)).any (·.1) = false := by rfl) : PE X (.Call (.Name x p) (e :: es) [] pos) (tCB r t) := by
  intro pins s σ H Q I h
  refine wpAny_Call_Name_kw (ld_blt I hg hm hv ?_ hn hdb)
  exact PyProof.Rows.callWith_type1 (thn (ha pos pins s σ H _ I h) fun us s1 ⟨vs, H1, I1, r1, q1⟩ => hc pins s1 σ H1 vs us Q I1 r1 q1) he hpl
end
end L2
namespace HT
open PySem PyProof.Rows
def lexLt : List Int → List Int → Bool
  | [], [] => false
  | [], _ :: _ => true
  | _ :: _, [] => false
  | x :: xs, y :: ys => if x = y then lexLt xs ys else decide (x < y)
theorem lexLt_cons (x y : Int) (xs ys : List Int) : lexLt (x :: xs) (y :: ys) = if x = y then lexLt xs ys else decide (x < y) := rfl
theorem lexLt_nil_nil : lexLt [] [] = false := rfl
theorem lexLt_nil_cons (y : Int) (ys : List Int) : lexLt [] (y :: ys) = true := rfl
theorem lexLt_cons_nil (x : Int) (xs : List Int) : lexLt (x :: xs) [] = false := rfl
section
open PySem.SeqAt
open PySem.AutoSeq1 (wpAny_loadPart')
open PySem.MeetsSeq PySem.MeetsSeq2 PySem.MeetsSeq3
end
section
variable {prog : Program} {w : World} {A : Around} {E : Value → Shared → Prop} {s : Shared}
def sIx (n d : Nat) : Option Int → Nat
  | none => d
  | some v => if v < 0 then (v + (n : Int)).toNat else min v.toNat n
end
end HT
namespace L2
open PySem PySem.Spec PyProof.Rows
abbrev TO := St → Hp → (Option Int → Hp → Prop) → Prop
def PO (X : Cx) (e : Option Expr) (t : TO) : Prop :=
  ∀ (pins : List (Addr × Obj)) (s : Shared) (σ : St) (H : Hp) (Q : Option Int → Hp → Prop), Inv X pins σ H s → t σ H Q →
    wpAny (model X.prog X.w) X.A (evalPart e X.env) (fun u s' => ∃ o H', Inv X pins σ H' s' ∧ IsPart u o ∧ Q o H') X.xe s
def tNoPart : TO := fun _ H Q => Q none H
def tPart (t : TE) : TO := fun σ H Q => t σ H fun x H1 => ∃ i, x = .int i ∧ Q (some i) H1
theorem intsAre_of {ns : List Int} : ∀ {us : List Value}, Vals (ns.map V.int) us → IntsAre us ns := by
  induction ns with
  | nil => intro us r; rw [List.map_nil] at r; cases r; exact .nil
  | cons n ns ih =>
    intro us r
    rw [List.map_cons] at r
    cases r with
    | cons r1 r2 =>
      obtain ⟨t, e⟩ := r1
      subst e
      exact .cons n t (ih r2)
section
variable {X : Cx} {e : Expr} {te : TE} {lo hi : Option Expr} {tl th : TO} {pos p2 : Pos}
theorem po_none : PO X none tNoPart := by
  intro pins s σ H Q I h
  rw [evalPart_none]
  exact wpAny_pure ⟨none, H, I, .none, h⟩
theorem po_some (h : PE X e te) : PO X (some e) (tPart te) := by
  intro pins s σ H Q I hw
  rw [evalPart_some]
  refine thn (h pins s σ H _ I hw) fun u s1 ⟨x, H1, I1, r1, q1⟩ => ?_
  obtain ⟨i, rfl, q⟩ := q1
  obtain ⟨t, rfl⟩ := r1
  exact ⟨some i, H1, I1, .int i t, q⟩
def SlR (X : Cx) (r : V → Option Int → Option Int → Hp → VK → Prop) : Prop :=
  ∀ (pins : List (Addr × Obj)) (s : Shared) (σ : St) (H : Hp) (x : V) (v vl vu : Value) (lo hi : Option Int) (sl : Addr) (Q : VK), Inv X pins σ H s → RelV x v → s.heap.IsSliceOf sl vl vu .none → IsPart vl lo → IsPart vu hi → r x lo hi H Q →
    ∃ T id, typeLookup (.type T) "__getitem__" = pure (some (.builtin id)) ∧ s.TypeIs v T ∧ wpAny (model X.prog X.w) X.A (getItem v (.ref sl)) (EP X pins σ Q) X.xe s
def tSl (r : V → Option Int → Option Int → Hp → VK → Prop) (te : TE) (tl th : TO) : TE := fun σ H Q => te σ H fun x H1 => tl σ H1 fun l H2 => th σ H2 fun u H3 => r x l u H3 Q
theorem pe_slice {r : V → Option Int → Option Int → Hp → VK → Prop} (hr : SlR X r) (he : PE X e te) (hl : PO X lo tl) (hu : PO X hi th) : PE X (.Subscript e (.Slice lo hi none p2) pos) (tSl r te tl th) := by
  intro pins s σ H Q I h
  refine Subscript_ (thn (he pins s σ H _ I h) fun v s1 ⟨x, H1, I1, r1, q1⟩ => ?_)
  refine wpAny_Slice (thn (hl pins s1 σ H1 _ I1 q1) fun vl s2 ⟨l, H2, I2, pl, q2⟩ => thn (hu pins s2 σ H2 _ I2 q2) fun vu s3 ⟨u, H3, I3, pu, q3⟩ => ?_)
  rw [evalPart_none]
  refine wpAny_pure ?_
  have I4 : Inv X pins σ H3 { s3 with heap := s3.heap.push { cls := .type "slice", data := .fields #[vl, vu, .none] } } := I3.kept (t' := s3.toks) fun b ob q => Heap.get?_push_of_some _ q
  obtain ⟨T, id, hT, ht, hg⟩ := hr pins { s3 with heap := s3.heap.push { cls := .type "slice", data := .fields #[vl, vu, .none] } } σ H3 x v vl vu l u s3.heap.objs.size Q I4 r1 (Heap.IsSliceOf.new ..) pl pu q3
  show wpAny (model X.prog X.w) X.A (subscriptTail e (.Slice lo hi none p2) v (.ref s3.heap.objs.size)) (EP X pins σ Q) X.xe { s3 with heap := s3.heap.push { cls := .type "slice", data := .fields #[vl, vu, .none] } }
  exact tail_any (ops := [.ref s3.heap.objs.size, v]) ht hT hg (by with_unfolding_all rfl)
def cutV (xs : List V) (lo hi : Option Int) : List V := (xs.drop (HT.sIx xs.length 0 lo)).take (HT.sIx xs.length xs.length hi - HT.sIx xs.length 0 lo)
theorem cutV_length (xs : List V) (lo hi : Option Int) : (cutV xs lo hi).length ≤ xs.length := by
  unfold cutV
  rw [List.length_take, List.length_drop]
  omega
end
end L2
namespace L2
open PySem PySem.Spec PyProof.Rows
def ixN (n : Nat) (i : Int) : Option Nat := if 0 ≤ i then (if i < n then some i.toNat else none) else if -(n : Int) ≤ i then some (i + n).toNat else none
def atI {α : Type} (xs : List α) (i : Int) : Option α := (ixN xs.length i).bind fun j => xs[j]?
theorem ixN_seq {n : Nat} {i : Int} {j : Nat} (h : ixN n i = some j) : seqIndex? i n = some j ∧ j < n ∧ -(n : Int) ≤ i ∧ i < n := by
  unfold ixN at h
  by_cases h0 : 0 ≤ i
  · rw [if_pos h0] at h
    by_cases h1 : i < n
    · rw [if_pos h1] at h
      have e : i.toNat = j := Option.some.inj h
      exact ⟨by rw [seqIndex_of h0 h1, e], by omega, by omega, h1⟩
    · rw [if_neg h1] at h; cases h
  · rw [if_neg h0] at h
    by_cases h1 : -(n : Int) ≤ i
    · rw [if_pos h1] at h
      have e : (i + n).toNat = j := Option.some.inj h
      exact ⟨by rw [seqIndex_neg (by omega) h1, e], by omega, h1, by omega⟩
    · rw [if_neg h1] at h; cases h
theorem atI_get {α : Type} {xs : List α} {i : Int} {v : α} (h : atI xs i = some v) : ∃ j, seqIndex? i xs.length = some j ∧ xs[j]? = some v ∧ j < xs.length ∧ -(xs.length : Int) ≤ i ∧ i < xs.length := by
  unfold atI at h
  cases e : ixN xs.length i with
  | none => rw [e] at h; cases h
  | some j =>
    rw [e] at h
    obtain ⟨h1, h2, h3, h4⟩ := ixN_seq e
    exact ⟨j, h1, h, h2, h3, h4⟩
theorem atI_nat {α : Type} {xs : List α} {j : Nat} {v : α} (h : xs[j]? = some v) : atI xs (j : Int) = some v := by
  have hj : j < xs.length := (List.getElem?_eq_some_iff.mp h).1
  have e : ixN xs.length (j : Int) = some j := by
    unfold ixN
    rw [if_pos (by omega), if_pos (by omega)]; simp
  unfold atI; rw [e]; exact h
def PlainIx (b : Expr) : Prop := ∀ o i, subscripted b false o i = operate [o, i] (getItem o i)
def IxR (X : Cx) (r : R2) : Prop :=
  ∀ (value slice : Expr) (pins : List (Addr × Obj)) (s : Shared) (σ : St) (H : Hp) (x y : V) (v u : Value) (Q : VK), Inv X pins σ H s → RelV x v → RelV y u → r x y H Q →
    subscripted slice false v u = operate [v, u] (getItem v u) → wpAny (model X.prog X.w) X.A (subscriptTail value slice v u) (EP X pins σ Q) X.xe s
def MtR (X : Cx) (id : String) (r : V → List V → Hp → VK → Prop) : Prop :=
  ∀ (pins : List (Addr × Obj)) (s : Shared) (σ : St) (H : Hp) (x : V) (xs : List V) (v : Value) (us : List Value) (Q : VK), Inv X pins σ H s → RelV x v → Vals xs us → r x xs H Q →
    wpAny (model X.prog X.w) X.A (call (.builtin id) (v :: us)) (EP X pins σ Q) X.xe s
section
variable {X : Cx} {a b : Expr} {ta tb : TE} {pos : Pos}
theorem pe_ix {r : R2} (hr : IxR X r) (ha : PE X a ta) (hb : PE X b tb) (hs : PlainIx b) : PE X (.Subscript a b pos) (tOp r ta tb) := by
  intro pins s σ H Q I h
  exact Subscript_ (binT ha hb I h fun v u s2 x y H2 I2 rx ry q => hr a b pins s2 σ H2 x y v u Q I2 rx ry q (hs _ _))
def rIxL (K : PySem.W.Frag) : R2 := fun x y H Q => ∃ p xs i v, x = .ref p ∧ y = .int i ∧ SqL K H p xs ∧ atI xs i = some v ∧ Q v H
def rIxT (K : PySem.W.Frag) : R2 := fun x y H Q => ∃ p xs i v, x = .ref p ∧ y = .int i ∧ SqT K H p xs ∧ atI xs i = some v ∧ Q v H
def rIxS : R2 := fun x y H Q => ∃ z i c, x = .str z ∧ y = .int i ∧ z.length ≤ sizeLine ∧ atI z.cps.toList i = some c ∧ Q (.str ⟨#[c]⟩) H
theorem ix_list : IxR X (rIxL X.K) := by
  intro value slice pins s σ H x y v u Q I rx ry h hs
  obtain ⟨p, xs, i, z, rfl, rfl, hq, he, q⟩ := h
  cases rx
  obtain ⟨t, rfl⟩ := ry
  obtain ⟨its, r, pl, hz⟩ := I.list hq
  obtain ⟨j, h1, h2, h3, h4, h5⟩ := atI_get he
  obtain ⟨w, ew, rw'⟩ := r.get h2
  have hl := r.length
  have hn := line63
  have fin : EP X pins σ Q w s := ⟨z, H, I, rw', q⟩
  by_cases h0 : 0 ≤ i
  · have hj : i.toNat = j := by
      rw [seqIndex_of h0 h5] at h1
      exact Option.some.inj h1
    exact item_listR pl.isList h0 (by omega) (by rw [hj]; simpa using ew) fin hs
  · have hj : (i + (its.toArray.size : Int)).toNat = j := by
      rw [seqIndex_neg (by omega) h4] at h1
      rw [List.size_toArray, ← hl]
      exact Option.some.inj h1
    exact subscriptTail_builtinR (x := w) pl.isList.typeIs slot_list_getitem.lookup
      (wpAny_getItem_list_neg (Q := fun r s' => r = w ∧ EP X pins σ Q r s') pl.isList (by omega) (by rw [List.size_toArray] <;> omega) (by omega) (by rw [hj]; simpa using ew) ⟨rfl, fin⟩) hs
theorem ix_tup : IxR X (rIxT X.K) := by
  intro value slice pins s σ H x y v u Q I rx ry h hs
  obtain ⟨p, xs, i, z, rfl, rfl, hq, he, q⟩ := h
  cases rx
  obtain ⟨t, rfl⟩ := ry
  obtain ⟨its, r, pl, hz⟩ := I.tuple hq
  obtain ⟨j, h1, h2, h3, h4, h5⟩ := atI_get he
  obtain ⟨w, ew, rw'⟩ := r.get h2
  have hl := r.length
  have hn := line63
  have fin : EP X pins σ Q w s := ⟨z, H, I, rw', q⟩
  exact subscriptTail_builtinR (x := w) pl.typeIs slot_tuple_getitem.lookup
    (getItem_tuple (j := j) (Q := fun r s' => r = w ∧ EP X pins σ Q r s') pl (by omega) (by omega) (by rw [List.size_toArray, ← hl]; exact h1) (by simpa using ew) ⟨rfl, fin⟩) hs
theorem ix_str : IxR X rIxS := by
  intro value slice pins s σ H x y v u Q I rx ry h hs
  obtain ⟨z, i, c, rfl, rfl, hz, he, q⟩ := h
  obtain ⟨t, rfl⟩ := rx
  obtain ⟨t', rfl⟩ := ry
  obtain ⟨j, h1, h2, h3, h4, h5⟩ := atI_get he
  have hl : z.cps.toList.length = z.length := by simp [Str.length]
  rw [hl] at h1 h4 h5
  have hn := line63
  exact tail_any (typeIs_str s z t) slot_str_getitem.lookup (getItem_str (c := c) (by
    have e1 : decide (i < -(2 ^ 63 : Int)) = false := decide_eq_false (by omega)
    have e2 : decide (i ≥ 2 ^ 63) = false := decide_eq_false (by omega)
    rw [e1, e2, Bool.or_false]) (by rw [h1]; simpa using h2) ⟨.str ⟨#[c]⟩, H, I.tok _, ⟨_, rfl⟩, q⟩) hs
theorem mapSeq_set (its : List Value) (n j : Nat) (u : Value) : Obj.mapSeq (·.setIfInBounds j u) { cls := .type "list", data := .seq its.toArray n } = { cls := .type "list", data := .seq (its.set j u).toArray n } := by
  simp [Obj.mapSeq]
theorem Inv.lst {pins : List (Addr × Obj)} {σ : St} {H : Hp} {s : Shared} {p : Addr} {xs : List V} (I : Inv X pins σ H s) (h : H p = some (.lst xs)) :
    ∃ (its : List Value) (n : Nat), Vals xs its ∧ s.heap.get? p = some { cls := .type "list", data := .seq its.toArray n } ∧ xs.length ≤ sizeLine := by
  obtain ⟨z, its, n, r, e⟩ := I.hok p _ h
  exact ⟨its, n, r, e, z⟩
theorem Inv.lstUpd {pins : List (Addr × Obj)} {σ : St} {H : Hp} {s : Shared} {p : Addr} {xs ys : List V} {its its' : List Value} {n n' : Nat} {f : Obj → Obj} (I : Inv X pins σ H s) (h : H p = some (.lst xs))
    (ho : s.heap.get? p = some { cls := .type "list", data := .seq its.toArray n }) (hf : f { cls := .type "list", data := .seq its.toArray n } = { cls := .type "list", data := .seq its'.toArray n' }) (r : Vals ys its') (hz : ys.length ≤ sizeLine) (t : Nat) :
    Inv X pins σ (upd H p (.lst ys)) { s with heap := s.heap.update p f, toks := t } := by
  have e : (s.heap.update p f).get? p = some { cls := .type "list", data := .seq its'.toArray n' } := by
    rw [Heap.get?_update_self f ho (by rw [hf] <;> rfl), hf]
  refine I.write (x := p) (e := p) (by rw [h]; trivial) (.inl rfl) (fun b u hb q => (Heap.get?_update_other _ _ (Ne.symm hb)).trans q) ⟨_, e⟩ ?_
  exact ⟨hz, its', n', r, e⟩
def rSetL : V → V → V → Hp → (Hp → Prop) → Prop := fun o i v H Q => ∃ p xs k j, o = .ref p ∧ i = .int k ∧ H p = some (.lst xs) ∧ ixN xs.length k = some j ∧ Q (upd H p (.lst (xs.set j v)))
theorem set_list : PSet X rSetL := by
  intro pins s σ H o i v ov iv u Q I ro ri rv h
  obtain ⟨p, xs, k, j, rfl, rfl, hp, hj, q⟩ := h
  cases ro
  obtain ⟨t, rfl⟩ := ri
  obtain ⟨its, n, r, ho, hz⟩ := I.lst hp
  obtain ⟨h1, h2, h3, h4⟩ := ixN_seq hj
  have hl := r.length
  have hn := line63
  have I' : Inv X pins σ (upd H p (.lst (xs.set j v))) { s with heap := s.heap.update p (Obj.mapSeq (·.setIfInBounds j u)) } :=
    I.lstUpd hp ho (mapSeq_set its n j u) (r.set rv j) (by rw [List.length_set]; exact hz) s.toks
  by_cases h0 : 0 ≤ k
  · have hk : k.toNat = j := by
      rw [seqIndex_of h0 h4] at h1
      exact Option.some.inj h1
    exact PySem.W.ki_setAt ho h0 (by omega) (by rw [List.size_toArray, ← hl]; exact h4) (by rw [hk]; exact ⟨_, I', q⟩)
  · have hk : (k + (its.toArray.size : Int)).toNat = j := by
      rw [seqIndex_neg (by omega) h3] at h1
      rw [List.size_toArray, ← hl]
      exact Option.some.inj h1
    exact PySem.W.ki_setBack ho (by omega) (by rw [List.size_toArray, ← hl]; exact h3) (by omega) (by rw [hk]; exact ⟨_, I', q⟩)
theorem slice_bounds (lo hi : Option Int) (n : Nat) : (sliceBounds lo hi none n).1 = ((HT.sIx n 0 lo : Nat) : Int) ∧ (sliceBounds lo hi none n).2.1 = ((HT.sIx n n hi : Nat) : Int) ∧ (sliceBounds lo hi none n).2.2 = 1 := by
  refine ⟨?_, ?_, rfl⟩
  · cases lo with
    | none => simp [sliceBounds, HT.sIx]
    | some i =>
      simp only [sliceBounds, HT.sIx, Option.getD_none, show (1 : Int) > 0 by decide, if_true]
      by_cases h : i < 0
      · simp only [h, if_true] <;> omega
      · simp only [h, if_false] <;> omega
  · cases hi with
    | none => simp [sliceBounds, HT.sIx]
    | some i =>
      simp only [sliceBounds, HT.sIx, Option.getD_none, show (1 : Int) > 0 by decide, if_true]
      by_cases h : i < 0
      · simp only [h, if_true] <;> omega
      · simp only [h, if_false] <;> omega
theorem slicePick_cut (its : List Value) (lo hi : Option Int) : slicePick its.toArray lo hi none = ((its.drop (HT.sIx its.length 0 lo)).take (HT.sIx its.length its.length hi - HT.sIx its.length 0 lo)).toArray := by
  obtain ⟨h1, h2, h3⟩ := slice_bounds lo hi its.toArray.size
  unfold slicePick
  rw [h1, h2, h3]
  simp only [sliceRange_one, pick_run, List.size_toArray] <;> rfl
def rSlL (K : PySem.W.Frag) : V → Option Int → Option Int → Hp → VK → Prop := fun x lo hi H Q => ∃ a xs, x = .ref a ∧ SqL K H a xs ∧ ∀ p, H p = none → Q (.ref p) (upd H p (.lst (cutV xs lo hi)))
theorem sl_list : SlR X (rSlL X.K) := by
  intro pins s σ H x v vl vu lo hi sl Q I rx hs pl pu h
  obtain ⟨a, xs, rfl, hx, q⟩ := h
  cases rx
  obtain ⟨its, r, ht, hz⟩ := I.list hx
  have hlen := r.length
  refine ⟨"list", _, slot_list_getitem.lookup, ht.isList.typeIs, ?_⟩
  refine wpAny_getItem_list_slice ht.isList hs pl pu .none (by simp) ?_ (by rw [List.size_toArray] <;> omega)
  rw [slicePick_cut, ← hlen]
  refine ⟨.ref s.heap.objs.size, _, I.laid (t' := s.toks) (o := .lst (cutV xs lo hi)) (fun b ob q => Heap.get?_push_of_some _ q) (Nat.le_refl _) ?_, rfl, q _ (I.hok.fresh (Nat.le_refl _))⟩
  exact ⟨Nat.le_trans (cutV_length xs lo hi) hz, _, 0, (r.drop (HT.sIx xs.length 0 lo)).take (HT.sIx xs.length xs.length hi - HT.sIx xs.length 0 lo), Heap.get?_push_size _ rfl⟩
theorem call_len_seq : CallR X (.builtin "len") (fun xs H Q => ∃ p ys, xs = [.ref p] ∧ (SqL X.K H p ys ∨ SqT X.K H p ys) ∧ Q (.int ys.length) H) := by
  intro pins s σ H xs us Q I r h
  obtain ⟨p, ys, rfl, hq, q⟩ := h
  obtain ⟨u, rfl, rx⟩ := vals1 r
  cases rx
  have hn := line63
  rcases hq with hq | hq
  · obtain ⟨its, r', pl, hz⟩ := I.list hq
    have hlen := r'.length
    exact Calls.call_len_list pl.isList (by simp only [List.size_toArray] <;> omega) ⟨.int ys.length, H, I.tok _, ⟨s.toks + 1, by rw [List.size_toArray, hlen]⟩, q⟩
  · obtain ⟨its, r', pl, hz⟩ := I.tuple hq
    have hlen := r'.length
    exact len_tuple pl (by simp only [List.size_toArray] <;> omega) ⟨.int ys.length, H, I.tok _, ⟨s.toks + 1, by rw [List.size_toArray, hlen]⟩, q⟩
theorem call_list_of : CallR X (.type "list") (fun xs H Q => ∃ p ys, xs = [.ref p] ∧ (SqL X.K H p ys ∨ SqT X.K H p ys) ∧ ∀ l, H l = none → Q (.ref l) (upd H l (.lst ys))) := by
  intro pins s σ H xs us Q I r h
  obtain ⟨p, ys, rfl, hq, q⟩ := h
  obtain ⟨u, rfl, rx⟩ := vals1 r
  cases rx
  have fin : ∀ (its : List Value), Vals ys its → ys.length ≤ sizeLine → ∀ (h' : Heap) (c' : Nat), (∀ b o', s.heap.get? b = some o' → h'.get? b = some o') →
      h'.get? s.heap.objs.size = some { cls := .type "list", dict := none, data := .seq its.toArray c', slots := #[] } → EP X pins σ Q (.ref s.heap.objs.size) { s with heap := h' } := fun its r' hz h' c' kp e =>
    ⟨.ref s.heap.objs.size, _, I.laid (t' := s.toks) kp (Nat.le_refl _) (show ObjOk X.prog X.w _ h' _ (.lst ys) from ⟨hz, its, c', r', e⟩), rfl, q _ (I.hok.fresh (Nat.le_refl _))⟩
  rcases hq with hq | hq
  · obtain ⟨its, r', pl, hz⟩ := I.list hq
    have hlen := r'.length
    obtain ⟨o, ho, hc, n, hd⟩ := pl.isList
    exact call_list_seq p (.inl rfl) ho hc hd (fun h' c' kp e => fin its r' hz h' c' kp e) (by simp only [List.size_toArray] <;> omega)
  · obtain ⟨its, r', pl, hz⟩ := I.tuple hq
    have hlen := r'.length
    obtain ⟨o, ho, hc, n, hd⟩ := pl
    exact call_list_seq p (.inr rfl) ho hc hd (fun h' c' kp e => fin its r' hz h' c' kp e) (by simp only [List.size_toArray] <;> omega)
theorem call_tuple_of : CallR X (.type "tuple") (fun xs H Q => ∃ p ys, xs = [.ref p] ∧ ((SqL X.K H p ys ∧ ∀ l, H l = none → Q (.ref l) (upd H l (.tup ys))) ∨ (SqT X.K H p ys ∧ Q (.ref p) H))) := by
  intro pins s σ H xs us Q I r h
  obtain ⟨p, ys, rfl, h⟩ := h
  obtain ⟨u, rfl, rx⟩ := vals1 r
  cases rx
  rcases h with ⟨hq, q⟩ | ⟨hq, q⟩
  · obtain ⟨its, r', pl, hz⟩ := I.list hq
    have hlen := r'.length
    refine call_tuple_list pl.isList (fun h' kp => ?_) (by simp only [List.size_toArray] <;> omega)
    have I1 : Inv X pins σ H { s with heap := h' } := I.kept (t' := s.toks) kp
    have I2 : Inv X pins σ (upd H h'.objs.size (.tup ys)) { s with heap := h'.push { cls := .type "tuple", data := .seq its.toArray } } :=
      I1.laid (t' := s.toks) (fun b o e => Heap.get?_push_of_some _ e) (Nat.le_refl _) (show ObjOk X.prog X.w _ _ _ (.tup ys) from ⟨hz, its, r', IsTup.new _ _⟩)
    exact ⟨.ref h'.objs.size, _, I2, rfl, q _ (I1.hok.fresh (Nat.le_refl _))⟩
  · obtain ⟨its, r', pl, hz⟩ := I.tuple hq
    exact call_tuple_same pl ⟨.ref p, H, I, rfl, q⟩
def tyV (K : PySem.W.Frag) (T : String) (x : V) (H : Hp) : Prop := match x with
  | .str _ => T = "str"
  | .int _ => T = "int"
  | .ref p => (T = "list" ∧ ∃ xs, SqL K H p xs) ∨ (T = "tuple" ∧ ∃ o, K.lookup p = some o ∧ o.cls = .type "tuple" ∧ o.dict = none) ∨
      (T = "dict" ∧ ((∃ kvs, H p = some (.dK kvs)) ∨ ∃ kvs, H p = some (.dT kvs))) ∨ (T = "set" ∧ ∃ S n, H p = some (.set S n))
  | _ => False
theorem tyV_is {pins : List (Addr × Obj)} {σ : St} {H : Hp} {s : Shared} {T : String} {x : V} {v : Value} (I : Inv X pins σ H s) (r : RelV x v) (ty : tyV X.K T x H) :
    s.TypeIs v T ∧ ∀ a, v = .ref a → ∃ ob, s.heap.get? a = some ob ∧ ob.dict = none := by
  cases x with
  | str z =>
    obtain ⟨t, rfl⟩ := r
    cases (show T = "str" from ty)
    exact ⟨typeIs_str s z t, fun _ e => nomatch e⟩
  | int i =>
    obtain ⟨t, rfl⟩ := r
    cases (show T = "int" from ty)
    exact ⟨typeIs_int s i t, fun _ e => nomatch e⟩
  | ref p =>
    cases r
    rcases ty with ⟨rfl, xs, hq⟩ | ⟨rfl, o, hk, hc, hd⟩ | ⟨rfl, hk⟩ | ⟨rfl, S, n, hk⟩
    · obtain ⟨its, _, pl, _⟩ := I.list hq
      refine ⟨pl.isList.typeIs, fun a e => ?_⟩
      cases e
      obtain ⟨o, n, e, c, hd, _⟩ := pl
      exact ⟨o, e, hd⟩
    · refine ⟨⟨o, I.kIn p o hk, hc⟩, fun a e => ?_⟩
      cases e
      exact ⟨o, I.kIn _ o hk, hd⟩
    · have z : ∃ o, s.heap.get? p = some o ∧ o.ExactDict := by
        rcases hk with ⟨kvs, hk⟩ | ⟨kvs, hk⟩
        · obtain ⟨_, _, _, _, o, _, _, e, ex, _⟩ := I.hok p _ hk
          exact ⟨o, e, ex⟩
        · obtain ⟨_, _, _, _, o, _, _, e, ex, _⟩ := I.hok p _ hk
          exact ⟨o, e, ex⟩
      obtain ⟨o, e, ex⟩ := z
      refine ⟨⟨o, e, ex.1⟩, fun a e2 => ?_⟩
      cases e2
      exact ⟨o, e, ex.2.1⟩
    · obtain ⟨o, _, _, _, e, ex, _⟩ := I.hok p _ hk
      refine ⟨⟨o, e, ex.1⟩, fun a e2 => ?_⟩
      cases e2
      exact ⟨o, e, ex.2.1⟩
  | _ => exact False.elim ty
def tBM0 (K : PySem.W.Frag) (T : String) (r : V → List V → Hp → VK → Prop) (to : TE) : TE := fun σ H Q => to σ H fun x H1 => tyV K T x H1 ∧ r x [] H1 Q
def tBM (K : PySem.W.Frag) (T : String) (r : V → List V → Hp → VK → Prop) (to : TE) (t : TA) : TE := fun σ H Q => to σ H fun x H1 => tyV K T x H1 ∧ t σ H1 fun xs H2 => r x xs H2 Q
variable {o e : Expr} {es : List Expr} {to : TE} {t : TA} {name : Str} {apos cpos : Pos} {T id : String} {r : V → List V → Hp → VK → Prop}
theorem pe_bm0 (pa : PlainAttrs T) (slot : Slot T name id) (hty : typeOf (.builtin id) = pure (.type "method_descriptor")) (hm : MtR X id r) (ho : PE X o to)
    (hbase : attributeBase o name X.env (eval o X.env) = eval o X.env := by rfl) (hline : (apos.endLine == cpos.line) = true := by rfl) : PE X (.Call (.Attribute o name apos) [] [] cpos) (tBM0 X.K T r to) := by
  intro pins s σ H Q I h
  refine wpAny_Call_method0_late hbase hline (thn (ho pins s σ H _ I h) fun v s1 ⟨x, H1, I1, r1, ty, q1⟩ => ?_)
  obtain ⟨h1, h2⟩ := tyV_is I1 r1 ty
  exact ⟨T, id, pa, slot, hty, h1, h2, Calls.callWith_builtin rfl (PySem.evalArgs_none (hm pins s1 σ H1 x [] v [] Q I1 r1 .nil q1))⟩
theorem pe_bm (pa : PlainAttrs T) (slot : Slot T name id) (hty : typeOf (.builtin id) = pure (.type "method_descriptor")) (hm : MtR X id r) (ho : PE X o to) (ha : PA X (e :: es) t)
    (hbase : attributeBase o name X.env (eval o X.env) = eval o X.env := by rfl)
    (hfew : ((backTo cpos (starEach (e :: es) X.env)).all (fun x => !x.1) && (backToKw cpos (keywordEach [] X.env)).all (fun x => x.1.isSome)
      && decide ((e :: es).length + ([] : List Keyword).length + (if ([] : List Keyword).isEmpty then 0 else 1) < 30)) = true := by rfl)
    (hline : (apos.endLine == cpos.line) = true := by rfl) (hs : starEach (e :: es) X.env = (false, eval e X.env) :: starEach es X.env := by rfl) (hplain : (backTo cpos (starEach es X.env)).any (·.1) = false := by rfl) :
    PE X (.Call (.Attribute o name apos) (e :: es) [] cpos) (tBM X.K T r to t) := by
  intro pins s σ H Q I h
  refine wpAny_Call_method_late hbase hfew hline rfl (thn (ho pins s σ H _ I h) fun v s1 ⟨x, H1, I1, r1, ty, q1⟩ => ?_)
  obtain ⟨h1, h2⟩ := tyV_is I1 r1 ty
  refine ⟨T, id, pa, slot, hty, h1, h2, ?_⟩
  have hA := ha cpos pins s1 σ H1 _ I1 q1
  rw [hs] at hA ⊢
  refine Calls.callWith_builtin (by show (false || (backTo cpos (starEach es X.env)).any (·.1)) = false; rw [hplain] <;> rfl) (Calls.evalArgs_plain ?_)
  exact thn hA fun us s2 ⟨vs, H2, I2, r2, q2⟩ => hm pins s2 σ H2 x vs v us Q I2 r1 r2 q2
end
end L2
namespace L2
open PySem PySem.Spec PyProof.Rows
def MtM (X : Cx) (id : String) (r : V → List V → Hp → VK → Prop) : Prop :=
  ∀ (pins : List (Addr × Obj)) (s : Shared) (σ : St) (H : Hp) (x : V) (xs : List V) (v : Value) (us : List Value) (Q : VK), Inv X pins σ H s → RelV x v → Vals xs us → r x xs H Q →
    wpAny (model X.prog X.w) X.A (call (.builtin id) (v :: us)) (EP X pins σ Q) X.xe s
theorem Vals.one : ∀ {x : V} {us : List Value}, Vals [x] us → ∃ u, us = [u] ∧ RelV x u
  | _, _, .cons r .nil => ⟨_, rfl, r⟩
theorem Vals.zero : ∀ {us : List Value}, Vals [] us → us = []
  | _, .nil => rfl
theorem Vals.dropLast {xs : List V} {us : List Value} (h : Vals xs us) : Vals xs.dropLast us.dropLast := by
  induction h with
  | nil => exact .nil
  | cons r t ih =>
    cases t with
    | nil => exact .nil
    | cons q t' => exact .cons r ih
theorem erase_last {α : Type} (l : List α) : l.eraseIdx (l.length - 1) = l.dropLast := by
  induction l with
  | nil => rfl
  | cons a r ih =>
    cases r with
    | nil => rfl
    | cons b r =>
      have e : (a :: b :: r).length - 1 = ((b :: r).length - 1) + 1 := by
        have h1 : (a :: b :: r).length = r.length + 2 := rfl
        have h2 : (b :: r).length = r.length + 1 := rfl
        omega
      rw [e, List.eraseIdx_cons_succ, ih]
      all_goals rfl
section
variable {X : Cx} {pins : List (Addr × Obj)} {σ : St} {H : Hp} {s : Shared} {l b : Addr} {xs ys zs : List V}
theorem Inv.lset {its its' : List Value} {n : Nat} {f : Array Value → Array Value} {t' : Nat} (I : Inv X pins σ H s) (hH : H l = some (.lst xs))
    (e : s.heap.get? l = some { cls := .type "list", data := .seq its.toArray n }) (hf : f its.toArray = its'.toArray) (hv : Vals ys its') (hz : ys.length ≤ sizeLine) :
    Inv X pins σ (upd H l (.lst ys)) { s with heap := s.heap.update l (Obj.mapSeq f), toks := t' } := by
  have q := PySem.IsL.update e f
  rw [hf] at q
  refine I.write (x := l) (e := l) (by rw [hH]; exact trivial) (.inl rfl) (fun b' u hb hu => (Heap.get?_update_other s.heap (Obj.mapSeq f) (Ne.symm hb)).trans hu) ⟨_, q⟩ ?_
  exact ⟨hz, its', _, hv, q⟩
theorem Inv.lnew {its : List Value} {t' : Nat} (I : Inv X pins σ H s) (hv : Vals ys its) (hz : ys.length ≤ sizeLine) :
    Inv X pins σ (upd H s.heap.objs.size (.lst ys)) { s with heap := s.heap.push { cls := .type "list", data := .seq its.toArray }, toks := t' } :=
  I.laid (fun _ _ q => Heap.get?_push_of_some _ q) (Nat.le_refl _) ⟨hz, its, 0, hv, Heap.get?_push_size _ rfl⟩
theorem Inv.fresh (I : Inv X pins σ H s) : H s.heap.objs.size = none := I.hok.fresh (Nat.le_refl _)
theorem Inv.lstM (I : Inv X pins σ H s) (hH : H l = some (.lst xs)) : xs.length ≤ sizeLine ∧ ∃ (its : List Value) (n : Nat), Vals xs its ∧ xs.length = its.length ∧ s.heap.get? l = some { cls := .type "list", data := .seq its.toArray n } := by
  obtain ⟨z, its, n, r, e⟩ := I.hok l _ hH
  exact ⟨z, its, n, r, r.length, e⟩
end
section
variable {X : Cx}
def rAppend : V → List V → Hp → VK → Prop := fun x vs H Q => ∃ l xs y, x = .ref l ∧ vs = [y] ∧ H l = some (.lst xs) ∧ xs.length < sizeLine ∧ Q .non (upd H l (.lst (xs ++ [y])))
theorem mt_append : MtM X "list.append" rAppend := by
  intro pins s σ H x vs v us Q I rx rv h
  obtain ⟨l, xs, y, rfl, rfl, hH, hz, q⟩ := h
  cases rx
  obtain ⟨u, rfl, ru⟩ := rv.one
  obtain ⟨z, its, n, r, hl, e⟩ := I.lstM hH
  refine call_meets F.slot_list_append ⟨_, e, rfl⟩ F.entry_list_append (F.args_list_append_2 _ _) (PySem.list_append l its.toArray n u (by rw [List.size_toArray]; omega)) ⟨e, ?_⟩
  refine ⟨.non, _, I.lset (its' := its ++ [u]) hH e (by simp) (r.append (.cons ru .nil)) ?_, rfl, q⟩
  rw [List.length_append, List.length_singleton]
  omega
def rPop : V → List V → Hp → VK → Prop := fun x vs H Q => ∃ l xs y, x = .ref l ∧ vs = [] ∧ H l = some (.lst xs) ∧ xs[xs.length - 1]? = some y ∧ Q y (upd H l (.lst xs.dropLast))
theorem mt_pop : MtM X "list.pop" rPop := by
  intro pins s σ H x vs v us Q I rx rv h
  obtain ⟨l, xs, y, rfl, rfl, hH, hy, q⟩ := h
  cases rx
  have hus := rv.zero
  subst hus
  obtain ⟨z, its, n, r, hl, e⟩ := I.lstM hH
  obtain ⟨u, hu, ru⟩ := r.get hy
  have hy' : its.toArray[its.toArray.size - 1]? = some u := by
    show its.toArray[its.length - 1]? = some u
    rw [← Array.getElem?_toList, ← hl]
    exact hu
  refine call_meets F.slot_list_pop ⟨_, e, rfl⟩ F.entry_list_pop (F.args_list_pop_1 _) (MeetsSeq.list_pop_last l its.toArray n u hy' (by rw [List.size_toArray]; omega)) ⟨e, ?_⟩
  refine ⟨y, _, I.lset (its' := its.dropLast) hH e ?_ r.dropLast ?_, ru, q⟩
  · show its.toArray.eraseIdxIfInBounds (its.toArray.size - 1) = its.dropLast.toArray
    rw [List.size_toArray, List.eraseIdxIfInBounds_toArray, erase_last]
  · rw [List.length_dropLast]
    omega
def rCat : R2 := fun x y H Q => ∃ l b xs zs, x = .ref l ∧ y = .ref b ∧ H l = some (.lst xs) ∧ H b = some (.lst zs) ∧ xs.length + zs.length ≤ sizeLine ∧ ∀ p, H p = none → Q (.ref p) (upd H p (.lst (xs ++ zs)))
theorem op_cat : OpR X (binaryOp .Add) rCat := by
  intro pins s σ H x y v u Q I rx ry h
  obtain ⟨l, b, xs, zs, rfl, rfl, hH, hB, hz, q⟩ := h
  cases rx
  cases ry
  obtain ⟨z, its, n, r, hl, e⟩ := I.lstM hH
  obtain ⟨z2, its2, n2, r2, hl2, e2⟩ := I.lstM hB
  refine PySem.P.add_list e e2 ?_ (by rw [List.size_toArray, List.size_toArray]; omega)
  have ea : its.toArray ++ its2.toArray = (its ++ its2).toArray := by simp
  rw [ea]
  exact ⟨.ref _, _, I.lnew (t' := s.toks) (r.append r2) (by rw [List.length_append]; omega), rfl, q _ I.fresh⟩
end
section
variable {prog : Program} {w : World} {A : Around} {E : Value → Shared → Prop} {s : Shared}
end
section
variable {X : Cx}
end
end L2
namespace L2
open PySem PySem.Spec PyProof.Rows
section
variable {κ : Type} [DecidableEq κ]
def valV (kvs : List (κ × V)) (k : κ) : Option V := (kvs.find? fun kv => decide (kv.1 = k)).map (·.2)
def putK (kvs : List (κ × V)) (k : κ) (v : V) : List (κ × V) :=
  if (kvs.any fun kv => decide (kv.1 = k)) = true then kvs.map (fun kv => if kv.1 = k then (kv.1, v) else kv) else kvs ++ [(k, v)]
def dropK (kvs : List (κ × V)) (k : κ) : List (κ × V) := kvs.filter fun kv => decide (kv.1 ≠ k)
theorem valV_pos {p : κ × V} {r : List (κ × V)} {k : κ} (e : p.1 = k) : valV (p :: r) k = some p.2 := by simp [valV, List.find?_cons, e]
theorem valV_neg {p : κ × V} {r : List (κ × V)} {k : κ} (e : ¬ p.1 = k) : valV (p :: r) k = valV r k := by simp [valV, List.find?_cons, e]
theorem valV_any (k : κ) : ∀ kvs : List (κ × V), (kvs.any fun kv => decide (kv.1 = k)) = (valV kvs k).isSome
  | [] => rfl
  | p :: r => by
    rw [List.any_cons]
    by_cases e : p.1 = k
    · simp only [valV_pos e, decide_eq_true e, Bool.true_or, Option.isSome_some]
    · rw [valV_neg e, decide_eq_false e, Bool.false_or]; exact valV_any k r
theorem valV_map (k j : κ) (y : V) : ∀ kvs : List (κ × V), valV (kvs.map fun kv => if kv.1 = k then (kv.1, y) else kv) j = (valV kvs j).map fun x => if j = k then y else x
  | [] => rfl
  | p :: r => by
    have ih := valV_map k j y r
    rw [List.map_cons]
    by_cases h : p.1 = k
    · rw [if_pos h]
      by_cases e : p.1 = j
      · rw [valV_pos (p := (p.1, y)) e, valV_pos e, Option.map_some, if_pos (e.symm.trans h)]
      · rw [valV_neg (p := (p.1, y)) e, valV_neg e, ih]
    · rw [if_neg h]
      by_cases e : p.1 = j
      · rw [valV_pos (p := p) e, valV_pos e, Option.map_some, if_neg (fun z => h (e.trans z))]
      · rw [valV_neg (p := p) e, valV_neg e, ih]
theorem valV_snoc (k j : κ) (y : V) : ∀ kvs : List (κ × V), valV kvs k = none → valV (kvs ++ [(k, y)]) j = if j = k then some y else valV kvs j
  | [], _ => by
    by_cases e : k = j
    · rw [if_pos e.symm]; exact valV_pos (p := (k, y)) e
    · rw [if_neg (fun z => e z.symm)]; exact valV_neg (p := (k, y)) e
  | p :: r, hn => by
    rw [List.cons_append]
    have hk : ¬ p.1 = k := fun z => by rw [valV_pos z] at hn; cases hn
    rw [valV_neg hk] at hn
    have ih := valV_snoc k j y r hn
    by_cases e : p.1 = j
    · rw [valV_pos e, valV_pos e, if_neg (fun z => hk (e.trans z))]
    · rw [valV_neg e, valV_neg e, ih]
theorem valV_put (kvs : List (κ × V)) (k j : κ) (y : V) : valV (putK kvs k y) j = if j = k then some y else valV kvs j := by
  unfold putK
  by_cases a : (kvs.any fun kv => decide (kv.1 = k)) = true
  · rw [if_pos a, valV_map]
    rw [valV_any] at a
    by_cases e : j = k
    · obtain ⟨x, hx⟩ := Option.isSome_iff_exists.mp a
      rw [if_pos e, e, hx, Option.map_some, if_pos rfl]
    · rw [if_neg e]
      cases valV kvs j with
      | none => rfl
      | some x => rw [Option.map_some, if_neg e]
  · rw [if_neg a]
    refine valV_snoc k j y kvs ?_
    rw [valV_any] at a
    cases q : valV kvs k with
    | none => rfl
    | some x => rw [q] at a; exact (a rfl).elim
theorem length_putK (kvs : List (κ × V)) (k : κ) (v : V) : (putK kvs k v).length ≤ kvs.length + 1 := by
  unfold putK
  split
  · rw [List.length_map]; omega
  · rw [List.length_append, List.length_cons, List.length_nil]; omega
theorem putK_new {kvs : List (κ × V)} {k : κ} (v : V) (h : valV kvs k = none) : putK kvs k v = kvs ++ [(k, v)] := by
  unfold putK
  rw [valV_any, h]
  exact if_neg (by decide)
theorem RelO.isSome_eq {o : Option V} {u : Option Value} (r : RelO o u) : o.isSome = u.isSome := by
  cases o with
  | none => cases u with
    | none => rfl
    | some _ => exact (show False from r).elim
  | some _ => cases u with
    | none => exact (show False from r).elim
    | some _ => rfl
theorem RelO.getD {o : Option V} {u : Option Value} {d : V} {d' : Value} (r : RelO o u) (rd : RelV d d') : RelV (o.getD d) (u.getD d') := by
  cases o with
  | none => cases u with
    | none => exact rd
    | some _ => exact (show False from r).elim
  | some _ => cases u with
    | none => exact (show False from r).elim
    | some _ => exact r
theorem KV.val {kvs : List (κ × V)} {vs : List (κ × Value)} (r : KV kvs vs) (k : κ) : RelO (valV kvs k) (valueAt vs k) := by
  unfold KV at r
  induction r with
  | nil => exact True.intro
  | @cons p q ps qs h t ih =>
    obtain ⟨h1, h2⟩ := h
    by_cases e : p.1 = k
    · have e' : q.1 = k := h1.symm.trans e
      have b : valueAt (q :: qs) k = some q.2 := by simp [valueAt, List.find?_cons, e']
      rw [valV_pos e, b]; exact h2
    · have e' : ¬ q.1 = k := fun z => e (h1.trans z)
      have b : valueAt (q :: qs) k = valueAt qs k := by simp [valueAt, List.find?_cons, e']
      rw [valV_neg e, b]; exact ih
theorem KV.any {kvs : List (κ × V)} {vs : List (κ × Value)} (r : KV kvs vs) (k : κ) : (kvs.any fun kv => decide (kv.1 = k)) = vs.any fun kv => decide (kv.1 = k) := by
  unfold KV at r
  induction r with
  | nil => rfl
  | cons h t ih => rw [List.any_cons, List.any_cons, ih, h.1]
theorem KV.repl {kvs : List (κ × V)} {vs : List (κ × Value)} (r : KV kvs vs) (k : κ) {y : V} {u : Value} (ry : RelV y u) :
    KV (kvs.map fun kv => if kv.1 = k then (kv.1, y) else kv) (vs.map fun kv => if kv.1 = k then (kv.1, u) else kv) := by
  unfold KV at r ⊢
  induction r with
  | nil => exact .nil
  | @cons p q ps qs h t ih =>
    rw [List.map_cons, List.map_cons]
    refine .cons ?_ ih
    obtain ⟨h1, h2⟩ := h
    by_cases e : p.1 = k
    · rw [if_pos e, if_pos (h1.symm.trans e)]; exact ⟨h1, ry⟩
    · rw [if_neg e, if_neg (fun z => e (h1.trans z))]; exact ⟨h1, h2⟩
theorem KV.put {kvs : List (κ × V)} {vs : List (κ × Value)} (r : KV kvs vs) (k : κ) {y : V} {u : Value} (ry : RelV y u) : KV (putK kvs k y) (stored vs k u) := by
  unfold putK stored
  rw [r.any k]
  by_cases e : (vs.any fun kv => decide (kv.1 = k)) = true
  · rw [if_pos e, if_pos e]; exact r.repl k ry
  · rw [if_neg e, if_neg e]; exact Paired.snoc r ⟨rfl, ry⟩
theorem KV.drop {kvs : List (κ × V)} {vs : List (κ × Value)} (r : KV kvs vs) (k : κ) : KV (dropK kvs k) (without vs k) := by
  unfold KV at r ⊢
  unfold dropK without
  induction r with
  | nil => exact .nil
  | @cons p q ps qs h t ih =>
    obtain ⟨h1, h2⟩ := h
    rw [List.filter_cons, List.filter_cons]
    by_cases e : p.1 = k
    · have a : ¬ decide (p.1 ≠ k) = true := by simp [e]
      have b : ¬ decide (q.1 ≠ k) = true := by simp [h1.symm.trans e]
      rw [if_neg a, if_neg b]; exact ih
    · have e' : ¬ q.1 = k := fun z => e (h1.trans z)
      have a : decide (p.1 ≠ k) = true := by simp [e]
      have b : decide (q.1 ≠ k) = true := by simp [e']
      rw [if_pos a, if_pos b]; exact .cons ⟨h1, h2⟩ ih
theorem KV.keys {kvs : List (κ × V)} {vs : List (κ × Value)} (r : KV kvs vs) : kvs.map (·.1) = vs.map (·.1) := by
  unfold KV at r
  induction r with
  | nil => rfl
  | cons h t ih => rw [List.map_cons, List.map_cons, ih, h.1]
theorem KV.length {kvs : List (κ × V)} {vs : List (κ × Value)} (r : KV kvs vs) : kvs.length = vs.length := Paired.length r
theorem dropK_le (kvs : List (κ × V)) (k : κ) : (dropK kvs k).length ≤ kvs.length := List.length_filter_le _ _
end
theorem kV_is {P : Program} {w : World} {k : Key} {u : Value} (r : RelV (kV k) u) : (mixKind P w).is k u = true := by
  cases k with
  | inl i => obtain ⟨t, e⟩ := (show ∃ t, u = Value.int i t from r); subst e; exact mixKind_int P w i t
  | inr x => obtain ⟨t, e⟩ := (show ∃ t, u = Value.str x t from r); subst e; exact mixKind_str P w x t
theorem items_are {P : Program} {w : World} : ∀ {ks : List Key} {us : List Value}, Vals (ks.map kV) us → ItemsAre (mixKind P w) ks us
  | [], _, r => by rw [List.map_nil] at r; cases r; exact .nil
  | k :: ks, _, r => by
    rw [List.map_cons] at r
    cases r with
    | cons h t => exact .cons (kV_is h) (items_are t)
abbrev KT (H : Hp) : List (List Key × V) → List (List Key × Addr × Value) → Prop := Paired fun p q => p.1 = q.1 ∧ H q.2.1 = some (.tup (p.1.map kV)) ∧ RelV p.2 q.2.2
theorem KT.val {H : Hp} {kvs : List (List Key × V)} {xs : List (List Key × Addr × Value)} (r : KT H kvs xs) (k : List Key) : RelO (valV kvs k) ((atKey xs k).map (·.2)) := by
  induction r with
  | nil => exact True.intro
  | @cons p q ps qs h t ih =>
    obtain ⟨h1, _, h2⟩ := h
    by_cases e : p.1 = k
    · have e' : q.1 = k := h1.symm.trans e
      have b : atKey (q :: qs) k = some q.2 := by simp [atKey, List.find?_cons, e']
      rw [valV_pos e, b]; exact h2
    · have e' : ¬ q.1 = k := fun z => e (h1.trans z)
      have b : atKey (q :: qs) k = atKey qs k := by simp [atKey, List.find?_cons, e']
      rw [valV_neg e, b]; exact ih
theorem KT.repl {H : Hp} {kvs : List (List Key × V)} {xs : List (List Key × Addr × Value)} (r : KT H kvs xs) (k : List Key) {y : V} {u : Value} (ry : RelV y u) :
    KT H (kvs.map fun kv => if kv.1 = k then (kv.1, y) else kv) (xs.map (putAt k u)) := by
  induction r with
  | nil => exact .nil
  | @cons p q ps qs h t ih =>
    rw [List.map_cons, List.map_cons]
    refine .cons ?_ ih
    obtain ⟨h1, h2, h3⟩ := h
    unfold putAt
    by_cases e : p.1 = k
    · rw [if_pos e, if_pos (h1.symm.trans e)]; exact ⟨h1, h2, ry⟩
    · rw [if_neg e, if_neg (fun z => e (h1.trans z))]; exact ⟨h1, h2, h3⟩
theorem KT.put {H : Hp} {kvs : List (List Key × V)} {xs : List (List Key × Addr × Value)} (r : KT H kvs xs) (k : List Key) {b : Addr} {y : V} {u : Value} (hb : H b = some (.tup (k.map kV))) (ry : RelV y u) :
    KT H (putK kvs k y) (storedH xs k b u) := by
  have e : (kvs.any fun kv => decide (kv.1 = k)) = (atKey xs k).isSome := by
    rw [valV_any, (r.val k).isSome_eq, Option.isSome_map]
  unfold putK storedH
  rw [e]
  by_cases q : (atKey xs k).isSome = true
  · rw [if_pos q, if_pos q]; exact r.repl k ry
  · rw [if_neg q, if_neg q]; exact Paired.snoc r ⟨rfl, hb, ry⟩
theorem KT.keeps {H H' : Hp} {kvs : List (List Key × V)} {xs : List (List Key × Addr × Value)} (r : KT H kvs xs) (ht : ∀ b ys, H b = some (.tup ys) → H' b = some (.tup ys)) : KT H' kvs xs :=
  Paired.mapP r fun _ _ z => ⟨z.1, ht _ _ z.2.1, z.2.2⟩
section
variable {P : Program} {w : World} {H : Hp} {h : Heap} {a : Addr}
theorem rd_of {u : HO} (ok : HOk P w H h) (e : Rd H a u) : ObjOk P w H h a u := e.ok ok
theorem dk_rd {kvs : List (Key × V)} (ok : HOk P w H h) (e : Rd H a (.dK kvs)) : kvs.length ≤ sizeLine ∧ (a == sysModules) = false ∧ ∃ vs, KV kvs vs ∧ h.DictOf (mixKind P w) a vs :=
  show ObjOk P w H h a (.dK kvs) from rd_of ok e
theorem dk_of {kvs : List (Key × V)} (ok : HOk P w H h) (e : H a = some (.dK kvs)) : kvs.length ≤ sizeLine ∧ (a == sysModules) = false ∧ ∃ vs, KV kvs vs ∧ h.DictOf (mixKind P w) a vs := dk_rd ok (.inl e)
theorem key_of {ks : List Key} (ok : HOk P w H h) (e : H a = some (.tup (ks.map kV))) : (tupleKind (mixKind P w)).is h ks a := by
  obtain ⟨_, its, r, o, h1, h2, n, h3⟩ := (show ObjOk P w H h a (.tup (ks.map kV)) from ok a _ e)
  exact ⟨o, its.toArray, n, h1, h2, h3, by simpa using items_are r⟩
theorem dt_rd {kvs : List (List Key × V)} (ok : HOk P w H h) (e : Rd H a (.dT kvs)) : kvs.length ≤ sizeLine ∧ (a == sysModules) = false ∧
    ∃ xs, KT H kvs xs ∧ h.DictOfH (tupleKind (mixKind P w)) a xs := by
  obtain ⟨z, y, xs, r, o, es, ep, h1, h2, h3, h4, h5⟩ := (show ObjOk P w H h a (.dT kvs) from rd_of ok e)
  refine ⟨z, y, xs, r, o, es, ep, h1, h2, h3, h4, fun x hx => ?_, h5⟩
  have all : ∀ {l : List (List Key × V)} {m : List (List Key × Addr × Value)}, KT H l m → ∀ x ∈ m, (tupleKind (mixKind P w)).is h x.1 x.2.1 := by
    intro l m q
    induction q with
    | nil => intro x hx; exact nomatch hx
    | @cons p q ps qs hq t ih =>
      intro x hx
      rcases List.mem_cons.mp hx with e | hx
      · subst e
        exact key_of ok (by rw [← hq.1]; exact hq.2.1)
      · exact ih x hx
  exact all r x hx
theorem dt_of {kvs : List (List Key × V)} (ok : HOk P w H h) (e : H a = some (.dT kvs)) : kvs.length ≤ sizeLine ∧ (a == sysModules) = false ∧
    ∃ xs, KT H kvs xs ∧ h.DictOfH (tupleKind (mixKind P w)) a xs := dt_rd ok (.inl e)
end
def DGet (H : Hp) (a : Addr) (y : V) (r : Option V) : Prop :=
  (∃ kvs k, Rd H a (.dK kvs) ∧ y = kV k ∧ r = valV kvs k) ∨ ∃ kvs k b, Rd H a (.dT kvs) ∧ y = .ref b ∧ H b = some (.tup (k.map kV)) ∧ r = valV kvs k
def DPut (H : Hp) (a : Addr) (y v : V) (H' : Hp) : Prop :=
  (∃ kvs k, H a = some (.dK kvs) ∧ y = kV k ∧ kvs.length < sizeLine ∧ H' = upd H a (.dK (putK kvs k v))) ∨
  ∃ kvs k b, H a = some (.dT kvs) ∧ y = .ref b ∧ H b = some (.tup (k.map kV)) ∧ kvs.length < sizeLine ∧ H' = upd H a (.dT (putK kvs k v))
theorem DPut.t {H : Hp} {a b : Addr} {kvs : List (List Key × V)} {k : List Key} {v : V} (e : H a = some (.dT kvs)) (eb : H b = some (.tup (k.map kV))) (hl : kvs.length < sizeLine) :
    DPut H a (.ref b) v (upd H a (.dT (putK kvs k v))) := .inr ⟨kvs, k, b, e, rfl, eb, hl, rfl⟩
section
variable {X : Cx} {pins : List (Addr × Obj)} {σ : St} {H : Hp} {s : Shared} {a : Addr} {y v : V} {u r : Value} {o : Option V} {A : Around} {E : Value → Shared → Prop}
theorem Inv.big (I : Inv X pins σ H s) : sysModules < s.heap.objs.size := by
  have h : mainGlobals < s.heap.objs.size := (I.mod.glob.keeps I.bk).lt
  exact Nat.lt_trans (by decide) h
theorem d_getItem {Q : Value → Shared → Prop} (hu : A.units + 1 < cLine) (I : Inv X pins σ H s) (g : DGet H a y (some v)) (ry : RelV y u) (h : ∀ w' s', Inv X pins σ H s' → RelV v w' → Q w' s') :
    wpAny (model X.prog X.w) A (getItem (.ref a) u) Q E s := by
  rcases g with ⟨kvs, k, e, ey, l⟩ | ⟨kvs, k, b, e, ey, eb, l⟩
  · subst ey
    obtain ⟨z, hd, vs, rel, dd⟩ := dk_rd I.hok e
    obtain ⟨w', hw, rw'⟩ := RelO.some_of (v := v) (o := valueAt vs k) (by rw [l]; exact rel.val k)
    exact wpAny_getItem_of (kV_is ry) dd.mapOf hw (h w' _ (I.tok _) rw')
  · subst ey
    cases (show u = Value.ref b from ry)
    obtain ⟨z, hd, xs, rel, dd⟩ := dt_rd I.hok e
    obtain ⟨w', hw, rw'⟩ := RelO.some_of (v := v) (o := (atKey xs k).map (·.2)) (by rw [l]; exact rel.val k)
    obtain ⟨p, hp, hp2⟩ := Option.map_eq_some_iff.mp hw
    refine wpAny_getItem_heap (tupleKind_room_in1 hu) (key_of I.hok eb) dd hp ?_
    rw [hp2]
    exact h w' _ (I.tok _) rw'
theorem d_in {Q : Value → Shared → Prop} (hu : A.units + 1 < cLine) (I : Inv X pins σ H s) (g : DGet H a y o) (ry : RelV y u) (h : ∀ s', Inv X pins σ H s' → Q (.bool o.isSome) s') :
    wpAny (model X.prog X.w) A (compareOp .In u (.ref a)) Q E s := by
  rcases g with ⟨kvs, k, e, ey, l⟩ | ⟨kvs, k, b, e, ey, eb, l⟩
  · subst ey
    obtain ⟨z, hd, vs, rel, dd⟩ := dk_rd I.hok e
    refine wpAny_in_of (kV_is ry) hd dd.mapOf ?_
    rw [← (rel.val k).isSome_eq, ← l]
    exact h _ (I.tok _)
  · subst ey
    cases (show u = Value.ref b from ry)
    obtain ⟨z, hd, xs, rel, dd⟩ := dt_rd I.hok e
    refine wpAny_in_heap (tupleKind_room_in1 hu) (key_of I.hok eb) hd dd ?_
    have q := (rel.val k).isSome_eq
    rw [Option.isSome_map] at q
    rw [← q, ← l]
    exact h _ (I.tok _)
theorem d_notIn {Q : Value → Shared → Prop} (hu : A.units + 1 < cLine) (I : Inv X pins σ H s) (g : DGet H a y o) (ry : RelV y u) (h : ∀ s', Inv X pins σ H s' → Q (.bool (!o.isSome)) s') :
    wpAny (model X.prog X.w) A (compareOp .NotIn u (.ref a)) Q E s := by
  rcases g with ⟨kvs, k, e, ey, l⟩ | ⟨kvs, k, b, e, ey, eb, l⟩
  · subst ey
    obtain ⟨z, hd, vs, rel, dd⟩ := dk_rd I.hok e
    refine wpAny_notIn_of (kV_is ry) hd dd.mapOf ?_
    rw [← (rel.val k).isSome_eq, ← l]
    exact h _ (I.tok _)
  · subst ey
    cases (show u = Value.ref b from ry)
    obtain ⟨z, hd, xs, rel, dd⟩ := dt_rd I.hok e
    refine wpAny_notIn_heap (tupleKind_room_in1 hu) (key_of I.hok eb) hd dd ?_
    have q := (rel.val k).isSome_eq
    rw [Option.isSome_map] at q
    rw [← q, ← l]
    exact h _ (I.tok _)
theorem d_write {h' : Heap} {t' : Nat} {ob : HO} (I : Inv X pins σ H s) (mu : Mut (H a)) (hs : Heap.SameBut a s.heap h') (he : ∃ q, h'.get? a = some q) (new : ObjOk X.prog X.w (upd H a ob) h' a ob) :
    Inv X pins σ (upd H a ob) { s with heap := h', toks := t' } :=
  I.write (x := a) (e := a) mu (.inl rfl) (fun b q hb z => (hs.2 b hb).trans z) he new
theorem dk_new {P : Program} {w : World} {H' : Hp} {h' : Heap} {kvs : List (Key × V)} {vs : List (Key × Value)} (z : kvs.length ≤ sizeLine) (hd : (a == sysModules) = false) (rel : KV kvs vs) (dd : h'.DictOf (mixKind P w) a vs) :
    ObjOk P w H' h' a (.dK kvs) := ⟨z, hd, vs, rel, dd⟩
theorem d_setItem {H' : Hp} {Q : Unit → Shared → Prop} (hu : A.units + 1 < cLine) (I : Inv X pins σ H s) (g : DPut H a y v H') (ry : RelV y u) (rv : RelV v r) (h : ∀ s', Inv X pins σ H' s' → Q () s') :
    wpAny (model X.prog X.w) A (setItem (.ref a) u r) Q E s := by
  rcases g with ⟨kvs, k, e, ey, l, eH⟩ | ⟨kvs, k, b, e, ey, eb, l, eH⟩
  · subst ey eH
    obtain ⟨z, hd, vs, rel, dd⟩ := dk_of I.hok e
    have hz : vs.length ≤ sizeLine := by rw [← rel.length]; exact z
    have hl : (putK kvs k v).length ≤ sizeLine := by have := length_putK kvs k v; omega
    refine wpAny_setItem_pairs (hsz := hz) (kV_is ry) dd fun h' dd' hs => h _ ?_
    have he : ∃ q, h'.get? a = some q := let ⟨q, _, _, hq, _⟩ := dd'; ⟨q, hq⟩
    exact d_write I (by rw [e]; exact True.intro) hs he (dk_new hl hd (rel.put k rv) dd')
  · subst ey eH
    cases (show u = Value.ref b from ry)
    obtain ⟨z, hd, xs, rel, dd⟩ := dt_of I.hok e
    have hz : xs.length ≤ sizeLine := by rw [← Paired.length rel]; exact z
    have hl : (putK kvs k v).length ≤ sizeLine := by have := length_putK kvs k v; omega
    refine wpAny_setItem_heap (hsz := hz) (tupleKind_room_in1 hu) (key_of I.hok eb) dd fun h' dd' hs => h _ ?_
    obtain ⟨q, es, ep, hq, h2, h3, h4, _, h5⟩ := dd'
    refine d_write I (by rw [e]; exact True.intro) hs ⟨q, hq⟩ ⟨hl, hd, _, (rel.put k eb rv).keeps fun c ys ec => ?_, q, es, ep, hq, h2, h3, h4, h5⟩
    rw [upd_ne (ne_of ec e (fun z => nomatch z))]
    exact ec
end
section
variable {X : Cx} {pins : List (Addr × Obj)} {σ : St} {H : Hp} {s : Shared} {a : Addr} {kvs : List (Key × V)} {k : Key} {u : Value} {A : Around} {E : Value → Shared → Prop}
theorem d_pop {v : V} {more : List Value} {Q : Value → Shared → Prop} (I : Inv X pins σ H s) (e : H a = some (.dK kvs)) (ry : RelV (kV k) u) (l : valV kvs k = some v) (hm : more = [] ∨ ∃ x, more = [x])
    (h : ∀ w' s', Inv X pins σ (upd H a (.dK (dropK kvs k))) s' → RelV v w' → Q w' s') : wpAny (model X.prog X.w) A (call (.builtin "dict.pop") (.ref a :: u :: more)) Q E s := by
  obtain ⟨z, hd, vs, rel, dd⟩ := dk_of I.hok e
  obtain ⟨w', hw, rw'⟩ := RelO.some_of (v := v) (o := valueAt vs k) (by rw [← l]; exact rel.val k)
  have hp : (keyPart u).isSome = true := by
    cases k with
    | inl i => obtain ⟨t, q⟩ := (show ∃ t, u = Value.int i t from ry); subst q; rfl
    | inr x => obtain ⟨t, q⟩ := (show ∃ t, u = Value.str x t from ry); subst q; rfl
  have ha : argsOk "dict.pop" ⟨.ref a :: u :: more, []⟩ := by
    rcases hm with q | ⟨x, q⟩
    · subst q; exact PySem.F.args_dict_pop_2 _ _
    · subst q; exact PySem.F.args_dict_pop_3 _ _ _
  refine call_meetsIn PySem.F.slot_dict_pop dd.typeIs PySem.F.entry_dict_pop ha (meets_dict_pop_there (mixKind X.prog X.w) a (kV_is ry) more hm hp)
    ⟨vs, w', dd, by rw [← rel.length]; exact z, hw, fun h' dd' hs => h w' _ ?_ rw'⟩
  have he : ∃ q, h'.get? a = some q := let ⟨q, _, _, hq, _⟩ := dd'; ⟨q, hq⟩
  exact d_write I (by rw [e]; exact True.intro) hs he (dk_new (Nat.le_trans (dropK_le kvs k) z) hd (rel.drop k) dd')
end
def NoSl (i : Expr) : Prop := ∀ ov iv, subscripted i false ov iv = operate [ov, iv] (getItem ov iv)
theorem subD_of {prog : Program} {w : World} {A : Around} {E : Value → Shared → Prop} {s : Shared} {env : Env} {value slice : Expr} {pos : Pos} {T id : String} {Q : Value → Shared → Prop}
    (hl : typeLookup (.type T) "__getitem__" = pure (some (.builtin id))) (hs : NoSl slice)
    (h : wpAny (model prog w) A (eval value env) (fun o s₁ => wpAny (model prog w) A (eval slice env) (fun i s₂ => s₂.TypeIs o T ∧ wpAny (model prog w) A (getItem o i) Q E s₂) E s₁) E s) :
    wpAny (model prog w) A (eval (.Subscript value slice pos) env) Q E s := by
  refine Subscript_ (wpAny_mono h (fun o s₁ h₁ => wpAny_mono h₁ (fun i s₂ h₂ => ?_) fun _ _ x => x) fun _ _ x => x)
  obtain ⟨hT, h₂⟩ := h₂
  unfold subscriptTail
  refine wpAny_bind ?_
  rw [getitemInPython_of_ne hT.not_modules]
  refine wpAny_bind (wpAny_specialOf hT hl ?_)
  have fin : wpAny (model prog w) A (subscripted slice false o i) (fun r s₃ => wpAny (model prog w) A (letTemporaryGo value o r >>= fun _ => pure r) Q E s₃) E s₂ := by
    rw [hs o i]
    exact wpAny_operating (wpAny_mono h₂ (fun r s₃ h₃ => wpAny_bind (wpAny_letTemporaryGo (wpAny_pure h₃))) fun _ _ x => x)
  first
    | exact wpAny_pure (wpAny_bind fin)
    | exact wpAny_bind (wpAny_pure (wpAny_bind fin))
    | exact wpAny_bind fin
theorem dict_typeIs {X : Cx} {pins : List (Addr × Obj)} {σ : St} {H : Hp} {s : Shared} {a : Addr} {y : V} {o : Option V} (I : Inv X pins σ H s) (g : DGet H a y o) : s.TypeIs (.ref a) "dict" := by
  rcases g with ⟨kvs, k, e, _, _⟩ | ⟨kvs, k, b, e, _, _, _⟩
  · obtain ⟨_, _, vs, _, dd⟩ := dk_rd I.hok e
    exact dd.typeIs
  · obtain ⟨_, _, xs, _, dd⟩ := dt_rd I.hok e
    exact dd.typeIs
def tDGet (td ty : TE) : TE := fun σ H Q => td σ H fun x H1 => ty σ H1 fun y H2 => ∃ a v, x = .ref a ∧ DGet H2 a y (some v) ∧ Q v H2
def tDIn (ty td : TE) : TE := fun σ H Q => ty σ H fun y H1 => td σ H1 fun x H2 => ∃ a o, x = .ref a ∧ DGet H2 a y o ∧ Q (.bl o.isSome) H2
def tDNotIn (ty td : TE) : TE := fun σ H Q => ty σ H fun y H1 => td σ H1 fun x H2 => ∃ a o, x = .ref a ∧ DGet H2 a y o ∧ Q (.bl (!o.isSome)) H2
def sDPut (td ty tv : TE) : TS := fun D σ H => tv σ H fun v H1 => td σ H1 fun x H2 => ty σ H2 fun y H3 => ∃ a H4, x = .ref a ∧ DPut H3 a y v H4 ∧ D.nx σ H4
section
variable {X : Cx} {o i e value : Expr} {pos pos' tpos : Pos} {td ty tv : TE}
theorem pe_dget (hu : X.A.units + 1 < cLine) (ho : PE X o td) (hi : PE X i ty) (hs : NoSl i) : PE X (.Subscript o i pos) (tDGet td ty) := by
  intro pins s σ H Q I h
  refine subD_of PySem.F.slot_dict_getitem.lookup hs (thn (ho pins s σ H _ I h) fun u s1 ⟨x, H1, I1, rx, q1⟩ => thn (hi pins s1 σ H1 _ I1 q1) fun iv s2 ⟨y, H2, I2, ry, a, v, ex, g, q2⟩ => ?_)
  subst ex
  obtain rfl : u = Value.ref a := rx
  exact ⟨dict_typeIs I2 g, d_getItem hu I2 g ry fun w' s3 I3 rw' => ⟨v, H2, I3, rw', q2⟩⟩
theorem pc_din (hu : X.A.units + 1 < cLine) (hi : PE X i ty) (ho : PE X o td) : PC X .In i o (tDIn ty td) := by
  intro pins s σ H Q I h
  refine thn (hi pins s σ H _ I h) fun iv s1 ⟨y, H1, I1, ry, q1⟩ => thn (ho pins s1 σ H1 _ I1 q1) fun u s2 ⟨x, H2, I2, rx, a, ov, ex, g, q2⟩ => ?_
  subst ex
  obtain rfl : u = Value.ref a := rx
  exact d_in hu I2 g ry fun s3 I3 => ⟨.bl ov.isSome, H2, I3, rfl, q2⟩
theorem pc_dnotin (hu : X.A.units + 1 < cLine) (hi : PE X i ty) (ho : PE X o td) : PC X .NotIn i o (tDNotIn ty td) := by
  intro pins s σ H Q I h
  refine thn (hi pins s σ H _ I h) fun iv s1 ⟨y, H1, I1, ry, q1⟩ => thn (ho pins s1 σ H1 _ I1 q1) fun u s2 ⟨x, H2, I2, rx, a, ov, ex, g, q2⟩ => ?_
  subst ex
  obtain rfl : u = Value.ref a := rx
  exact d_notIn hu I2 g ry fun s3 I3 => ⟨.bl (!ov.isSome), H2, I3, rfl, q2⟩
theorem ps_dput (hu : X.A.units + 1 < cLine) (ho : PE X o td) (hi : PE X i ty) (hv : PE X value tv) (hs : swapsWith value (some (.Subscript o i pos')) pos.line X.env = pure false) :
    PS X (.Assign [.Subscript o i pos'] value pos) (sDPut td ty tv) := by
  intro pins s σ H D I h
  refine wpAny_Assign_Subscript (thn (hv pins s σ H _ I h) fun r s1 ⟨v, H1, I1, rv, q1⟩ => thn (ho pins s1 σ H1 _ I1 q1) fun u s2 ⟨x, H2, I2, rx, q2⟩ => thn (hi pins s2 σ H2 _ I2 q2) fun iv s3 ⟨y, H3, I3, ry, a, H4, ex, g, q3⟩ => ?_) hs
  subst ex
  obtain rfl : u = Value.ref a := rx
  exact d_setItem hu I3 g ry rv fun s4 I4 => ⟨σ, H4, I4, q3⟩
end
theorem dk_empty {P : Program} {w : World} {H : Hp} (h : Heap) (hb : sysModules < h.objs.size) : ObjOk P w H (h.push { cls := .type "dict", data := .dict #[] }) h.objs.size (.dK []) :=
  ⟨Nat.zero_le _, beq_eq_false_iff_ne.mpr (Ne.symm (Nat.ne_of_lt hb)), [], .nil, Heap.DictOf.new h⟩
theorem dt_empty {P : Program} {w : World} {H : Hp} (h : Heap) (hb : sysModules < h.objs.size) : ObjOk P w H (h.push { cls := .type "dict", data := .dict #[] }) h.objs.size (.dT []) :=
  ⟨Nat.zero_le _, beq_eq_false_iff_ne.mpr (Ne.symm (Nat.ne_of_lt hb)), [], .nil, _, #[], 0, Heap.get?_push_size _ rfl, ⟨rfl, rfl, rfl⟩, rfl, rfl, List.nodup_nil⟩
def tDNewT : TE := fun _ H Q => ∀ p, H p = none → Q (.ref p) (upd H p (.dT []))
section
variable {X : Cx} {pos : Pos}
theorem pe_dnewT : PE X (.Dict [] [] pos) tDNewT := fun pins s σ H Q I h =>
  wpAny_Dict_empty ⟨.ref s.heap.objs.size, _, I.laid (a := s.heap.objs.size) (o := .dT []) (t' := s.toks) (fun _ _ q => Heap.get?_push_of_some _ q) (Nat.le_refl _) (dt_empty s.heap I.big), rfl, h _ (I.hok.fresh (Nat.le_refl _))⟩
end
def tPairs : List (TE × TE) → St → Hp → (List (V × V) → Hp → Prop) → Prop
  | [], _, H, Q => Q [] H
  | (tk, tv) :: r, σ, H, Q => tk σ H fun x H1 => tv σ H1 fun y H2 => tPairs r σ H2 fun ps H3 => Q ((x, y) :: ps) H3
abbrev VV : List (V × V) → List (Value × Value) → Prop := Paired fun p q => RelV p.1 q.1 ∧ RelV p.2 q.2
def PPs (X : Cx) (pos : Pos) (keys : List (Option Expr)) (values : List Expr) (trs : List (TE × TE)) : Prop :=
  ∀ (pins : List (Addr × Obj)) (s : Shared) (σ : St) (H : Hp) (Q : List (V × V) → Hp → Prop), Inv X pins σ H s → tPairs trs σ H Q →
    wpAny (model X.prog X.w) X.A (evalPairs (pairTrees keys values X.env pos)) (fun vs s' => ∃ ps H', Inv X pins σ H' s' ∧ VV ps vs ∧ Q ps H') X.xe s
theorem pps_nil {X : Cx} {pos : Pos} : PPs X pos [] [] [] := fun pins s σ H Q I h => pairTrees_nil_walk ⟨[], H, I, .nil, h⟩
theorem pps_cons {X : Cx} {pos : Pos} {k v : Expr} {ks : List (Option Expr)} {vs : List Expr} {tk tv : TE} {trs : List (TE × TE)} (hk : PE X k tk) (hv : PE X v tv) (hr : PPs X pos ks vs trs) :
    PPs X pos (some k :: ks) (v :: vs) ((tk, tv) :: trs) := fun pins s σ H Q I h =>
  pairTrees_cons_walk (thn (hk pins s σ H _ I h) fun u s1 ⟨x, H1, I1, rx, q1⟩ => thn (hv pins s1 σ H1 _ I1 q1) fun w2 s2 ⟨y, H2, I2, ry, q2⟩ =>
    thn (hr pins s2 σ H2 _ I2 q2) fun ws s3 ⟨ps, H3, I3, rel, q3⟩ => ⟨(x, y) :: ps, H3, I3, .cons ⟨rx, ry⟩ rel, q3⟩)
def mergeK (kvs more : List (Key × V)) : List (Key × V) := more.foldl (fun acc kv => putK acc kv.1 kv.2) kvs
theorem KV.merge : ∀ {more : List (Key × V)} {rs : List (Key × Value)} {kvs : List (Key × V)} {vs : List (Key × Value)}, KV more rs → KV kvs vs → KV (mergeK kvs more) (merged vs rs) := by
  intro more rs kvs vs r
  unfold KV at r
  induction r generalizing kvs vs with
  | nil => intro q; exact q
  | @cons p q ps qs h t ih =>
    intro r0
    have e : KV (putK kvs p.1 p.2) (stored vs q.1 q.2) := by
      have := r0.put p.1 h.2
      rw [← h.1]; exact this
    exact ih e
theorem length_mergeK : ∀ (more kvs : List (Key × V)), (mergeK kvs more).length ≤ kvs.length + more.length
  | [], kvs => by show kvs.length ≤ kvs.length + 0; omega
  | p :: r, kvs => by
    have h1 := length_mergeK r (putK kvs p.1 p.2)
    have h2 := length_putK kvs p.1 p.2
    show (mergeK (putK kvs p.1 p.2) r).length ≤ _
    rw [List.length_cons]; omega
theorem carries_of {P : Program} {w : World} : ∀ {kvs : List (Key × V)} {ws : List (Value × Value)}, VV (kvs.map fun kv => (kV kv.1, kv.2)) ws → ∃ rs, Carries (mixKind P w) ws rs ∧ KV kvs rs
  | [], _, r => by rw [List.map_nil] at r; cases r; exact ⟨[], True.intro, .nil⟩
  | p :: kvs, _, r => by
    rw [List.map_cons] at r
    cases r with
    | @cons a b as bs h t =>
      obtain ⟨rs, c, q⟩ := carries_of (P := P) (w := w) t
      obtain ⟨b1, b2⟩ := b
      exact ⟨(p.1, b2) :: rs, ⟨kV_is h.1, rfl, c⟩, .cons ⟨rfl, h.2⟩ q⟩
def tDisp (trs : List (TE × TE)) : TE := fun σ H Q => ∀ p, H p = none → tPairs trs σ (upd H p (.dK [])) fun ps H2 => H2 p = some (.dK []) ∧ ∃ kvs : List (Key × V), ps = kvs.map (fun kv => (kV kv.1, kv.2)) ∧ kvs.length ≤ 15 ∧ Q (.ref p) (upd H2 p (.dK (mergeK [] kvs)))
theorem pe_disp {X : Cx} {pos : Pos} {keys : List (Option Expr)} {values : List Expr} {trs : List (TE × TE)} (h : PPs X pos keys values trs) (hall : keys.all (·.isSome) = true) (hl : keys.length = values.length) (h0 : keys ≠ [])
    (h15 : keys.length ≤ 15) : PE X (.Dict keys values pos) (tDisp trs) := by
  intro pins s σ H Q I q
  have hn := I.hok.fresh (Nat.le_refl s.heap.objs.size)
  have I1 := I.laid (a := s.heap.objs.size) (o := .dK []) (h' := s.heap.push { cls := .type "dict", data := .dict #[] }) (t' := s.toks) (fun _ _ q => Heap.get?_push_of_some _ q) (Nat.le_refl _) (dk_empty s.heap I.big)
  refine wpAny_Dict_walk (knd := mixKind X.prog X.w) hall hl h0 h15 (thn (h pins _ σ _ _ I1 (q _ hn)) fun ws s2 ⟨ps, H2, I2, rel, e, kvs, ep, lk, q2⟩ => ?_)
  subst ep
  obtain ⟨rs, c, rk⟩ := carries_of (P := X.prog) (w := X.w) rel
  obtain ⟨z, hd, vs0, r0, dd⟩ := dk_of I2.hok e
  cases r0
  refine ⟨rs, c, dd, fun h' dd' hs => ⟨.ref s.heap.objs.size, _, ?_, rfl, q2⟩⟩
  have hz : (mergeK [] kvs).length ≤ sizeLine := by
    have h1 := length_mergeK kvs []
    rw [List.length_nil] at h1
    rw [sizeLine_eq]; omega
  have he : ∃ q, h'.get? s.heap.objs.size = some q := let ⟨q, _, _, hq, _⟩ := dd'; ⟨q, hq⟩
  exact d_write I2 (by rw [e]; exact True.intro) hs he (dk_new hz hd (rk.merge .nil) dd')
structure M1 (X : Cx) (o : Expr) (m : Str) (apos : Pos) (e : Expr) (cpos : Pos) : Prop where
  base : attributeBase o m X.env (eval o X.env) = eval o X.env
  few : ((backTo cpos (starEach [e] X.env)).all (fun x => !x.1) && (backToKw cpos (keywordEach [] X.env)).all (fun x => x.1.isSome)
    && decide (([e] : List Expr).length + ([] : List Keyword).length + (if ([] : List Keyword).isEmpty then 0 else 1) < 30)) = true
  line : (apos.endLine == cpos.line) = true
  trees : backTo cpos (starEach [e] X.env) = [(false, eval e X.env)]
structure M2 (X : Cx) (o : Expr) (m : Str) (apos : Pos) (e f : Expr) (cpos : Pos) : Prop where
  base : attributeBase o m X.env (eval o X.env) = eval o X.env
  few : ((backTo cpos (starEach [e, f] X.env)).all (fun x => !x.1) && (backToKw cpos (keywordEach [] X.env)).all (fun x => x.1.isSome)
    && decide (([e, f] : List Expr).length + ([] : List Keyword).length + (if ([] : List Keyword).isEmpty then 0 else 1) < 30)) = true
  line : (apos.endLine == cpos.line) = true
  trees : backTo cpos (starEach [e, f] X.env) = [(false, eval e X.env), (false, eval f X.env)]
def IsD (H : Hp) (a : Addr) : Prop := (∃ kvs, Rd H a (.dK kvs)) ∨ ∃ kvs, Rd H a (.dT kvs)
theorem isD_at {X : Cx} {pins : List (Addr × Obj)} {σ : St} {H : Hp} {s : Shared} {a : Addr} (I : Inv X pins σ H s) (d : IsD H a) :
    s.TypeIs (.ref a) "dict" ∧ (∀ b, Value.ref a = .ref b → ∃ ob, s.heap.get? b = some ob ∧ ob.dict = none) ∧ (a == sysModules) = false := by
  rcases d with ⟨kvs, e⟩ | ⟨kvs, e⟩
  · obtain ⟨_, hd, vs, _, dd⟩ := dk_rd I.hok e
    refine ⟨dd.typeIs, fun b q => ?_, hd⟩
    cases q
    obtain ⟨ob, _, _, h1, h2, _⟩ := dd
    exact ⟨ob, h1, h2.2.1⟩
  · obtain ⟨_, hd, xs, _, dd⟩ := dt_rd I.hok e
    refine ⟨dd.typeIs, fun b q => ?_, hd⟩
    cases q
    obtain ⟨ob, _, _, h1, h2, _⟩ := dd
    exact ⟨ob, h1, h2.2.1⟩
section
variable {X : Cx} {pins : List (Addr × Obj)} {σ : St} {H : Hp} {s : Shared} {a : Addr} {y d : V} {u r : Value} {o : Option V} {A : Around} {E : Value → Shared → Prop}
theorem d_get1 {Q : Value → Shared → Prop} (hu : A.units + 1 < cLine) (I : Inv X pins σ H s) (g : DGet H a y o) (ry : RelV y u) (h : ∀ w' s', Inv X pins σ H s' → RelV (o.getD .non) w' → Q w' s') :
    wpAny (model X.prog X.w) A (call (.builtin "dict.get") [.ref a, u]) Q E s := by
  rcases g with ⟨kvs, k, e, ey, l⟩ | ⟨kvs, k, b, e, ey, eb, l⟩
  · subst ey
    obtain ⟨z, hd, vs, rel, dd⟩ := dk_rd I.hok e
    refine call_meetsIn PySem.F.slot_dict_get dd.typeIs PySem.F.entry_dict_get (PySem.F.args_dict_get_2 _ _) (meets_dict_get (mixKind X.prog X.w) a (kV_is ry) hd) ⟨_, dd.mapOf, h _ _ (I.tok _) ?_⟩
    rw [l]
    exact (rel.val k).getD rfl
  · subst ey
    cases (show u = Value.ref b from ry)
    obtain ⟨z, hd, xs, rel, dd⟩ := dt_rd I.hok e
    refine call_meetsIn PySem.F.slot_dict_get dd.typeIs PySem.F.entry_dict_get (PySem.F.args_dict_get_2 _ _) (meetsH_dict_get (tupleKind (mixKind X.prog X.w)) a b hd) ⟨tupleKind_room_in1 hu, k, xs, key_of I.hok eb, dd, h _ _ (I.tok _) ?_⟩
    rw [l]
    exact (rel.val k).getD rfl
end
def tDGet1 (td ty : TE) : TE := fun σ H Q => td σ H fun x H1 => ∃ a, x = .ref a ∧ IsD H1 a ∧ ty σ H1 fun y H2 => ∃ o, DGet H2 a y o ∧ Q (o.getD .non) H2
def tDPop1 (td ty : TE) : TE := fun σ H Q => td σ H fun x H1 => ∃ a, x = .ref a ∧ IsD H1 a ∧ ty σ H1 fun y H2 => ∃ kvs k v, H2 a = some (.dK kvs) ∧ y = kV k ∧ valV kvs k = some v ∧ Q v (upd H2 a (.dK (dropK kvs k)))
section
variable {X : Cx} {o e f : Expr} {apos cpos : Pos} {td ty tx : TE}
theorem pe_dget1 (hu : X.A.units + 1 < cLine) (ho : PE X o td) (he : PE X e ty) (m : M1 X o "get" apos e cpos) : PE X (.Call (.Attribute o "get" apos) [e] [] cpos) (tDGet1 td ty) := by
  intro pins s σ H Q I h
  refine wpAny_Call_method m.base m.few m.line PySem.F.plainAttrs_dict PySem.F.slot_dict_get PySem.F.type_dict_get (thn (ho pins s σ H _ I h) fun u s1 ⟨x, H1, I1, rx, a, ex, d, q1⟩ => ?_)
  subst ex
  obtain rfl : u = Value.ref a := rx
  obtain ⟨t1, t2, _⟩ := isD_at I1 d
  refine ⟨t1, t2, ?_⟩
  rw [m.trees]
  refine Calls.callWith_builtin rfl (Calls.evalArgs_plain (Calls.spliced_cons (thn (he pins s1 σ H1 _ I1 q1) fun iv s2 ⟨y, H2, I2, ry, ov, g, q2⟩ => Calls.spliced_nil ?_)))
  exact d_get1 hu I2 g ry fun w' s3 I3 rw' => ⟨_, H2, I3, rw', q2⟩
theorem pe_dpop1 (ho : PE X o td) (he : PE X e ty) (m : M1 X o "pop" apos e cpos) : PE X (.Call (.Attribute o "pop" apos) [e] [] cpos) (tDPop1 td ty) := by
  intro pins s σ H Q I h
  refine wpAny_Call_method m.base m.few m.line PySem.F.plainAttrs_dict PySem.F.slot_dict_pop PySem.F.type_dict_pop (thn (ho pins s σ H _ I h) fun u s1 ⟨x, H1, I1, rx, a, ex, d, q1⟩ => ?_)
  subst ex
  obtain rfl : u = Value.ref a := rx
  obtain ⟨t1, t2, _⟩ := isD_at I1 d
  refine ⟨t1, t2, ?_⟩
  rw [m.trees]
  refine Calls.callWith_builtin rfl (Calls.evalArgs_plain (Calls.spliced_cons (thn (he pins s1 σ H1 _ I1 q1) fun iv s2 ⟨y, H2, I2, ry, kvs, k, v, ea, ey, l, q2⟩ => Calls.spliced_nil ?_)))
  subst ey
  exact d_pop I2 ea ry l (.inl rfl) fun w' s3 I3 rw' => ⟨v, _, I3, rw', q2⟩
end
section
variable {X : Cx} {pins : List (Addr × Obj)} {σ : St} {H : Hp} {s : Shared} {a : Addr} {kvs : List (Key × V)} {A : Around} {E : Value → Shared → Prop}
end
section
variable {X : Cx} {pins : List (Addr × Obj)} {σ : St} {H : Hp} {s : Shared} {a : Addr} {y : V} {u : Value} {A : Around} {E : Value → Shared → Prop}
end
end L2
namespace Att
open PySem PySem.W PySem.Calls PyProof.Rows
theorem ints_of_wellAll {P : Params} {h : Heap} : ∀ (ns : List Int) (vs : List Value), WellAll P h vs (ns.map WData.int) → IntsAre vs ns := by
  intro ns
  induction ns with
  | nil =>
    intro vs w
    rw [List.map_nil] at w
    cases w
    exact .nil
  | cons n ns ih =>
    intro vs w
    rw [List.map_cons] at w
    cases w with
    | cons a b =>
      cases a
      exact .cons _ _ (ih _ b)
theorem script_of {l : OpenLaw} {n : Nat} (hn : l.most = some n) {P : Params} {h : Heap} {args : List WData} {vals : List Value}
    (hpre : l.row.toRowW.claim.pre args = true) (hwl : WellAll P h vals args) :
    ∃ a vs ns, vals = [Value.ref a] ∧ args = [WData.list (ns.map WData.int)] ∧ h.get? a = some { cls := .type "list", data := .seq vs.toArray } ∧ IntsAre vs ns ∧ ns.length ≤ n := by
  have hsh : WShape.hasAll [] args [.list .int] = true := (pre_splitW hpre).1
  have hc : l.pre.holds [] { args := args } = true := (pre_splitW hpre).2
  obtain ⟨d, r, rfl, h1, h2⟩ := hasAllW_cons hsh
  obtain rfl := hasAllW_nil h2
  obtain ⟨xs, rfl, h3⟩ := hasW_list h1
  obtain ⟨ns, rfl⟩ := items_int h3
  have hlen : ns.length ≤ n := by
    unfold OpenLaw.pre at hc
    have h4 : (WTm.not (.lt (.lit (.int (n : Int))) (.len (.arg 0)))).holds [] { args := [.list (ns.map .int)] } = true := by
      have h4 := (holds_andW hc).1
      rw [hn] at h4
      exact h4
    have h5 := condW_of h4 (w_not (w_lt w_lit (w_len_list (w_arg rfl))))
    rw [List.length_map] at h5
    refine Nat.le_of_not_lt fun q => ?_
    have q' : (n : Int) < ((ns.length : Nat) : Int) := by omega
    first
      | (rw [decide_eq_true q'] at h5; exact absurd h5 (by decide))
      | (simp at h5; omega)
  cases hwl with
  | cons w1 w2 =>
    cases w2
    cases w1 with
    | list ho hall => exact ⟨_, _, ns, rfl, rfl, ho, ints_of_wellAll ns _ hall, hlen⟩
theorem post_true (l : OpenLaw) (args : List WData) : l.row.toRowW.claim.post args (.bool true) args = true :=
  postW_of (r := l.row.toRowW) (X := (true == true))
    (show WShape.has [] (.bool true) .bool = true by first | rfl | decide | simp [WShape.has, WShape.arms, WShape.armsAll])
    (show (WTm.eq .res (.lit (.bool true))).value [] { args := args, res := some (.bool true), after := args } = some (.bool (true == true)) from w_eq_bool (w_res rfl) w_lit) rfl
theorem attach_call {l : OpenLaw} {n : Nat} {q : Program} {loose : List Str} {XP : (Str → Option Value) → Heap → Prop} {YP : World → Heap → Prop} {d : DefRec}
    (hn : l.most = some n) (hdf : d.params.defaults = [])
    (call : ∀ (w : World) (s₀ s₁ : Shared) (mg mb : Str → Option Value) (fa : Addr) (o : Obj) (pm cd doc : Value) (a : Addr) (vs : List Value) (ns : List Int),
      Ground q loose [] XP w s₀ mg mb s₁.heap → YP w s₁.heap →
      s₁.heap.get? fa = some o → o.data = .func (docDef d.name d.params d.body d.scope pm cd doc) → s₁.heap.CodeRec cd d.name → mg d.name = some (.ref fa) →
      s₁.heap.get? a = some { cls := .type "list", data := .seq vs.toArray } → IntsAre vs ns → ns.length ≤ n → s₁.gens = #[] →
      codeAny (model l.prog w) callerA (.call (.ref fa) ⟨[.ref a], []⟩) (fun r s' => r = .ok (.ret (.bool true)) ∧ OldK s₁.heap s'.heap ∧ s'.os = s₁.os ∧ AllBare s'.gens) s₁) :
    WalkO q loose XP YP l.row.toRowW d [] (fun f vs => PySem.call f vs) := by
  intro w s₀ s₁ mg mb G Y fa o pm cd doc dV kV ho hd hcd hD hmg hg args vals as hpre hlay hrd hwl hlo
  obtain rfl : dV = .none := Dflts.none hD hdf
  obtain rfl : kV = .none := Dflts.noKw hD
  obtain ⟨a, vs, ns, rfl, rfl, hobj, hints, hlen⟩ := script_of hn hpre hwl
  refine enter_call (codeAny_mono (call w s₀ s₁ mg mb fa o pm cd doc a vs ns G Y ho (fd_plain hd) hcd hmg hobj hints hlen hg) fun r s' hq => ?_)
  obtain ⟨rfl, h2, h3, h4⟩ := hq
  exact ⟨.inl ⟨.bool true, .bool true, [], rfl, fun _ => rfl, .bool true, post_true l _, fun _ => ⟨List.Pairwise.nil, fun _ hm => (nomatch hm)⟩⟩, h2, h3, h4⟩
section
variable {prog : Program} {w : World} {A : Around} {E : Value → Shared → Prop} {s : Shared} {K : Frag}
def noObjs (h : Heap) : Heap := { h with objs := #[] }
theorem noObjs_get (h : Heap) (b : Addr) : (noObjs h).get? b = none := by
  cases e : (noObjs h).get? b with
  | none => rfl
  | some o => exact absurd (Heap.lt_size e) (Nat.not_lt_zero _)
theorem fr_all {h : Heap} {L : Addr} {m : Str → Option Value} (n : h.Ns L m) : Fr (noObjs h) L h m :=
  ⟨n, fun b o e => (by rw [noObjs_get] at e; cases e), Nat.zero_le _⟩
end
end Att
namespace L2
open PySem PySem.Spec PyProof.Rows
theorem vals_ints : ∀ {vs : List Value} {ns : List Int}, IntsAre vs ns → Vals (ns.map V.int) vs
  | _, _, .nil => .nil
  | _, _, .cons n t h => .cons ⟨t, rfl⟩ (vals_ints h)
end L2
namespace L2
open PySem PySem.Spec PyProof.Rows
abbrev KOf {K : PySem.W.Frag} {h : Heap} (_ : K.In h) : PySem.W.Frag := K
end L2
namespace L2
open PySem PySem.Spec PyProof.Rows
def defArgs (s : Stmt) : Arguments := match s with
  | .FunctionDef _ a _ _ _ _ _ _ _ _ => a
  | _ => { posonlyargs := [], args := [], vararg := none, kwonlyargs := [], kw_defaults := [], kwarg := none, defaults := [] }
def defBody (s : Stmt) : List Stmt := match s with
  | .FunctionDef _ _ b _ _ _ _ _ _ _ => b
  | _ => []
def defScope (s : Stmt) : Scope := match s with
  | .FunctionDef _ _ _ _ _ _ sc _ _ _ => sc
  | _ => { kind := .function, names := [], isGenerator := false, isCoroutine := false }
abbrev CX0 : CXT := fun _ _ _ _ _ _ => False
abbrev E0 : XK := fun _ _ _ => False
theorem pass0 {X : Cx} : Passes CX0 X E0 := fun _ _ _ _ _ _ _ h => h.elim
structure Fun (K : PySem.W.Frag) (x qual : Str) (st : Stmt) (f : Addr) (fd : FuncData) : Prop where
  ex : ∃ (oc : Value) (od : Option Addr) (kV doc pm : Value) (an : Option Addr) (cdv ct : Value) (osl : Array (Option Value)),
    fd = PySem.W.fnOf x qual (defArgs st) (defBody st) (defScope st) .none kV doc pm an cdv ct ∧ K.lookup f = some ⟨oc, od, .func fd, osl⟩ ∧ PySem.W.codeIn K cdv qual = true
  kp : PySem.W.keepIn K (.ref f) = true
section
variable {P : Program} {w : World} {K : PySem.W.Frag} {mg : Str → Option Value} {base : Heap}
theorem Fun.ok {x qual : Str} {st : Stmt} {f : Addr} {fd : FuncData} {N ps : List Str} {k : Nat} {sp : Sp} (F : Fun K x qual st f fd) (S : FnScope N ps (defScope st)) (len : ∀ vs H Q E, sp vs H Q E → vs.length = ps.length)
    (hbody : ∀ (cdv : Value) (A : Around) (outer : List Env) (s : Shared) (H : Hp) (vs : List V) (Q : VK) (E : XK), Room k (A.deeper (envOfC qual (defScope st) s.heap.objs.size f cdv)) → sp vs H Q E →
      ∃ t, PSs (cxOf CX0 P w K mg base N qual (defScope st) f cdv A outer s H E).nox (defBody st) t ∧ t { nx := fun _ H' => Q .non H', rt := Q } (start N vs) H) : FnOk P w K mg base CX0 (k + 1) f fd ps sp := by
  obtain ⟨oc, od, kV, doc, pm, an, cdv, ct, osl, rfl, lk, hcd⟩ := F.ex
  refine fn_of lk hcd S len fun A outer s H vs Q E hr hsp => ?_
  obtain ⟨t, h, q⟩ := hbody cdv A outer s H vs Q E hr hsp
  exact ⟨t, h.nox, q⟩
theorem Fun.binds {x qual : Str} {st : Stmt} {f : Addr} {fd : FuncData} {ps : List Str} (F : Fun K x qual st f fd)
    (h : ∀ (kV doc pm : Value) (an : Option Addr) (cdv ct : Value) (us : List Value), us.length = ps.length → bindArgs (PySem.W.fnOf x qual (defArgs st) (defBody st) (defScope st) .none kV doc pm an cdv ct) ⟨us, []⟩ = pure (ps.zip us)) : Binds K fd ps [] := by
  obtain ⟨oc, od, kV, doc, pm, an, cdv, ct, osl, rfl, lk, hcd⟩ := F.ex
  exact .all (h kV doc pm an cdv ct)
theorem fun_mk {x qual : Str} {st : Stmt} {f : Addr} {oc : Value} {od an : Option Addr} {osl : Array (Option Value)} {kV doc pm cdv ct : Value} (l : K.lookup f = some ⟨oc, od, .func (PySem.W.fnOf x qual (defArgs st) (defBody st) (defScope st) .none kV doc pm an cdv ct), osl⟩)
    (c : PySem.W.codeIn K cdv qual = true) (k : PySem.W.keepIn K (.ref f) = true) : Fun K x qual st f (PySem.W.fnOf x qual (defArgs st) (defBody st) (defScope st) .none kV doc pm an cdv ct) := ⟨⟨oc, od, kV, doc, pm, an, cdv, ct, osl, rfl, l, c⟩, k⟩
end
theorem hu_of {A : Around} {k : Nat} (hr : Room k A) : A.units + 1 < cLine := Nat.lt_of_le_of_lt (Nat.add_le_add_left (by decide : 1 ≤ 64) _) hr.units
theorem small1000 {n : Nat} (h : n ≤ 1000) : n < sizeLine := Nat.lt_of_le_of_lt h (by decide)
section
variable {X : Cx}
theorem pv (i : Nat) {x : Str} {pos : Pos} (hN : X.N[i]? = some x := by rfl) (hv : Vis X.env.scope x := by first | exact Or.inl rfl | exact Or.inr (Or.inl rfl) | exact Or.inr (Or.inr rfl)) (hd : (x == ("__debug__" : Str)) = false := by decide)
    (hcd : (x == ("__classdict__" : Str)) = false := by decide) : PE X (.Name x pos) (tVar i) := pe_var hN hv hd hcd
end
theorem iteF {A B : Prop} (h : B) : if false = true then A else B := by
  rw [if_neg Bool.false_ne_true]
  exact h
theorem iteT {A B : Prop} (h : A) : if true = true then A else B := by
  rw [if_pos rfl]
  exact h
theorem ite2 {c A B : Prop} [Decidable c] (h1 : c → A) (h2 : ¬ c → B) : if c then A else B := by
  by_cases h : c
  · rw [if_pos h]
    exact h1 h
  · rw [if_neg h]
    exact h2 h
def Same (H H' : Hp) : Prop := ∀ b o, H b = some o → H' b = some o
theorem Same.refl (H : Hp) : Same H H := fun _ _ h => h
theorem Same.trans {H H1 H2 : Hp} (a : Same H H1) (b : Same H1 H2) : Same H H2 := fun c o h => b c o (a c o h)
theorem Same.free {H H' : Hp} (e : Same H H') {l : Addr} (h : H' l = Option.none) : H l = Option.none := by
  cases q : H l with
  | none => rfl
  | some o =>
    rw [e l o q] at h
    cases h
theorem Same.seq {K : PySem.W.Frag} {H H' : Hp} {a : Addr} {xs : List V} (e : Same H H') (h : SqL K H a xs) : SqL K H' a xs := by
  rcases h with (h | ⟨o, h⟩) | h
  · exact .inl (.inl (e _ _ h))
  · exact .inl (.inr ⟨o, e _ _ h⟩)
  · exact .inr h
end L2
namespace L2
open PySem PySem.Spec PyProof.Rows
section
variable {X : Cx}
end
section
variable {κ : Type} [DecidableEq κ]
theorem valV_not {kvs : List (κ × V)} {k : κ} (h : valV kvs k = none) : ¬ k ∈ kvs.map (·.1) := by
  intro m
  obtain ⟨p, hp, e⟩ := List.mem_map.mp m
  have q : (kvs.any fun kv => decide (kv.1 = k)) = true := List.any_eq_true.mpr ⟨p, hp, decide_eq_true e⟩
  rw [valV_any, h] at q
  exact absurd q (by simp)
end
end L2
set_option Elab.async false
set_option linter.all false
set_option maxRecDepth 100000
set_option maxHeartbeats 4000000
namespace L2
open PySem PySem.Spec PyProof.Rows
def cloStep (env : Env) (x : Str × NameKind) (r : List (Str × Addr)) : Sem (ForInStep (List (Str × Addr))) :=
  if (x.2 == NameKind.free) = true then cellOf env x.1 >>= fun a => pure (.yield ((x.1, a) :: r)) else pure (.yield r)
theorem clo_look {y x : Str} {c : Addr} {acc : List (Str × Addr)} : ((y, c) :: acc).lookup x = if x = y then some c else acc.lookup x := by
  rw [List.lookup_cons]
  by_cases e : x = y
  · subst e; simp
  · have : (x == y) = false := by simpa using e
    rw [this, if_neg e]
theorem clo_go (env : Env) : ∀ (names : List (Str × NameKind)) (acc : List (Str × Addr)),
    (∀ y ∈ names, y.2 = .free → ∃ c, env.cells.lookup y.1 = some c) → (∀ x c, acc.lookup x = some c → env.cells.lookup x = some c) →
    ∃ cl, forIn names acc (cloStep env) = pure cl ∧ (∀ x c, cl.lookup x = some c → env.cells.lookup x = some c) ∧
      (∀ x, ((x, NameKind.free) ∈ names ∨ ∃ c, acc.lookup x = some c) → ∃ c, cl.lookup x = some c)
  | [], acc, _, ha => ⟨acc, by rw [List.forIn_nil], ha, fun x h => by
      rcases h with h | h
      · cases h
      · exact h⟩
  | y :: r, acc, hy, ha => by
    by_cases hk : y.2 = .free
    · obtain ⟨c, hc⟩ := hy y List.mem_cons_self hk
      have e : cloStep env y acc = pure (.yield ((y.1, c) :: acc)) := by
        unfold cloStep cellOf
        rw [if_pos (by rw [hk]; rfl), hc]
        exact pure_bind _ _
      have ha' : ∀ x d, ((y.1, c) :: acc).lookup x = some d → env.cells.lookup x = some d := fun x d h => by
        rw [clo_look] at h
        by_cases ex : x = y.1
        · rw [if_pos ex] at h; cases h; rw [ex]; exact hc
        · rw [if_neg ex] at h; exact ha x d h
      obtain ⟨cl, q1, q2, q3⟩ := clo_go env r ((y.1, c) :: acc) (fun z hz => hy z (List.mem_cons_of_mem _ hz)) ha'
      refine ⟨cl, ?_, q2, fun x h => q3 x ?_⟩
      · rw [List.forIn_cons, e, pure_bind]; exact q1
      · rcases h with h | ⟨d, h⟩
        · rcases List.mem_cons.mp h with h | h
          · refine .inr ⟨c, ?_⟩
            rw [clo_look, if_pos (by rw [← h])]
          · exact .inl h
        · refine .inr ?_
          by_cases ex : x = y.1
          · exact ⟨c, by rw [clo_look, if_pos ex]⟩
          · exact ⟨d, by rw [clo_look, if_neg ex]; exact h⟩
    · have e : cloStep env y acc = pure (.yield acc) := by
        unfold cloStep
        rw [if_neg (by simpa using hk)]
      obtain ⟨cl, q1, q2, q3⟩ := clo_go env r acc (fun z hz => hy z (List.mem_cons_of_mem _ hz)) ha
      refine ⟨cl, ?_, q2, fun x h => q3 x ?_⟩
      · rw [List.forIn_cons, e, pure_bind]; exact q1
      · rcases h with h | h
        · rcases List.mem_cons.mp h with h | h
          · exact absurd (by rw [← h]) hk
          · exact .inl h
        · exact .inr h
theorem closureFor_eq (scope : Scope) (env : Env) : closureFor scope env = forIn scope.names [] (cloStep env) := by
  unfold closureFor
  have e : (fun (x : Str × NameKind) (r : List (Str × Addr)) => cloStep env x r) = cloStep env := rfl
  simp only [bind_pure]
  rfl
def blkOk (sc : Scope) (N : List Str) (scope : Scope) (caps : List Nat) : Bool :=
  scope.names.all (fun y => decide (scope.names.lookup y.1 = some y.2)) &&
  scope.names.all (fun y => decide (y.2 = .free → (sc.names.lookup y.1 = some .cell ∨ sc.names.lookup y.1 = some .free))) &&
  caps.all (fun j => match N[j]? with
    | some x => decide (scope.names.lookup x = some .free) && decide (sc.names.lookup x = some .cell ∨ sc.names.lookup x = some .free)
    | none => false)
def blockSt (n : Nat) (caps : List Nat) (σ : St) : St := List.replicate n none ++ caps.map fun j => (σ[j]?).getD none
def cxBlk (X : Cx) (N : List Str) (scope : Scope) (cl : List (Str × Addr)) (s₃ : Shared) (H₃ : Hp) (ch : List Addr) : Cx where
  prog := X.prog
  w := X.w
  K := X.K
  mg := X.mg
  base := X.base
  A := X.A
  N := N
  s₀ := s₃
  H₀ := H₃
  env := compEnvC scope cl s₃.heap.objs.size X.env
  outer := X.stack
  stack := X.stack
  ex := ch
  fn := fun x => match scope.names.lookup x with
    | some .cell => true
    | _ => false
  calm := X.calm
  pn := []
  xe := fun _ _ => False
theorem relabel_free {env : Env} : ∀ {names : List (Str × NameKind)} {x : Str}, names.lookup x = some .free →
    (names.map fun (n, k) => if (k == NameKind.free && env.scope.kind == .function && env.kindOf n == some .cell) then (n, NameKind.cell) else (n, k)).lookup x = some .cell ∨
    (names.map fun (n, k) => if (k == NameKind.free && env.scope.kind == .function && env.kindOf n == some .cell) then (n, NameKind.cell) else (n, k)).lookup x = some .free
  | [], _, h => by simp at h
  | (n, k) :: r, x, h => by
    have ih := @relabel_free env r x
    have two : ∀ l : List (Str × NameKind), List.lookup x ((if (k == NameKind.free && env.scope.kind == .function && env.kindOf n == some .cell) = true then (n, NameKind.cell) else (n, k)) :: l) = some .cell ∨
        List.lookup x ((if (k == NameKind.free && env.scope.kind == .function && env.kindOf n == some .cell) = true then (n, NameKind.cell) else (n, k)) :: l) = some .free ↔
        (if (x == n) = true then (k = .free ∨ k = .cell) else (l.lookup x = some .cell ∨ l.lookup x = some .free)) := by
      intro l
      cases hx : x == n with
      | true =>
        by_cases hc : (k == NameKind.free && env.scope.kind == .function && env.kindOf n == some .cell) = true
        · rw [if_pos hc]
          have hk : k = .free := by
            simp only [Bool.and_eq_true, beq_iff_eq] at hc
            exact hc.1.1
          simp [List.lookup_cons, hx, hk]
        · rw [if_neg hc]
          simp only [List.lookup_cons, hx, if_true, Option.some.injEq]
          exact Or.comm
      | false =>
        by_cases hc : (k == NameKind.free && env.scope.kind == .function && env.kindOf n == some .cell) = true
        · rw [if_pos hc]; simp [List.lookup_cons, hx]
        · rw [if_neg hc]; simp [List.lookup_cons, hx]
    refine (two _).mpr ?_
    cases hx : x == n with
    | true =>
      simp only [List.lookup_cons, hx] at h
      cases h
      simp
    | false =>
      simp only [List.lookup_cons, hx] at h
      simpa using ih h
theorem relabel_from {env : Env} : ∀ {names : List (Str × NameKind)} {x : Str} {k : NameKind}, k = .cell ∨ k = .free →
    (names.map fun (n, k) => if (k == NameKind.free && env.scope.kind == .function && env.kindOf n == some .cell) then (n, NameKind.cell) else (n, k)).lookup x = some k → names.lookup x = some .free ∨ names.lookup x = some .cell
  | [], _, _, _, h => by simp at h
  | (n, k0) :: r, x, k, hk, h => by
    rw [List.map_cons] at h
    dsimp only at h
    by_cases hq : (k0 == NameKind.free && env.scope.kind == .function && env.kindOf n == some .cell) = true
    · rw [if_pos hq] at h
      have h0 : k0 = .free := by
        simp only [Bool.and_eq_true, beq_iff_eq] at hq
        exact hq.1.1
      rw [List.lookup_cons] at h ⊢
      cases hx : x == n with
      | true => exact .inl (by rw [h0])
      | false => rw [hx] at h; exact relabel_from hk h
    · rw [if_neg hq] at h
      rw [List.lookup_cons] at h ⊢
      cases hx : x == n with
      | true =>
        rw [hx] at h
        dsimp only at h ⊢
        rcases hk with rfl | rfl
        · exact .inr h
        · exact .inl h
      | false => rw [hx] at h; exact relabel_from hk h
theorem cells_app : ∀ (names : List (Str × NameKind)) (n : Nat) (acc : List (Str × Addr)), cellsFrom n names acc = cellsFrom n names [] ++ acc
  | [], _, _ => rfl
  | (x, k) :: r, n, acc => by
    unfold cellsFrom
    split
    · rw [cells_app r (n + 1) ((x, n) :: acc), cells_app r (n + 1) [(x, n)], List.append_assoc]; rfl
    · exact cells_app r n acc
theorem cells_kind : ∀ (names : List (Str × NameKind)) (n : Nat) {x : Str} {c : Addr}, (x, c) ∈ cellsFrom n names [] → (x, NameKind.cell) ∈ names
  | [], _, _, _, h => by cases h
  | (y, k) :: r, n, x, c, h => by
    unfold cellsFrom at h
    split at h
    · rename_i hk
      rw [cells_app] at h
      rcases List.mem_append.mp h with h | h
      · exact List.mem_cons_of_mem _ (cells_kind r _ h)
      · rcases List.mem_singleton.mp h with h
        cases h
        rw [← eq_of_beq hk]; exact List.mem_cons_self
    · exact List.mem_cons_of_mem _ (cells_kind r _ h)
theorem newEnv_blk {M : Model} {A : Around} {E : Value → Shared → Prop} {s : Shared} {scope : Scope} {globals : Addr} {closure : List (Str × Addr)} {qual : Str} {func : Option Addr} {code : Value} {outer : Env} {builtins : Addr} {Q : Env → Shared → Prop}
    (hQ : ∀ h', h'.Ns s.heap.objs.size (fun _ => none) → (∀ b o, s.heap.get? b = some o → h'.get? b = some o) → CellsOk h' (s.heap.objs.size + 1) (cellsFrom (s.heap.objs.size + 1) scope.names []) →
      Q (newEnv scope s.heap.objs.size globals (cellsFrom (s.heap.objs.size + 1) scope.names closure) qual func code (some outer) builtins) { s with heap := h' }) :
    wpAny M A (newFunctionEnv scope globals closure [] qual func code (some outer) builtins) Q E s := by
  unfold newFunctionEnv
  simp only [Option.isSome_some, if_true]
  refine wpAny_bind (wpAny_alloc (wpAny_bind (wpAny_layCells _ (fun x k cs => ?_) _ _ _ _ ?_)))
  · cases h : k == NameKind.cell
    · simp [h]
    · simp [h]
  · have e1 : ∀ o : Obj, (s.heap.push o).objs.size = s.heap.objs.size + 1 := fun o => Heap.size_push ..
    dsimp only
    rw [e1, List.forIn_nil]
    refine wpAny_bind (wpAny_pure (wpAny_pure (hQ _ ((Heap.Ns.new s.heap (.type "dict")).keeps (pushCells_keeps _ _)) (fun b o e => pushCells_keeps _ _ b o (Heap.get?_push_of_some _ e)) ?_)))
    have q := cellsFrom_ok scope.names (s.heap.push { cls := .type "dict", data := .dict #[] }) (s.heap.objs.size + 1) [] ⟨fun _ _ z => (nomatch z), .nil⟩ (Nat.le_of_eq (e1 _).symm)
    rw [e1] at q
    exact q
section
variable {X : Cx} {pins : List (Addr × Obj)} {σ : St} {H₃ : Hp} {s₃ : Shared} {N own : List Str} {caps : List Nat} {scope : Scope} {cl : List (Str × Addr)} {ch : List Addr}
structure BlkOk (sc : Scope) (N : List Str) (scope : Scope) (caps : List Nat) : Prop where
  one : ∀ y ∈ scope.names, scope.names.lookup y.1 = some y.2
  free : ∀ y ∈ scope.names, y.2 = .free → (sc.names.lookup y.1 = some .cell ∨ sc.names.lookup y.1 = some .free)
  cap : ∀ j ∈ caps, ∃ x, N[j]? = some x ∧ scope.names.lookup x = some .free ∧ (sc.names.lookup x = some .cell ∨ sc.names.lookup x = some .free)
theorem BlkOk.loc {sc : Scope} {N : List Str} (ok : BlkOk sc N scope caps) : ∀ y ∈ scope.names, y.2 = .local → scope.names.lookup y.1 = some .local := fun y hy e => e ▸ ok.one y hy
theorem blkOk_iff {sc : Scope} {N : List Str} (h : blkOk sc N scope caps = true) : BlkOk sc N scope caps := by
  unfold blkOk at h
  simp only [Bool.and_eq_true, List.all_eq_true, decide_eq_true_eq] at h
  obtain ⟨⟨h1, h3⟩, h4⟩ := h
  refine ⟨h1, h3, fun j hj => ?_⟩
  have q := h4 j hj
  cases e : N[j]? with
  | none => rw [e] at q; cases q
  | some x =>
    rw [e] at q
    simp only [Bool.and_eq_true, decide_eq_true_eq] at q
    exact ⟨x, rfl, q⟩
structure BlkCl (X : Cx) (scope : Scope) (cl : List (Str × Addr)) (n : Nat) (h1 : Heap) : Prop where
  src : ∀ x c, cl.lookup x = some c → (X.env.cells.lookup x = some c ∧ scope.names.lookup x ≠ some .cell) ∨ (scope.names.lookup x = some .cell ∧ n < c ∧ h1.IsCell c none)
  inj : ∀ x y c, cl.lookup x = some c → cl.lookup y = some c → x = y
  has : ∀ x, scope.names.lookup x = some .free ∨ scope.names.lookup x = some .cell → ∃ c, cl.lookup x = some c
theorem blkCl_of {sc : Scope} {M : List Str} {cl0 : List (Str × Addr)} {h1 : Heap} (ok : BlkOk sc M scope caps) (I3 : Inv X pins σ H₃ s₃) (hcl1 : ∀ x c, cl0.lookup x = some c → X.env.cells.lookup x = some c) (hcl2 : ∀ x, (x, NameKind.free) ∈ scope.names → ∃ c, cl0.lookup x = some c)
    (hc : CellsOk h1 (s₃.heap.objs.size + 1) (cellsFrom (s₃.heap.objs.size + 1) scope.names [])) : BlkCl X scope (cellsFrom (s₃.heap.objs.size + 1) scope.names cl0) s₃.heap.objs.size h1 := by
  have two : ∀ x c, (cellsFrom (s₃.heap.objs.size + 1) scope.names cl0).lookup x = some c → (X.env.cells.lookup x = some c ∧ scope.names.lookup x ≠ some .cell) ∨ ((x, c) ∈ cellsFrom (s₃.heap.objs.size + 1) scope.names [] ∧ scope.names.lookup x = some .cell) := fun x c e => by
    rw [cells_app, List.lookup_append] at e
    cases q : (cellsFrom (s₃.heap.objs.size + 1) scope.names []).lookup x with
    | some d =>
      rw [q] at e
      cases e
      have m := PySem.mem_of_lookup q
      exact .inr ⟨m, ok.one _ (cells_kind _ _ m)⟩
    | none =>
      rw [q] at e
      refine .inl ⟨hcl1 x c e, fun z => ?_⟩
      obtain ⟨d, hd⟩ := cell_has (n := s₃.heap.objs.size + 1) z
      rw [q] at hd; cases hd
  have low : ∀ x c, X.env.cells.lookup x = some c → c < s₃.heap.objs.size := fun x c e => by
    obtain ⟨v, o, ho, _⟩ := I3.cell x c e
    exact Heap.lt_size ho
  refine ⟨fun x c e => ?_, fun x y c e1 e2 => ?_, fun x hx => ?_⟩
  · rcases two x c e with h | ⟨m, k⟩
    · exact .inl h
    · exact .inr ⟨k, (hc.empty x c m).2, (hc.empty x c m).1⟩
  · rcases two x c e1 with ⟨h, _⟩ | ⟨m, _⟩ <;> rcases two y c e2 with ⟨h', _⟩ | ⟨m', _⟩
    · exact I3.ok.inj x y c h h'
    · exact absurd (Nat.lt_of_lt_of_le (low x c h) (Nat.le_of_succ_le (hc.empty y c m').2)) (Nat.lt_irrefl _)
    · exact absurd (Nat.lt_of_lt_of_le (low y c h') (Nat.le_of_succ_le (hc.empty x c m).2)) (Nat.lt_irrefl _)
    · exact name_of_addr hc.apart m m'
  · rw [cells_app, List.lookup_append]
    cases q : (cellsFrom (s₃.heap.objs.size + 1) scope.names []).lookup x with
    | some d => exact ⟨d, rfl⟩
    | none =>
      rcases hx with hx | hx
      · obtain ⟨c, hc⟩ := hcl2 x (PySem.mem_of_lookup hx)
        exact ⟨c, hc⟩
      · obtain ⟨d, hd⟩ := cell_has (n := s₃.heap.objs.size + 1) hx
        rw [q] at hd; cases hd
theorem blk_start {h1 : Heap} {m : Str → Option Value} {t1 : Nat} (I3 : Inv X pins σ H₃ s₃) (hf : ∀ b ∈ ch, FpOk X pins H₃ b) (hch : ∀ b ∈ ch, b < s₃.heap.objs.size)
    (hN : N = own ++ caps.map fun j => (X.N[j]?).getD (Str.ofString "")) (ok : BlkOk X.env.scope X.N scope caps) (hkind : scope.kind = .function)
    (hcl : BlkCl X scope cl s₃.heap.objs.size h1)
    (hns : h1.Ns s₃.heap.objs.size m) (keep : ∀ b o, s₃.heap.get? b = some o → h1.get? b = some o) :
    Inv (cxBlk X N scope cl s₃ H₃ ch) [] (blockSt own.length caps σ) H₃ { s₃ with heap := h1, toks := t1 } := by
  refine ⟨⟨I3.ok.mod, hkind, I3.ok.glob, I3.ok.blt, Nat.le_refl _, hcl.inj, fun x hx => ?_, fun x c e el => ?_, I3.ok.hd, I3.ok.frames, .inl rfl,
      fun b hb => ⟨Nat.ne_of_lt (hch b hb), fun x c e => ?_⟩, I3.bs, Nat.le_trans I3.ok.bsz I3.sz, fun b o e hb => ?_, fun b hb hz => ?_, I3.stack, I3.stkFree⟩,
    rfl, I3.bare, Un.kept keep, ⟨m, hns, fun i x v e1 e2 e3 => ?_⟩, fun x c e => ?_, I3.fresh, fun x c e => ?_, fun p hp => absurd (show p ∈ ([] : List (Addr × Obj)) from hp) (by simp), I3.hok.kept keep, ?_⟩
  · refine hcl.has x ?_
    rcases hx with hx | hx
    · exact relabel_from (.inl rfl) hx
    · exact relabel_from (.inr rfl) hx
  · rcases hcl.src x c el with ⟨_, z⟩ | ⟨_, z, _⟩
    · have e : (match scope.names.lookup x with
        | some .cell => true
        | _ => false) = true := e
      split at e
      · rename_i q; exact absurd q z
      · cases e
    · exact Nat.le_of_lt z
  · rcases hcl.src x c e with ⟨z, _⟩ | ⟨_, z, _⟩
    · exact (hf b hb).2.2.2.2.1 x c z
    · exact Nat.ne_of_gt (Nat.lt_trans (hch b hb) z)
  · rcases (hf b hb).2.2.2.1 with z | z
    · exact I3.ok.noex b o e z
    · exact absurd (Nat.lt_of_lt_of_le (show b < X.base.objs.size from Heap.lt_size e) I3.ok.bsz) (Nat.not_lt.mpr z)
  · rcases List.mem_cons.mp (I3.stkSub b hz) with z | z
    · exact (hf b hb).2.1 z
    · exact (hf b hb).2.2.1 z
  · have hi : own.length ≤ i := by
      rcases Nat.lt_or_ge i own.length with z | z
      · unfold blockSt at e2
        rw [List.getElem?_append_left (by simpa using z), List.getElem?_replicate, if_pos z] at e2
        cases e2
      · exact z
    have e2' : (caps.map fun j => (σ[j]?).getD none)[i - own.length]? = some (some v) := by
      unfold blockSt at e2
      rwa [List.getElem?_append_right (by simpa using hi), List.length_replicate] at e2
    have e1' : (caps.map fun j => (X.N[j]?).getD (Str.ofString ""))[i - own.length]? = some x := by
      have e1 : N[i]? = some x := e1
      rw [hN, List.getElem?_append_right hi] at e1
      exact e1
    rw [List.getElem?_map] at e1' e2'
    cases ej : caps[i - own.length]? with
    | none => rw [ej] at e2'; cases e2'
    | some j =>
      rw [ej] at e1' e2'
      have e1'' : (X.N[j]?).getD (Str.ofString "") = x := Option.some.inj e1'
      have e2'' : (σ[j]?).getD none = some v := Option.some.inj e2'
      obtain ⟨x', hx', hl, hsc⟩ := ok.cap j (List.mem_of_getElem? ej)
      rw [hx'] at e1''
      have ex : x' = x := e1''
      subst ex
      have hσ : σ[j]? = some (some v) := by
        cases q : σ[j]? with
        | none => rw [q] at e2''; cases e2''
        | some o => rw [q] at e2''; rw [show o = some v from e2'']
      obtain ⟨m3, hn3, hl3⟩ := I3.loc
      obtain ⟨u, r, lk⟩ := hl3 j x' v hx' hσ (.inr hsc)
      refine ⟨u, r, .inr ⟨relabel_free hl, ?_⟩⟩
      rcases lk with ⟨hk, _⟩ | ⟨_, c, hc, z⟩
      · have hk : X.env.scope.names.lookup x' = some .local := hk
        rcases hsc with q | q <;> rw [hk] at q <;> cases q
      · obtain ⟨c', hc'⟩ := hcl.has x' (.inl hl)
        have q : X.env.cells.lookup x' = some c' := by
          rcases hcl.src x' c' hc' with ⟨z, _⟩ | ⟨z, _⟩
          · exact z
          · rw [hl] at z; cases z
        rw [hc] at q
        cases q
        obtain ⟨o, ho, hd⟩ := z
        exact ⟨c, hc', o, keep c o ho, hd⟩
  · rcases hcl.src x c e with ⟨z, _⟩ | ⟨_, _, z⟩
    · obtain ⟨v, o, ho, hd⟩ := I3.cell x c z
      exact ⟨v, o, keep c o ho, hd⟩
    · exact ⟨none, z⟩
  · rcases hcl.src x c e with ⟨z, _⟩ | ⟨_, z, _⟩
    · exact I3.freeC x c z
    · exact I3.hok.fresh (Nat.le_of_lt z)
  · show (blockSt own.length caps σ).length = N.length
    rw [hN]
    simp [blockSt]
end
def PIfs (X : Cx) (ifs : List Expr) (t : TT) : Prop :=
  ∀ (pins : List (Addr × Obj)) (s : Shared) (σ : St) (H : Hp) (Q : Bool → Hp → Prop), Inv X pins σ H s → t σ H Q →
    wpAny (model X.prog X.w) X.A (forIn ifs true fun c r => if r = true then do let ok ← isTrue c X.env (eval c X.env); pure (ForInStep.yield ok) else pure (ForInStep.yield r)) (TP X pins σ Q) X.xe s
def tYes : TT := fun _ H Q => Q true H
theorem pifs_nil {X : Cx} : PIfs X [] tYes := fun _ _ _ H _ I h => wpAny_tests_nil ⟨H, I, h⟩
theorem pifs_one {X : Cx} {c : Expr} {t : TT} (h : PT X c t) : PIfs X [c] t := fun pins s σ H Q I q => wpAny_tests_one (h pins s σ H Q I q)
theorem compLoop_gen {prog : Program} {w : World} {A : Around} {R : Result → Shared → Prop} {s : Shared} {elt target iter : Expr} {ifs : List Expr} {scope : Scope} {pos : Pos} {it acc : Value} {env : Env} (I : Nat → Shared → Prop)
    (turn : ∀ n s, I n s → wpAny (model prog w) A (pyNext it) (fun r s₁ => match r with
      | none => R (.ok .next) s₁
      | some v => wpAny (model prog w) A (letOwnedTupleGo target it v) (fun _ s₁' => wpAny (model prog w) A (assign target env v) (fun _ s₂ =>
          wpAny (model prog w) A (forIn ifs true fun c r => if r = true then do let ok ← isTrue c env (eval c env); pure (ForInStep.yield ok) else pure (ForInStep.yield r)) (fun ok s₃ =>
            if ok = true then wpAny (model prog w) A (eval elt env) (fun x s₄ =>
              wpAny (model prog w) A (call (.builtin "list.append") [acc, x]) (fun _ s₅ => ∃ m, m < n ∧ I m s₅) (fun _ _ => False) s₄) (fun _ _ => False) s₃
            else ∃ m, m < n ∧ I m s₃) (fun _ _ => False) s₂) (fun _ _ => False) s₁') (fun _ _ => False) s₁) (fun _ _ => False) s)
    (n : Nat) (h : I n s) :
    codeAny (model prog w) A (.compLoop (.ListComp elt [⟨target, iter, ifs, 0⟩] scope pos) 0 it acc env) R s := by
  refine codeAny_loop rfl I (fun n s hI => ?_) n h
  show wpAny _ A ((compTurn (.ListComp elt [⟨target, iter, ifs, 0⟩] scope pos) 0 it acc env).onRaise (fun x => do noteFrame x env; theTreesLotGoes x)) _ _ s
  refine wpAny_noted ?_
  rw [compTurn_list]
  refine wpAny_bind (wpAny_standAt (wpAny_bind (wpAny_mono (turn n s hI) (fun r s₁ h₁ => ?_) fun _ _ h' => h'.elim)))
  cases r with
  | none => exact wpAny_pure h₁
  | some v =>
    refine wpAny_bind (wpAny_mono h₁ (fun _ s₁' h₁' => ?_) fun _ _ h' => h'.elim)
    refine wpAny_bind (wpAny_mono h₁' (fun _ s₂ h₂ => wpAny_bind (wpAny_mono h₂ (fun ok s₃ h₃ => ?_) fun _ _ h' => h'.elim)) fun _ _ h' => h'.elim)
    cases ok with
    | false => exact wpAny_pure ⟨rfl, h₃⟩
    | true =>
      exact wpAny_bind (wpAny_bind (wpAny_mono h₃ (fun x s₄ h₄ => wpAny_bind (wpAny_mono h₄ (fun _ s₅ h₅ => wpAny_pure (wpAny_pure ⟨rfl, h₅⟩)) fun _ _ h' => h'.elim)) fun _ _ h' => h'.elim))
def CompGo (acc : Addr) (Q : VK) (g : TG) (tc : TT) (te : TE) (J : It) (σ : St) (H : Hp) : Prop :=
  ∃ W : Nat → Nat → St → Hp → Prop, (∃ m, W 0 m σ H) ∧ ∀ i m σ' H', W i m σ' H' →
    (J.stop i H' ∧ Q (.ref acc) H') ∨ (J.go i H' ∧ ∃ N : St → Hp → Prop, (∀ σ'' H'', N σ'' H'' → ∃ m', m' < m ∧ W (i + 1) m' σ'' H'') ∧ ∀ x H2, J.yld i H' x H2 → g x σ' H2 fun σ3 H3 => tc σ3 H3 fun b H4 =>
      if b = true then te σ3 H4 fun v H5 => ∃ ys, H5 acc = some (.lst ys) ∧ ys.length < sizeLine ∧ N σ3 (upd H5 acc (.lst (ys ++ [v])))
      else N σ3 H4)
def tComp (n : Nat) (caps : List Nat) (wi : TI) (g : TG) (tc : TT) (te : TE) : TE := fun σ H Q => wi σ H fun J H1 => ∀ acc, H1 acc = none → CompGo acc Q g tc te J (blockSt n caps σ) (upd H1 acc (.lst []))
theorem comp_run {X : Cx} {pins : List (Addr × Obj)} {σ : St} {Q : VK} {tg elt iter : Expr} {ifs : List Expr} {scope : Scope} {pos : Pos} {N own : List Str} {caps : List Nat} {g : TG} {tc : TT} {te : TE} {cl : List (Str × Addr)} {it acc : Addr} {fp : List Addr} {tn : Nat → Heap → Prop} {J : It}
    {s3 : Shared} {H3 : Hp} {h1 : Heap} {m : Str → Option Value} {t1 m0 : Nat} {W : Nat → Nat → St → Hp → Prop} (hc : X.calm = true)
    (hN : N = own ++ caps.map fun j => (X.N[j]?).getD (Str.ofString "")) (ok : BlkOk X.env.scope X.N scope caps) (hkind : scope.kind = .function)
    (hcl : BlkCl X scope cl s3.heap.objs.size h1)
    (hg : PG (cxBlk X N scope cl s3 H3 fp) tg g) (hifs : PIfs (cxBlk X N scope cl s3 H3 fp) ifs tc) (he : PE (cxBlk X N scope cl s3 H3 fp) elt te)
    (I3 : Inv X pins σ H3 s3) (f3 : ∀ b ∈ fp, FpOk X pins H3 b) (flt : ∀ b ∈ fp, b < s3.heap.objs.size) (T : Turn X.prog X.w X.K tg J fp it tn) (st3 : tn 0 s3.heap)
    (hns : h1.Ns s3.heap.objs.size m) (keep : ∀ b o, s3.heap.get? b = some o → h1.get? b = some o) (w0 : W 0 m0 (blockSt own.length caps σ) H3)
    (turn : ∀ i m σ' H', W i m σ' H' →
      (J.stop i H' ∧ Q (.ref acc) H') ∨ (J.go i H' ∧ ∃ N : St → Hp → Prop, (∀ σ'' H'', N σ'' H'' → ∃ m', m' < m ∧ W (i + 1) m' σ'' H'') ∧ ∀ x H2, J.yld i H' x H2 → g x σ' H2 fun σ3 H3 => tc σ3 H3 fun b H4 =>
        if b = true then te σ3 H4 fun v H5 => ∃ ys, H5 acc = some (.lst ys) ∧ ys.length < sizeLine ∧ N σ3 (upd H5 acc (.lst (ys ++ [v])))
        else N σ3 H4)) :
    codeAny (model X.prog X.w) X.A (.compStart (.ListComp elt [⟨tg, iter, ifs, 0⟩] scope pos) 0 (.ref it) (.ref acc) (compEnvC scope cl s3.heap.objs.size X.env))
      (compPost (model X.prog X.w) X.A X.xe none (EP X pins σ Q) (.ref acc) s3.heap.objs.size) { s3 with heap := h1, toks := t1 } := by
  have IB := blk_start (t1 := t1) (own := own) I3 f3 flt hN ok hkind hcl hns keep
  have stat : ∀ {H' : Hp}, (∀ b ∈ fp, H' b = none) → ∀ b ∈ fp, FpOk (cxBlk X N scope cl s3 H3 fp) [] H' b := fun {H'} hn b hb =>
    ⟨hn b hb, (IB.ok.exf b hb).1, IB.ok.exfs b hb, .inl hb, (IB.ok.exf b hb).2, fun p hp => absurd (show p ∈ ([] : List (Addr × Obj)) from hp) (by simp)⟩
  have st4 : tn 0 h1 := T.keep _ _ _ st3 fun b _ o e => keep b o e
  have loop : codeAny (model X.prog X.w) X.A (.compLoop (.ListComp elt [⟨tg, iter, ifs, 0⟩] scope pos) 0 (.ref it) (.ref acc) (compEnvC scope cl s3.heap.objs.size X.env))
      (compPost (model X.prog X.w) X.A X.xe none (EP X pins σ Q) (.ref acc) s3.heap.objs.size) { s3 with heap := h1, toks := t1 } := by
    refine compLoop_gen (fun n s' => ∃ i σ' H', Inv (cxBlk X N scope cl s3 H3 fp) [] σ' H' s' ∧ tn i s'.heap ∧ (∀ b ∈ fp, H' b = none) ∧ W i n σ' H') ?_ m0 ⟨0, _, H3, IB, st4, fun b hb => (f3 b hb).1, w0⟩
    rintro n s5 ⟨i, σ5, H5, I5, st5, fr5, w5⟩
    rcases turn i n σ5 H5 w5 with ⟨stop, qn⟩ | ⟨go, Nx, hNx, step⟩
    · refine thn (T.done (cxBlk X N scope cl s3 H3 fp) rfl rfl rfl hc i [] s5 σ5 H5 _ I5 (stat fr5) st5 stop) fun r s6 ⟨hr, I6⟩ => ?_
      subst hr
      obtain ⟨m6, hn6, _⟩ := I6.loc
      refine ⟨m6, hn6, fun h' hs' => ?_⟩
      have IX : Inv X pins σ H5 s6 := I3.call' (ch := fp) I6.os I6.base I6.hok I6.bare fun b hb => ⟨(f3 b hb).2.2.2.1, (f3 b hb).2.1, (f3 b hb).2.2.2.2.1, (f3 b hb).2.2.2.2.2⟩
      refine ⟨.ref acc, H5, IX.turned (t' := s6.toks) (it := s3.heap.objs.size) (fun b o hb e => (hs'.2 b hb).trans e) I6.free (Nat.ne_of_gt I3.lt) (.inr I3.sz) (fun x c e => ?_) (fun p hp => ?_), rfl, qn⟩
      · obtain ⟨v, o, ho, _⟩ := I3.cell x c e
        exact Nat.ne_of_lt (Heap.lt_size ho)
      · exact Nat.ne_of_lt (Heap.lt_size (I3.pin p hp).1)
    · refine thn (T.item (cxBlk X N scope cl s3 H3 fp) rfl rfl rfl hc i [] s5 σ5 H5 _ I5 (stat fr5) st5 go) fun r s6 ⟨u, hr, h6⟩ => ?_
      subst hr
      refine thn h6 fun _ s7 ⟨x, H7, I7, r7, y7, st7, fr7⟩ => ?_
      have I7' := I7.pinned (stat fr7) (T.obj _ _ st7)
      refine thn (hg _ s7 σ5 H7 x u _ I7' r7 (step x H7 y7)) fun _ s8 ⟨σ8, H8, I8, q8⟩ => ?_
      have again : ∀ {s9 : Shared} {H9 : Hp}, Inv (cxBlk X N scope cl s3 H3 fp) ([] ++ pinsAt fp s7.heap) σ8 H9 s9 → Nx σ8 H9 →
          ∃ m, m < n ∧ ∃ i σ' H', Inv (cxBlk X N scope cl s3 H3 fp) [] σ' H' s9 ∧ tn i s9.heap ∧ (∀ b ∈ fp, H' b = none) ∧ W i m σ' H' := fun {s9 H9} I9 n9 => by
        obtain ⟨m', hm, w9⟩ := hNx σ8 H9 n9
        refine ⟨m', hm, i + 1, σ8, H9, I9.unpinned, T.keep _ _ _ st7 fun b hb o e => (I9.pin (b, o) (List.mem_append_right _ (List.mem_append_right _ (mem_pinsAt hb e)))).1, fun b hb => ?_, w9⟩
        obtain ⟨o, e, d⟩ := T.obj _ _ st7 b hb
        exact (I9.pin (b, o) (List.mem_append_right _ (List.mem_append_right _ (mem_pinsAt hb e)))).2.1
      refine thn (hifs _ s8 σ8 H8 _ I8 q8) fun b s9 ⟨H9, I9, q9⟩ => ?_
      cases b with
      | false =>
        rw [if_neg (by decide)] at q9 ⊢
        exact again I9 q9
      | true =>
        rw [if_pos rfl] at q9 ⊢
        refine thn (he _ s9 σ8 H9 _ I9 q9) fun xv s10 ⟨v, H10, I10, r10, ys, ey, hz, n10⟩ => ?_
        refine thn (mt_append (X := cxBlk X N scope cl s3 H3 fp) _ s10 σ8 H10 (.ref acc) [v] (.ref acc) [xv] (fun _ H' => H' = upd H10 acc (.lst (ys ++ [v]))) I10 rfl (.cons r10 .nil) ⟨acc, ys, v, rfl, rfl, ey, hz, rfl⟩) fun _ s11 ⟨_, H11, I11, _, e11⟩ => ?_
        subst e11
        exact again I11 n10
  exact codeAny_compStart_list loop (T.self _ _ _ _ _ st4 loop)
theorem pe_comp {X : Cx} {tg elt iter : Expr} {ifs : List Expr} {scope : Scope} {pos : Pos} {N : List Str} {wi : TI} {g : TG} {tc : TT} {te : TE} (own : List Str) (caps : List Nat) (hc : X.calm = true)
    (hN : N = own ++ caps.map fun j => (X.N[j]?).getD (Str.ofString "")) (hok : blkOk X.env.scope X.N scope caps = true) (hkind : scope.kind = .function)
    (hi : PI X tg iter wi) (hg : ∀ cl s₃ H₃ ch, PG (cxBlk X N scope cl s₃ H₃ ch) tg g) (hifs : ∀ cl s₃ H₃ ch, PIfs (cxBlk X N scope cl s₃ H₃ ch) ifs tc) (he : ∀ cl s₃ H₃ ch, PE (cxBlk X N scope cl s₃ H₃ ch) elt te)
    (hs : ∀ x, foldedSetIterable iter X.env x = pure x := by intro _; rfl) : PE X (.ListComp elt [⟨tg, iter, ifs, 0⟩] scope pos) (tComp own.length caps wi g tc te) := by
  intro pins s σ H Q I h
  have ok := blkOk_iff hok
  obtain ⟨cl, hclo, hcl1, hcl2'⟩ := clo_go X.env scope.names [] (fun y hy hk => I.ok.has y.1 (ok.free y hy hk)) (fun x c e => by simp at e)
  have hcl2 : ∀ x, (x, NameKind.free) ∈ scope.names → ∃ c, cl.lookup x = some c := fun x hx => hcl2' x (.inl hx)
  rw [← closureFor_eq] at hclo
  rw [eval_ListComp]
  refine wpAny_comprehension_free (use := none) rfl hs hclo hkind ok.loc (thn (hi pins s σ H _ I h) fun v s1 h1 => thn h1 fun itv s2 h2 => ?_)
  obtain ⟨it, fp, tn, J, H2, e, I2, T, st2, f2, R⟩ := h2
  subst e
  obtain ⟨W, ⟨m0, w0⟩, turn⟩ := R s2.heap.objs.size I2.fresh
  have flt : ∀ b ∈ fp, b < s2.heap.objs.size := fun b hb => let ⟨o, ho, _⟩ := T.obj 0 _ st2 b hb; Heap.lt_size ho
  have I3 : Inv X pins σ (upd H2 s2.heap.objs.size (.lst [])) { s2 with heap := s2.heap.push { cls := .type "list", dict := none, data := .seq ([] : List Value).toArray } } := I2.lnew (t' := s2.toks) (its := []) .nil (Nat.zero_le _)
  have f3 : ∀ b ∈ fp, FpOk X pins (upd H2 s2.heap.objs.size (.lst [])) b := fun b hb => ⟨by rw [upd_ne (Nat.ne_of_lt (flt b hb))]; exact (f2 b hb).1, (f2 b hb).2⟩
  refine wpAny_newObj_type (newEnv_blk fun h₁ hns₁ keep₁ cok => ?_)
  have flt3 : ∀ b ∈ fp, b < (s2.heap.push { cls := .type "list", dict := none, data := .seq ([] : List Value).toArray }).objs.size := fun b hb => by
    rw [Heap.size_push]
    exact Nat.lt_succ_of_lt (flt b hb)
  exact comp_run (own := own) hc hN ok hkind (blkCl_of ok I3 hcl1 hcl2 cok) (hg _ _ _ _) (hifs _ _ _ _) (he _ _ _ _) I3 f3 flt3 T (T.keep _ _ _ st2 fun b _ o e => Heap.get?_push_of_some _ e) hns₁ keep₁ w0 turn
theorem comp_turns {acc : Addr} {Q : VK} {g : TG} {tc : TT} {te : TE} {σ : St} {H : Hp} {J : It} {n : Nat} (Pv : Nat → St → Hp → Prop) (h0 : Pv 0 σ H) (hd : ∀ σ H, Pv n σ H → J.stop n H ∧ Q (.ref acc) H)
    (hgo : ∀ i σ H, i < n → Pv i σ H → J.go i H ∧ ∀ x H2, J.yld i H x H2 → g x σ H2 fun σ3 H3 => tc σ3 H3 fun b H4 =>
      if b = true then te σ3 H4 fun v H5 => ∃ ys, H5 acc = some (.lst ys) ∧ ys.length < sizeLine ∧ Pv (i + 1) σ3 (upd H5 acc (.lst (ys ++ [v]))) else Pv (i + 1) σ3 H4) :
    CompGo acc Q g tc te J σ H := by
  refine ⟨fun i m σ H => m = n - i ∧ i ≤ n ∧ Pv i σ H, ⟨n, by simp, Nat.zero_le _, h0⟩, ?_⟩
  rintro i m σ H ⟨rfl, hi, p⟩
  by_cases hlt : i < n
  · obtain ⟨q1, q2⟩ := hgo i σ H hlt p
    exact .inr ⟨q1, Pv (i + 1), fun σ' H' p' => ⟨n - (i + 1), by omega, rfl, hlt, p'⟩, q2⟩
  · have e : i = n := by omega
    subst e
    exact .inl (hd σ H p)
theorem itl_go {K : PySem.W.Frag} {a : Addr} {xs : List V} {i : Nat} {H : Hp} (q : SqL K H a xs) (hi : i < xs.length) : (Itl K a).go i H := ⟨xs, xs[i], q, by simp [hi]⟩
theorem itl_yld {K : PySem.W.Frag} {a : Addr} {xs : List V} {i : Nat} {H H' : Hp} {x : V} (q : SqL K H a xs) (y : (Itl K a).yld i H x H') : H' = H ∧ xs[i]? = some x := ⟨y.1, y.2 xs q⟩
theorem itl_stop {K : PySem.W.Frag} {a : Addr} {xs : List V} {H : Hp} (q : SqL K H a xs) : (Itl K a).stop xs.length H := ⟨xs, q, Nat.le_refl _⟩
theorem itt_go {K : PySem.W.Frag} {a : Addr} {xs : List V} {i : Nat} {H : Hp} (q : SqT K H a xs) (hi : i < xs.length) : (Itt K a).go i H := ⟨xs, xs[i], q, by simp [hi]⟩
theorem itt_yld {K : PySem.W.Frag} {a : Addr} {xs : List V} {i : Nat} {H H' : Hp} {x : V} (q : SqT K H a xs) (y : (Itt K a).yld i H x H') : H' = H ∧ xs[i]? = some x := ⟨y.1, y.2 xs q⟩
theorem itt_stop {K : PySem.W.Frag} {a : Addr} {xs : List V} {H : Hp} (q : SqT K H a xs) : (Itt K a).stop xs.length H := ⟨xs, q, Nat.le_refl _⟩
end L2
set_option Elab.async false
set_option linter.all false
set_option maxRecDepth 100000
set_option maxHeartbeats 4000000
namespace L2
open PySem PySem.Spec PyProof.Rows
structure TopD (K : PySem.W.Frag) (w : World) (a : Addr) (D : List (Str × V)) : Prop where
  ex : ∃ es n, K.lookup a = some ⟨.type "dict", none, .dict es n, #[]⟩ ∧ PySem.W.KeysLit w.params es.toList ∧ ∀ p ∈ D, ∃ u, PySem.W.nsIn K a p.1 = some (some u) ∧ RelV p.2 u
section
variable {X : Cx}
def rIxTop (K : PySem.W.Frag) (w : World) : R2 := fun x y H Q => ∃ a D k v, x = .ref a ∧ y = .str k ∧ TopD K w a D ∧ (k, v) ∈ D ∧ Q v H
theorem ix_top : IxR X (rIxTop X.K X.w) := by
  intro value slice pins s σ H x y v u Q I rx ry h hs
  obtain ⟨a, D, k, z, rfl, rfl, ⟨es, n, hl, hk, hD⟩, hm, q⟩ := h
  cases rx
  obtain ⟨t, rfl⟩ := ry
  obtain ⟨z', e, r⟩ := hD _ hm
  obtain ⟨m, F⟩ := I.fr
  exact PySem.W.topItem_K F I.mod.kin hl hk e ⟨z, H, I.tok _, r, q⟩ hs
theorem readsAll_ints {h : Heap} : ∀ {ns : List Int} {us : List Value}, Vals (ns.map V.int) us → ReadsAll h us (ns.map PyData.int) []
  | [], _, r => by rw [List.map_nil] at r; cases r; exact .nil
  | n :: ns, _, r => by
    rw [List.map_cons] at r
    cases r with
    | cons r1 r2 =>
      obtain ⟨t, rfl⟩ := r1
      exact ReadsAll.cons (Reads.int n t) (readsAll_ints r2)
theorem Inv.readsT {pins : List (Addr × Obj)} {σ : St} {H : Hp} {s : Shared} {a : Addr} {ns : List Int} (I : Inv X pins σ H s) (h : SqT X.K H a (ns.map V.int)) : Reads s.heap (.ref a) (.tuple (ns.map PyData.int)) [] := by
  obtain ⟨its, r, ⟨o, ho, hc, n, hd⟩, _⟩ := I.tuple h
  exact reads_tuple_at ho hc hd (by simpa using readsAll_ints r)
abbrev TupsI (K : PySem.W.Frag) (H : Hp) : List Addr → List (List Int) → Prop := Paired fun a ns => SqT K H a (ns.map V.int)
def dTs (nss : List (List Int)) : List PyData := nss.map fun ns => PyData.tuple (ns.map PyData.int)
theorem readsAll_tups {pins : List (Addr × Obj)} {σ : St} {H : Hp} {s : Shared} (I : Inv X pins σ H s) : ∀ {as : List Addr} {nss : List (List Int)} {us : List Value}, TupsI X.K H as nss → Vals (as.map V.ref) us → ReadsAll s.heap us (dTs nss) []
  | [], _, _, t, r => by cases t; rw [List.map_nil] at r; cases r; exact .nil
  | a :: as, _, _, t, r => by
    rw [List.map_cons] at r
    cases t with
    | cons t1 t2 =>
      cases r with
      | cons r1 r2 =>
        cases r1
        exact ReadsAll.cons (I.readsT t1) (readsAll_tups I t2 r2)
theorem Inv.readsL {pins : List (Addr × Obj)} {σ : St} {H : Hp} {s : Shared} {a : Addr} {as : List Addr} {nss : List (List Int)} (I : Inv X pins σ H s) (h : SqL X.K H a (as.map V.ref)) (t : TupsI X.K H as nss) : Reads s.heap (.ref a) (.list (dTs nss)) [a] := by
  obtain ⟨its, r, ⟨o, n, ho, hc, _, hd⟩, _⟩ := I.list h
  exact reads_list_at ho hc hd (by simpa using readsAll_tups I t r)
theorem shaped_T (ns : List Int) : SeqAt.shaped (.tuple (ns.map PyData.int)) = true := by
  simp [SeqAt.shaped, PyData.canLay0, PyData.depth, PySem.W.ke_canLayAll0, PySem.W.ke_depthAll]
theorem canLay_Ts : ∀ nss : List (List Int), PyData.canLayAll0 (dTs nss) = true
  | [] => rfl
  | ns :: r => by
    show PyData.canLayAll0 (PyData.tuple (ns.map PyData.int) :: dTs r) = true
    simp [PyData.canLayAll0, PyData.canLay0, PySem.W.ke_canLayAll0, canLay_Ts r]
theorem depth_Ts : ∀ nss : List (List Int), PyData.depthAll (dTs nss) ≤ 1
  | [] => Nat.zero_le _
  | ns :: r => by
    show PyData.depthAll (PyData.tuple (ns.map PyData.int) :: dTs r) ≤ 1
    have := depth_Ts r
    simp [PyData.depthAll, PyData.depth, PySem.W.ke_depthAll]
    omega
theorem shaped_L (nss : List (List Int)) : SeqAt.shaped (.list (dTs nss)) = true := by
  have h := depth_Ts nss
  unfold SeqAt.shaped
  rw [Bool.and_eq_true]
  refine ⟨by simp [PyData.canLay0, canLay_Ts], decide_eq_true ?_⟩
  simp only [PyData.depth]
  omega
theorem eqv_T (ns ms : List Int) : PyData.eqv (.tuple (ns.map PyData.int)) (.tuple (ms.map PyData.int)) = decide (ns = ms) := by
  rw [← PySem.W.ked_eqvAll]
  simp [PyData.eqv]
theorem eqvAll_Ts : ∀ nss mss : List (List Int), PyData.eqvAll (dTs nss) (dTs mss) = decide (nss = mss)
  | [], [] => by simp [dTs, PyData.eqvAll]
  | [], _ :: _ => by simp [dTs, PyData.eqvAll]
  | _ :: _, [] => by simp [dTs, PyData.eqvAll]
  | ns :: r, ms :: t => by
    show PyData.eqvAll (PyData.tuple (ns.map PyData.int) :: dTs r) (PyData.tuple (ms.map PyData.int) :: dTs t) = _
    simp only [PyData.eqvAll, eqv_T, eqvAll_Ts r t]
    by_cases h : ns = ms <;> by_cases h' : r = t <;> simp [h, h']
theorem eqv_L (nss mss : List (List Int)) : PyData.eqv (.list (dTs nss)) (.list (dTs mss)) = decide (nss = mss) := by
  rw [← eqvAll_Ts]
  simp [PyData.eqv]
def rEqT (K : PySem.W.Frag) (neg : Bool) : R2 := fun x y H Q => ∃ (a b : Addr) (ns ms : List Int), x = .ref a ∧ y = .ref b ∧ SqT K H a (ns.map V.int) ∧ SqT K H b (ms.map V.int) ∧ Q (.bl (if neg then !decide (ns = ms) else decide (ns = ms))) H
theorem op_neT (hu : X.A.units + 64 < cLine) : OpR X (compareOp .NotEq) (rEqT X.K true) := by
  intro pins s σ H x y v u Q I rx ry h
  obtain ⟨a, b, ns, ms, rfl, rfl, ha, hb, q⟩ := h
  cases rx
  cases ry
  refine ne_dataH (I.readsT ha) (I.readsT hb) (shaped_T _) (shaped_T _) hu ?_
  rw [eqv_T]
  exact ⟨.bl _, H, I, rfl, q⟩
def rEqL (K : PySem.W.Frag) (neg : Bool) : R2 := fun x y H Q => ∃ (a b : Addr) (as bs : List Addr) (nss mss : List (List Int)), x = .ref a ∧ y = .ref b ∧ SqL K H a (as.map V.ref) ∧ TupsI K H as nss ∧ SqL K H b (bs.map V.ref) ∧ TupsI K H bs mss ∧ Q (.bl (if neg then !decide (nss = mss) else decide (nss = mss))) H
theorem op_eqL (hu : X.A.units + 64 < cLine) : OpR X (compareOp .Eq) (rEqL X.K false) := by
  intro pins s σ H x y v u Q I rx ry h
  obtain ⟨a, b, as, bs, nss, mss, rfl, rfl, ha, ta, hb, tb, q⟩ := h
  cases rx
  cases ry
  refine eq_dataH (I.readsL ha ta) (I.readsL hb tb) (shaped_L _) (shaped_L _) hu ?_
  rw [eqv_L]
  exact ⟨.bl _, H, I, rfl, q⟩
theorem op_neL (hu : X.A.units + 64 < cLine) : OpR X (compareOp .NotEq) (rEqL X.K true) := by
  intro pins s σ H x y v u Q I rx ry h
  obtain ⟨a, b, as, bs, nss, mss, rfl, rfl, ha, ta, hb, tb, q⟩ := h
  cases rx
  cases ry
  refine ne_dataH (I.readsL ha ta) (I.readsL hb tb) (shaped_L _) (shaped_L _) hu ?_
  rw [eqv_L]
  exact ⟨.bl _, H, I, rfl, q⟩
theorem ix_tupK {K : PySem.W.Frag} (h : X.K = K) : IxR X (rIxT K) := h ▸ ix_tup
theorem ix_listK {K : PySem.W.Frag} (h : X.K = K) : IxR X (rIxL K) := h ▸ ix_list
theorem op_neTK {K : PySem.W.Frag} (h : X.K = K) (hu : X.A.units + 64 < cLine) : OpR X (compareOp .NotEq) (rEqT K true) := h ▸ op_neT hu
end
end L2
set_option Elab.async false
set_option linter.all false
set_option maxRecDepth 100000
set_option maxHeartbeats 4000000
namespace Srt
open PySem PySem.W PyProof.Rows
structure Ordr {κ : Type} (lt : κ → κ → Bool) : Prop where
  rf : ∀ a, lt a a = false
  tr : ∀ a b c, lt b a = false → lt c b = false → lt c a = false
  an : ∀ a b, lt a b = false → lt b a = false → a = b
  as : ∀ a b, lt a b = true → lt b a = false
theorem Ordr.lt_le {κ : Type} {lt : κ → κ → Bool} (O : Ordr lt) {a b c : κ} (h : lt a b = true) (g : lt c b = false) : lt a c = true := by
  cases e : lt a c with
  | true => rfl
  | false =>
    have q := O.tr b c a g e
    rw [h] at q
    cases q
section
variable {κ : Type} {lt : κ → κ → Bool} {key : Nat → κ} {cmp : Nat → Nat → (Bool → Shared → Prop) → Shared → Prop} {N : Nat} {s : Shared}
def kk (key : Nat → κ) (p : Array Nat) (k : Nat) : κ := key (p.getD k 0)
def Up (lt : κ → κ → Bool) (key : Nat → κ) (p : Array Nat) (n : Nat) : Prop := ∀ i j, i ≤ j → j < n → lt (kk key p j) (kk key p i) = false
def Dn (lt : κ → κ → Bool) (key : Nat → κ) (p : Array Nat) (n : Nat) : Prop := ∀ i j, i ≤ j → j < n → lt (kk key p i) (kk key p j) = false
def Low (N : Nat) (p : Array Nat) : Prop := p.size = N ∧ ∀ k, p.getD k 0 < N
def Ans (lt : κ → κ → Bool) (key : Nat → κ) (cmp : Nat → Nat → (Bool → Shared → Prop) → Shared → Prop) (N : Nat) (s : Shared) : Prop := ∀ i j C, i < N → j < N → C (lt (key i) (key j)) s → cmp i j C s
theorem getD_q (p : Array Nat) (k : Nat) : p.getD k 0 = (p[k]?).getD 0 := by
  rw [Array.getD_eq_getD_getElem?]
theorem kk_bub {p : Array Nat} {src d : Nat} (hs : src < p.size) (hd : d ≤ src) (k : Nat) : kk key (bubble p src d) k = if k = src - d then kk key p src else if src - d < k ∧ k ≤ src then kk key p (k - 1) else kk key p k := by
  unfold kk
  rw [getD_q, getElem?_bubble hs d hd k]
  by_cases h1 : k = src - d
  · rw [if_pos h1, if_pos h1, getD_q]
  · rw [if_neg h1, if_neg h1]
    by_cases h2 : src - d < k ∧ k ≤ src
    · rw [if_pos h2, if_pos h2, getD_q]
    · rw [if_neg h2, if_neg h2, getD_q]
theorem kk_rev {p : Array Nat} {i j : Nat} (hj : j ≤ p.size) (k : Nat) : kk key (kas_rev p i j) k = if i ≤ k ∧ k < j then kk key p (i + j - 1 - k) else kk key p k := by
  unfold kk kas_rev
  rw [getD_q, getElem?_mirror_all hj k]
  by_cases h1 : i ≤ k ∧ k < j
  · rw [if_pos h1, if_pos h1, getD_q]
  · rw [if_neg h1, if_neg h1, getD_q]
theorem kk_rev_eq {p : Array Nat} {i j : Nat} (hj : j ≤ p.size) (he : ∀ k, i ≤ k → k < j → kk key p k = kk key p (j - 1)) (k : Nat) : kk key (kas_rev p i j) k = kk key p k := by
  rw [kk_rev hj]
  split
  · rename_i h
    rw [he (i + j - 1 - k) (by omega) (by omega), he k h.1 h.2]
  · rfl
theorem low_perm {p q : Array Nat} (hN : 0 < N) (L : Low N q) (h : p.Perm q) : Low N p := by
  have hs : p.size = q.size := h.size_eq
  refine ⟨hs.trans L.1, fun k => ?_⟩
  rw [getD_q]
  cases e : p[k]? with
  | none => exact hN
  | some v =>
    have hm : v ∈ p.toList := by
      have := Array.mem_of_getElem? e
      exact Array.mem_toList_iff.mpr this
    have hq : v ∈ q.toList := (Array.perm_iff_toList_perm.mp h).mem_iff.mp hm
    obtain ⟨i, hi⟩ := List.getElem?_of_mem hq
    have := L.2 i
    rw [getD_q] at this
    have e2 : q[i]? = some v := by rw [← Array.getElem?_toList]; exact hi
    rw [e2] at this
    exact this
theorem asc_go (O : Ordr lt) (A : Ans lt key cmp N s) {p : Array Nat} (L : Low N p) {G : Nat → Shared → Prop} : ∀ (f n : Nat), 1 ≤ n → Up lt key p n →
    (∀ m, n ≤ m → m ≤ n + f → Up lt key p m → (m = n + f ∨ lt (kk key p m) (kk key p (m - 1)) = true) → G m s) → (kas_asc p f n).kasWp cmp G s
  | 0, n, _, hu, hG => hG n (Nat.le_refl _) (Nat.le_refl _) hu (.inl rfl)
  | f + 1, n, h1, hu, hG => by
    refine A _ _ _ (L.2 n) (L.2 (n - 1)) ?_
    show (if lt (kk key p n) (kk key p (n - 1)) = true then _ else _ : KasT Nat).kasWp cmp G s
    cases e : lt (kk key p n) (kk key p (n - 1)) with
    | true =>
      rw [if_pos rfl]
      exact hG n (Nat.le_refl _) (by omega) hu (.inr e)
    | false =>
      rw [if_neg (by decide)]
      refine asc_go O A L f (n + 1) (by omega) (fun i j hij hj => ?_) fun m h2 h3 h4 h5 => hG m (by omega) (by omega) h4 (h5.imp (fun q => by omega) id)
      rcases Nat.lt_or_ge j n with z | z
      · exact hu i j hij z
      · obtain rfl : j = n := by omega
        rcases Nat.lt_or_ge i j with y | y
        · exact O.tr _ (kk key p (j - 1)) _ (hu i (j - 1) (by omega) (by omega)) e
        · obtain rfl : i = j := by omega
          exact O.rf _
theorem desc_go (O : Ordr lt) (A : Ans lt key cmp N s) (hN : 0 < N) {G : Array Nat × Nat × Nat → Shared → Prop} : ∀ (f : Nat) (p : Array Nat) (n q : Nat), Low N p → 1 ≤ n → n + f ≤ N → Dn lt key p n → q + 1 ≤ n → (∀ i, n - (q + 1) ≤ i → i < n → kk key p i = kk key p (n - 1)) →
    (∀ p' m q', p'.Perm p → n ≤ m → m ≤ n + f → Dn lt key p' m → q' + 1 ≤ m → (∀ i, m - (q' + 1) ≤ i → i < m → kk key p' i = kk key p' (m - 1)) → G (p', m, q') s) → (kas_desc f p n q).kasWp cmp G s
  | 0, p, n, q, _, _, _, hd, hq, he, hG => hG p n q (Array.Perm.refl _) (Nat.le_refl _) (Nat.le_refl _) hd hq he
  | f + 1, p, n, q, L, h1, hz, hd, hq, he, hG => by
    have more : ∀ p' : Array Nat, (∀ k, kk key p' k = kk key p k) → lt (kk key p n) (kk key p (n - 1)) = true → Dn lt key p' (n + 1) := fun p' hk e i j hij hj => by
      rw [hk, hk]
      rcases Nat.lt_or_ge j n with z | z
      · exact hd i j hij z
      · obtain rfl : j = n := by omega
        rcases Nat.lt_or_ge i j with y | y
        · exact O.tr (kk key p j) (kk key p (j - 1)) (kk key p i) (O.as _ _ e) (hd i (j - 1) (by omega) (by omega))
        · obtain rfl : i = j := by omega
          exact O.rf _
    refine A _ _ _ (L.2 n) (L.2 (n - 1)) ?_
    show (if lt (kk key p n) (kk key p (n - 1)) = true then (if q > 0 then _ else _) else _ : KasT (Array Nat × Nat × Nat)).kasWp cmp G s
    cases e : lt (kk key p n) (kk key p (n - 1)) with
    | true =>
      rw [if_pos rfl]
      by_cases hq0 : q > 0
      · rw [if_pos hq0]
        have hp : (kas_rev p (n - (q + 1)) n).Perm p := mirror_perm _ _ _ _
        have hk : ∀ k, kk key (kas_rev p (n - (q + 1)) n) k = kk key p k := kk_rev_eq (by rw [L.1]; omega) he
        refine desc_go O A hN f _ (n + 1) 0 (low_perm hN L hp) (by omega) (by omega) (more _ hk e) (by omega) (fun i a b => by congr 1; omega) fun p' m q' a b c d e' g => hG p' m q' (a.trans hp) (by omega) (by omega) d e' g
      · rw [if_neg hq0]
        refine desc_go O A hN f p (n + 1) 0 L (by omega) (by omega) (more p (fun _ => rfl) e) (by omega) (fun i a b => by congr 1; omega) fun p' m q' a b c d e' g => hG p' m q' a (by omega) (by omega) d e' g
    | false =>
      rw [if_neg (by decide)]
      refine A _ _ _ (L.2 (n - 1)) (L.2 n) ?_
      show (if lt (kk key p (n - 1)) (kk key p n) = true then _ else _ : KasT (Array Nat × Nat × Nat)).kasWp cmp G s
      cases e' : lt (kk key p (n - 1)) (kk key p n) with
      | true =>
        rw [if_pos rfl]
        exact hG p n q (Array.Perm.refl _) (Nat.le_refl _) (by omega) hd hq he
      | false =>
        rw [if_neg (by decide)]
        have same : kk key p n = kk key p (n - 1) := O.an _ _ e e'
        refine desc_go O A hN f p (n + 1) (q + 1) L (by omega) (by omega) (fun i j hij hj => ?_) (by omega) (fun i a b => ?_) fun p' m q' a b c d e' g => hG p' m q' a (by omega) (by omega) d e' g
        · rcases Nat.lt_or_ge j n with z | z
          · exact hd i j hij z
          · obtain rfl : j = n := by omega
            rcases Nat.lt_or_ge i j with y | y
            · rw [same]; exact hd i (j - 1) (by omega) (by omega)
            · obtain rfl : i = j := by omega
              exact O.rf _
        · rw [show n + 1 - 1 = n by omega]
          rcases Nat.lt_or_ge i n with y | y
          · rw [same]; exact he i (by omega) y
          · obtain rfl : i = n := by omega
            rfl
def Cnt (lt : κ → κ → Bool) (key : Nat → κ) (N : Nat) (p : Array Nat) (G : Nat × Array Nat → Shared → Prop) (s : Shared) : Prop := ∀ m p', p'.Perm p → 1 ≤ m → m ≤ N → Up lt key p' m → G (m, p') s
theorem tail_go (O : Ordr lt) (A : Ans lt key cmp N s) (hN : 0 < N) {p : Array Nat} {n : Nat} {G : Nat × Array Nat → Shared → Prop} (L : Low N p) (h1 : 1 ≤ n) (hn : n ≤ N) (hd : Dn lt key p n) (hG : Cnt lt key N p G s) : (kas_tail3 n N p).kasWp cmp G s := by
  unfold kas_tail3
  rw [KasT.kasWp_bind]
  have hp : (kas_rev p 0 n).Perm p := mirror_perm _ _ _ _
  refine asc_go O A (low_perm hN L hp) (N - n) n h1 (fun i j hij hj => ?_) fun m a b c _ => hG m _ hp (by omega) (by omega) c
  rw [kk_rev (by rw [L.1]; exact hn), kk_rev (by rw [L.1]; exact hn), if_pos ⟨Nat.zero_le _, hj⟩, if_pos ⟨Nat.zero_le _, by omega⟩]
  exact hd _ _ (by omega) (by omega)
theorem descPart_go (O : Ordr lt) (A : Ans lt key cmp N s) (hN : 0 < N) {p : Array Nat} {n : Nat} {G : Nat × Array Nat → Shared → Prop} (L : Low N p) (hn : n + 1 ≤ N) (hd : Dn lt key p (n + 1)) (hG : Cnt lt key N p G s) : (kas_descPart n N p).kasWp cmp G s := by
  unfold kas_descPart
  rw [KasT.kasWp_bind]
  refine desc_go O A hN (N - (n + 1)) p (n + 1) 0 L (by omega) (by omega) hd (by omega) (fun i a b => by congr 1; omega) fun p' m q' hp a b c d e => ?_
  have L' := low_perm hN L hp
  dsimp only
  by_cases hq : q' > 0
  · rw [if_pos hq]
    have hp2 : (kas_rev p' (m - (q' + 1)) m).Perm p' := mirror_perm _ _ _ _
    have hk := kk_rev_eq (key := key) (p := p') (i := m - (q' + 1)) (j := m) (by rw [L'.1]; omega) e
    refine tail_go O A hN (low_perm hN L' hp2) (by omega) (by omega) (fun i j hij hj => ?_) fun m' p'' x y z w => hG m' p'' (x.trans (hp2.trans hp)) y z w
    rw [hk, hk]
    exact c i j hij hj
  · rw [if_neg hq]
    exact tail_go O A hN L' (by omega) (by omega) c fun m' p'' x y z w => hG m' p'' (x.trans hp) y z w
theorem count_go (O : Ordr lt) (A : Ans lt key cmp N s) (hN : 0 < N) {p : Array Nat} {G : Nat × Array Nat → Shared → Prop} (L : Low N p) (hG : Cnt lt key N p G s) : (kas_count N p).kasWp cmp G s := by
  unfold kas_count
  rw [KasT.kasWp_bind]
  refine asc_go O A L (N - 1) 1 (Nat.le_refl _) (fun i j hij hj => by obtain rfl : i = j := (by omega); exact O.rf _) fun n a b c d => ?_
  by_cases hn : n = N
  · rw [if_pos (by simpa using hn)]
    exact hG n p (Array.Perm.refl _) a (by omega) c
  · rw [if_neg (by simpa using hn)]
    have hlt : lt (kk key p n) (kk key p (n - 1)) = true := d.resolve_left (by omega)
    by_cases h1 : n > 1
    · rw [if_pos h1]
      refine A _ _ _ (L.2 0) (L.2 (n - 1)) ?_
      show (if lt (kk key p 0) (kk key p (n - 1)) = true then _ else _ : KasT (Nat × Array Nat)).kasWp cmp G s
      cases e : lt (kk key p 0) (kk key p (n - 1)) with
      | true =>
        rw [if_pos rfl]
        exact hG n p (Array.Perm.refl _) a (by omega) c
      | false =>
        rw [if_neg (by decide)]
        have all : ∀ k, 0 ≤ k → k < n → kk key p k = kk key p (n - 1) := fun k _ hk => O.an _ _ (O.tr _ (kk key p 0) _ e (c 0 k (Nat.zero_le _) hk) |> fun q => q) (c k (n - 1) (by omega) (by omega))
        have hp : (kas_rev p 0 n).Perm p := mirror_perm _ _ _ _
        have hk := kk_rev_eq (key := key) (p := p) (i := 0) (j := n) (by rw [L.1]; omega) all
        refine descPart_go O A hN (low_perm hN L hp) (by omega) (fun i j hij hj => ?_) fun m' p'' x y z w => hG m' p'' (x.trans hp) y z w
        rw [hk, hk]
        rcases Nat.lt_or_ge j n with z | z
        · rw [all i (Nat.zero_le _) (by omega), all j (Nat.zero_le _) z]; exact O.rf _
        · obtain rfl : j = n := by omega
          rcases Nat.lt_or_ge i j with y | y
          · rw [all i (Nat.zero_le _) y]; exact O.as _ _ hlt
          · obtain rfl : i = j := by omega
            exact O.rf _
    · rw [if_neg h1]
      obtain rfl : n = 1 := by omega
      refine descPart_go O A hN L (by omega) (fun i j hij hj => ?_) hG
      rcases Nat.lt_or_ge i j with y | y
      · obtain rfl : i = 0 := by omega
        obtain rfl : j = 1 := by omega
        exact O.as _ _ hlt
      · obtain rfl : i = j := by omega
        exact O.rf _
theorem place_go (O : Ordr lt) (A : Ans lt key cmp N s) {p : Array Nat} {k : Nat} (L : Low N p) (hu : Up lt key p k) {G : Nat → Shared → Prop}
    (hG : ∀ l, l ≤ k → (∀ i, i < l → lt (kk key p k) (kk key p i) = false) → (∀ i, l ≤ i → i < k → lt (kk key p k) (kk key p i) = true) → G l s) :
    ∀ (f l r : Nat), l ≤ r → r ≤ k → r - l ≤ f → (∀ i, i < l → lt (kk key p k) (kk key p i) = false) → (∀ i, r ≤ i → i < k → lt (kk key p k) (kk key p i) = true) → (kas_place p k f l r).kasWp cmp G s
  | 0, l, r, h1, h2, h3, lo, hi => by
    obtain rfl : l = r := by omega
    exact hG l h2 lo hi
  | f + 1, l, r, h1, h2, h3, lo, hi => by
    unfold kas_place
    by_cases hge : l ≥ r
    · rw [if_pos hge]
      obtain rfl : l = r := by omega
      exact hG l h2 lo hi
    · rw [if_neg hge]
      refine A _ _ _ (L.2 k) (L.2 ((l + r) / 2)) ?_
      show (if lt (kk key p k) (kk key p ((l + r) / 2)) = true then _ else _ : KasT Nat).kasWp cmp G s
      cases e : lt (kk key p k) (kk key p ((l + r) / 2)) with
      | true =>
        rw [if_pos rfl]
        exact place_go O A L hu hG f l ((l + r) / 2) (by omega) (by omega) (by omega) lo fun i a b => O.lt_le e (hu _ _ a b)
      | false =>
        rw [if_neg (by decide)]
        exact place_go O A L hu hG f ((l + r) / 2 + 1) r (by omega) h2 (by omega) (fun i a => O.tr _ (kk key p ((l + r) / 2)) _ (hu i _ (by omega) (by omega)) e) hi
theorem bin_go (O : Ordr lt) (A : Ans lt key cmp N s) (hN : 0 < N) {G : Array Nat → Shared → Prop} : ∀ (f : Nat) (p : Array Nat) (k : Nat), Low N p → k + f = N → Up lt key p k →
    (∀ p', p'.Perm p → Up lt key p' N → G p' s) → (kas_bin f p k).kasWp cmp G s
  | 0, p, k, L, hz, hu, hG => hG p (Array.Perm.refl _) (by rw [← hz]; exact hu)
  | f + 1, p, k, L, hz, hu, hG => by
    unfold kas_bin
    rw [KasT.kasWp_bind]
    refine place_go O A L hu (fun l hl lo hi => ?_) k 0 k (Nat.zero_le _) (Nat.le_refl _) (by omega) (fun i a => by omega) (fun i a b => by omega)
    have hp : (bubble p k (k - l)).Perm p := bubble_perm _ _ _
    have hk : k < p.size := by rw [L.1]; omega
    refine bin_go O A hN f _ (k + 1) (low_perm hN L hp) (by omega) (fun i j hij hj => ?_) fun p' a b => hG p' (a.trans hp) b
    rw [kk_bub hk (by omega), kk_bub hk (by omega), show k - (k - l) = l by omega]
    by_cases j1 : j = l
    · rw [if_pos j1]
      by_cases i1 : i = l
      · rw [if_pos i1]; exact O.rf _
      · rw [if_neg i1, if_neg (by omega)]
        exact lo i (by omega)
    · rw [if_neg j1]
      by_cases j2 : l < j ∧ j ≤ k
      · rw [if_pos j2]
        by_cases i1 : i = l
        · rw [if_pos i1]; exact O.as _ _ (hi (j - 1) (by omega) (by omega))
        · rw [if_neg i1]
          by_cases i2 : l < i ∧ i ≤ k
          · rw [if_pos i2]; exact hu _ _ (by omega) (by omega)
          · rw [if_neg i2]; exact hu _ _ (by omega) (by omega)
      · rw [if_neg j2]
        by_cases i1 : i = l
        · exfalso; omega
        · rw [if_neg i1, if_neg (by omega)]
          exact hu _ _ hij (by omega)
theorem low_range (n : Nat) (hn : 0 < n) : Low n (List.toArray (List.range n)) := by
  refine ⟨by simp, fun k => ?_⟩
  rw [getD_q]
  by_cases h : k < n
  · simp [h]
  · simp [h, hn]
theorem sort_go (O : Ordr lt) (A : Ans lt key cmp N s) (hN : 0 < N) {G : Array Nat → Shared → Prop} (hG : ∀ p : Array Nat, p.Perm (List.toArray (List.range N)) → Up lt key p N → G p s) : (kas_sort N).kasWp cmp G s := by
  unfold kas_sort
  rw [KasT.kasWp_bind]
  have L := low_range N hN
  refine count_go O A hN L fun m p hp h1 h2 hu => ?_
  dsimp only
  by_cases h : m < N
  · rw [if_pos h]
    rw [show max m 1 = m by omega]
    exact bin_go O A hN (N - m) p m (low_perm hN L hp) (by omega) hu fun p' a b => hG p' (a.trans hp) b
  · rw [if_neg h]
    exact hG p hp (by obtain rfl : m = N := (by omega); exact hu)
end
end Srt
set_option Elab.async false
set_option linter.all false
set_option maxRecDepth 100000
set_option maxHeartbeats 4000000
namespace Srt
open PySem PySem.W PyProof.Rows
theorem lex_rf : ∀ a : List Int, HT.lexLt a a = false
  | [] => rfl
  | x :: r => by rw [HT.lexLt_cons, if_pos rfl]; exact lex_rf r
theorem lex_as : ∀ a b : List Int, HT.lexLt a b = true → HT.lexLt b a = false
  | [], [], h => by rw [HT.lexLt_nil_nil] at h; cases h
  | [], _ :: _, _ => rfl
  | _ :: _, [], h => by rw [HT.lexLt_cons_nil] at h; cases h
  | x :: r, y :: t, h => by
    rw [HT.lexLt_cons] at h ⊢
    by_cases e : x = y
    · rw [if_pos e] at h
      rw [if_pos e.symm]
      exact lex_as r t h
    · rw [if_neg e] at h
      rw [if_neg (Ne.symm e)]
      have := of_decide_eq_true h
      exact decide_eq_false (by omega)
theorem lex_an : ∀ a b : List Int, HT.lexLt a b = false → HT.lexLt b a = false → a = b
  | [], [], _, _ => rfl
  | [], _ :: _, h, _ => by rw [HT.lexLt_nil_cons] at h; cases h
  | _ :: _, [], _, h => by rw [HT.lexLt_nil_cons] at h; cases h
  | x :: r, y :: t, h, g => by
    rw [HT.lexLt_cons] at h g
    by_cases e : x = y
    · rw [if_pos e] at h
      rw [if_pos e.symm] at g
      rw [e, lex_an r t h g]
    · rw [if_neg e] at h
      rw [if_neg (Ne.symm e)] at g
      have h1 := of_decide_eq_false h
      have h2 := of_decide_eq_false g
      omega
theorem lex_tr : ∀ a b c : List Int, HT.lexLt b a = false → HT.lexLt c b = false → HT.lexLt c a = false
  | [], _, [], _, _ => rfl
  | [], [], _ :: _, _, _ => rfl
  | [], _ :: _, _ :: _, _, _ => rfl
  | _ :: _, [], _, h, _ => by rw [HT.lexLt_nil_cons] at h; cases h
  | _ :: _, _ :: _, [], _, h => by rw [HT.lexLt_nil_cons] at h; cases h
  | x :: r, y :: t, z :: u, h, g => by
    rw [HT.lexLt_cons] at h g ⊢
    by_cases e1 : y = x
    · rw [if_pos e1] at h
      by_cases e2 : z = y
      · rw [if_pos e2] at g
        rw [if_pos (e2.trans e1)]
        exact lex_tr r t u h g
      · rw [if_neg e2] at g
        have := of_decide_eq_false g
        rw [if_neg (by omega)]
        exact decide_eq_false (by omega)
    · rw [if_neg e1] at h
      have h1 := of_decide_eq_false h
      by_cases e2 : z = y
      · rw [if_neg (by omega)]
        exact decide_eq_false (by omega)
      · rw [if_neg e2] at g
        have h2 := of_decide_eq_false g
        rw [if_neg (by omega)]
        exact decide_eq_false (by omega)
theorem lexO : Ordr HT.lexLt := ⟨lex_rf, lex_tr, lex_an, lex_as⟩
end Srt
namespace L2
open PySem PySem.W PyProof.Rows Srt
theorem ObjOk.has {P : Program} {w : World} {H : Hp} {h : Heap} {a : Addr} {o : HO} (x : ObjOk P w H h a o) : ∃ ob, h.get? a = some ob := by
  cases o with
  | lst xs => obtain ⟨_, _, _, _, e⟩ := x; exact ⟨_, e⟩
  | tup xs => obtain ⟨_, _, _, ob, e, _⟩ := x; exact ⟨_, e⟩
  | dK kvs => obtain ⟨_, _, _, _, o, _, _, e, _⟩ := x; exact ⟨_, e⟩
  | dT kvs => obtain ⟨_, _, _, _, o, _, _, e, _⟩ := x; exact ⟨_, e⟩
  | set S n => obtain ⟨o, _, _, _, e, _⟩ := x; exact ⟨_, e⟩
  | ins C dx fs => obtain ⟨_, _, _, e, _⟩ := x; exact ⟨_, e⟩
  | own y => exact x
  | xd fs => obtain ⟨_, ⟨_, _, _, e, _⟩, _⟩ := x; exact ⟨_, e⟩
  | rng lo hi => obtain ⟨_, _, _, e⟩ := x; exact ⟨_, e⟩
  | frz ob u => obtain ⟨e, _⟩ := x; exact ⟨_, e⟩
  | tbl ps => exact ⟨_, x⟩
  | met f y => exact ⟨_, x⟩
  | ext φ => exact x.2.1
section
variable {X : Cx} {pins : List (Addr × Obj)} {σ : St} {H : Hp} {s : Shared}
theorem ns_one {h : Heap} {a : Addr} {m m' : Str → Option Value} (x : h.Ns a m) (y : h.Ns a m') : m = m' := by
  obtain ⟨o, es, ep, e, hd, _, hm⟩ := x
  obtain ⟨o', es', ep', e', hd', _, hm'⟩ := y
  rw [e] at e'
  cases e'
  rw [hd] at hd'
  cases hd'
  funext n
  rw [← hm n, ← hm' n]
theorem Inv.newList {h' : Heap} {D : Addr} {its : List Value} {n t' : Nat} {ys : List V} {m : Str → Option Value} (I : Inv X pins σ H s) (hm : s.heap.Ns X.env.locals m) (F : Fr (Att.noObjs s.heap) X.env.locals h' m)
    (N : News (Att.noObjs s.heap) X.env.locals h' ((D, listOf its.toArray n) :: allNews (Att.noObjs s.heap) s.heap X.env.locals)) (hD : ∀ q ∈ allNews (Att.noObjs s.heap) s.heap X.env.locals, q.1 < D) (hv : Vals ys its) (hz : ys.length ≤ sizeLine) :
    H D = none ∧ Inv X pins σ (upd H D (.lst ys)) { s with heap := h', toks := t' } := by
  have nD := N _ (List.mem_cons_self ..)
  have keep : ∀ b o, b ≠ X.env.locals → s.heap.get? b = some o → h'.get? b = some o := fun b o hb e => (N (b, o) (List.mem_cons_of_mem _ (mem_allNews hb (Att.noObjs_get _ _) e))).1
  have fresh : ∀ b o, b ≠ X.env.locals → s.heap.get? b = some o → b ≠ D := fun b o hb e => Nat.ne_of_lt (hD (b, o) (mem_allNews hb (Att.noObjs_get _ _) e))
  have neL : ∀ b u, H b = some u → b ≠ X.env.locals := fun b u e z => by rw [z, I.free] at e; cases e
  have hn : H D = none := by
    cases e : H D with
    | none => rfl
    | some u =>
      obtain ⟨ob, hob⟩ := (I.hok D u e).has
      exact absurd rfl (fresh D ob nD.2.1 hob)
  refine ⟨hn, I.step (g' := s.gens) (d' := s.drawn) (ch := []) (fun _ z => nomatch z) (fun b o hL _ _ e _ => keep b o hL e) (fun b o hL _ _ e _ => ⟨o.slots, keep b o hL e⟩) (fun b o _ e q => ?_) (fun b o _ e => ?_) (fun b xs e => ?_) (fun b o u e => ?_)
    (fun b ps e => ⟨#[], ?_⟩) (fun m' hm' => ?_) (fun b u e => ?_) I.bare⟩
  · by_cases hb : b = X.env.locals
    · rw [upd_ne (by rw [hb]; exact Ne.symm nD.2.1)]; exact q
    · rw [upd_ne (fresh b o hb e)]; exact q
  · by_cases hb : b = X.env.locals
    · obtain ⟨o', _, _, ho', _⟩ := F.ns
      exact ⟨o', by rw [hb]; exact ho'⟩
    · exact ⟨o, keep b o hb e⟩
  · rw [upd_ne (ne_of_none e hn)]; exact e
  · rw [upd_ne (ne_of_none e hn)]; exact e
  · rw [upd_ne (ne_of_none e hn), e]; simp
  · rw [← ns_one hm hm']; exact F.ns
  · by_cases hb : b = D
    · subst hb
      rw [upd_same] at e
      cases e
      exact ⟨hz, its, n, hv, nD.1⟩
    · rw [upd_ne hb] at e
      refine (I.hok b u e).stay (fun c v hc q => keep c v ?_ q) (fun c q => by rw [upd_ne (ne_of_none q hn)]; exact q) (fun c xs q => by rw [upd_ne (ne_of_none q hn)]; exact q)
      rcases hc with rfl | hc
      · exact neL _ _ e
      · exact neL _ _ hc
theorem lex_pairs {prog : Program} {w : World} {A : Around} {fin : Bool} {Q : Bool → Shared → Prop} {s : Shared} : ∀ {ns ms : List Int} {us vs : List Value} (i : Nat), Vals (ns.map V.int) us → Vals (ms.map V.int) vs → ns.length = ms.length → fin = false →
    Q (HT.lexLt ns ms) s → KatLex prog w A true fin Q (us.zip vs) i s
  | [], [], _, _, i, r, q, _, hf, h => by
    rw [List.map_nil] at r q
    cases r; cases q
    subst hf
    exact h
  | x :: ns, y :: ms, _, _, i, r, q, hl, hf, h => by
    rw [List.map_cons] at r q
    cases r with
    | cons r1 r2 =>
      cases q with
      | cons q1 q2 =>
        obtain ⟨t, rfl⟩ := r1
        obtain ⟨t', rfl⟩ := q1
        rw [List.zip_cons_cons]
        refine kat_cons (wpAny_eqBool_int ?_)
        rw [HT.lexLt_cons] at h
        by_cases e : x = y
        · rw [if_pos e] at h
          rw [beq_iff_eq.mpr e]
          exact kat_yes (lex_pairs (i + 1) r2 q2 (by simpa using hl) hf h)
        · rw [if_neg e] at h
          rw [beq_eq_false_iff_ne.mpr e]
          refine kat_no ?_
          cases i with
          | zero => exact oneLt_int h
          | succ i => exact kat_one _ _ (lt_int h)
  | [], _ :: _, _, _, _, _, _, hl, _, _ => by simp at hl
  | _ :: _, [], _, _, _, _, _, hl, _, _ => by simp at hl
end
end L2
set_option Elab.async false
set_option linter.all false
set_option maxRecDepth 100000
set_option maxHeartbeats 4000000
namespace L2
open PySem PySem.W PyProof.Rows Srt
abbrev Prs := List (Addr × List Int)
def Tps (K : PySem.W.Frag) (H : Hp) (ps : Prs) : Prop := ∀ q ∈ ps, SqT K H q.1 (q.2.map V.int)
abbrev refs (ps : Prs) : List V := ps.map fun q => V.ref q.1
def Rises (ps : Prs) : Prop := ps.Pairwise fun a b => HT.lexLt b.2 a.2 = false
theorem getD_prs (ps : Prs) (i : Nat) (hi : i < ps.length) : ps.getD i (0, []) = ps[i] := by simp [List.getD, hi]
theorem vals_refs {ps : Prs} {its : List Value} (r : Vals (refs ps) its) {i : Nat} (hi : i < ps.length) : its.getD i Value.none = .ref (ps.getD i (0, [])).1 := by
  have e : (refs ps)[i]? = some (V.ref ps[i].1) := by simp [refs, hi]
  obtain ⟨u, hu, ru⟩ := r.get e
  cases ru
  rw [getD_prs ps i hi, List.getD_eq_getElem?_getD, hu]
  rfl
theorem firsts_of {h : Heap} : ∀ {ps : Prs} {its : List Value}, Vals (refs ps) its → (∀ q ∈ ps, q.2 ≠ [] ∧ ∃ vs : List Value, Vals (q.2.map V.int) vs ∧ IsTup h q.1 vs.toArray) → ∃ fs : List Value, KatTups h its fs ∧ fs.length = ps.length ∧ ∀ v ∈ fs, ∃ i t, v = Value.int i t
  | [], _, r, _ => by
    have r : Vals [] _ := r
    cases r
    exact ⟨[], KatTups.nil, rfl, fun _ z => nomatch z⟩
  | q :: ps, _, r, ht => by
    have r : Vals (V.ref q.1 :: refs ps) _ := r
    cases r with
    | cons r1 r2 =>
      cases r1
      obtain ⟨fs, k, e, hf⟩ := firsts_of r2 fun p hp => ht p (List.mem_cons_of_mem _ hp)
      obtain ⟨hne, vs, rv, ob, ho, hc, n, hd⟩ := ht q (List.mem_cons_self ..)
      obtain ⟨a, l⟩ := q
      cases l with
      | nil => exact absurd rfl hne
      | cons x l =>
        cases rv with
        | @cons _ f _ fr r3 r4 =>
          obtain ⟨t, rfl⟩ := r3
          refine ⟨.int x t :: fs, KatTups.cons ho hc hd (by simp) k, by simp [e], fun v hv => ?_⟩
          rcases List.mem_cons.mp hv with rfl | hv
          · exact ⟨x, t, rfl⟩
          · exact hf v hv
theorem map_range_getD {α : Type} (l : List α) (d : α) : (List.range l.length).map (fun i => l.getD i d) = l := by
  apply List.ext_getElem
  · simp
  · intro i h1 h2
    simp [List.getD, h2]
section
variable {X : Cx}
def rSortT (K : PySem.W.Frag) : List V → Hp → VK → Prop := fun xs H Q => ∃ (l : Addr) (ps : Prs) (d : Nat), xs = [.ref l] ∧ SqL K H l (refs ps) ∧ Tps K H ps ∧ (∀ q ∈ ps, q.2.length = d) ∧ 0 < d ∧ 2 ≤ ps.length ∧ ps.length < 64 ∧
  ∀ (p : Addr) (qs : Prs), H p = none → qs.Perm ps → Rises qs → Q (.ref p) (upd H p (.lst (refs qs)))
theorem call_sortT : CallR X (.builtin "sorted") (rSortT X.K) := by
  intro pins s σ H xs us Q I r h
  obtain ⟨l, ps, d, rfl, hl, ht, hd, h0, h2, h64, q⟩ := h
  obtain ⟨u, rfl, ru⟩ := vals1 r
  cases ru
  obtain ⟨its, rv, pl, hz⟩ := I.list hl
  obtain ⟨m, hm, _⟩ := id I.loc
  have hlen : its.length = ps.length := by have := rv.length; simpa using this.symm
  refine kat_sorted (vs := its) (Att.fr_all hm) (news_all (g := Att.noObjs s.heap)) pl.isList (by omega) (by omega) fun D e1 h' F' N' hD => ?_
  have keep' : ∀ b o, b ≠ X.env.locals → s.heap.get? b = some o → h'.get? b = some o := fun b o hb e => (N' (b, o) (List.mem_cons_of_mem _ (mem_allNews hb (Att.noObjs_get _ _) e))).1
  have tup' : ∀ p ∈ ps, ∃ vs : List Value, Vals (p.2.map V.int) vs ∧ IsTup h' p.1 vs.toArray := fun p hp => by
    obtain ⟨vs, rv', ⟨ob, ho, hc, n, hdat⟩, _⟩ := I.tuple (ht p hp)
    refine ⟨vs, rv', ob, keep' _ _ (fun z => ?_) ho, hc, n, hdat⟩
    obtain ⟨o', es, ep, e', hd', _⟩ := hm
    rw [z, e'] at ho
    cases ho
    rw [hdat] at hd'
    cases hd'
  obtain ⟨fs, kt, hfl, hfs⟩ := firsts_of (h := h') rv fun p hp => ⟨fun e => by have := hd p hp; rw [e] at this; simp at this; omega, tup' p hp⟩
  refine kat_kind (T := .type "int") kt (by omega) (fun v hv => ?_) rfl ?_
  · obtain ⟨i, t, rfl⟩ := hfs v hv
    exact Looks.of_pure rfl
  refine sort_go lexO (key := fun i => (ps.getD i (0, [])).2) (N := its.length) (fun i j C hi hj hC => ?_) (by omega) fun p hp hu => ?_
  · have hi' : i < ps.length := by omega
    have hj' : j < ps.length := by omega
    show wpAny _ _ (keyLt' _ (its.getD i Value.none) (its.getD j Value.none)) C _ _
    rw [vals_refs rv hi', vals_refs rv hj']
    have mi : ps.getD i (0, []) ∈ ps := by rw [getD_prs ps i hi']; exact List.getElem_mem hi'
    have mj : ps.getD j (0, []) ∈ ps := by rw [getD_prs ps j hj']; exact List.getElem_mem hj'
    obtain ⟨vi, ri, oi, hoi, _, ni, di⟩ := tup' _ mi
    obtain ⟨vj, rj, oj, hoj, _, nj, dj⟩ := tup' _ mj
    have el : (ps.getD i (0, [])).2.length = (ps.getD j (0, [])).2.length := (hd _ mi).trans (hd _ mj).symm
    refine kat_lt hoi di hoj dj ?_
    refine lex_pairs 0 ri rj el ?_ hC
    have a1 := ri.length
    have a2 := rj.length
    simp only [List.length_map] at a1 a2
    rw [List.size_toArray, List.size_toArray]
    exact decide_eq_false (by omega)
  · have hpl : p.toList.Perm (List.range its.length) := by simpa using Array.perm_iff_toList_perm.mp hp
    have hps : p.size = its.length := by have := hpl.length_eq; simpa using this
    have hlow : ∀ i ∈ p.toList, i < ps.length := fun i hi => by have := hpl.mem_iff.mp hi; rw [List.mem_range] at this; omega
    refine KasFin.intro F' N' (.head fun q hq => Nat.ne_of_lt (hD q hq)) fun h'' c F'' N'' => ?_
    have hv : Vals (refs (p.toList.map fun i => ps.getD i (0, []))) (p.toList.map fun i => its.getD i Value.none) := by
      have go : ∀ is : List Nat, (∀ i ∈ is, i < ps.length) → Vals (refs (is.map fun i => ps.getD i (0, []))) (is.map fun i => its.getD i Value.none) := by
        intro is
        induction is with
        | nil => intro _; exact .nil
        | cons i is ih =>
          intro hi
          refine .cons ?_ (ih fun j hj => hi j (List.mem_cons_of_mem _ hj))
          show its.getD i Value.none = _
          exact vals_refs rv (hi i (List.mem_cons_self ..))
      exact go _ hlow
    obtain ⟨hn, I'⟩ := I.newList (t' := s.toks) hm F'' N'' hD hv (by simp only [List.length_map, Array.length_toList, hps]; rw [sizeLine_eq]; omega)
    refine ⟨.ref D, _, I', rfl, q D _ hn ?_ ?_⟩
    · have := hpl.map (fun i => ps.getD i (0, []))
      rw [hlen, map_range_getD] at this
      exact this
    · unfold Rises
      rw [List.pairwise_map, List.pairwise_iff_getElem]
      intro i j hi hj hij
      have hu' := hu i j (by omega) (by rw [Array.length_toList] at hj; omega)
      unfold kk at hu'
      have e1 : p.getD i 0 = p.toList[i] := by rw [getD_q]; simp at hi; simp [hi]
      have e2 : p.getD j 0 = p.toList[j] := by rw [getD_q]; simp at hj; simp [hj]
      rw [e1, e2] at hu'
      exact hu'
end
end L2
set_option Elab.async false
set_option linter.all false
set_option maxRecDepth 100000
set_option maxHeartbeats 4000000
namespace L2
open PySem PySem.Spec PyProof.Rows
section
variable {X : Cx}
end
end L2
set_option Elab.async false
set_option linter.all false
set_option maxRecDepth 100000
set_option maxHeartbeats 4000000
namespace Pc
open PySem L2
inductive Ax where
  | x | y | z
  deriving DecidableEq
structure C3 where
  x : Int
  y : Int
  z : Int
  deriving DecidableEq
def C3.l (c : C3) : List Int := [c.x, c.y, c.z]
abbrev C3.v (c : C3) : List V := c.l.map V.int
theorem C3.inj {c d : C3} : c.l = d.l ↔ c = d := by
  obtain ⟨a, b, e⟩ := c
  obtain ⟨a', b', e'⟩ := d
  simp [C3.l]
def Ax.s : Ax → Str
  | .x => "x"
  | .y => "y"
  | .z => "z"
def Ax.n : Ax → Int
  | .x => 0
  | .y => 1
  | .z => 2
def Ax.at (a : Ax) (c : C3) : Int := match a with
  | .x => c.x
  | .y => c.y
  | .z => c.z
def Ax.put (a : Ax) (v : Int) (c : C3) : C3 := match a with
  | .x => ⟨v, c.y, c.z⟩
  | .y => ⟨c.x, v, c.z⟩
  | .z => ⟨c.x, c.y, v⟩
structure Wy where
  ax : Ax
  up : Bool
  deriving DecidableEq
def Wy.s : Wy → Str
  | ⟨.x, true⟩ => "+x"
  | ⟨.x, false⟩ => "-x"
  | ⟨.y, true⟩ => "+y"
  | ⟨.y, false⟩ => "-y"
  | ⟨.z, true⟩ => "+z"
  | ⟨.z, false⟩ => "-z"
def sg (b : Bool) : Int := if b then 1 else -1
def Wy.next (w : Wy) (c : C3) : C3 := w.ax.put (w.ax.at c + sg w.up) c
def C3.o : C3 := ⟨0, 0, 0⟩
def mC (a : Ax) (c : C3) : C3 := a.put (-(a.at c)) c
def allW : List Wy := [⟨.x, true⟩, ⟨.x, false⟩, ⟨.y, true⟩, ⟨.y, false⟩, ⟨.z, true⟩, ⟨.z, false⟩]
theorem way_ax (w : Wy) : ∃ c, atI w.s.cps.toList 1 = some c ∧ (⟨#[c]⟩ : Str) = w.ax.s := by
  obtain ⟨b, u⟩ := w
  cases b <;> cases u <;> exact ⟨_, rfl, rfl⟩
theorem way_sg (w : Wy) : ∃ c, atI w.s.cps.toList 0 = some c ∧ decide (V.str (⟨#[c]⟩ : Str) = V.str "+") = w.up := by
  obtain ⟨b, u⟩ := w
  cases b <;> cases u <;> exact ⟨_, rfl, by decide +kernel⟩
theorem way_len (w : Wy) : w.s.length ≤ sizeLine := by
  obtain ⟨b, u⟩ := w
  have h : (2 : Nat) ≤ sizeLine := by decide
  cases b <;> cases u <;> exact h
theorem at_ax (a : Ax) (c : C3) : atI c.v a.n = some (.int (a.at c)) := by
  obtain ⟨x, y, z⟩ := c
  cases a <;> rfl
theorem ix_ax (a : Ax) (c : C3) : ∃ j, ixN c.v.length a.n = some j ∧ ∀ v, c.v.set j (.int v) = (a.put v c).v := by
  obtain ⟨x, y, z⟩ := c
  cases a
  · exact ⟨0, rfl, fun _ => rfl⟩
  · exact ⟨1, rfl, fun _ => rfl⟩
  · exact ⟨2, rfl, fun _ => rfl⟩
def plD : List (Str × V) := [("x", .int 0), ("y", .int 1), ("z", .int 2)]
theorem mem_ax (a : Ax) : (a.s, V.int a.n) ∈ plD := by
  cases a <;> simp [plD, Ax.s, Ax.n]
theorem same_up {H H1 : Hp} {l : Addr} {o : HO} (s : Same H H1) (h : H l = none) : Same H (upd H1 l o) := fun b u q => by rw [upd_ne (ne_of_none q h)]; exact s b u q
theorem same_nw {H H1 : Hp} {l : Addr} {o : HO} (s : Same H H1) (h : H1 l = none) : Same H (upd H1 l o) := same_up s (s.free h)
theorem same_tup {K : PySem.W.Frag} {H H' : Hp} {a : Addr} {xs : List V} (e : Same H H') (h : SqT K H a xs) : SqT K H' a xs := by
  rcases h with (h | ⟨o, h⟩) | h
  · exact .inl (.inl (e _ _ h))
  · exact .inl (.inr ⟨o, e _ _ h⟩)
  · exact .inr h
end Pc
set_option Elab.async false
set_option linter.all false
set_option maxRecDepth 100000
set_option maxHeartbeats 4000000
namespace L2
open PySem PySem.Spec PyProof.Rows
section
variable {X : Cx}
theorem for_turns {J : It} {n : Nat} {g : TG} {tb : TS} {D : Ends} {σ : St} {H : Hp} (Pv : Nat → St → Hp → Prop) (h0 : Pv 0 σ H) (hd : ∀ σ H, Pv n σ H → J.stop n H ∧ D.nx σ H)
    (hgo : ∀ i σ H, i < n → Pv i σ H → J.go i H ∧ ∀ x H', J.yld i H x H' → g x σ H' fun σ2 H2 => tb { D with nx := Pv (i + 1), ct := Pv (i + 1), bk := D.nx } σ2 H2) :
    ∃ W : Nat → Nat → St → Hp → Prop, (∃ m, W 0 m σ H) ∧ ∀ i m σ H, W i m σ H →
      (J.stop i H ∧ D.nx σ H) ∨ (J.go i H ∧ ∃ N : St → Hp → Prop, (∀ σ' H', N σ' H' → ∃ m', m' < m ∧ W (i + 1) m' σ' H') ∧ ∀ x H', J.yld i H x H' → g x σ H' fun σ2 H2 => tb { D with nx := N, ct := N, bk := D.nx } σ2 H2) := by
  refine ⟨fun i m σ H => m = n - i ∧ i ≤ n ∧ Pv i σ H, ⟨n, by simp, Nat.zero_le _, h0⟩, ?_⟩
  rintro i m σ H ⟨rfl, hi, p⟩
  by_cases hlt : i < n
  · obtain ⟨q1, q2⟩ := hgo i σ H hlt p
    exact .inr ⟨q1, Pv (i + 1), fun σ' H' p' => ⟨n - (i + 1), by omega, rfl, hlt, p'⟩, q2⟩
  · have e : i = n := by omega
    subst e
    exact .inl (hd σ H p)
end
end L2
namespace Pc
open PySem L2 Srt
def whole : V → Bool
  | .int _ => true
  | _ => false
theorem srt_one : ∀ (l m : List (List Int)), l.Perm m → l.Pairwise (fun a b => HT.lexLt b a = false) → m.Pairwise (fun a b => HT.lexLt b a = false) → l = m
  | [], m, h, _, _ => (List.Perm.nil_eq h)
  | a :: l, [], h, _, _ => by have := h.length_eq; simp at this
  | a :: l, b :: m, h, hl, hm => by
    obtain ⟨h1, h2⟩ := List.pairwise_cons.mp hl
    obtain ⟨g1, g2⟩ := List.pairwise_cons.mp hm
    have e : a = b := by
      have ha : a ∈ b :: m := h.mem_iff.mp (List.mem_cons_self ..)
      have hb : b ∈ a :: l := h.mem_iff.mpr (List.mem_cons_self ..)
      rcases List.mem_cons.mp ha with e | ha
      · exact e
      · rcases List.mem_cons.mp hb with e | hb
        · exact e.symm
        · exact lex_an a b (g1 a ha) (h1 b hb)
    subst e
    rw [srt_one l m (List.Perm.cons_inv h) h2 g2]
def nbs (c : C3) : List (List Int) := [[c.x - 1, c.y, c.z], [c.x, c.y - 1, c.z], [c.x, c.y, c.z - 1], [c.x, c.y, c.z + 1], [c.x, c.y + 1, c.z], [c.x + 1, c.y, c.z]]
theorem nbs_perm (c : C3) : (allW.map fun u => (u.next c).l).Perm (nbs c) := by
  obtain ⟨x, y, z⟩ := c
  have e : (allW.map fun u => (Wy.next u ⟨x, y, z⟩).l) = [[x + 1, y, z], [x - 1, y, z], [x, y + 1, z], [x, y - 1, z], [x, y, z + 1], [x, y, z - 1]] := by
    simp [allW, Wy.next, Ax.put, Ax.at, C3.l, sg]
    refine ⟨?_, ?_, ?_⟩ <;> omega
  rw [e]
  show [[x + 1, y, z], [x - 1, y, z], [x, y + 1, z], [x, y - 1, z], [x, y, z + 1], [x, y, z - 1]].Perm [[x - 1, y, z], [x, y - 1, z], [x, y, z - 1], [x, y, z + 1], [x, y + 1, z], [x + 1, y, z]]
  generalize [x + 1, y, z] = a
  generalize [x - 1, y, z] = b
  generalize [x, y + 1, z] = c
  generalize [x, y - 1, z] = d
  generalize [x, y, z + 1] = e
  generalize [x, y, z - 1] = f
  refine (List.perm_append_comm (l₁ := [a]) (l₂ := [b, c, d, e, f])).trans ?_
  refine List.Perm.cons b ?_
  refine (List.perm_append_comm (l₁ := [c]) (l₂ := [d, e, f, a])).trans ?_
  refine List.Perm.cons d ?_
  refine (List.perm_append_comm (l₁ := [e]) (l₂ := [f, a, c])).trans ?_
  refine List.Perm.cons f ?_
  refine (List.perm_append_comm (l₁ := [a, c]) (l₂ := [e])).trans ?_
  refine List.Perm.cons e ?_
  exact List.perm_append_comm (l₁ := [a]) (l₂ := [c])
theorem nbs_rise (c : C3) : (nbs c).Pairwise (fun a b => HT.lexLt b a = false) := by
  obtain ⟨x, y, z⟩ := c
  simp only [nbs, List.pairwise_cons, List.mem_cons, List.not_mem_nil, or_false, forall_eq_or_imp, forall_eq, List.Pairwise.nil, and_true, HT.lexLt_cons, HT.lexLt_nil_nil]
  refine ⟨⟨?_, ?_, ?_, ?_, ?_⟩, ⟨?_, ?_, ?_, ?_⟩, ⟨?_, ?_, ?_⟩, ⟨?_, ?_⟩, ?_, ?_⟩
  all_goals (repeat' split)
  all_goals first | rfl | omega | (simp; omega) | simp
end Pc
set_option Elab.async false
set_option linter.all false
set_option maxRecDepth 100000
set_option maxHeartbeats 4000000
namespace Pc
open PySem L2 Srt
structure Fn (K : PySem.W.Frag) (mg : Str → Option Value) (x : Str) (st : Stmt) (f : Addr) (fd : FuncData) (ps : List Str) : Prop where
  F : Fun K x x st f fd
  b : Binds K fd ps []
  m : mg x = some (.ref f)
  bt : ∀ (s : Shared) (us : List Value), us.length = ps.length → BindsTo s fd ⟨us, []⟩ (ps.zip us)
theorem b_list : bootBuiltins "list" = some (.type "list") := by decide +kernel
theorem b_tuple : bootBuiltins "tuple" = some (.type "tuple") := by decide +kernel
theorem b_sorted : bootBuiltins "sorted" = some (.builtin "sorted") := by decide +kernel
theorem b_min : bootBuiltins "min" = some (.builtin "min") := by decide +kernel
theorem b_max : bootBuiltins "max" = some (.builtin "max") := by decide +kernel
theorem b_abs : bootBuiltins "abs" = some (.builtin "abs") := by decide +kernel
theorem b_len : bootBuiltins "len" = some (.builtin "len") := by decide +kernel
theorem le1 : 1 ≤ sizeLine := by decide
theorem le2 : 2 ≤ sizeLine := by decide
theorem le3 : 3 ≤ sizeLine := by decide
theorem le0 : 0 ≤ sizeLine := by decide
theorem le6 : 6 ≤ sizeLine := by decide
theorem fn_mk {K : PySem.W.Frag} {h : Heap} {mg : Str → Option Value} {x : Str} {st : Stmt} {f : Addr} {oc kV dc pm cd ct : Value} {od an : Option Addr} {sl : Array (Option Value)} {ps : List Str} (X : K.In h) (G : h.Ns mainGlobals mg)
    (a : PySem.W.nsIn K mainGlobals x = some (some (.ref f))) (l : K.lookup f = some ⟨oc, od, .func (PySem.W.fnOf x x (defArgs st) (defBody st) (defScope st) .none kV dc pm an cd ct), sl⟩) (c : PySem.W.codeIn K cd x = true) (k : PySem.W.keepIn K (.ref f) = true)
    (b : ∀ (kV doc pm : Value) (an : Option Addr) (cdv ct : Value) (us : List Value), us.length = ps.length → bindArgs (PySem.W.fnOf x x (defArgs st) (defBody st) (defScope st) .none kV doc pm an cdv ct) ⟨us, []⟩ = pure (ps.zip us)) : ∃ f fd, Fn K mg x st f fd ps :=
  ⟨f, _, ⟨fun_mk l c k, (fun_mk l c k).binds b, PySem.W.mg_of X G a, fun s us hl => .of_eq (b _ _ _ _ _ _ us hl)⟩⟩
theorem place_mk {K : PySem.W.Frag} {w : World} {h : Heap} {mg : Str → Option Value} {a : Addr} {es : Array DictEntry} {n : Nat} {t0 t1 t2 : Tok} (X : K.In h) (G : h.Ns mainGlobals mg) (m : PySem.W.nsIn K mainGlobals "PLACES" = some (some (.ref a)))
    (l : K.lookup a = some ⟨.type "dict", none, .dict es n, #[]⟩) (k : PySem.W.KeysLit w.params es.toList) (x0 : PySem.W.nsIn K a "x" = some (some (.int 0 t0))) (x1 : PySem.W.nsIn K a "y" = some (some (.int 1 t1))) (x2 : PySem.W.nsIn K a "z" = some (some (.int 2 t2))) :
    ∃ a, mg "PLACES" = some (.ref a) ∧ TopD K w a plD := by
  refine ⟨a, PySem.W.mg_of X G m, ⟨es, n, l, k, fun p hp => ?_⟩⟩
  simp only [plD, List.mem_cons, List.not_mem_nil, or_false] at hp
  rcases hp with rfl | rfl | rfl
  · exact ⟨_, x0, t0, rfl⟩
  · exact ⟨_, x1, t1, rfl⟩
  · exact ⟨_, x2, t2, rfl⟩
theorem tup_mk {K : PySem.W.Frag} {h : Heap} {mg : Str → Option Value} {x : Str} {a : Addr} {its : Array Value} {n : Nat} {d : Option Addr} {sl : Array (Option Value)} {xs : List V} (X : K.In h) (G : h.Ns mainGlobals mg) (m : PySem.W.nsIn K mainGlobals x = some (some (.ref a)))
    (l : K.lookup a = some ⟨.type "tuple", d, .seq its n, sl⟩) (r : Vals xs its.toList) (z : xs.length ≤ sizeLine) : ∃ a, mg x = some (.ref a) ∧ ∀ H, SqT K H a xs :=
  ⟨a, PySem.W.mg_of X G m, fun H => .inr ⟨_, its, n, l, rfl, rfl, (by have e1 := r.length; have e2 : its.toList.length = its.size := Array.length_toList; omega), r⟩⟩
end Pc
set_option Elab.async false
set_option linter.all false
set_option maxRecDepth 100000
set_option maxHeartbeats 4000000
namespace L2
open PySem PySem.Spec PyProof.Rows
section
variable {σ : St} {H : Hp} {Q : VK} {D : Ends} {K : PySem.W.Frag}
theorem rd_seq {t u : TS} (h : t { D with nx := u D } σ H) : tSeq t u D σ H := h
theorem rd_asg {te : TE} {g : TG} (h : te σ H fun x H1 => g x σ H1 D.nx) : tAsg te g D σ H := h
theorem rd_gname {i : Nat} {v : V} {R : St → Hp → Prop} (h : R (σ.set i (some v)) H) : gName i v σ H R := h
theorem rd_var {i : Nat} {v : V} (e : σ[i]? = some (some v)) (h : Q v H) : tVar i σ H Q := ⟨v, e, h⟩
theorem rd_c {v : V} (h : Q v H) : tC v σ H Q := h
theorem rd_op {r : R2} {ta tb : TE} (h : ta σ H fun x H1 => tb σ H1 fun y H2 => r x y H2 Q) : tOp r ta tb σ H Q := h
theorem rd_un {r : V → Hp → VK → Prop} {ta : TE} (h : ta σ H fun x H1 => r x H1 Q) : tUn r ta σ H Q := h
theorem rd_i0 {g : Int → Int → V} {i j : Int} (h : Q (g i j) H) : rI0 g (.int i) (.int j) H Q := ⟨i, j, rfl, rfl, h⟩
theorem rd_mod {g : Int → Int → V} {i j : Int} (c : 0 < j) (h : Q (g i j) H) : rI (fun _ j => 0 < j) g (.int i) (.int j) H Q := ⟨i, j, rfl, rfl, c, h⟩
theorem rd_fdiv {g : Int → Int → V} {i j : Int} (c : 0 < j ∧ j < 1073741824) (h : Q (g i j) H) : rI CDiv g (.int i) (.int j) H Q := ⟨i, j, rfl, rfl, c, h⟩
theorem rd_mulR {g : Int → Int → V} {i j : Int} (c : -(2 ^ 64) < j ∧ j < 2 ^ 64) (h : Q (g i j) H) : rI CMul g (.int i) (.int j) H Q := ⟨i, j, rfl, rfl, .inr c, h⟩
theorem rd_pow {g : Int → Int → V} {i j : Int} (c : 0 ≤ j ∧ j ≤ 1000000 ∧ i.natAbs < 2 ^ 64) (h : Q (g i j) H) : rI CPow g (.int i) (.int j) H Q := ⟨i, j, rfl, rfl, c, h⟩
theorem rd_u {g : Int → V} {i : Int} (h : Q (g i) H) : rU g (.int i) H Q := ⟨i, rfl, h⟩
theorem rd_eqI {i j : Int} (h : Q (.bl (decide (i = j))) H) : rEq (.int i) (.int j) H Q := ⟨rfl, by
  have e : decide (V.int i = V.int j) = decide (i = j) := by by_cases z : i = j <;> simp [z]
  rw [e]; exact h⟩
theorem rd_neI {i j : Int} (h : Q (.bl (!decide (i = j))) H) : rNe (.int i) (.int j) H Q := ⟨rfl, by
  have e : decide (V.int i = V.int j) = decide (i = j) := by by_cases z : i = j <;> simp [z]
  rw [e]; exact h⟩
theorem rd_test {t : TE} {R : Bool → Hp → Prop} (h : t σ H fun x H' => ∃ k, x = .bl k ∧ R k H') : tTest t σ H R := h
theorem rd_tb {t : TE} {R : Bool → Hp → Prop} (h : t σ H fun x H' => ∃ k, x = .bl k ∧ R k H') : tB t σ H R := h
theorem rd_bl {k : Bool} {R : Bool → Prop} (h : R k) : ∃ k', V.bl k = .bl k' ∧ R k' := ⟨k, rfl, h⟩
theorem rd_ifs {c : TT} {t u : TS} (h : c σ H fun b H1 => if b = true then t D σ H1 else u D σ H1) : tIfS c t u D σ H := h
theorem rd_and {t u : TT} {R : Bool → Hp → Prop} (h : t σ H fun c H1 => if c = true then u σ H1 R else R false H1) : tAnd t u σ H R := h
theorem rd_or {t u : TT} {R : Bool → Hp → Prop} (h : t σ H fun c H1 => if c = true then R true H1 else u σ H1 R) : tOr t u σ H R := h
theorem rd_not {t : TT} {R : Bool → Hp → Prop} (h : t σ H fun c H1 => R (!c) H1) : tNot t σ H R := h
theorem rd_next (h : D.nx σ H) : tNext D σ H := h
theorem rd_ret {te : TE} (h : te σ H D.rt) : tRet te D σ H := h
theorem rd_drop {te : TE} (h : te σ H fun _ H1 => D.nx σ H1) : tDrop te D σ H := h
theorem rd_nil {R : List V → Hp → Prop} (h : R [] H) : tNil σ H R := h
theorem rd_cons {ta : TE} {tr : TA} {R : List V → Hp → Prop} (h : ta σ H fun x H1 => tr σ H1 fun xs H2 => R (x :: xs) H2) : tCons ta tr σ H R := h
theorem rd_tup {t : TA} (h : t σ H fun xs H1 => xs.length ≤ sizeLine ∧ ∀ p, H1 p = none → Q (.ref p) (upd H1 p (.tup xs))) : tTup t σ H Q := h
theorem rd_lst {t : TA} (h : t σ H fun xs H1 => xs.length ≤ sizeLine ∧ ∀ p, H1 p = none → Q (.ref p) (upd H1 p (.lst xs))) : tLst t σ H Q := h
theorem rd_call {sp : Sp} {dvs : List V} {E : XK} {t : TA} (h : t σ H fun vs H1 => sp (vs ++ dvs) H1 Q E) : tCall sp dvs E t σ H Q := h
theorem rd_cb {r : List V → Hp → VK → Prop} {t : TA} (h : t σ H fun vs H1 => r vs H1 Q) : tCB r t σ H Q := h
theorem rd_bm {T : String} {r : V → List V → Hp → VK → Prop} {to : TE} {t : TA} (h : to σ H fun x H1 => tyV K T x H1 ∧ t σ H1 fun xs H2 => r x xs H2 Q) : tBM K T r to t σ H Q := h
theorem rd_bm0 {T : String} {r : V → List V → Hp → VK → Prop} {to : TE} (h : to σ H fun x H1 => tyV K T x H1 ∧ r x [] H1 Q) : tBM0 K T r to σ H Q := h
theorem rd_sl {r : V → Option Int → Option Int → Hp → VK → Prop} {te : TE} {tl th : TO} (h : te σ H fun x H1 => tl σ H1 fun l H2 => th σ H2 fun u H3 => r x l u H3 Q) : tSl r te tl th σ H Q := h
theorem rd_nop {R : Option Int → Hp → Prop} (h : R none H) : tNoPart σ H R := h
theorem rd_part {t : TE} {R : Option Int → Hp → Prop} (h : t σ H fun x H1 => ∃ i, x = .int i ∧ R (some i) H1) : tPart t σ H R := h
theorem rd_int {i : Int} {R : Int → Prop} (h : R i) : ∃ k, V.int i = .int k ∧ R k := ⟨i, rfl, h⟩
theorem rd_ixL {p : Addr} {xs : List V} {i : Int} {v : V} (h : SqL K H p xs) (e : atI xs i = some v) (q : Q v H) : rIxL K (.ref p) (.int i) H Q := ⟨p, xs, i, v, rfl, rfl, h, e, q⟩
theorem rd_ixT {p : Addr} {xs : List V} {i : Int} {v : V} (h : SqT K H p xs) (e : atI xs i = some v) (q : Q v H) : rIxT K (.ref p) (.int i) H Q := ⟨p, xs, i, v, rfl, rfl, h, e, q⟩
theorem rd_sll {p : Addr} {xs : List V} {lo hi : Option Int} (h : SqL K H p xs) (q : ∀ l, H l = none → Q (.ref l) (upd H l (.lst (cutV xs lo hi)))) : rSlL K (.ref p) lo hi H Q := ⟨p, xs, rfl, h, q⟩
theorem rd_true {A B : Prop} (h : A) : if true = true then A else B := iteT h
theorem rd_false {A B : Prop} (h : B) : if false = true then A else B := iteF h
theorem rd_ntrue {A B : Prop} (h : B) : if (!true) = true then A else B := iteF h
theorem rd_nfalse {A B : Prop} (h : A) : if (!false) = true then A else B := iteT h
theorem same_new {p : Addr} {o : HO} (h : H p = none) : Same H (upd H p o) := fun b u q => by rw [upd_ne (ne_of_none q h)]; exact q
theorem lk_old {p q : Addr} {o u : HO} (hn : H p = none) (h : H q = some u) : upd H p o q = some u := same_new hn q u h
theorem lk_ne {p q : Addr} {o u : HO} (hn : q ≠ p) (h : H q = some u) : upd H p o q = some u := by rw [upd_ne hn]; exact h
theorem lk_kind {p q : Addr} {o u u' : HO} (h' : H p = some u') (hd : u ≠ u') (h : H q = some u) : upd H p o q = some u := by rw [upd_ne (ne_of h h' hd)]; exact h
theorem sqL_new {p q : Addr} {o : HO} {xs : List V} (hn : H p = none) (h : SqL K H q xs) : SqL K (upd H p o) q xs := (same_new hn).seq h
end
end L2
set_option Elab.async false
set_option linter.all false
set_option maxRecDepth 100000
set_option maxHeartbeats 4000000
namespace L2
open PySem PySem.Spec PyProof.Rows
structure QE (X : Cx) (e : Expr) (t : TE) : Prop where
  r : PE X e t
structure QT (X : Cx) (e : Expr) (t : TT) : Prop where
  r : PT X e t
structure QW (X : Cx) (e : Expr) (t : TT) : Prop where
  r : PW X e t
structure QA (X : Cx) (es : List Expr) (t : TA) : Prop where
  r : PA X es t
structure QS (X : Cx) (st : Stmt) (t : TS) : Prop where
  r : PS X st t
structure QSs (X : Cx) (sts : List Stmt) (t : TS) : Prop where
  r : PSs X sts t
structure QG (X : Cx) (e : Expr) (t : TG) : Prop where
  r : PG X e t
structure QGs (X : Cx) (es : List Expr) (t : TGs) : Prop where
  r : PGs X es t
structure QI (X : Cx) (tg it : Expr) (t : TI) : Prop where
  r : PI X tg it t
structure QO (X : Cx) (e : Option Expr) (t : TO) : Prop where
  r : PO X e t
structure QF (X : Cx) (ifs : List Expr) (t : TT) : Prop where
  r : PIfs X ifs t
structure QPs (X : Cx) (pos : Pos) (ks : List (Option Expr)) (vs : List Expr) (trs : List (TE × TE)) : Prop where
  r : PPs X pos ks vs trs
structure QOp (X : Cx) (f : Value → Value → Sem Value) (r : R2) : Prop where
  r : OpR X f r
structure QIx (X : Cx) (r : R2) : Prop where
  r : IxR X r
structure QCl (X : Cx) (f : Value) (r : List V → Hp → VK → Prop) : Prop where
  r : CallR X f r
section
set_option autoImplicit true
set_option relaxedAutoImplicit true
variable {X : Cx}
theorem qv (i : Nat) {x : Str} {pos : Pos} (hN : X.N[i]? = some x := by rfl) (hv : Vis X.env.scope x := by first | exact Or.inl rfl | exact Or.inr (Or.inl rfl) | exact Or.inr (Or.inr rfl)) (hd : (x == ("__debug__" : Str)) = false := by decide)
    (hcd : (x == ("__classdict__" : Str)) = false := by decide) : QE X (.Name x pos) (tVar i) := ⟨pv i hN hv hd hcd⟩
theorem qe_int {i j pos} : QE X (.Constant (.int i) j pos) (tC (.int i)) := ⟨pe_int⟩
theorem qe_bl {b j pos} : QE X (.Constant (.bool b) j pos) (tC (.bl b)) := ⟨pe_bl⟩
theorem qe_non {j pos} : QE X (.Constant .none j pos) (tC .non) := ⟨pe_non⟩
theorem qe_str {x j pos} : QE X (.Constant (.str x) j pos) (tC (.str x)) := ⟨pe_str⟩
theorem qe_glob {x : Str} {v : V} {u : Value} {pos : Pos} (hg : Gl X x) (hm : X.mg x = some u) (r : RelV v u) (hd : (x == ("__debug__" : Str)) = false := by decide) : QE X (.Name x pos) (tC v) := ⟨pe_glob hg hm r hd⟩
theorem qe_op {op : Operator} {r : R2} (ho : QOp X (binaryOp op) r) (ha : QE X a ta) (hb : QE X b tb) : QE X (.BinOp a op b pos) (tOp r ta tb) := ⟨pe_op ho.r ha.r hb.r⟩
theorem qe_neg (ha : QE X a ta) : QE X (.UnaryOp .USub a pos) (tUn (rU fun i => .int (-i)) ta) := ⟨pe_un un_neg ha.r⟩
theorem qe_cmpR {op : CmpOp} {r : R2} (ho : QOp X (compareOp op) r) (ha : QE X a ta) (hb : QE X b tb) (hm : behindInMarks op b = false) : QE X (.Compare a [op] [b] pos) (tOp r ta tb) := ⟨pe_cmpR ho.r ha.r hb.r hm⟩
theorem qt_cmpR {op : CmpOp} {r : R2} (ho : QOp X (compareOp op) r) (ha : QE X a ta) (hb : QE X b tb) (hm : behindInMarks op b = false) : QT X (.Compare a [op] [b] pos) (tTest (tOp r ta tb)) := ⟨pt_cmpR ho.r ha.r hb.r hm⟩
theorem qt_din (hu : X.A.units + 1 < cLine) (hi : QE X i ty) (ho : QE X o td) (h1 : behindInMarks .In o = false) : QT X (.Compare i [.In] [o] pos) (tB (tDIn ty td)) := ⟨pt_cmp (pc_din hu hi.r ho.r) h1⟩
theorem qt_dnotin (hu : X.A.units + 1 < cLine) (hi : QE X i ty) (ho : QE X o td) (h1 : behindInMarks .NotIn o = false) : QT X (.Compare i [.NotIn] [o] pos) (tB (tDNotIn ty td)) := ⟨pt_cmp (pc_dnotin hu hi.r ho.r) h1⟩
theorem qt_not (ha : QT X a tA) : QT X (.UnaryOp .Not a pos) (tNot tA) := ⟨pt_not ha.r⟩
theorem qw_and1 (ha : QT X a tA) : QW X (.BoolOp .And [a] pos) tA := ⟨pw_and1 ha.r⟩
theorem qw_or1 (ha : QT X a tA) : QW X (.BoolOp .Or [a] pos) tA := ⟨pw_or1 ha.r⟩
theorem qw_and {b : Expr} {rest : List Expr} (ha : QT X a tA) (hb : QW X (.BoolOp .And (b :: rest) pos) tB') : QW X (.BoolOp .And (a :: b :: rest) pos) (tAnd tA tB') := ⟨pw_and ha.r hb.r⟩
theorem qw_or {b : Expr} {rest : List Expr} (ha : QT X a tA) (hb : QW X (.BoolOp .Or (b :: rest) pos) tB') : QW X (.BoolOp .Or (a :: b :: rest) pos) (tOr tA tB') := ⟨pw_or ha.r hb.r⟩
theorem QW.t {t : TT} (h : QW X e t) : QT X e t := ⟨PW.pt h.r⟩
theorem qe_ifExp {c : Expr} (hc : QT X c tA) (ha : QE X a ta) (hb : QE X b tb) : QE X (.IfExp c a b pos) (tIf tA ta tb) := ⟨pe_ifExp hc.r ha.r hb.r⟩
theorem qt_val {e : Expr} {t : TE} (h : QE X e t) (he : ∀ whole, isTrue e X.env whole = (do let v ← whole; standAt e.pos; holding [v] (truthy v)) := by intro _; rfl) : QT X e (tB t) := ⟨pt_val h.r he⟩
def tTruth (K : PySem.W.Frag) (ta : TE) : TT := fun σ H Q => ta σ H fun x H' => ∃ k, TruV K x H' k ∧ Q k H'
theorem qt_truth {K : PySem.W.Frag} (ha : QE X a ta) (he : ∀ whole, isTrue a X.env whole = (do let v ← whole; standAt a.pos; holding [v] (truthy v))) (hK : X.K = K) : QT X a (tTruth K ta) := ⟨hK ▸ pt_truth ha.r he⟩
theorem qe_ix {r : R2} (hr : QIx X r) (ha : QE X a ta) (hb : QE X b tb) (hs : PlainIx b) : QE X (.Subscript a b pos) (tOp r ta tb) := ⟨pe_ix hr.r ha.r hb.r hs⟩
theorem qo_none : QO X none tNoPart := ⟨po_none⟩
theorem qo_some (h : QE X e te) : QO X (some e) (tPart te) := ⟨po_some h.r⟩
theorem qe_slL {K : PySem.W.Frag} {lo hi : Option Expr} (hK : X.K = K) (he : QE X e te) (hl : QO X lo tl) (hu : QO X hi th) : QE X (.Subscript e (.Slice lo hi none p2) pos) (tSl (rSlL K) te tl th) := ⟨hK ▸ pe_slice sl_list he.r hl.r hu.r⟩
theorem qe_lst (h : QA X es t) : QE X (.List es pos) (tLst t) := ⟨pe_lst h.r⟩
theorem qe_tup {x1} (h : QA X es t) : QE X (.Tuple es x1 pos) (tTup t) := ⟨pe_tup h.r⟩
theorem qa_nil : QA X [] tNil := ⟨pa_nil⟩
theorem qa_cons (ha : QE X e te) (hr : QA X es t) (hs : starEach (e :: es) X.env = (false, eval e X.env) :: starEach es X.env := by rfl) : QA X (e :: es) (tCons te t) := ⟨pa_cons ha.r hr.r hs⟩
theorem qps_nil {pos : Pos} : QPs X pos [] [] [] := ⟨pps_nil⟩
theorem qps_cons {pos : Pos} {k v : Expr} {ks : List (Option Expr)} {vs : List Expr} {tk tv : TE} {trs : List (TE × TE)} (hk : QE X k tk) (hv : QE X v tv) (hr : QPs X pos ks vs trs) : QPs X pos (some k :: ks) (v :: vs) ((tk, tv) :: trs) := ⟨pps_cons hk.r hv.r hr.r⟩
theorem qe_disp {pos : Pos} {keys : List (Option Expr)} {values : List Expr} {trs : List (TE × TE)} (h : QPs X pos keys values trs) (hall : keys.all (·.isSome) = true) (hl : keys.length = values.length) (h0 : keys ≠ []) (h15 : keys.length ≤ 15) : QE X (.Dict keys values pos) (tDisp trs) := ⟨pe_disp h.r hall hl h0 h15⟩
theorem qe_dnewT : QE X (.Dict [] [] pos) tDNewT := ⟨pe_dnewT⟩
theorem qe_dget (hu : X.A.units + 1 < cLine) (ho : QE X o td) (hi : QE X i ty) (hs : NoSl i) : QE X (.Subscript o i pos) (tDGet td ty) := ⟨pe_dget hu ho.r hi.r hs⟩
theorem qe_comp {tg elt iter : Expr} {ifs : List Expr} {scope : Scope} {pos : Pos} {N : List Str} {wi : TI} {g : TG} {tc : TT} {te : TE} (own : List Str) (caps : List Nat) (hc : X.calm = true)
    (hN : N = own ++ caps.map fun j => (X.N[j]?).getD (Str.ofString "")) (hok : blkOk X.env.scope X.N scope caps = true) (hkind : scope.kind = .function)
    (hi : QI X tg iter wi) (hg : ∀ cl s₃ H₃ ch, QG (cxBlk X N scope cl s₃ H₃ ch) tg g) (hifs : ∀ cl s₃ H₃ ch, QF (cxBlk X N scope cl s₃ H₃ ch) ifs tc) (he : ∀ cl s₃ H₃ ch, QE (cxBlk X N scope cl s₃ H₃ ch) elt te)
    (hs : ∀ x, foldedSetIterable iter X.env x = pure x := by intro _; rfl) : QE X (.ListComp elt [⟨tg, iter, ifs, 0⟩] scope pos) (tComp own.length caps wi g tc te) :=
  ⟨pe_comp own caps hc hN hok hkind hi.r (fun a b c d => (hg a b c d).r) (fun a b c d => (hifs a b c d).r) (fun a b c d => (he a b c d).r) hs⟩
theorem qf_nil : QF X [] tYes := ⟨pifs_nil⟩
theorem qf_one {t : TT} (h : QT X c t) : QF X [c] t := ⟨pifs_one h.r⟩
theorem qe_call {CX : CXT} {k : Nat} {f : Addr} {fd : FuncData} {ps : List Str} {sp : Sp} {dvs : List V} {ds : List Value} {E : XK} {x : Str} {p pos : Pos} {e : Expr} {es : List Expr} {t : TA} (F : FnOk X.prog X.w X.K X.mg X.base CX k f fd ps sp) (hr : Room k X.A) (hg : Gl X x) (hm : X.mg x = some (.ref f)) (hk : PySem.W.keepIn X.K (.ref f) = true) (hb : Binds X.K fd ps ds) (hd : Vals dvs ds) (hx : Passes CX X E)
    (ha : QA X (e :: es) t) (hdb : (x == ("__debug__" : Str)) = false := by decide) (he : starEach (e :: es) X.env = (false, eval e X.env) :: starEach es X.env := by rfl) (hpl : (backTo pos (starEach es X.env)).any (·.1) = false := by rfl) :
    QE X (.Call (.Name x p) (e :: es) [] pos) (tCall sp dvs E t) := ⟨pe_call F hr hg hm hk hb hd hx ha.r hdb he hpl⟩
theorem qe_callB {id : String} {r : List V → Hp → VK → Prop} {x : Str} {p pos : Pos} {e : Expr} {es : List Expr} {t : TA} (hc : QCl X (.builtin id) r) (hg : Gl X x) (hm : X.mg x = none) (hv : bootBuiltins x = some (.builtin id)) (ha : QA X (e :: es) t) (hn : x ≠ "__name__" := by decide) (hdb : (x == ("__debug__" : Str)) = false := by decide)
    (he : starEach (e :: es) X.env = (false, eval e X.env) :: starEach es X.env := by rfl) (hpl : (backTo pos (starEach es X.env)).any (·.1) = false := by rfl) : QE X (.Call (.Name x p) (e :: es) [] pos) (tCB r t) := ⟨pe_callB hc.r hg hm hv ha.r hn hdb he hpl⟩
theorem qe_callTy {T : String} {r : List V → Hp → VK → Prop} {x : Str} {p pos : Pos} {e : Expr} {es : List Expr} {t : TA} (hc : QCl X (.type T) r) (hg : Gl X x) (hm : X.mg x = none) (hv : bootBuiltins x = some (.type T)) (ha : QA X (e :: es) t) (hn : x ≠ "__name__" := by decide) (hdb : (x == ("__debug__" : Str)) = false := by decide)
    (he : starEach (e :: es) X.env = (false, eval e X.env) :: starEach es X.env := by rfl) (hpl : (backTo pos (starEach es X.env)).any (·.1) = false := by rfl) : QE X (.Call (.Name x p) (e :: es) [] pos) (tCB r t) := ⟨pe_callTy hc.r hg hm hv ha.r hn hdb he hpl⟩
theorem qe_bm {K : PySem.W.Frag} {T : String} {name : Str} {id : String} {r : V → List V → Hp → VK → Prop} {o e : Expr} {es : List Expr} {to : TE} {t : TA} {apos cpos : Pos} (hK : X.K = K) (pa : PlainAttrs T) (slot : Slot T name id) (hty : typeOf (.builtin id) = pure (.type "method_descriptor")) (hm : MtR X id r) (ho : QE X o to) (ha : QA X (e :: es) t)
    (hbase : attributeBase o name X.env (eval o X.env) = eval o X.env := by rfl)
    (hfew : ((backTo cpos (starEach (e :: es) X.env)).all (fun x => !x.1) && (backToKw cpos (keywordEach [] X.env)).all (fun x => x.1.isSome)
      && decide ((e :: es).length + ([] : List Keyword).length + (if ([] : List Keyword).isEmpty then 0 else 1) < 30)) = true := by rfl)
    (hline : (apos.endLine == cpos.line) = true := by rfl) (hs : starEach (e :: es) X.env = (false, eval e X.env) :: starEach es X.env := by rfl) (hplain : (backTo cpos (starEach es X.env)).any (·.1) = false := by rfl) :
    QE X (.Call (.Attribute o name apos) (e :: es) [] cpos) (tBM K T r to t) := ⟨hK ▸ pe_bm pa slot hty hm ho.r ha.r hbase hfew hline hs hplain⟩
theorem qe_bm0 {K : PySem.W.Frag} {T : String} {name : Str} {id : String} {r : V → List V → Hp → VK → Prop} {o : Expr} {to : TE} {apos cpos : Pos} (hK : X.K = K) (pa : PlainAttrs T) (slot : Slot T name id) (hty : typeOf (.builtin id) = pure (.type "method_descriptor")) (hm : MtR X id r) (ho : QE X o to)
    (hbase : attributeBase o name X.env (eval o X.env) = eval o X.env := by rfl) (hline : (apos.endLine == cpos.line) = true := by rfl) : QE X (.Call (.Attribute o name apos) [] [] cpos) (tBM0 K T r to) := ⟨hK ▸ pe_bm0 pa slot hty hm ho.r hbase hline⟩
theorem qss_nil : QSs X [] tNext := ⟨pss_nil⟩
theorem qss_cons {st : Stmt} {rest : List Stmt} {t u : TS} (h1 : QS X st t) (h2 : QSs X rest u) : QSs X (st :: rest) (tSeq t u) := ⟨pss_cons h1.r h2.r⟩
theorem qss_one {st : Stmt} {t : TS} (h1 : QS X st t) : QSs X [st] t := ⟨pss_one h1.r⟩
theorem qs_expr {e : Expr} {te : TE} {pos : Pos} (he : QE X e te) (hs : swapsWith e none pos.line X.env = pure false := by rfl) : QS X (.Expr e pos) (tDrop te) := ⟨ps_expr he.r hs⟩
theorem qs_ret {te : TE} (he : QE X e te) : QS X (.Return (some e) pos) (tRet te) := ⟨ps_ret he.r⟩
theorem qs_if {c : Expr} {a b : List Stmt} {tc : TT} {t u : TS} (hc : QT X c tc) (ha : QSs X a t) (hb : QSs X b u) : QS X (.If c a b pos) (tIfS tc t u) := ⟨ps_if hc.r ha.r hb.r⟩
theorem qg_name {i : Nat} {x : Str} {pos : Pos} (hN : X.N.Nodup) (hi : X.N[i]? = some x) (hx : Loc X.env.scope x) (hf : X.fn x = true ∨ X.env.scope.names.lookup x = some .local := by first | exact .inl rfl | exact .inr rfl | assumption) : QG X (.Name x pos) (gName i) := ⟨pg_name hN hi hx hf⟩
theorem qg_sub {o i : Expr} {to ti : TE} {pos : Pos} (ho : QE X o to) (hi : QE X i ti)
    (ha : ∀ v, assign (.Subscript o i pos) X.env v = (do
      let ov ← holding [v] (eval o X.env)
      let iv ← holding [v, ov] (eval i X.env)
      standAt pos
      holding [v, ov, iv] (setItem ov iv v)
      release [v, ov, iv] []) := by intro _; rfl) : QG X (.Subscript o i pos) (gSub to ti rSetL) := ⟨pg_sub ho.r hi.r set_list ha⟩
theorem qs_asg {tg e : Expr} {te : TE} {g : TG} {pos : Pos} (he : QE X e te) (hg : QG X tg g) (hs : swapsWithSole [tg] e pos.line X.env = pure false := by rfl) (hw : swappedStores [tg] e X.env = pure none := by rfl)
    (h1 : (assignEach [tg] X.env).map (·.2) = [assign tg X.env] := by rfl) : QS X (.Assign [tg] e pos) (tAsg te g) := ⟨ps_asg he.r hg.r hs hw h1⟩
theorem qs_set {i : Nat} {x : Str} {e : Expr} {te : TE} {pos pos' : Pos} (hN : X.N.Nodup) (hi : X.N[i]? = some x) (hx : Loc X.env.scope x) (he : QE X e te) (hs : swapsWith e (some (.Name x pos')) pos.line X.env = pure false := by rfl) (hf : X.fn x = true ∨ X.env.scope.names.lookup x = some .local := by first | exact .inl rfl | exact .inr rfl | assumption) :
    QS X (.Assign [.Name x pos'] e pos) (tAsg te (gName i)) := ⟨ps_set hN hi hx he.r hs hf⟩
theorem qs_dput {o i value : Expr} {td ty tv : TE} {pos pos' : Pos} (hu : X.A.units + 1 < cLine) (ho : QE X o td) (hi : QE X i ty) (hv : QE X value tv) (hs : swapsWith value (some (.Subscript o i pos')) pos.line X.env = pure false) : QS X (.Assign [.Subscript o i pos'] value pos) (sDPut td ty tv) := ⟨ps_dput hu ho.r hi.r hv.r hs⟩
theorem qs_for {tg iter : Expr} {body : List Stmt} {wi : TI} {g : TG} {tb : TS} {pos : Pos} (hp : PassesOwn (model X.prog X.w) X.A X.env X.xe) (hc : X.calm = true) (hi : QI X tg iter wi) (hg : QG X tg g) (hb : QSs X body tb)
    (hs : ∀ x, foldedSetIterable iter X.env x = pure x := by intro _; rfl) : QS X (.For tg iter body [] pos) (tFor wi g tb) := ⟨ps_for hp hc hi.r hg.r hb.r hs⟩
theorem qs_while {c : Expr} {body : List Stmt} {tc : TT} {tb : TS} {pos : Pos} (hp : PassesOwn (model X.prog X.w) X.A X.env X.xe) (hc : QT X c tc) (hb : QSs X body tb) : QS X (.While c body [] pos) (tWhile tc tb) := ⟨ps_while hp hc.r hb.r⟩
theorem qi_list {K : PySem.W.Frag} {tg l : Expr} {tl : TE} (hK : X.K = K) (hl : QE X l tl) : QI X tg l (iList K tl) := ⟨hK ▸ pi_list hl.r⟩
theorem qi_tup {K : PySem.W.Frag} {tg l : Expr} {tl : TE} (hK : X.K = K) (hl : QE X l tl) : QI X tg l (iTup K tl) := ⟨hK ▸ pi_tup hl.r⟩
theorem qi_range1 {tg a : Expr} {ta : TA} {p pos : Pos} (hg : Gl X "range") (hm : X.mg "range" = none) (ha : QA X [a] ta) (hs : starEach [a] X.env = [(false, eval a X.env)] := by rfl) : QI X tg (.Call (.Name "range" p) [a] [] pos) (iRng1 ta) := ⟨pi_range1 hg hm ha.r hs⟩
theorem qo_add : QOp X (binaryOp .Add) (rI0 fun i j => .int (i + j)) := ⟨op_add⟩
theorem qo_sub : QOp X (binaryOp .Sub) (rI0 fun i j => .int (i - j)) := ⟨op_sub⟩
theorem qo_mul : QOp X (binaryOp .Mult) (rI CMul fun i j => .int (i * j)) := ⟨op_mul⟩
theorem qo_fdiv : QOp X (binaryOp .FloorDiv) (rI CDiv fun i j => .int (i / j)) := ⟨op_fdiv⟩
theorem qo_mod : QOp X (binaryOp .Mod) (rI (fun _ j => 0 < j) fun i j => .int (i % j)) := ⟨op_mod⟩
theorem qo_pow : QOp X (binaryOp .Pow) (rI CPow fun i j => .int (i ^ j.toNat)) := ⟨op_pow⟩
theorem qo_cat : QOp X (binaryOp .Add) rCat := ⟨op_cat⟩
theorem qo_lt : QOp X (compareOp .Lt) (rI0 fun i j => .bl (decide (i < j))) := ⟨op_lt⟩
theorem qo_le : QOp X (compareOp .LtE) (rI0 fun i j => .bl (decide (i ≤ j))) := ⟨op_le⟩
theorem qo_gt : QOp X (compareOp .Gt) (rI0 fun i j => .bl (decide (j < i))) := ⟨op_gt⟩
theorem qo_eq : QOp X (compareOp .Eq) rEq := ⟨op_eq⟩
theorem qo_ne : QOp X (compareOp .NotEq) rNe := ⟨op_ne⟩
def rIsN (neg : Bool) : R2 := fun x y H Q => y = .non ∧ Q (.bl (if neg then !decide (x = .non) else decide (x = .non))) H
theorem qo_isN : QOp X (compareOp .Is) (rIsN false) := ⟨op_isN⟩
theorem qo_notN : QOp X (compareOp .IsNot) (rIsN true) := ⟨op_notN⟩
theorem qo_neT {K : PySem.W.Frag} (h : X.K = K) (hu : X.A.units + 64 < cLine) : QOp X (compareOp .NotEq) (rEqT K true) := ⟨op_neTK h hu⟩
theorem qx_list {K : PySem.W.Frag} (h : X.K = K) : QIx X (rIxL K) := ⟨ix_listK h⟩
theorem qx_tup {K : PySem.W.Frag} (h : X.K = K) : QIx X (rIxT K) := ⟨ix_tupK h⟩
theorem qx_str : QIx X rIxS := ⟨ix_str⟩
theorem qx_top {K : PySem.W.Frag} {w : World} (h : X.K = K) (hw : X.w = w) : QIx X (rIxTop K w) := ⟨by subst h hw; exact ix_top⟩
def rLen (K : PySem.W.Frag) : List V → Hp → VK → Prop := fun xs H Q => ∃ p ys, xs = [.ref p] ∧ (SqL K H p ys ∨ SqT K H p ys) ∧ Q (.int ys.length) H
theorem qc_len {K : PySem.W.Frag} (h : X.K = K) : QCl X (.builtin "len") (rLen K) := ⟨h ▸ call_len_seq⟩
theorem qc_sortT {K : PySem.W.Frag} (h : X.K = K) : QCl X (.builtin "sorted") (rSortT K) := ⟨h ▸ call_sortT⟩
def rListOf (K : PySem.W.Frag) : List V → Hp → VK → Prop := fun xs H Q => ∃ p ys, xs = [.ref p] ∧ (SqL K H p ys ∨ SqT K H p ys) ∧ ∀ l, H l = none → Q (.ref l) (upd H l (.lst ys))
theorem qc_list {K : PySem.W.Frag} (h : X.K = K) : QCl X (.type "list") (rListOf K) := ⟨h ▸ call_list_of⟩
def rTupOf (K : PySem.W.Frag) : List V → Hp → VK → Prop := fun xs H Q => ∃ p ys, xs = [.ref p] ∧ ((SqL K H p ys ∧ ∀ l, H l = none → Q (.ref l) (upd H l (.tup ys))) ∨ (SqT K H p ys ∧ Q (.ref p) H))
theorem qc_tuple {K : PySem.W.Frag} (h : X.K = K) : QCl X (.type "tuple") (rTupOf K) := ⟨h ▸ call_tuple_of⟩
def rAbs : List V → Hp → VK → Prop := fun xs H Q => ∃ i, xs = [.int i] ∧ Q (.int (if i < 0 then -i else i)) H
theorem qc_abs : QCl X (.builtin "abs") rAbs := ⟨call_abs⟩
def rMax2 : List V → Hp → VK → Prop := fun xs H Q => ∃ i j, xs = [.int i, .int j] ∧ Q (.int (if j > i then j else i)) H
theorem qc_max2 (hc : X.calm = true) : QCl X (.builtin "max") rMax2 := ⟨call_max2 hc⟩
end
section
variable {σ : St} {H : Hp} {Q : VK} {D : Ends} {K : PySem.W.Frag}
theorem rd_lenL {p : Addr} {ys : List V} (h : SqL K H p ys) (q : Q (.int ys.length) H) : rLen K [.ref p] H Q := ⟨p, ys, rfl, .inl h, q⟩
theorem rd_listT {p : Addr} {ys : List V} (h : SqT K H p ys) (q : ∀ l, H l = none → Q (.ref l) (upd H l (.lst ys))) : rListOf K [.ref p] H Q := ⟨p, ys, rfl, .inr h, q⟩
theorem rd_tupL {p : Addr} {ys : List V} (h : SqL K H p ys) (q : ∀ l, H l = none → Q (.ref l) (upd H l (.tup ys))) : rTupOf K [.ref p] H Q := ⟨p, ys, rfl, .inl ⟨h, q⟩⟩
theorem rd_abs {i : Int} (h : Q (.int (if i < 0 then -i else i)) H) : rAbs [.int i] H Q := ⟨i, rfl, h⟩
theorem rd_max2 {i j : Int} (h : Q (.int (if j > i then j else i)) H) : rMax2 [.int i, .int j] H Q := ⟨i, j, rfl, h⟩
theorem rd_neT {a b : Addr} {ns ms : List Int} (h1 : SqT K H a (ns.map V.int)) (h2 : SqT K H b (ms.map V.int)) (q : Q (.bl (!decide (ns = ms))) H) : rEqT K true (.ref a) (.ref b) H Q := ⟨a, b, ns, ms, rfl, rfl, h1, h2, q⟩
theorem rd_catL {a b : Addr} {xs ys : List V} (h1 : H a = some (.lst xs)) (h2 : H b = some (.lst ys)) (z : xs.length + ys.length ≤ sizeLine) (q : ∀ p, H p = none → Q (.ref p) (upd H p (.lst (xs ++ ys)))) : rCat (.ref a) (.ref b) H Q := ⟨a, b, xs, ys, rfl, rfl, h1, h2, z, q⟩
abbrev ForGo (J : It) (g : TG) (tb : TS) (D : Ends) (σ : St) (H : Hp) : Prop := ∃ W : Nat → Nat → St → Hp → Prop, (∃ m, W 0 m σ H) ∧ ∀ i m σ H, W i m σ H →
      (J.stop i H ∧ D.nx σ H) ∨ (J.go i H ∧ ∃ N : St → Hp → Prop, (∀ σ' H', N σ' H' → ∃ m', m' < m ∧ W (i + 1) m' σ' H') ∧ ∀ x H', J.yld i H x H' → g x σ H' fun σ2 H2 => tb { D with nx := N, ct := N, bk := D.nx } σ2 H2)
theorem rd_for {wi : TI} {g : TG} {tb : TS} (h : wi σ H fun J H1 => ForGo J g tb D σ H1) : tFor wi g tb D σ H := h
theorem rd_comp {n : Nat} {caps : List Nat} {wi : TI} {g : TG} {tc : TT} {te : TE} (h : wi σ H fun J H1 => ∀ acc, H1 acc = none → CompGo acc Q g tc te J (blockSt n caps σ) (upd H1 acc (.lst []))) : tComp n caps wi g tc te σ H Q := h
theorem rd_ilist {tl : TE} {R : It → Hp → Prop} (h : tl σ H fun x H1 => ∃ a, x = .ref a ∧ (∃ xs, SqL K H1 a xs) ∧ R (Itl K a) H1) : iList K tl σ H R := h
theorem rd_il {p : Addr} {xs : List V} {R : Addr → Prop} (h : SqL K H p xs) (q : R p) : ∃ a, V.ref p = .ref a ∧ (∃ xs, SqL K H a xs) ∧ R a := ⟨p, rfl, ⟨xs, h⟩, q⟩
theorem rd_irng1 {ta : TA} {R : It → Hp → Prop} (h : ta σ H fun vs H1 => ∃ j : Int, vs = [.int j] ∧ -(2 ^ 62) ≤ j ∧ j < 2 ^ 62 ∧ R (Itr 0 j.toNat) H1) : iRng1 ta σ H R := h
theorem rd_ir1 {j : Int} {R : Int → Prop} (h1 : -(2 ^ 62) ≤ j) (h2 : j < 2 ^ 62) (q : R j) : ∃ k : Int, [V.int j] = [.int k] ∧ -(2 ^ 62) ≤ k ∧ k < 2 ^ 62 ∧ R k := ⟨j, rfl, h1, h2, q⟩
end
section
variable {σ : St} {H : Hp} {Q : VK} {D : Ends} {K : PySem.W.Frag}
theorem rd_ixLn {n : Nat} {p : Addr} {xs : List V} {v : V} (h : SqL K H p xs) (e : atI xs (@OfNat.ofNat Int n instOfNat) = some v) (q : Q v H) : rIxL K (.ref p) (.int (@OfNat.ofNat Int n instOfNat)) H Q := rd_ixL h e q
theorem rd_ixTn {n : Nat} {p : Addr} {xs : List V} {v : V} (h : SqT K H p xs) (e : atI xs (@OfNat.ofNat Int n instOfNat) = some v) (q : Q v H) : rIxT K (.ref p) (.int (@OfNat.ofNat Int n instOfNat)) H Q := rd_ixT h e q
theorem rd_dget {td ty : TE} (h : td σ H fun x H1 => ty σ H1 fun y H2 => ∃ a v, x = .ref a ∧ DGet H2 a y (some v) ∧ Q v H2) : tDGet td ty σ H Q := h
theorem rd_disp {trs : List (TE × TE)} (h : ∀ p, H p = none → tPairs trs σ (upd H p (.dK [])) fun ps H2 => H2 p = some (.dK []) ∧ ∃ kvs : List (Key × V), ps = kvs.map (fun kv => (kV kv.1, kv.2)) ∧ kvs.length ≤ 15 ∧ Q (.ref p) (upd H2 p (.dK (mergeK [] kvs)))) : tDisp trs σ H Q := h
theorem rd_pnil {R : List (V × V) → Hp → Prop} (h : R [] H) : tPairs [] σ H R := h
theorem rd_pcons {tk tv : TE} {trs : List (TE × TE)} {R : List (V × V) → Hp → Prop} (h : tk σ H fun k H1 => tv σ H1 fun v H2 => tPairs trs σ H2 fun r H3 => R ((k, v) :: r) H3) : tPairs ((tk, tv) :: trs) σ H R := h
end
theorem Fun.okQ {P : Program} {w : World} {K : PySem.W.Frag} {mg : Str → Option Value} {base : Heap} {x qual : Str} {st : Stmt} {f : Addr} {fd : FuncData} {N ps : List Str} {k : Nat} {sp : Sp} (F : Fun K x qual st f fd) (S : FnScope N ps (defScope st)) (len : ∀ vs H Q E, sp vs H Q E → vs.length = ps.length)
    (hbody : ∀ (cdv : Value) (A : Around) (outer : List Env) (s : Shared) (H : Hp) (vs : List V) (Q : VK) (E : XK), Room k (A.deeper (envOfC qual (defScope st) s.heap.objs.size f cdv)) → sp vs H Q E →
      ∃ t, QSs (cxOf CX0 P w K mg base N qual (defScope st) f cdv A outer s H E).nox (defBody st) t ∧ t { nx := fun _ H' => Q .non H', rt := Q } (start N vs) H) : FnOk P w K mg base CX0 (k + 1) f fd ps sp :=
  F.ok S len fun cdv A outer s H vs Q E hr h => let ⟨t, a, b⟩ := hbody cdv A outer s H vs Q E hr h; ⟨t, a.r, b⟩
end L2
set_option Elab.async false
set_option linter.all false
set_option maxRecDepth 100000
set_option maxHeartbeats 4000000
namespace Pc
open PySem L2 Srt
def spAlong (K : PySem.W.Frag) : Sp := fun vs H Q _ => ∃ (a : Addr) (ax : Ax) (c : C3), vs = [.ref a, .str ax.s] ∧ SqT K H a c.v ∧ Q (.int (ax.at c)) H
def spPlaced (K : PySem.W.Frag) : Sp := fun vs H Q _ => ∃ (a : Addr) (ax : Ax) (c : C3) (v : Int), vs = [.ref a, .str ax.s, .int v] ∧ SqT K H a c.v ∧ ∀ p H', Same H H' → H' p = some (.tup (ax.put v c).v) → Q (.ref p) H'
def spNext (K : PySem.W.Frag) : Sp := fun vs H Q _ => ∃ (a : Addr) (w : Wy) (c : C3), vs = [.ref a, .str w.s] ∧ SqT K H a c.v ∧ ∀ p H', Same H H' → H' p = some (.tup (w.next c).v) → Q (.ref p) H'
def Made (H : Hp) (p : Addr) (ps : Prs) : Prop := H p = some (.lst (refs ps)) ∧ ∀ q ∈ ps, H q.1 = some (.tup (q.2.map V.int))
theorem Made.tps {K : PySem.W.Frag} {H : Hp} {p : Addr} {ps : Prs} (m : Made H p ps) : Tps K H ps := fun q hq => SqT.of (m.2 q hq)
def spNb (K : PySem.W.Frag) : Sp := fun vs H Q _ => ∃ (a : Addr) (c : C3), vs = [.ref a] ∧ SqT K H a c.v ∧ ∀ p ps H', Same H H' → Made H' p ps → H p = none → ps.map (·.2) = nbs c → Q (.ref p) H'
def spCellAt (K : PySem.W.Frag) : Sp := fun vs H Q _ => ∃ (a : Addr) (ns : List Int) (k : Int), vs = [.ref a, .int k] ∧ SqL K H a (ns.map V.int) ∧ 0 ≤ k ∧ ∀ n : Int, Q (.int n) H
end Pc
set_option Elab.async false
set_option linter.all false
set_option maxRecDepth 100000
set_option maxHeartbeats 4000000
namespace Tim
open PySem PyProof.Rows
def gallop' : Bool → Keyed → Array Keyed → Nat → Nat → Nat → StateT SortSt Sem (Option Nat) := sortPriv% PySem.Builtin.gallop
def beyond' (left : Bool) (key : Keyed) (arr : Array Keyed) (base i : Nat) : StateT SortSt Sem (Option Bool) := do
  let x ← elem' arr (base + i)
  if left then lt' x key else return (← lt' key x).map (!·)
theorem gallop'_eq (left : Bool) (key : Keyed) (arr : Array Keyed) (base n hint : Nat) : gallop' left key arr base n hint = (do
  let mut lastofs := 0
  let mut ofs := 1
  let mut lo := 0
  let mut hi := 0
  let some right ← beyond' left key arr base hint | return none
  if right then
    let maxofs := n - hint
    for _ in [0:n] do
      if ofs ≥ maxofs then break
      let some more ← beyond' left key arr base (hint + ofs) | return none
      if !more then break
      lastofs := ofs
      ofs := 2 * ofs + 1
    lo := hint + lastofs + 1
    hi := hint + min ofs maxofs
  else
    let maxofs := hint + 1
    for _ in [0:n] do
      if ofs ≥ maxofs then break
      let some found ← beyond' left key arr base (hint - ofs) | return none
      if found then break
      lastofs := ofs
      ofs := 2 * ofs + 1
    lo := hint + 1 - min ofs maxofs
    hi := hint - lastofs
  for _ in [0:n] do
    if lo ≥ hi then break
    let m := lo + (hi - lo) / 2
    let some more ← beyond' left key arr base m | return none
    if more then lo := m + 1 else hi := m
  return some hi) := rfl
section
variable {prog : Program} {w : World} {A : Around} {E : Value → Shared → Prop} {s : Shared}
def gal3 (left : Bool) (key : Keyed) (arr : Array Keyed) (base n lo hi : Nat) : StateT SortSt Sem (Option Nat) := do
  let mut lo := lo
  let mut hi := hi
  for _ in [0:n] do
    if lo ≥ hi then break
    let m := lo + (hi - lo) / 2
    let some more ← beyond' left key arr base m | return none
    if more then lo := m + 1 else hi := m
  return some hi
theorem wpS_gal3 {left : Bool} {key : Keyed} {arr : Array Keyed} {base n lo hi p : Nat} {st : SortSt} {Q : Option Nat → SortSt → Prop} (hp : p ≤ n) (hb : ∀ i, i < n → ∀ {R : Option Bool → SortSt → Prop}, R (some (decide (i < p))) st → wpS (model prog w) A E s (beyond' left key arr base i) R st)
    (h1 : lo ≤ p) (h2 : p ≤ hi) (h3 : hi ≤ n) (h : Q (some p) st) : wpS (model prog w) A E s (gal3 left key arr base n lo hi) Q st := by
  unfold gal3
  refine wpS_bind (wpS_mono (wpS_forRange (I := fun t c st' => st' = st ∧ ∃ lo hi, c = (none, lo, hi) ∧ lo ≤ p ∧ p ≤ hi ∧ hi ≤ n ∧ hi - lo ≤ n - t)
    (Q := fun c st' => st' = st ∧ ∃ lo, c = (none, lo, p)) ?step ?fin ?init) ?post)
  case init => exact ⟨rfl, lo, hi, rfl, h1, h2, h3, by omega⟩
  case fin =>
    rintro c st' ⟨rfl, lo, hi, rfl, a, b, c', d⟩
    have e1 : hi = p := by omega
    exact ⟨rfl, lo, by rw [e1]⟩
  case post =>
    rintro c st' ⟨rfl, lo, rfl⟩
    exact wpS_pure h
  case step =>
    rintro t c st' _ ht ⟨rfl, lo, hi, rfl, a, b, c', d⟩
    dsimp only
    by_cases hge : lo ≥ hi
    · rw [if_pos hge]
      have e1 : hi = p := by omega
      exact wpS_pure ⟨rfl, lo, by rw [e1]⟩
    · rw [if_neg hge]
      refine wpS_bind (hb _ (by omega) ?_)
      by_cases hm : lo + (hi - lo) / 2 < p
      · rw [decide_eq_true hm]
        simp only [if_true]
        exact wpS_pure ⟨rfl, _, _, rfl, by omega, by omega, by omega, by omega⟩
      · rw [decide_eq_false hm]
        simp only [Bool.false_eq_true, if_false]
        exact wpS_pure ⟨rfl, _, _, rfl, by omega, by omega, by omega, by omega⟩
theorem wpS_gallop {left : Bool} {key : Keyed} {arr : Array Keyed} {base n hint p : Nat} {st : SortSt} {Q : Option Nat → SortSt → Prop} (hp : p ≤ n) (hh : hint < n) (hb : ∀ i, i < n → ∀ {R : Option Bool → SortSt → Prop}, R (some (decide (i < p))) st → wpS (model prog w) A E s (beyond' left key arr base i) R st)
    (h : Q (some p) st) : wpS (model prog w) A E s (gallop' left key arr base n hint) Q st := by
  rw [gallop'_eq]
  refine wpS_bind (hb hint hh ?_)
  by_cases hr : hint < p
  · rw [decide_eq_true hr]
    simp only [if_true]
    refine wpS_bind (wpS_mono (wpS_forRange (I := fun t c st' => st' = st ∧ ∃ lastofs ofs, c = (none, lastofs, ofs) ∧ hint + lastofs < p ∧ lastofs < ofs ∧ t < ofs)
      (Q := fun c st' => st' = st ∧ ∃ lastofs ofs, c = (none, lastofs, ofs) ∧ hint + lastofs < p ∧ p ≤ hint + min ofs (n - hint)) ?step ?fin ?init) ?post)
    case init => exact ⟨rfl, 0, 1, rfl, by omega, by omega, by omega⟩
    case fin =>
      rintro c st' ⟨rfl, l, o, rfl, a, b, c'⟩
      exact ⟨rfl, l, o, rfl, a, by omega⟩
    case step =>
      rintro t c st' _ ht ⟨rfl, l, o, rfl, a, b, c'⟩
      dsimp only
      by_cases hge : o ≥ n - hint
      · rw [if_pos hge]
        exact wpS_pure ⟨rfl, l, o, rfl, a, by omega⟩
      · rw [if_neg hge]
        refine wpS_bind (hb _ (by omega) ?_)
        by_cases hm : hint + o < p
        · rw [decide_eq_true hm]
          simp only [Bool.not_true, Bool.false_eq_true, if_false]
          exact wpS_pure ⟨rfl, _, _, rfl, by omega, by omega, by omega⟩
        · rw [decide_eq_false hm]
          simp only [Bool.not_false, if_true]
          exact wpS_pure ⟨rfl, l, o, rfl, a, by omega⟩
    case post =>
      rintro c st' ⟨rfl, l, o, rfl, a, b⟩
      dsimp only
      exact wpS_gal3 hp hb (by omega) b (by omega) h
  · rw [decide_eq_false hr]
    simp only [Bool.false_eq_true, if_false]
    refine wpS_bind (wpS_mono (wpS_forRange (I := fun t c st' => st' = st ∧ ∃ lastofs ofs, c = (none, lastofs, ofs) ∧ p ≤ hint - lastofs ∧ lastofs < ofs ∧ t < ofs ∧ lastofs ≤ hint)
      (Q := fun c st' => st' = st ∧ ∃ lastofs ofs, c = (none, lastofs, ofs) ∧ p ≤ hint - lastofs ∧ hint + 1 - min ofs (hint + 1) ≤ p) ?step ?fin ?init) ?post)
    case init => exact ⟨rfl, 0, 1, rfl, by omega, by omega, by omega, by omega⟩
    case fin =>
      rintro c st' ⟨rfl, l, o, rfl, a, b, c', d⟩
      exact ⟨rfl, l, o, rfl, a, by omega⟩
    case step =>
      rintro t c st' _ ht ⟨rfl, l, o, rfl, a, b, c', d⟩
      dsimp only
      by_cases hge : o ≥ hint + 1
      · rw [if_pos hge]
        exact wpS_pure ⟨rfl, l, o, rfl, a, by omega⟩
      · rw [if_neg hge]
        refine wpS_bind (hb _ (by omega) ?_)
        by_cases hm : hint - o < p
        · rw [decide_eq_true hm]
          simp only [if_true]
          exact wpS_pure ⟨rfl, l, o, rfl, a, by omega⟩
        · rw [decide_eq_false hm]
          simp only [Bool.false_eq_true, if_false]
          exact wpS_pure ⟨rfl, _, _, rfl, by omega, by omega, by omega, by omega⟩
    case post =>
      rintro c st' ⟨rfl, l, o, rfl, a, b⟩
      dsimp only
      exact wpS_gal3 hp hb b (by omega) (by omega) h
end
end Tim
set_option Elab.async false
set_option linter.all false
set_option maxRecDepth 100000
set_option maxHeartbeats 4000000
namespace Tim
open PySem PyProof.Rows
section lists
variable {α : Type} {R : α → α → Prop}
structure MI (R : α → α → Prop) (A B O : List α) (i j : Nat) : Prop where
  perm : O.Perm (A.take i ++ B.take j)
  srt : O.Pairwise R
  la : ∀ x ∈ O, ∀ y ∈ A.drop i, R x y
  lb : ∀ x ∈ O, ∀ y ∈ B.drop j, R x y
theorem MI.swap {A B O : List α} {i j : Nat} (m : MI R A B O i j) : MI R B A O j i := ⟨m.perm.trans List.perm_append_comm, m.srt, m.lb, m.la⟩
theorem pw_drop {A : List α} (h : A.Pairwise R) (i k : Nat) : ∀ x ∈ (A.drop i).take k, ∀ y ∈ A.drop (i + k), R x y := by
  have h1 : (A.drop i).Pairwise R := h.sublist (List.drop_sublist _ _)
  rw [← List.take_append_drop k (A.drop i)] at h1
  have := (List.pairwise_append.mp h1).2.2
  intro x hx y hy
  exact this x hx y (by rw [List.drop_drop]; exact hy)
theorem MI.addA {A B O : List α} {i j : Nat} (m : MI R A B O i j) (hA : A.Pairwise R) (k : Nat) (h : ∀ x ∈ (A.drop i).take k, ∀ y ∈ B.drop j, R x y) : MI R A B (O ++ (A.drop i).take k) (i + k) j where
  perm := by
    have e : A.take (i + k) = A.take i ++ (A.drop i).take k := by rw [List.take_add]
    rw [e]
    refine (m.perm.append_right _).trans ?_
    rw [List.append_assoc, List.append_assoc]
    exact List.Perm.append_left _ List.perm_append_comm
  srt := List.pairwise_append.mpr ⟨m.srt, (hA.sublist (List.drop_sublist _ _)).sublist (List.take_sublist _ _), fun x hx y hy => m.la x hx y (List.mem_of_mem_take hy)⟩
  la := fun x hx y hy => by
    rcases List.mem_append.mp hx with hx | hx
    · refine m.la x hx y ?_
      rw [← List.drop_drop] at hy
      exact List.mem_of_mem_drop hy
    · exact pw_drop hA i k x hx y hy
  lb := fun x hx y hy => by
    rcases List.mem_append.mp hx with hx | hx
    · exact m.lb x hx y hy
    · exact h x hx y hy
theorem MI.addB {A B O : List α} {i j : Nat} (m : MI R A B O i j) (hB : B.Pairwise R) (k : Nat) (h : ∀ x ∈ (B.drop j).take k, ∀ y ∈ A.drop i, R x y) : MI R A B (O ++ (B.drop j).take k) i (j + k) := (m.swap.addA hB k h).swap
theorem MI.fin {A B O : List α} {i j : Nat} (m : MI R A B O i j) (hA : A.Pairwise R) (hB : B.Pairwise R) (h : ∀ x ∈ A.drop i, ∀ y ∈ B.drop j, R x y) : (O ++ A.drop i ++ B.drop j).Perm (A ++ B) ∧ (O ++ A.drop i ++ B.drop j).Pairwise R := by
  have m2 := m.addA hA (A.length - i) (fun x hx => h x (List.mem_of_mem_take hx))
  have e : (A.drop i).take (A.length - i) = A.drop i := List.take_of_length_le (by rw [List.length_drop]; exact Nat.le_refl _)
  rw [e] at m2
  have d : A.drop (i + (A.length - i)) = [] := List.drop_of_length_le (by omega)
  have m3 := m2.addB hB (B.length - j) (fun x hx y hy => by rw [d] at hy; cases hy)
  have e2 : (B.drop j).take (B.length - j) = B.drop j := List.take_of_length_le (by rw [List.length_drop]; exact Nat.le_refl _)
  rw [e2] at m3
  refine ⟨?_, m3.srt⟩
  have := m3.perm
  rwa [List.take_of_length_le (show A.length ≤ i + (A.length - i) by omega), List.take_of_length_le (show B.length ≤ j + (B.length - j) by omega)] at this
theorem take_one {A : List α} {i : Nat} {x : α} (h : A[i]? = some x) : (A.drop i).take 1 = [x] := by
  obtain ⟨hi, e⟩ := List.getElem?_eq_some_iff.mp h
  rw [List.drop_eq_getElem_cons hi, e]
  rfl
theorem drop_cons {A : List α} {i : Nat} {x : α} (h : A[i]? = some x) : A.drop i = x :: A.drop (i + 1) := by
  obtain ⟨hi, e⟩ := List.getElem?_eq_some_iff.mp h
  rw [List.drop_eq_getElem_cons hi, e]
theorem pw_head {A : List α} (h : A.Pairwise R) {i : Nat} {x : α} (e : A[i]? = some x) : ∀ y ∈ A.drop (i + 1), R x y := by
  have h1 : (A.drop i).Pairwise R := h.sublist (List.drop_sublist _ _)
  rw [drop_cons e] at h1
  exact (List.pairwise_cons.mp h1).1
theorem turn_at : ∀ (n : Nat) (f : Nat → Bool), (∀ i j, i ≤ j → j < n → f j = true → f i = true) → ∃ p, p ≤ n ∧ ∀ i, i < n → f i = decide (i < p)
  | 0, f, _ => ⟨0, Nat.le_refl _, fun i hi => absurd hi (Nat.not_lt_zero _)⟩
  | n + 1, f, h => by
    obtain ⟨p, hp, e⟩ := turn_at n f fun i j a b => h i j a (by omega)
    cases hf : f n with
    | true =>
      refine ⟨n + 1, Nat.le_refl _, fun i hi => ?_⟩
      rw [h i n (by omega) (by omega) hf, decide_eq_true hi]
    | false =>
      refine ⟨p, by omega, fun i hi => ?_⟩
      rcases Nat.lt_or_ge i n with z | z
      · exact e i z
      · obtain rfl : i = n := by omega
        rw [hf, decide_eq_false (by omega)]
end lists
theorem ext_list (a : Array Keyed) (i j : Nat) : (a.extract i j).toList = (a.toList.drop i).take (j - i) := by
  rw [Array.toList_extract, List.extract_eq_take_drop]
theorem ext_rest (a : Array Keyed) (i : Nat) : (a.extract i a.size).toList = a.toList.drop i := by
  rw [ext_list, List.take_of_length_le (by rw [List.length_drop, Array.length_toList]; exact Nat.le_refl _)]
structure Cmp {κ : Type} (lt : κ → κ → Bool) (k : Keyed → κ) (S : Keyed → Prop) (kind : SortKind) (prog : Program) (w : World) (A : Around) (s : Shared) : Prop where
  ord : Srt.Ordr lt
  ask : ∀ x y : Keyed, S x → S y → ∀ {Q : Bool → Shared → Prop} {E : Value → Shared → Prop}, Q (lt (k x) (k y)) s → wpAny (model prog w) A (keyLt' kind x.1 y.1) Q E s
section
variable {κ : Type} {lt : κ → κ → Bool} {k : Keyed → κ} {S : Keyed → Prop} {kind : SortKind} {prog : Program} {w : World} {A : Around} {E : Value → Shared → Prop} {s : Shared}
def Le (lt : κ → κ → Bool) (k : Keyed → κ) (x y : Keyed) : Prop := lt (k y) (k x) = false
structure Fine (kind : SortKind) (st : SortSt) : Prop where
  kd : kindOf st = kind
  fl : failedOf st = none
theorem le_trans (C : Cmp lt k S kind prog w A s) {x y z : Keyed} (h1 : Le lt k x y) (h2 : Le lt k y z) : Le lt k x z := C.ord.tr _ _ _ h1 h2
theorem le_of_lt (C : Cmp lt k S kind prog w A s) {x y : Keyed} (h : lt (k x) (k y) = true) : Le lt k x y := C.ord.as _ _ h
theorem wpS_lt {x y : Keyed} {st : SortSt} {Q : Option Bool → SortSt → Prop} (C : Cmp lt k S kind prog w A s) (F : Fine kind st) (hx : S x) (hy : S y) (h : Q (some (lt (k x) (k y))) st) : wpS (model prog w) A E s (lt' x y) Q st := by
  rw [lt'_eq]
  refine wpS_bind (wpS_get ?_)
  rw [F.kd]
  refine wpS_bind (wpS_lift (wpAny_attempt (C.ask x y hx hy ⟨rfl, ?_⟩)))
  exact wpS_pure h
theorem wpS_elem {arr : Array Keyed} {i : Nat} {x : Keyed} {st : SortSt} {Q : Keyed → SortSt → Prop} (h : arr.toList[i]? = some x) (q : Q x st) : wpS (model prog w) A E s (elem' arr i) Q st := by
  rw [elem'_eq]
  rw [Array.getElem?_toList] at h
  rw [h]
  exact wpS_pure q
theorem wpS_gal {left : Bool} {key : Keyed} {arr : Array Keyed} {base n hint : Nat} {st : SortSt} {Q : Option Nat → SortSt → Prop} (C : Cmp lt k S kind prog w A s) (F : Fine kind st) (hk : S key) (hS : ∀ x ∈ arr.toList, S x) (hn : base + n ≤ arr.size) (hh : hint < n)
    (hs : ((arr.toList.drop base).take n).Pairwise (Le lt k))
    (h : ∀ p, p ≤ n → (∀ x ∈ ((arr.toList.drop base).take n).take p, if left = true then lt (k x) (k key) = true else Le lt k x key) → (∀ x ∈ ((arr.toList.drop base).take n).drop p, if left = true then Le lt k key x else lt (k key) (k x) = true) → Q (some p) st) :
    wpS (model prog w) A E s (gallop' left key arr base n hint) Q st := by
  have hlen : ((arr.toList.drop base).take n).length = n := by rw [List.length_take, List.length_drop, Array.length_toList]; omega
  generalize hZ : (arr.toList.drop base).take n = Z at hs h hlen
  have at_ : ∀ i, i < n → arr.toList[base + i]? = Z[i]? := fun i hi => by
    rw [← hZ, List.getElem?_take_of_lt hi, List.getElem?_drop]
  let f : Nat → Bool := fun i => match Z[i]? with
    | some x => if left then lt (k x) (k key) else !lt (k key) (k x)
    | none => false
  have fval : ∀ i x, Z[i]? = some x → f i = if left then lt (k x) (k key) else !lt (k key) (k x) := fun i x e => by
    show (match Z[i]? with | some x => if left then lt (k x) (k key) else !lt (k key) (k x) | none => false) = _
    rw [e]
  have mono : ∀ i j, i ≤ j → j < n → f j = true → f i = true := fun i j hij hj hf => by
    have ei : Z[i]? = some Z[i] := List.getElem?_eq_getElem (by omega)
    have ej : Z[j]? = some Z[j] := List.getElem?_eq_getElem (by omega)
    rw [fval j _ ej] at hf
    rw [fval i _ ei]
    rcases Nat.lt_or_ge i j with z | z
    · have hle : Le lt k Z[i] Z[j] := (List.pairwise_iff_getElem.mp hs) i j (by omega) (by omega) z
      cases left with
      | true =>
        simp only [if_true] at hf ⊢
        cases e : lt (k Z[i]) (k key) with
        | true => rfl
        | false =>
          have := C.ord.tr _ _ _ e hle
          rw [hf] at this
          cases this
      | false =>
        simp only [Bool.false_eq_true, if_false, Bool.not_eq_true'] at hf ⊢
        exact C.ord.tr _ _ _ hle hf
    · obtain rfl : i = j := by omega
      exact hf
  obtain ⟨p, hp, hpe⟩ := turn_at n f mono
  refine wpS_gallop hp hh (fun i hi R hR => ?_) (h p hp ?_ ?_)
  · have ei : Z[i]? = some Z[i] := List.getElem?_eq_getElem (by omega)
    have sub : ∀ x ∈ Z, x ∈ arr.toList := fun x hx => by
      rw [← hZ] at hx
      exact List.mem_of_mem_drop (List.mem_of_mem_take hx)
    have mem : Z[i] ∈ arr.toList := sub _ (List.getElem_mem _)
    rw [← hpe i hi, fval i _ ei] at hR
    unfold beyond'
    refine wpS_bind (wpS_elem ((at_ i hi).trans ei) ?_)
    cases left with
    | true =>
      simp only [if_true] at hR ⊢
      exact wpS_lt C F (hS _ mem) hk hR
    | false =>
      simp only [Bool.false_eq_true, if_false] at hR ⊢
      exact wpS_bind (wpS_lt C F hk (hS _ mem) (wpS_pure hR))
  · intro x hx
    obtain ⟨i, hi, e⟩ := List.getElem_of_mem hx
    have hip : i < p := by rw [List.length_take] at hi; omega
    rw [List.getElem_take] at e
    have ei : Z[i]? = some x := by rw [List.getElem?_eq_getElem (by omega), e]
    have := hpe i (by omega)
    rw [fval i _ ei, decide_eq_true hip] at this
    cases left with
    | true => simpa using this
    | false => simpa [Le] using this
  · intro x hx
    obtain ⟨i, hi, e⟩ := List.getElem_of_mem hx
    rw [List.length_drop] at hi
    rw [List.getElem_drop] at e
    have ei : Z[p + i]? = some x := by rw [List.getElem?_eq_getElem (by omega), e]
    have := hpe (p + i) (by omega)
    rw [fval (p + i) _ ei, decide_eq_false (by omega)] at this
    cases left with
    | true => simpa [Le] using this
    | false => simpa using this
end
def mergeLo' : Array Keyed → Array Keyed → StateT SortSt Sem (Array Keyed) := sortPriv% PySem.Builtin.mergeLo
def setMinGallop' (g : Nat) : StateT SortSt Sem Unit := modify fun s => SortSt.mk' (kindOf s) (arrOf s) (pendingOf s) g (failedOf s)
theorem mergeLo'_eq (a b : Array Keyed) : mergeLo' a b = (do
  rule "list.sort.merge-lo"
  let total := a.size + b.size
  let done (out : Array Keyed) (ia ib : Nat) := out ++ a.extract ia a.size ++ b.extract ib b.size
  let lastOfA (out : Array Keyed) (ia ib : Nat) := out ++ b.extract ib b.size ++ a.extract ia a.size
  let mut out : Array Keyed := #[← elem' b 0]
  let mut ia := 0
  let mut ib := 1
  if ib == b.size then return done out ia ib
  if ia + 1 == a.size then return lastOfA out ia ib
  let mut minGallop := gallopOf (← get)
  for _ in [0:total] do
    let mut acount := 0
    let mut bcount := 0
    for _ in [0:total] do
      let some bWins ← lt' (← elem' b ib) (← elem' a ia) | return done out ia ib
      if bWins then
        out := out.push (← elem' b ib); ib := ib + 1; bcount := bcount + 1; acount := 0
        if ib == b.size then return done out ia ib
        if bcount ≥ minGallop then break
      else
        out := out.push (← elem' a ia); ia := ia + 1; acount := acount + 1; bcount := 0
        if ia + 1 == a.size then return lastOfA out ia ib
        if acount ≥ minGallop then break
    rule "list.sort.gallop"
    minGallop := minGallop + 1
    for _ in [0:total] do
      if minGallop > 1 then minGallop := minGallop - 1
      setMinGallop' minGallop
      let some k ← gallop' false (← elem' b ib) a ia (a.size - ia) 0 | return done out ia ib
      acount := k
      if k > 0 then
        out := out ++ a.extract ia (ia + k); ia := ia + k
        if ia + 1 == a.size then return lastOfA out ia ib
        if ia == a.size then return done out ia ib
      out := out.push (← elem' b ib); ib := ib + 1
      if ib == b.size then return done out ia ib
      let some k ← gallop' true (← elem' a ia) b ib (b.size - ib) 0 | return done out ia ib
      bcount := k
      if k > 0 then
        out := out ++ b.extract ib (ib + k); ib := ib + k
        if ib == b.size then return done out ia ib
      out := out.push (← elem' a ia); ia := ia + 1
      if ia + 1 == a.size then return lastOfA out ia ib
      if acount < 7 && bcount < 7 then break
    minGallop := minGallop + 1
    setMinGallop' minGallop
  unsupported "internal:list.sort.merge-bound") := rfl
end Tim
set_option Elab.async false
set_option linter.all false
set_option maxRecDepth 100000
set_option maxHeartbeats 4000000
namespace Tim
open PySem PyProof.Rows
section
variable {κ : Type} {lt : κ → κ → Bool} {k : Keyed → κ} {S : Keyed → Prop} {kind : SortKind} {prog : Program} {w : World} {A : Around} {E : Value → Shared → Prop} {s : Shared}
structure St0 (kind : SortKind) (st st' : SortSt) : Prop where
  ar : arrOf st' = arrOf st
  pd : pendingOf st' = pendingOf st
  fine : Fine kind st'
theorem St0.gal {st st' : SortSt} (h : St0 kind st st') (g : Nat) : St0 kind st (SortSt.mk' (kindOf st') (arrOf st') (pendingOf st') g (failedOf st')) := ⟨h.ar, h.pd, ⟨h.fine.kd, h.fine.fl⟩⟩
def Good (lt : κ → κ → Bool) (k : Keyed → κ) (a b r : Array Keyed) : Prop := r.toList.Perm (a.toList ++ b.toList) ∧ r.toList.Pairwise (Le lt k)
theorem good_done {a b out : Array Keyed} {ia ib : Nat} (m : MI (Le lt k) a.toList b.toList out.toList ia ib) (ha : a.toList.Pairwise (Le lt k)) (hb : b.toList.Pairwise (Le lt k)) (h : ia = a.size ∨ ib = b.size) : Good lt k a b (out ++ a.extract ia a.size ++ b.extract ib b.size) := by
  unfold Good
  rw [Array.toList_append, Array.toList_append, ext_rest, ext_rest]
  refine m.fin ha hb fun x hx y hy => ?_
  rcases h with h | h
  · rw [h, List.drop_of_length_le (by rw [Array.length_toList]; exact Nat.le_refl _)] at hx; cases hx
  · rw [h, List.drop_of_length_le (by rw [Array.length_toList]; exact Nat.le_refl _)] at hy; cases hy
theorem good_lastA {a b out : Array Keyed} {ia ib : Nat} (m : MI (Le lt k) a.toList b.toList out.toList ia ib) (ha : a.toList.Pairwise (Le lt k)) (hb : b.toList.Pairwise (Le lt k)) (h : ia + 1 = a.size) (hl : ∀ x ∈ b.toList, ∀ y, a.toList[a.size - 1]? = some y → Le lt k x y) :
    Good lt k a b (out ++ b.extract ib b.size ++ a.extract ia a.size) := by
  unfold Good
  rw [Array.toList_append, Array.toList_append, ext_rest, ext_rest]
  obtain ⟨p, q⟩ := m.swap.fin hb ha fun x hx y hy => by
    refine hl x (List.mem_of_mem_drop hx) y ?_
    obtain ⟨i, hi, e⟩ := List.getElem_of_mem hy
    rw [List.length_drop, Array.length_toList] at hi
    rw [List.getElem_drop] at e
    have : a.size - 1 = ia + i := by omega
    rw [this, List.getElem?_eq_getElem (by rw [Array.length_toList]; omega), e]
  exact ⟨p.trans List.perm_append_comm, q⟩
theorem wpS_ite {α : Type} {c : Prop} [Decidable c] {m1 m2 : StateT SortSt Sem α} {Q : α → SortSt → Prop} {st : SortSt} (h1 : wpS (model prog w) A E s m1 Q st) (h2 : wpS (model prog w) A E s m2 Q st) : wpS (model prog w) A E s (if c then m1 else m2) Q st := by
  by_cases h : c
  · rw [if_pos h]; exact h1
  · rw [if_neg h]; exact h2
theorem push_list (out : Array Keyed) (x : Keyed) : (out.push x).toList = out.toList ++ [x] := Array.toList_push
theorem MI.pushA {a b out : Array Keyed} {ia ib : Nat} {x : Keyed} (m : MI (Le lt k) a.toList b.toList out.toList ia ib) (ha : a.toList.Pairwise (Le lt k)) (e : a.toList[ia]? = some x) (h : ∀ y ∈ b.toList.drop ib, Le lt k x y) : MI (Le lt k) a.toList b.toList (out.push x).toList (ia + 1) ib := by
  rw [push_list, ← take_one e]
  exact m.addA ha 1 fun z hz => by rw [take_one e] at hz; obtain rfl : z = x := by simpa using hz
                                   exact h
theorem MI.pushB {a b out : Array Keyed} {ia ib : Nat} {x : Keyed} (m : MI (Le lt k) a.toList b.toList out.toList ia ib) (hb : b.toList.Pairwise (Le lt k)) (e : b.toList[ib]? = some x) (h : ∀ y ∈ a.toList.drop ia, Le lt k x y) : MI (Le lt k) a.toList b.toList (out.push x).toList ia (ib + 1) := by
  rw [push_list, ← take_one e]
  exact m.addB hb 1 fun z hz => by rw [take_one e] at hz; obtain rfl : z = x := by simpa using hz
                                   exact h
theorem le_all (C : Cmp lt k S kind prog w A s) {L : List Keyed} (h : L.Pairwise (Le lt k)) {i : Nat} {x y : Keyed} (e : L[i]? = some y) (hxy : Le lt k x y) : ∀ z ∈ L.drop i, Le lt k x z := fun z hz => by
  rw [drop_cons e] at hz
  rcases List.mem_cons.mp hz with rfl | hz
  · exact hxy
  · exact le_trans C hxy (pw_head h e z hz)
theorem wpS_mergeLo {a b : Array Keyed} {st : SortSt} {Q : Array Keyed → SortSt → Prop} (C : Cmp lt k S kind prog w A s) (F : Fine kind st) (hSa : ∀ x ∈ a.toList, S x) (hSb : ∀ x ∈ b.toList, S x) (ha : a.toList.Pairwise (Le lt k)) (hb : b.toList.Pairwise (Le lt k)) (a1 : 1 ≤ a.size) (b1 : 1 ≤ b.size)
    (hfirst : ∀ x y, b.toList[0]? = some x → a.toList[0]? = some y → Le lt k x y) (hl : ∀ x ∈ b.toList, ∀ y, a.toList[a.size - 1]? = some y → Le lt k x y)
    (h : ∀ r st', St0 kind st st' → Good lt k a b r → Q r st') : wpS (model prog w) A E s (mergeLo' a b) Q st := by
  have la : a.toList.length = a.size := Array.length_toList
  have lb : b.toList.length = b.size := Array.length_toList
  have getA : ∀ i, i < a.size → ∃ x, a.toList[i]? = some x ∧ S x := fun i hi => ⟨_, List.getElem?_eq_getElem (by omega), hSa _ (List.getElem_mem (by omega))⟩
  have getB : ∀ i, i < b.size → ∃ x, b.toList[i]? = some x ∧ S x := fun i hi => ⟨_, List.getElem?_eq_getElem (by omega), hSb _ (List.getElem_mem (by omega))⟩
  have refl0 : St0 kind st st := ⟨rfl, rfl, F⟩
  rw [mergeLo'_eq]
  refine wpS_bind (wpS_lift (wpAny_rule ⟨rfl, ?_⟩))
  obtain ⟨x0, ex0, sx0⟩ := getB 0 (by omega)
  obtain ⟨y0, ey0, sy0⟩ := getA 0 (by omega)
  refine wpS_bind (wpS_elem ex0 ?_)
  dsimp only
  have m0 : MI (Le lt k) a.toList b.toList (#[x0] : Array Keyed).toList 0 1 := by
    have := (MI.mk (R := Le lt k) (A := a.toList) (B := b.toList) (O := []) (i := 0) (j := 0) (by simp) .nil (fun _ h => nomatch h) (fun _ h => nomatch h)).addB hb 1 (fun z hz => by
      rw [take_one ex0] at hz
      obtain rfl : z = x0 := by simpa using hz
      exact le_all C ha ey0 (hfirst _ _ ex0 ey0))
    rw [take_one ex0] at this
    exact this
  by_cases c1 : 1 = b.size
  · rw [if_pos (by simpa using c1)]
    exact wpS_pure (h _ _ refl0 (good_done m0 ha hb (.inr c1)))
  rw [if_neg (by simpa using c1)]
  by_cases c2 : 0 + 1 = a.size
  · rw [if_pos (by simpa using c2)]
    exact wpS_pure (h _ _ refl0 (good_lastA m0 ha hb (by omega) hl))
  rw [if_neg (by simpa using c2)]
  refine wpS_bind (wpS_get ?_)
  refine wpS_bind (wpS_mono (wpS_forRange (I := fun t c st' => St0 kind st st' ∧ ∃ (out : Array Keyed) (ia ib mg : Nat), c = (none, out, ia, ib, mg) ∧ MI (Le lt k) a.toList b.toList out.toList ia ib ∧ ia + 1 < a.size ∧ ib < b.size ∧ t + 1 ≤ ia + ib)
    (Q := fun c st' => St0 kind st st' ∧ ∃ r rest, c = (some r, rest) ∧ Good lt k a b r) ?step ?fin ?init) ?post)
  case init => exact ⟨refl0, _, _, _, _, rfl, m0, by omega, by omega, by omega⟩
  case fin =>
    rintro c st' ⟨_, out, ia, ib, mg, rfl, m, z1, z2, z3⟩
    omega
  case post =>
    rintro c st' ⟨s0, r, rest, rfl, g⟩
    exact wpS_pure (h r st' s0 g)
  case step =>
    rintro t c st1 _ ht ⟨s1, out, ia, ib, mg, rfl, m, z1, z2, z3⟩
    dsimp only
    refine wpS_bind (wpS_mono (wpS_forRange (I := fun u c st' => St0 kind st st' ∧ ∃ (out : Array Keyed) (ia ib ac bc : Nat), c = (none, out, ia, ib, ac, bc) ∧ MI (Le lt k) a.toList b.toList out.toList ia ib ∧ ia + 1 < a.size ∧ ib < b.size ∧ t + 1 + u ≤ ia + ib)
      (Q := fun c st' => St0 kind st st' ∧ ((∃ r rest, c = (some r, rest) ∧ Good lt k a b r) ∨ ∃ (out : Array Keyed) (ia ib ac bc : Nat), c = (none, out, ia, ib, ac, bc) ∧ MI (Le lt k) a.toList b.toList out.toList ia ib ∧ ia + 1 < a.size ∧ ib < b.size ∧ t + 2 ≤ ia + ib)) ?step1 ?fin1 ?init1) ?post1)
    case init1 => exact ⟨s1, _, _, _, _, _, rfl, m, z1, z2, by omega⟩
    case fin1 =>
      rintro c st' ⟨_, out, ia, ib, ac, bc, rfl, m, z1, z2, z3⟩
      omega
    case step1 =>
      rintro u c st2 _ hu ⟨s2, out, ia, ib, ac, bc, rfl, m, z1, z2, z3⟩
      dsimp only
      obtain ⟨x, ex, sx⟩ := getB ib z2
      obtain ⟨y, ey, sy⟩ := getA ia (by omega)
      refine wpS_bind (wpS_elem ex (wpS_bind (wpS_elem ey (wpS_bind (wpS_lt C s2.fine sx sy ?_)))))
      cases e : lt (k x) (k y) with
      | true =>
        dsimp only
        rw [if_pos rfl]
        refine wpS_bind (wpS_elem ex ?_)
        have m2 := m.pushB hb ex (le_all C ha ey (le_of_lt C e))
        by_cases d1 : ib + 1 = b.size
        · rw [if_pos (by simpa using d1)]
          exact wpS_pure ⟨s2, .inl ⟨_, _, rfl, good_done m2 ha hb (.inr d1)⟩⟩
        rw [if_neg (by simpa using d1)]
        by_cases d2 : bc + 1 ≥ mg
        · rw [if_pos d2]
          exact wpS_pure ⟨s2, .inr ⟨_, _, _, _, _, rfl, m2, z1, by omega, by omega⟩⟩
        · rw [if_neg d2]
          exact wpS_pure ⟨s2, _, _, _, _, _, rfl, m2, z1, by omega, by omega⟩
      | false =>
        dsimp only
        rw [if_neg (by decide)]
        refine wpS_bind (wpS_elem ey ?_)
        have m2 := m.pushA ha ey (le_all C hb ex e)
        by_cases d1 : ia + 1 + 1 = a.size
        · rw [if_pos (by simpa using d1)]
          exact wpS_pure ⟨s2, .inl ⟨_, _, rfl, good_lastA m2 ha hb d1 hl⟩⟩
        rw [if_neg (by simpa using d1)]
        by_cases d2 : ac + 1 ≥ mg
        · rw [if_pos d2]
          exact wpS_pure ⟨s2, .inr ⟨_, _, _, _, _, rfl, m2, by omega, z2, by omega⟩⟩
        · rw [if_neg d2]
          exact wpS_pure ⟨s2, _, _, _, _, _, rfl, m2, by omega, z2, by omega⟩
    case post1 =>
      rintro c st2 ⟨s2, ⟨r, rest, rfl, g⟩ | ⟨out, ia, ib, ac, bc, rfl, m, z1, z2, z3⟩⟩
      · exact wpS_pure ⟨s2, _, _, rfl, g⟩
      dsimp only
      refine wpS_bind (wpS_lift (wpAny_rule ⟨rfl, ?_⟩))
      refine wpS_bind (wpS_mono (wpS_forRange (I := fun u c st' => St0 kind st st' ∧ ∃ (out : Array Keyed) (ia ib mg ac bc : Nat), c = (none, out, ia, ib, mg, ac, bc) ∧ MI (Le lt k) a.toList b.toList out.toList ia ib ∧ ia + 1 < a.size ∧ ib < b.size ∧ t + 2 ≤ ia + ib)
        (Q := fun c st' => St0 kind st st' ∧ ((∃ r rest, c = (some r, rest) ∧ Good lt k a b r) ∨ ∃ (out : Array Keyed) (ia ib mg ac bc : Nat), c = (none, out, ia, ib, mg, ac, bc) ∧ MI (Le lt k) a.toList b.toList out.toList ia ib ∧ ia + 1 < a.size ∧ ib < b.size ∧ t + 2 ≤ ia + ib)) ?step2 ?fin2 ?init2) ?post2)
      case init2 => exact ⟨s2, _, _, _, _, _, _, rfl, m, z1, z2, z3⟩
      case fin2 => exact fun c st' ⟨q1, q2⟩ => ⟨q1, .inr q2⟩
      case post2 =>
        rintro c st3 ⟨s3, ⟨r, rest, rfl, g⟩ | ⟨out, ia, ib, mg, ac, bc, rfl, m, z1, z2, z3⟩⟩
        · exact wpS_pure ⟨s3, _, _, rfl, g⟩
        dsimp only
        refine wpS_bind (wpS_modify (wpS_pure ⟨s3.gal _, _, _, _, _, rfl, m, z1, z2, by omega⟩))
      case step2 =>
        rintro u c st3 _ hu ⟨s3, out, ia, ib, mg, ac, bc, rfl, m, z1, z2, z3⟩
        dsimp only
        obtain ⟨x, ex, sx⟩ := getB ib z2
        have wholeA : ∀ i, (a.toList.drop i).take (a.size - i) = a.toList.drop i := fun i => List.take_of_length_le (by rw [List.length_drop]; omega)
        have wholeB : ∀ i, (b.toList.drop i).take (b.size - i) = b.toList.drop i := fun i => List.take_of_length_le (by rw [List.length_drop]; omega)
        refine wpS_ite ?_ ?_
        all_goals
          refine wpS_bind (wpS_modify ?_)
          refine wpS_bind (wpS_elem ex ?_)
          refine wpS_bind (wpS_gal C (s3.gal _).fine sx hSa (by omega) (by omega) (by rw [wholeA]; exact ha.sublist (List.drop_sublist _ _)) fun p hp lo hi => ?_)
          rw [wholeA] at lo hi
          simp only [Bool.false_eq_true, if_false] at lo hi
          rw [List.drop_drop] at hi
          have mA : MI (Le lt k) a.toList b.toList (out ++ a.extract ia (ia + p)).toList (ia + p) ib := by
            rw [Array.toList_append, ext_list, show ia + p - ia = p by omega]
            exact m.addA ha p fun z hz => le_all C hb ex (lo z hz)
          have mA0 : p = 0 → MI (Le lt k) a.toList b.toList out.toList (ia + p) ib := fun e => by rw [e]; exact m
          dsimp only
          have rest : ∀ (out : Array Keyed) (ia' : Nat), ia' = ia + p → MI (Le lt k) a.toList b.toList out.toList ia' ib → ia' + 1 < a.size → True := fun _ _ _ _ _ => trivial
          by_cases p0 : p > 0
          · rw [if_pos p0]
            by_cases d1 : ia + p + 1 = a.size
            · rw [if_pos (by simpa using d1)]
              exact wpS_pure ⟨s3.gal _, .inl ⟨_, _, rfl, good_lastA mA ha hb d1 hl⟩⟩
            rw [if_neg (by simpa using d1)]
            by_cases d2 : ia + p = a.size
            · rw [if_pos (by simpa using d2)]
              exact wpS_pure ⟨s3.gal _, .inl ⟨_, _, rfl, good_done mA ha hb (.inl d2)⟩⟩
            rw [if_neg (by simpa using d2)]
            refine wpS_bind (wpS_elem ex ?_)
            have mB := mA.pushB hb ex fun y hy => le_of_lt C (hi y hy)
            by_cases d3 : ib + 1 = b.size
            · rw [if_pos (by simpa using d3)]
              exact wpS_pure ⟨s3.gal _, .inl ⟨_, _, rfl, good_done mB ha hb (.inr d3)⟩⟩
            rw [if_neg (by simpa using d3)]
            obtain ⟨y, ey, sy⟩ := getA (ia + p) (by omega)
            refine wpS_bind (wpS_elem ey ?_)
            refine wpS_bind (wpS_gal C (s3.gal _).fine sy hSb (by omega) (by omega) (by rw [wholeB]; exact hb.sublist (List.drop_sublist _ _)) fun q hq lo2 hi2 => ?_)
            rw [wholeB] at lo2 hi2
            simp only [if_true] at lo2 hi2
            rw [List.drop_drop] at hi2
            have mC : MI (Le lt k) a.toList b.toList ((out ++ a.extract ia (ia + p)).push x ++ b.extract (ib + 1) (ib + 1 + q)).toList (ia + p) (ib + 1 + q) := by
              rw [Array.toList_append, ext_list, show ib + 1 + q - (ib + 1) = q by omega]
              exact mB.addB hb q fun z hz => le_all C ha ey (le_of_lt C (lo2 z hz))
            dsimp only
            by_cases q0 : q > 0
            · rw [if_pos q0]
              by_cases d4 : ib + 1 + q = b.size
              · rw [if_pos (by simpa using d4)]
                exact wpS_pure ⟨s3.gal _, .inl ⟨_, _, rfl, good_done mC ha hb (.inr d4)⟩⟩
              rw [if_neg (by simpa using d4)]
              refine wpS_bind (wpS_elem ey ?_)
              have mD := mC.pushA ha ey fun z hz => hi2 z hz
              by_cases d5 : ia + p + 1 + 1 = a.size
              · rw [if_pos (by simpa using d5)]
                exact wpS_pure ⟨s3.gal _, .inl ⟨_, _, rfl, good_lastA mD ha hb d5 hl⟩⟩
              rw [if_neg (by simpa using d5)]
              refine wpS_ite ?_ ?_
              · exact wpS_pure ⟨s3.gal _, .inr ⟨_, _, _, _, _, _, rfl, mD, by omega, by omega, by omega⟩⟩
              · exact wpS_pure ⟨s3.gal _, _, _, _, _, _, _, rfl, mD, by omega, by omega, by omega⟩
            · rw [if_neg q0]
              obtain rfl : q = 0 := by omega
              refine wpS_bind (wpS_elem ey ?_)
              have mD := mB.pushA ha ey fun z hz => hi2 z hz
              by_cases d5 : ia + p + 1 + 1 = a.size
              · rw [if_pos (by simpa using d5)]
                exact wpS_pure ⟨s3.gal _, .inl ⟨_, _, rfl, good_lastA mD ha hb d5 hl⟩⟩
              rw [if_neg (by simpa using d5)]
              refine wpS_ite ?_ ?_
              · exact wpS_pure ⟨s3.gal _, .inr ⟨_, _, _, _, _, _, rfl, mD, by omega, by omega, by omega⟩⟩
              · exact wpS_pure ⟨s3.gal _, _, _, _, _, _, _, rfl, mD, by omega, by omega, by omega⟩
          · rw [if_neg p0]
            obtain rfl : p = 0 := by omega
            refine wpS_bind (wpS_elem ex ?_)
            have mB := m.pushB hb ex fun y hy => le_of_lt C (hi y hy)
            by_cases d3 : ib + 1 = b.size
            · rw [if_pos (by simpa using d3)]
              exact wpS_pure ⟨s3.gal _, .inl ⟨_, _, rfl, good_done mB ha hb (.inr d3)⟩⟩
            rw [if_neg (by simpa using d3)]
            obtain ⟨y, ey, sy⟩ := getA ia (by omega)
            refine wpS_bind (wpS_elem ey ?_)
            refine wpS_bind (wpS_gal C (s3.gal _).fine sy hSb (by omega) (by omega) (by rw [wholeB]; exact hb.sublist (List.drop_sublist _ _)) fun q hq lo2 hi2 => ?_)
            rw [wholeB] at lo2 hi2
            simp only [if_true] at lo2 hi2
            rw [List.drop_drop] at hi2
            have mC : MI (Le lt k) a.toList b.toList (out.push x ++ b.extract (ib + 1) (ib + 1 + q)).toList ia (ib + 1 + q) := by
              rw [Array.toList_append, ext_list, show ib + 1 + q - (ib + 1) = q by omega]
              exact mB.addB hb q fun z hz => le_all C ha ey (le_of_lt C (lo2 z hz))
            dsimp only
            by_cases q0 : q > 0
            · rw [if_pos q0]
              by_cases d4 : ib + 1 + q = b.size
              · rw [if_pos (by simpa using d4)]
                exact wpS_pure ⟨s3.gal _, .inl ⟨_, _, rfl, good_done mC ha hb (.inr d4)⟩⟩
              rw [if_neg (by simpa using d4)]
              refine wpS_bind (wpS_elem ey ?_)
              have mD := mC.pushA ha ey fun z hz => hi2 z hz
              by_cases d5 : ia + 1 + 1 = a.size
              · rw [if_pos (by simpa using d5)]
                exact wpS_pure ⟨s3.gal _, .inl ⟨_, _, rfl, good_lastA mD ha hb d5 hl⟩⟩
              rw [if_neg (by simpa using d5)]
              refine wpS_ite ?_ ?_
              · exact wpS_pure ⟨s3.gal _, .inr ⟨_, _, _, _, _, _, rfl, mD, by omega, by omega, by omega⟩⟩
              · exact wpS_pure ⟨s3.gal _, _, _, _, _, _, _, rfl, mD, by omega, by omega, by omega⟩
            · rw [if_neg q0]
              obtain rfl : q = 0 := by omega
              refine wpS_bind (wpS_elem ey ?_)
              have mD := mB.pushA ha ey fun z hz => hi2 z hz
              by_cases d5 : ia + 1 + 1 = a.size
              · rw [if_pos (by simpa using d5)]
                exact wpS_pure ⟨s3.gal _, .inl ⟨_, _, rfl, good_lastA mD ha hb d5 hl⟩⟩
              rw [if_neg (by simpa using d5)]
              refine wpS_ite ?_ ?_
              · exact wpS_pure ⟨s3.gal _, .inr ⟨_, _, _, _, _, _, rfl, mD, by omega, by omega, by omega⟩⟩
              · exact wpS_pure ⟨s3.gal _, _, _, _, _, _, _, rfl, mD, by omega, by omega, by omega⟩
end
end Tim
set_option Elab.async false
set_option linter.all false
set_option maxRecDepth 100000
set_option maxHeartbeats 4000000
namespace Tim
open PySem PyProof.Rows
def mergeHi' : Array Keyed → Array Keyed → StateT SortSt Sem (Array Keyed) := sortPriv% PySem.Builtin.mergeHi
theorem mergeHi'_eq (a b : Array Keyed) : mergeHi' a b = (do
  rule "list.sort.merge-hi"
  let total := a.size + b.size
  let done (out : Array Keyed) (na nb : Nat) := a.extract 0 na ++ b.extract 0 nb ++ out.reverse
  let firstOfB (out : Array Keyed) (na nb : Nat) := b.extract 0 nb ++ a.extract 0 na ++ out.reverse
  let mut na := a.size - 1
  let mut nb := b.size
  let mut out : Array Keyed := #[← elem' a na]
  if na == 0 then return done out na nb
  if nb == 1 then return firstOfB out na nb
  let mut minGallop := gallopOf (← get)
  for _ in [0:total] do
    let mut acount := 0
    let mut bcount := 0
    for _ in [0:total] do
      let some aWins ← lt' (← elem' b (nb - 1)) (← elem' a (na - 1)) | return done out na nb
      if aWins then
        na := na - 1; out := out.push (← elem' a na); acount := acount + 1; bcount := 0
        if na == 0 then return done out na nb
        if acount ≥ minGallop then break
      else
        nb := nb - 1; out := out.push (← elem' b nb); bcount := bcount + 1; acount := 0
        if nb == 1 then return firstOfB out na nb
        if bcount ≥ minGallop then break
    rule "list.sort.gallop"
    minGallop := minGallop + 1
    for _ in [0:total] do
      if minGallop > 1 then minGallop := minGallop - 1
      setMinGallop' minGallop
      let some at_ ← gallop' false (← elem' b (nb - 1)) a 0 na (na - 1) | return done out na nb
      let k := na - at_
      acount := k
      if k > 0 then
        out := out ++ (a.extract at_ na).reverse; na := at_
        if na == 0 then return done out na nb
      nb := nb - 1; out := out.push (← elem' b nb)
      if nb == 1 then return firstOfB out na nb
      let some at_ ← gallop' true (← elem' a (na - 1)) b 0 nb (nb - 1) | return done out na nb
      let k := nb - at_
      bcount := k
      if k > 0 then
        out := out ++ (b.extract at_ nb).reverse; nb := at_
        if nb == 1 then return firstOfB out na nb
        if nb == 0 then return done out na nb
      na := na - 1; out := out.push (← elem' a na)
      if na == 0 then return done out na nb
      if acount < 7 && bcount < 7 then break
    minGallop := minGallop + 1
    setMinGallop' minGallop
  unsupported "internal:list.sort.merge-bound") := rfl
section
variable {κ : Type} {lt : κ → κ → Bool} {k : Keyed → κ} {S : Keyed → Prop} {kind : SortKind} {prog : Program} {w : World} {A : Around} {E : Value → Shared → Prop} {s : Shared}
abbrev Ge (lt : κ → κ → Bool) (k : Keyed → κ) (x y : Keyed) : Prop := Le lt k y x
abbrev MH (lt : κ → κ → Bool) (k : Keyed → κ) (a b out : Array Keyed) (na nb : Nat) : Prop := MI (Ge lt k) a.toList.reverse b.toList.reverse out.toList (a.size - na) (b.size - nb)
theorem rev_drop {a : Array Keyed} {na : Nat} (h : na ≤ a.size) : a.toList.reverse.drop (a.size - na) = (a.toList.take na).reverse := by
  rw [List.drop_reverse, Array.length_toList, show a.size - (a.size - na) = na by omega]
theorem rev_at {a : Array Keyed} {na : Nat} {y : Keyed} (h0 : 1 ≤ na) (h : na ≤ a.size) (e : a.toList[na - 1]? = some y) : a.toList.reverse[a.size - na]? = some y := by
  rw [List.getElem?_reverse (by rw [Array.length_toList]; omega), Array.length_toList, show a.size - 1 - (a.size - na) = na - 1 by omega, e]
theorem rev_pw {a : Array Keyed} (h : a.toList.Pairwise (Le lt k)) : a.toList.reverse.Pairwise (Ge lt k) := List.pairwise_reverse.mpr h
theorem rev_blk {a : Array Keyed} {p na : Nat} (hp : p ≤ na) (h : na ≤ a.size) : ((a.extract p na).reverse).toList = (a.toList.reverse.drop (a.size - na)).take (na - p) := by
  rw [Array.toList_reverse, ext_list, rev_drop h, List.take_reverse, List.length_take, Array.length_toList, show min na a.size = na by omega, show na - (na - p) = p by omega, ← List.drop_take]
theorem extract0 (a : Array Keyed) (n : Nat) : (a.extract 0 n).toList = a.toList.take n := by rw [ext_list]; simp
theorem good_rev {a b : Array Keyed} {l : List Keyed} {r : Array Keyed} (h : l.Perm (a.toList.reverse ++ b.toList.reverse) ∧ l.Pairwise (Ge lt k)) (e : r.toList = l.reverse) : Good lt k a b r := by
  refine ⟨?_, ?_⟩
  · rw [e]
    refine (List.reverse_perm l).trans (h.1.trans ?_)
    exact (List.reverse_perm _).append (List.reverse_perm _)
  · rw [e]
    exact List.pairwise_reverse.mpr h.2
theorem goodH_done {a b out : Array Keyed} {na nb : Nat} (m : MH lt k a b out na nb) (ha : a.toList.Pairwise (Le lt k)) (hb : b.toList.Pairwise (Le lt k)) (h1 : na ≤ a.size) (h2 : nb ≤ b.size) (h : na = 0 ∨ nb = 0) : Good lt k a b (a.extract 0 na ++ b.extract 0 nb ++ out.reverse) := by
  have f := m.swap.fin (rev_pw hb) (rev_pw ha) fun x hx y hy => by
    rw [rev_drop h2] at hx
    rw [rev_drop h1] at hy
    rcases h with h | h
    · rw [h] at hy; simp at hy
    · rw [h] at hx; simp at hx
  refine good_rev ⟨f.1.trans List.perm_append_comm, f.2⟩ ?_
  rw [Array.toList_append, Array.toList_append, extract0, extract0, Array.toList_reverse, rev_drop h1, rev_drop h2]
  simp
theorem goodH_first {a b out : Array Keyed} {na nb : Nat} (m : MH lt k a b out na nb) (ha : a.toList.Pairwise (Le lt k)) (hb : b.toList.Pairwise (Le lt k)) (h1 : na ≤ a.size) (h2 : nb ≤ b.size) (h : nb = 1) (hf : ∀ x, b.toList[0]? = some x → ∀ y ∈ a.toList, Le lt k x y) :
    Good lt k a b (b.extract 0 nb ++ a.extract 0 na ++ out.reverse) := by
  have f := m.fin (rev_pw ha) (rev_pw hb) fun x hx y hy => by
    rw [rev_drop h1] at hx
    rw [rev_drop h2, h] at hy
    have hx := List.mem_of_mem_take (List.mem_reverse.mp hx)
    have hy := List.mem_reverse.mp hy
    refine hf y ?_ x hx
    obtain ⟨i, hi, e⟩ := List.getElem_of_mem hy
    have i0 : i = 0 := by rw [List.length_take] at hi; omega
    subst i0
    rw [List.getElem_take] at e
    rw [List.getElem?_eq_getElem (by rw [Array.length_toList]; omega), e]
  refine good_rev f ?_
  rw [Array.toList_append, Array.toList_append, extract0, extract0, Array.toList_reverse, rev_drop h1, rev_drop h2]
  simp
theorem MH.pushA {a b out : Array Keyed} {na nb : Nat} {x : Keyed} (m : MH lt k a b out na nb) (ha : a.toList.Pairwise (Le lt k)) (h0 : 1 ≤ na) (h1 : na ≤ a.size) (h2 : nb ≤ b.size) (e : a.toList[na - 1]? = some x) (h : ∀ y ∈ b.toList.take nb, Le lt k y x) : MH lt k a b (out.push x) (na - 1) nb := by
  have e' := rev_at h0 h1 e
  have := m.addA (rev_pw ha) 1 fun z hz y hy => by
    rw [take_one e'] at hz
    obtain rfl : z = x := by simpa using hz
    rw [rev_drop h2] at hy
    exact h y (List.mem_reverse.mp hy)
  rw [take_one e', ← push_list, show a.size - na + 1 = a.size - (na - 1) by omega] at this
  exact this
theorem MH.pushB {a b out : Array Keyed} {na nb : Nat} {x : Keyed} (m : MH lt k a b out na nb) (hb : b.toList.Pairwise (Le lt k)) (h0 : 1 ≤ nb) (h1 : na ≤ a.size) (h2 : nb ≤ b.size) (e : b.toList[nb - 1]? = some x) (h : ∀ y ∈ a.toList.take na, Le lt k y x) : MH lt k a b (out.push x) na (nb - 1) := by
  have e' := rev_at h0 h2 e
  have := m.addB (rev_pw hb) 1 fun z hz y hy => by
    rw [take_one e'] at hz
    obtain rfl : z = x := by simpa using hz
    rw [rev_drop h1] at hy
    exact h y (List.mem_reverse.mp hy)
  rw [take_one e', ← push_list, show b.size - nb + 1 = b.size - (nb - 1) by omega] at this
  exact this
theorem MH.blkA {a b out : Array Keyed} {na nb p : Nat} (m : MH lt k a b out na nb) (ha : a.toList.Pairwise (Le lt k)) (hp : p ≤ na) (h1 : na ≤ a.size) (h2 : nb ≤ b.size) (h : ∀ x ∈ (a.toList.take na).drop p, ∀ y ∈ b.toList.take nb, Le lt k y x) : MH lt k a b (out ++ (a.extract p na).reverse) p nb := by
  have := m.addA (rev_pw ha) (na - p) fun z hz y hy => by
    rw [← rev_blk hp h1, Array.toList_reverse, ext_list, ← List.drop_take] at hz
    rw [rev_drop h2] at hy
    exact h z (List.mem_reverse.mp hz) y (List.mem_reverse.mp hy)
  rw [← rev_blk hp h1, ← Array.toList_append, show a.size - na + (na - p) = a.size - p by omega] at this
  exact this
theorem MH.blkB {a b out : Array Keyed} {na nb p : Nat} (m : MH lt k a b out na nb) (hb : b.toList.Pairwise (Le lt k)) (hp : p ≤ nb) (h1 : na ≤ a.size) (h2 : nb ≤ b.size) (h : ∀ x ∈ (b.toList.take nb).drop p, ∀ y ∈ a.toList.take na, Le lt k y x) : MH lt k a b (out ++ (b.extract p nb).reverse) na p := by
  have := m.addB (rev_pw hb) (nb - p) fun z hz y hy => by
    rw [← rev_blk hp h2, Array.toList_reverse, ext_list, ← List.drop_take] at hz
    rw [rev_drop h1] at hy
    exact h z (List.mem_reverse.mp hz) y (List.mem_reverse.mp hy)
  rw [← rev_blk hp h2, ← Array.toList_append, show b.size - nb + (nb - p) = b.size - p by omega] at this
  exact this
theorem all_le (C : Cmp lt k S kind prog w A s) {L : List Keyed} (h : L.Pairwise (Le lt k)) {n : Nat} {x y : Keyed} (h0 : 1 ≤ n) (e : L[n - 1]? = some y) (hyx : Le lt k y x) : ∀ z ∈ L.take n, Le lt k z x := fun z hz => by
  obtain ⟨i, hi, ez⟩ := List.getElem_of_mem hz
  rw [List.getElem_take] at ez
  obtain ⟨hn, ey⟩ := List.getElem?_eq_some_iff.mp e
  have hin : i < n := by rw [List.length_take] at hi; omega
  rcases Nat.lt_or_ge i (n - 1) with q | q
  · have := (List.pairwise_iff_getElem.mp h) i (n - 1) (by omega) hn q
    rw [ey, ez] at this
    exact le_trans C this hyx
  · have : i = n - 1 := by omega
    subst this
    rw [ey] at ez
    rw [← ez]
    exact hyx
theorem wpS_mergeHi {a b : Array Keyed} {st : SortSt} {Q : Array Keyed → SortSt → Prop} (C : Cmp lt k S kind prog w A s) (F : Fine kind st) (hSa : ∀ x ∈ a.toList, S x) (hSb : ∀ x ∈ b.toList, S x) (ha : a.toList.Pairwise (Le lt k)) (hb : b.toList.Pairwise (Le lt k)) (a1 : 1 ≤ a.size) (b1 : 1 ≤ b.size)
    (hf : ∀ x, b.toList[0]? = some x → ∀ y ∈ a.toList, Le lt k x y) (hl : ∀ x ∈ b.toList, ∀ y, a.toList[a.size - 1]? = some y → Le lt k x y)
    (h : ∀ r st', St0 kind st st' → Good lt k a b r → Q r st') : wpS (model prog w) A E s (mergeHi' a b) Q st := by
  have la : a.toList.length = a.size := Array.length_toList
  have lb : b.toList.length = b.size := Array.length_toList
  have getA : ∀ i, i < a.size → ∃ x, a.toList[i]? = some x ∧ S x := fun i hi => ⟨_, List.getElem?_eq_getElem (by omega), hSa _ (List.getElem_mem (by omega))⟩
  have getB : ∀ i, i < b.size → ∃ x, b.toList[i]? = some x ∧ S x := fun i hi => ⟨_, List.getElem?_eq_getElem (by omega), hSb _ (List.getElem_mem (by omega))⟩
  have refl0 : St0 kind st st := ⟨rfl, rfl, F⟩
  rw [mergeHi'_eq]
  refine wpS_bind (wpS_lift (wpAny_rule ⟨rfl, ?_⟩))
  obtain ⟨y0, ey0, sy0⟩ := getA (a.size - 1) (by omega)
  refine wpS_bind (wpS_elem ey0 ?_)
  dsimp only
  have m0 : MH lt k a b #[y0] (a.size - 1) b.size := by
    have m00 : MH lt k a b #[] a.size b.size := by
      show MI _ _ _ _ (a.size - a.size) (b.size - b.size)
      rw [Nat.sub_self, Nat.sub_self]
      exact ⟨by simp, .nil, (fun _ h => nomatch h), (fun _ h => nomatch h)⟩
    exact m00.pushA ha a1 (Nat.le_refl _) (Nat.le_refl _) ey0 fun y hy => hl y (List.mem_of_mem_take hy) _ ey0
  by_cases c1 : a.size - 1 = 0
  · rw [if_pos (by simpa using c1)]
    exact wpS_pure (h _ _ refl0 (goodH_done m0 ha hb (by omega) (by omega) (.inl c1)))
  rw [if_neg (by simpa using c1)]
  by_cases c2 : b.size = 1
  · rw [if_pos (by simpa using c2)]
    exact wpS_pure (h _ _ refl0 (goodH_first m0 ha hb (by omega) (by omega) c2 hf))
  rw [if_neg (by simpa using c2)]
  refine wpS_bind (wpS_get ?_)
  refine wpS_bind (wpS_mono (wpS_forRange (I := fun t c st' => St0 kind st st' ∧ ∃ (na nb : Nat) (out : Array Keyed) (mg : Nat), c = (none, na, nb, out, mg) ∧ MH lt k a b out na nb ∧ 1 ≤ na ∧ na ≤ a.size ∧ 2 ≤ nb ∧ nb ≤ b.size ∧ t + na + nb + 1 ≤ a.size + b.size)
    (Q := fun c st' => St0 kind st st' ∧ ∃ r rest, c = (some r, rest) ∧ Good lt k a b r) ?step ?fin ?init) ?post)
  case init => exact ⟨refl0, _, _, _, _, rfl, m0, by omega, by omega, by omega, by omega, by omega⟩
  case fin =>
    rintro c st' ⟨_, na, nb, out, mg, rfl, m, z1, z2, z3, z4, z5⟩
    omega
  case post =>
    rintro c st' ⟨s0, r, rest, rfl, g⟩
    exact wpS_pure (h r st' s0 g)
  case step =>
    rintro t c st1 _ ht ⟨s1, na, nb, out, mg, rfl, m, z1, z2, z3, z4, z5⟩
    dsimp only
    refine wpS_bind (wpS_mono (wpS_forRange (I := fun u c st' => St0 kind st st' ∧ ∃ (na nb : Nat) (out : Array Keyed) (ac bc : Nat), c = (none, na, nb, out, ac, bc) ∧ MH lt k a b out na nb ∧ 1 ≤ na ∧ na ≤ a.size ∧ 2 ≤ nb ∧ nb ≤ b.size ∧ t + u + na + nb + 1 ≤ a.size + b.size)
      (Q := fun c st' => St0 kind st st' ∧ ((∃ r rest, c = (some r, rest) ∧ Good lt k a b r) ∨ ∃ (na nb : Nat) (out : Array Keyed) (ac bc : Nat), c = (none, na, nb, out, ac, bc) ∧ MH lt k a b out na nb ∧ 1 ≤ na ∧ na ≤ a.size ∧ 2 ≤ nb ∧ nb ≤ b.size ∧ t + na + nb + 2 ≤ a.size + b.size)) ?step1 ?fin1 ?init1) ?post1)
    case init1 => exact ⟨s1, _, _, _, _, _, rfl, m, z1, z2, z3, z4, by omega⟩
    case fin1 =>
      rintro c st' ⟨_, na, nb, out, ac, bc, rfl, m, z1, z2, z3, z4, z5⟩
      omega
    case step1 =>
      rintro u c st2 _ hu ⟨s2, na, nb, out, ac, bc, rfl, m, z1, z2, z3, z4, z5⟩
      dsimp only
      obtain ⟨x, ex, sx⟩ := getB (nb - 1) (by omega)
      obtain ⟨y, ey, sy⟩ := getA (na - 1) (by omega)
      refine wpS_bind (wpS_elem ex (wpS_bind (wpS_elem ey (wpS_bind (wpS_lt C s2.fine sx sy ?_)))))
      cases e : lt (k x) (k y) with
      | true =>
        dsimp only
        rw [if_pos rfl]
        refine wpS_bind (wpS_elem ey ?_)
        have m2 := MH.pushA m ha z1 z2 z4 ey (all_le C hb (by omega) ex (le_of_lt C e))
        by_cases d1 : na - 1 = 0
        · rw [if_pos (by simpa using d1)]
          exact wpS_pure ⟨s2, .inl ⟨_, _, rfl, goodH_done m2 ha hb (by omega) z4 (.inl d1)⟩⟩
        rw [if_neg (by simpa using d1)]
        refine wpS_ite ?_ ?_
        · exact wpS_pure ⟨s2, .inr ⟨_, _, _, _, _, rfl, m2, by omega, by omega, z3, z4, by omega⟩⟩
        · exact wpS_pure ⟨s2, _, _, _, _, _, rfl, m2, by omega, by omega, z3, z4, by omega⟩
      | false =>
        dsimp only
        rw [if_neg (by decide)]
        refine wpS_bind (wpS_elem ex ?_)
        have m2 := MH.pushB m hb (by omega) z2 z4 ex (all_le C ha z1 ey e)
        by_cases d1 : nb - 1 = 1
        · rw [if_pos (by simpa using d1)]
          exact wpS_pure ⟨s2, .inl ⟨_, _, rfl, goodH_first m2 ha hb z2 (by omega) d1 hf⟩⟩
        rw [if_neg (by simpa using d1)]
        refine wpS_ite ?_ ?_
        · exact wpS_pure ⟨s2, .inr ⟨_, _, _, _, _, rfl, m2, z1, z2, by omega, by omega, by omega⟩⟩
        · exact wpS_pure ⟨s2, _, _, _, _, _, rfl, m2, z1, z2, by omega, by omega, by omega⟩
    case post1 =>
      rintro c st2 ⟨s2, ⟨r, rest, rfl, g⟩ | ⟨na, nb, out, ac, bc, rfl, m, z1, z2, z3, z4, z5⟩⟩
      · exact wpS_pure ⟨s2, _, _, rfl, g⟩
      dsimp only
      refine wpS_bind (wpS_lift (wpAny_rule ⟨rfl, ?_⟩))
      refine wpS_bind (wpS_mono (wpS_forRange (I := fun u c st' => St0 kind st st' ∧ ∃ (na nb : Nat) (out : Array Keyed) (mg ac bc : Nat), c = (none, na, nb, out, mg, ac, bc) ∧ MH lt k a b out na nb ∧ 1 ≤ na ∧ na ≤ a.size ∧ 2 ≤ nb ∧ nb ≤ b.size ∧ t + na + nb + 2 ≤ a.size + b.size)
        (Q := fun c st' => St0 kind st st' ∧ ((∃ r rest, c = (some r, rest) ∧ Good lt k a b r) ∨ ∃ (na nb : Nat) (out : Array Keyed) (mg ac bc : Nat), c = (none, na, nb, out, mg, ac, bc) ∧ MH lt k a b out na nb ∧ 1 ≤ na ∧ na ≤ a.size ∧ 2 ≤ nb ∧ nb ≤ b.size ∧ t + na + nb + 2 ≤ a.size + b.size)) ?step2 ?fin2 ?init2) ?post2)
      case init2 => exact ⟨s2, _, _, _, _, _, _, rfl, m, z1, z2, z3, z4, z5⟩
      case fin2 => exact fun c st' ⟨q1, q2⟩ => ⟨q1, .inr q2⟩
      case post2 =>
        rintro c st3 ⟨s3, ⟨r, rest, rfl, g⟩ | ⟨na, nb, out, mg, ac, bc, rfl, m, z1, z2, z3, z4, z5⟩⟩
        · exact wpS_pure ⟨s3, _, _, rfl, g⟩
        dsimp only
        refine wpS_bind (wpS_modify (wpS_pure ⟨s3.gal _, _, _, _, _, rfl, m, z1, z2, z3, z4, by omega⟩))
      case step2 =>
        rintro u c st3 _ hu ⟨s3, na, nb, out, mg, ac, bc, rfl, m, z1, z2, z3, z4, z5⟩
        dsimp only
        obtain ⟨x, ex, sx⟩ := getB (nb - 1) (by omega)
        have z0 : ∀ (L : List Keyed), L.drop 0 = L := fun L => rfl
        have last : ∀ (st3 : SortSt) (s3 : St0 kind st st3) (out : Array Keyed) (na nb mg ac bc : Nat), MH lt k a b out na nb → 1 ≤ na → na ≤ a.size → 2 ≤ nb → nb ≤ b.size → t + na + nb + 1 ≤ a.size + b.size → (∀ y, a.toList[na - 1]? = some y → ∀ z ∈ b.toList.take nb, Le lt k z y) → True := fun _ _ _ _ _ _ _ _ _ _ _ _ _ _ _ => trivial
        refine wpS_ite ?_ ?_
        all_goals
          refine wpS_bind (wpS_modify ?_)
          refine wpS_bind (wpS_elem ex ?_)
          refine wpS_bind (wpS_gal C (s3.gal _).fine sx hSa (by omega) (by omega) (by rw [z0]; exact ha.sublist (List.take_sublist _ _)) fun p hp lo hi => ?_)
          rw [z0] at lo hi
          simp only [Bool.false_eq_true, if_false] at lo hi
          have mA : MH lt k a b (out ++ (a.extract p na).reverse) p nb := MH.blkA m ha hp z2 z4 fun v hv => all_le C hb (by omega) ex (le_of_lt C (hi v hv))
          have lo' : ∀ v ∈ a.toList.take p, Le lt k v x := fun v hv => lo v (by rw [List.take_take, show min p na = p by omega]; exact hv)
          dsimp only
          by_cases p0 : na - p > 0
          · rw [if_pos p0]
            by_cases d1 : p = 0
            · rw [if_pos (by simpa using d1)]
              exact wpS_pure ⟨s3.gal _, .inl ⟨_, _, rfl, goodH_done mA ha hb (by omega) z4 (.inl d1)⟩⟩
            rw [if_neg (by simpa using d1)]
            refine wpS_bind (wpS_elem ex ?_)
            have mB := MH.pushB mA hb (by omega) (by omega) z4 ex lo'
            by_cases d2 : nb - 1 = 1
            · rw [if_pos (by simpa using d2)]
              exact wpS_pure ⟨s3.gal _, .inl ⟨_, _, rfl, goodH_first mB ha hb (by omega) (by omega) d2 hf⟩⟩
            rw [if_neg (by simpa using d2)]
            obtain ⟨y, ey, sy⟩ := getA (p - 1) (by omega)
            refine wpS_bind (wpS_elem ey ?_)
            refine wpS_bind (wpS_gal C (s3.gal _).fine sy hSb (by omega) (by omega) (by rw [z0]; exact hb.sublist (List.take_sublist _ _)) fun q hq lo2 hi2 => ?_)
            rw [z0] at lo2 hi2
            simp only [if_true] at lo2 hi2
            have mC := MH.blkB mB hb hq (by omega) (by omega) fun v hv => all_le C ha (by omega) ey (hi2 v hv)
            have lo2' : ∀ v ∈ b.toList.take q, Le lt k v y := fun v hv => le_of_lt C (lo2 v (by rw [List.take_take, show min q (nb - 1) = q by omega]; exact hv))
            dsimp only
            by_cases q0 : nb - 1 - q > 0
            · rw [if_pos q0]
              by_cases d3 : q = 1
              · rw [if_pos (by simpa using d3)]
                exact wpS_pure ⟨s3.gal _, .inl ⟨_, _, rfl, goodH_first mC ha hb (by omega) (by omega) d3 hf⟩⟩
              rw [if_neg (by simpa using d3)]
              by_cases d4 : q = 0
              · rw [if_pos (by simpa using d4)]
                exact wpS_pure ⟨s3.gal _, .inl ⟨_, _, rfl, goodH_done mC ha hb (by omega) (by omega) (.inr d4)⟩⟩
              rw [if_neg (by simpa using d4)]
              refine wpS_bind (wpS_elem ey ?_)
              have mD := MH.pushA mC ha (by omega) (by omega) (by omega) ey lo2'
              by_cases d5 : p - 1 = 0
              · rw [if_pos (by simpa using d5)]
                exact wpS_pure ⟨s3.gal _, .inl ⟨_, _, rfl, goodH_done mD ha hb (by omega) (by omega) (.inl d5)⟩⟩
              rw [if_neg (by simpa using d5)]
              refine wpS_ite ?_ ?_
              · exact wpS_pure ⟨s3.gal _, .inr ⟨_, _, _, _, _, _, rfl, mD, by omega, by omega, by omega, by omega, by omega⟩⟩
              · exact wpS_pure ⟨s3.gal _, _, _, _, _, _, _, rfl, mD, by omega, by omega, by omega, by omega, by omega⟩
            · rw [if_neg q0]
              obtain rfl : q = nb - 1 := by omega
              refine wpS_bind (wpS_elem ey ?_)
              have mD := MH.pushA mB ha (by omega) (by omega) (by omega) ey lo2'
              by_cases d5 : p - 1 = 0
              · rw [if_pos (by simpa using d5)]
                exact wpS_pure ⟨s3.gal _, .inl ⟨_, _, rfl, goodH_done mD ha hb (by omega) (by omega) (.inl d5)⟩⟩
              rw [if_neg (by simpa using d5)]
              refine wpS_ite ?_ ?_
              · exact wpS_pure ⟨s3.gal _, .inr ⟨_, _, _, _, _, _, rfl, mD, by omega, by omega, by omega, by omega, by omega⟩⟩
              · exact wpS_pure ⟨s3.gal _, _, _, _, _, _, _, rfl, mD, by omega, by omega, by omega, by omega, by omega⟩
          · rw [if_neg p0]
            obtain rfl : p = na := by omega
            refine wpS_bind (wpS_elem ex ?_)
            have mB := MH.pushB m hb (by omega) (by omega) z4 ex lo'
            by_cases d2 : nb - 1 = 1
            · rw [if_pos (by simpa using d2)]
              exact wpS_pure ⟨s3.gal _, .inl ⟨_, _, rfl, goodH_first mB ha hb (by omega) (by omega) d2 hf⟩⟩
            rw [if_neg (by simpa using d2)]
            obtain ⟨y, ey, sy⟩ := getA (p - 1) (by omega)
            refine wpS_bind (wpS_elem ey ?_)
            refine wpS_bind (wpS_gal C (s3.gal _).fine sy hSb (by omega) (by omega) (by rw [z0]; exact hb.sublist (List.take_sublist _ _)) fun q hq lo2 hi2 => ?_)
            rw [z0] at lo2 hi2
            simp only [if_true] at lo2 hi2
            have mC := MH.blkB mB hb hq (by omega) (by omega) fun v hv => all_le C ha (by omega) ey (hi2 v hv)
            have lo2' : ∀ v ∈ b.toList.take q, Le lt k v y := fun v hv => le_of_lt C (lo2 v (by rw [List.take_take, show min q (nb - 1) = q by omega]; exact hv))
            dsimp only
            by_cases q0 : nb - 1 - q > 0
            · rw [if_pos q0]
              by_cases d3 : q = 1
              · rw [if_pos (by simpa using d3)]
                exact wpS_pure ⟨s3.gal _, .inl ⟨_, _, rfl, goodH_first mC ha hb (by omega) (by omega) d3 hf⟩⟩
              rw [if_neg (by simpa using d3)]
              by_cases d4 : q = 0
              · rw [if_pos (by simpa using d4)]
                exact wpS_pure ⟨s3.gal _, .inl ⟨_, _, rfl, goodH_done mC ha hb (by omega) (by omega) (.inr d4)⟩⟩
              rw [if_neg (by simpa using d4)]
              refine wpS_bind (wpS_elem ey ?_)
              have mD := MH.pushA mC ha (by omega) (by omega) (by omega) ey lo2'
              by_cases d5 : p - 1 = 0
              · rw [if_pos (by simpa using d5)]
                exact wpS_pure ⟨s3.gal _, .inl ⟨_, _, rfl, goodH_done mD ha hb (by omega) (by omega) (.inl d5)⟩⟩
              rw [if_neg (by simpa using d5)]
              refine wpS_ite ?_ ?_
              · exact wpS_pure ⟨s3.gal _, .inr ⟨_, _, _, _, _, _, rfl, mD, by omega, by omega, by omega, by omega, by omega⟩⟩
              · exact wpS_pure ⟨s3.gal _, _, _, _, _, _, _, rfl, mD, by omega, by omega, by omega, by omega, by omega⟩
            · rw [if_neg q0]
              obtain rfl : q = nb - 1 := by omega
              refine wpS_bind (wpS_elem ey ?_)
              have mD := MH.pushA mB ha (by omega) (by omega) (by omega) ey lo2'
              by_cases d5 : p - 1 = 0
              · rw [if_pos (by simpa using d5)]
                exact wpS_pure ⟨s3.gal _, .inl ⟨_, _, rfl, goodH_done mD ha hb (by omega) (by omega) (.inl d5)⟩⟩
              rw [if_neg (by simpa using d5)]
              refine wpS_ite ?_ ?_
              · exact wpS_pure ⟨s3.gal _, .inr ⟨_, _, _, _, _, _, rfl, mD, by omega, by omega, by omega, by omega, by omega⟩⟩
              · exact wpS_pure ⟨s3.gal _, _, _, _, _, _, _, rfl, mD, by omega, by omega, by omega, by omega, by omega⟩
end
end Tim
set_option Elab.async false
set_option linter.all false
set_option maxRecDepth 100000
set_option maxHeartbeats 4000000
namespace Tim
open PySem PyProof.Rows
section
variable {κ : Type} {lt : κ → κ → Bool} {k : Keyed → κ} {S : Keyed → Prop} {kind : SortKind} {prog : Program} {w : World} {A : Around} {E : Value → Shared → Prop} {s : Shared}
def kx (k : Keyed → κ) (xs : Array Keyed) (i : Nat) : κ := k ((xs[i]?).getD (Value.none, Value.none))
theorem kx_congr {xs ys : Array Keyed} {i j : Nat} (h : xs[i]? = ys[j]?) : kx k xs i = kx k ys j := by unfold kx; rw [h]
theorem kx_bub {xs : Array Keyed} {src d : Nat} (hs : src < xs.size) (hd : d ≤ src) (i : Nat) : kx k (bubble xs src d) i = if i = src - d then kx k xs src else if src - d < i ∧ i ≤ src then kx k xs (i - 1) else kx k xs i := by
  have e := getElem?_bubble hs d hd i
  by_cases h1 : i = src - d
  · rw [if_pos h1] at e ⊢; exact kx_congr e
  · rw [if_neg h1] at e ⊢
    by_cases h2 : src - d < i ∧ i ≤ src
    · rw [if_pos h2] at e ⊢; exact kx_congr e
    · rw [if_neg h2] at e ⊢; exact kx_congr e
theorem kx_rev {xs : Array Keyed} {i j : Nat} (hj : j ≤ xs.size) (q : Nat) : kx k (mirror xs i j ((j - i) / 2)) q = if i ≤ q ∧ q < j then kx k xs (i + j - 1 - q) else kx k xs q := by
  have e := getElem?_mirror_all (i := i) hj q
  by_cases h1 : i ≤ q ∧ q < j
  · rw [if_pos h1] at e ⊢; exact kx_congr e
  · rw [if_neg h1] at e ⊢; exact kx_congr e
theorem kx_rev_eq {xs : Array Keyed} {i j : Nat} (hj : j ≤ xs.size) (he : ∀ q, i ≤ q → q < j → kx k xs q = kx k xs (j - 1)) (q : Nat) : kx k (mirror xs i j ((j - i) / 2)) q = kx k xs q := by
  rw [kx_rev hj]
  split
  · rename_i h
    rw [he (i + j - 1 - q) (by omega) (by omega), he q h.1 h.2]
  · rfl
def UpK (lt : κ → κ → Bool) (k : Keyed → κ) (xs : Array Keyed) (lo n : Nat) : Prop := ∀ i j, i ≤ j → j < n → lt (kx k xs (lo + j)) (kx k xs (lo + i)) = false
def DnK (lt : κ → κ → Bool) (k : Keyed → κ) (xs : Array Keyed) (lo n : Nat) : Prop := ∀ i j, i ≤ j → j < n → lt (kx k xs (lo + i)) (kx k xs (lo + j)) = false
structure StA (kind : SortKind) (lo n : Nat) (st st' : SortSt) : Prop where
  pd : pendingOf st' = pendingOf st
  fine : Fine kind st'
  perm : (arrOf st').Perm (arrOf st)
  out : ∀ i, i < lo ∨ lo + n ≤ i → (arrOf st')[i]? = (arrOf st)[i]?
theorem StA.refl {lo n : Nat} {st : SortSt} (F : Fine kind st) : StA kind lo n st st := ⟨rfl, F, Array.Perm.refl _, fun _ _ => rfl⟩
theorem StA.trans {lo n : Nat} {st st1 st2 : SortSt} (h1 : StA kind lo n st st1) (h2 : StA kind lo n st1 st2) : StA kind lo n st st2 := ⟨h2.pd.trans h1.pd, h2.fine, h2.perm.trans h1.perm, fun i hi => (h2.out i hi).trans (h1.out i hi)⟩
theorem StA.size {lo n : Nat} {st st' : SortSt} (h : StA kind lo n st st') : (arrOf st').size = (arrOf st).size := h.perm.size_eq
def AllS (S : Keyed → Prop) (st : SortSt) : Prop := ∀ x ∈ (arrOf st).toList, S x
theorem StA.all {lo n : Nat} {st st' : SortSt} (h : StA kind lo n st st') (hS : AllS S st) : AllS S st' := fun x hx => hS x ((Array.perm_iff_toList_perm.mp h.perm).mem_iff.mp hx)
theorem StA.set {lo n : Nat} {st : SortSt} {xs : Array Keyed} (F : Fine kind st) (hp : xs.Perm (arrOf st)) (ho : ∀ i, i < lo ∨ lo + n ≤ i → xs[i]? = (arrOf st)[i]?) : StA kind lo n st (setArr st xs) := ⟨rfl, ⟨F.kd, F.fl⟩, hp, ho⟩
theorem wpS_at {st : SortSt} {i j : Nat} {Q : Option Bool → SortSt → Prop} (C : Cmp lt k S kind prog w A s) (F : Fine kind st) (hS : AllS S st) (hi : i < (arrOf st).size) (hj : j < (arrOf st).size) (h : Q (some (lt (kx k (arrOf st) i) (kx k (arrOf st) j))) st) : wpS (model prog w) A E s (ltAt' i j) Q st := by
  have ei : (arrOf st).toList[i]? = some (arrOf st)[i] := by rw [Array.getElem?_toList, Array.getElem?_eq_getElem hi]
  have ej : (arrOf st).toList[j]? = some (arrOf st)[j] := by rw [Array.getElem?_toList, Array.getElem?_eq_getElem hj]
  have ki : kx k (arrOf st) i = k (arrOf st)[i] := by unfold kx; rw [Array.getElem?_eq_getElem hi]; rfl
  have kj : kx k (arrOf st) j = k (arrOf st)[j] := by unfold kx; rw [Array.getElem?_eq_getElem hj]; rfl
  rw [ki, kj] at h
  rw [ltAt'_eq]
  refine wpS_bind (wpS_get ?_)
  exact wpS_bind (wpS_elem ei (wpS_bind (wpS_elem ej (wpS_lt C F (hS _ (by simp)) (hS _ (by simp)) h))))
theorem wpS_binary {st : SortSt} {lo n ok : Nat} {Q : Bool → SortSt → Prop} (C : Cmp lt k S kind prog w A s) (F : Fine kind st) (hS : AllS S st) (hn : lo + n ≤ (arrOf st).size) (hok : ok ≤ n) (hs : UpK lt k (arrOf st) lo ok)
    (h : ∀ st', StA kind lo n st st' → UpK lt k (arrOf st') lo n → Q true st') : wpS (model prog w) A E s (binarySort' lo n ok) Q st := by
  have O := C.ord
  rw [binarySort'_eq]
  refine wpS_bind (wpS_mono (wpS_forRange (I := fun q c st' => c = (none, ()) ∧ StA kind lo n st st' ∧ UpK lt k (arrOf st') lo (min q n))
    (Q := fun c st' => c = (none, ()) ∧ StA kind lo n st st' ∧ UpK lt k (arrOf st') lo n) ?step ?fin ?init) ?post)
  case post =>
    rintro c st' ⟨rfl, hB', hs'⟩
    exact wpS_pure (h st' hB' hs')
  case init =>
    refine ⟨rfl, .refl F, fun i j hij hj => ?_⟩
    by_cases h1 : ok = 0
    · have : i = j := by omega
      subst this; exact O.rf _
    · exact hs i j hij (by omega)
  case fin =>
    rintro c st' ⟨hc, hB', hs'⟩
    refine ⟨hc, hB', ?_⟩
    rwa [show min (max (max ok 1) n) n = n by omega] at hs'
  case step =>
    rintro q c st' hak hkn ⟨rfl, hB', hs'⟩
    rw [show min q n = q by omega] at hs'
    have hsz := hB'.size
    have hS' := hB'.all hS
    refine wpS_bind (wpS_mono (wpS_forRange (I := fun x c st'' => st'' = st' ∧ ∃ l r, c = (none, l, r) ∧ l ≤ r ∧ r ≤ q ∧ r - l ≤ q - x ∧
        (∀ i, i < l → lt (kx k (arrOf st') (lo + q)) (kx k (arrOf st') (lo + i)) = false) ∧ (∀ i, r ≤ i → i < q → lt (kx k (arrOf st') (lo + q)) (kx k (arrOf st') (lo + i)) = true))
      (Q := fun c st'' => st'' = st' ∧ ∃ l r, c = (none, l, r) ∧ l ≤ q ∧
        (∀ i, i < l → lt (kx k (arrOf st') (lo + q)) (kx k (arrOf st') (lo + i)) = false) ∧ (∀ i, l ≤ i → i < q → lt (kx k (arrOf st') (lo + q)) (kx k (arrOf st') (lo + i)) = true)) ?istep ?ifin ?iinit) ?ipost)
    case iinit => exact ⟨rfl, 0, q, rfl, by omega, by omega, by omega, fun i hi => by omega, fun i h1 h2 => by omega⟩
    case ifin =>
      rintro c st'' ⟨rfl, l, r, rfl, hlr, hrk, hm, hlo, hhi⟩
      have : l = r := by omega
      subst this
      exact ⟨rfl, l, l, rfl, hrk, hlo, hhi⟩
    case istep =>
      rintro x c st'' _ hxk ⟨rfl, l, r, rfl, hlr, hrk, hm, hlo, hhi⟩
      dsimp only
      by_cases hge : l ≥ r
      · rw [if_pos hge]
        have : l = r := by omega
        subst this
        exact wpS_pure ⟨rfl, l, l, rfl, hrk, hlo, hhi⟩
      · rw [if_neg hge]
        refine wpS_bind (wpS_at C hB'.fine hS' (by omega) (by omega) ?_)
        cases hless : lt (kx k (arrOf st'') (lo + q)) (kx k (arrOf st'') (lo + (l + r) / 2))
        case true =>
          simp only [if_true]
          refine wpS_pure ⟨rfl, l, (l + r) / 2, rfl, by omega, by omega, by omega, hlo, fun i h1 h2 => ?_⟩
          exact O.lt_le hless (hs' _ _ h1 h2)
        case false =>
          simp only [Bool.false_eq_true, if_false]
          refine wpS_pure ⟨rfl, (l + r) / 2 + 1, r, rfl, by omega, by omega, by omega, fun i h1 => ?_, hhi⟩
          exact O.tr _ _ _ (hs' i ((l + r) / 2) (by omega) (by omega)) hless
    case ipost =>
      rintro c st'' ⟨rfl, l, r, rfl, hlk, hlo, hhi⟩
      show wpS _ _ _ _ (do moveDown' (lo + q) (lo + l); pure (ForInStep.yield (none, ()))) _ _
      rw [moveDown'_eq]
      have hks : lo + q < (arrOf st'').size := by omega
      have hb := fun i => getElem?_bubble hks (lo + q - (lo + l)) (by omega) i
      refine wpS_bind (wpS_modify (wpS_pure ⟨rfl, hB'.trans (.set hB'.fine (bubble_perm _ _ _) fun i hi => ?_), ?_⟩))
      · rw [hb i, if_neg (by omega), if_neg (by omega)]
      rw [show min (q + 1) n = q + 1 by omega]
      intro i j hij hj
      show lt (kx k (bubble (arrOf st'') (lo + q) (lo + q - (lo + l))) (lo + j)) (kx k (bubble (arrOf st'') (lo + q) (lo + q - (lo + l))) (lo + i)) = false
      rw [kx_bub hks (by omega), kx_bub hks (by omega), show lo + q - (lo + q - (lo + l)) = lo + l by omega]
      by_cases j1 : j = l
      · rw [if_pos (by omega)]
        by_cases i1 : i = l
        · rw [if_pos (by omega)]; exact O.rf _
        · rw [if_neg (by omega), if_neg (by omega)]; exact hlo i (by omega)
      · rw [if_neg (by omega)]
        by_cases j2 : l < j
        · rw [if_pos (by omega), show lo + j - 1 = lo + (j - 1) by omega]
          by_cases i1 : i = l
          · rw [if_pos (by omega)]; exact O.as _ _ (hhi (j - 1) (by omega) (by omega))
          · rw [if_neg (by omega)]
            by_cases i2 : l < i
            · rw [if_pos (by omega), show lo + i - 1 = lo + (i - 1) by omega]; exact hs' _ _ (by omega) (by omega)
            · rw [if_neg (by omega)]; exact hs' _ _ (by omega) (by omega)
        · rw [if_neg (by omega), if_neg (by omega), if_neg (by omega)]; exact hs' _ _ (by omega) (by omega)
theorem wpS_asc {st : SortSt} {lo x0 nrem : Nat} {Q : Option (Option Nat) × Nat → SortSt → Prop} (C : Cmp lt k S kind prog w A s) (F : Fine kind st) (hS : AllS S st) (hn : lo + nrem ≤ (arrOf st).size) (h0 : 1 ≤ x0) (h1 : x0 ≤ nrem) (hu : UpK lt k (arrOf st) lo x0)
    (h : ∀ n, x0 ≤ n → n ≤ nrem → UpK lt k (arrOf st) lo n → (n = nrem ∨ lt (kx k (arrOf st) (lo + n)) (kx k (arrOf st) (lo + n - 1)) = true) → Q (none, n) st) :
    wpS (model prog w) A E s (forIn [x0:nrem] ((none : Option (Option Nat)), x0) fun x (r : Option (Option Nat) × Nat) => do
      let __x ← ltAt' (lo + r.2) (lo + r.2 - 1)
      match __x with
      | some smaller => if smaller = true then pure (ForInStep.done (none, r.2)) else pure (ForInStep.yield (none, r.2 + 1))
      | x => pure (ForInStep.done (some none, r.2))) Q st := by
  have O := C.ord
  refine wpS_forRange (I := fun x c st' => st' = st ∧ c = (none, x) ∧ x0 ≤ x ∧ x ≤ nrem ∧ UpK lt k (arrOf st) lo x) ?step ?fin ⟨rfl, rfl, Nat.le_refl _, h1, hu⟩
  case fin =>
    rintro c st' ⟨rfl, rfl, a, b, u⟩
    rw [show max x0 nrem = nrem by omega] at u ⊢
    exact h nrem (by omega) (by omega) u (.inl rfl)
  case step =>
    rintro x c st' hx1 hx2 ⟨rfl, rfl, a, b, u⟩
    dsimp only
    refine wpS_bind (wpS_at C F hS (by omega) (by omega) ?_)
    cases e : lt (kx k (arrOf st') (lo + x)) (kx k (arrOf st') (lo + x - 1)) with
    | true =>
      dsimp only
      rw [if_pos rfl]
      exact wpS_pure (h x a b u (.inr e))
    | false =>
      dsimp only
      rw [if_neg (by decide)]
      refine wpS_pure ⟨rfl, rfl, by omega, by omega, fun i j hij hj => ?_⟩
      rcases Nat.lt_or_ge j x with z | z
      · exact u i j hij z
      · obtain rfl : j = x := by omega
        rcases Nat.lt_or_ge i j with y | y
        · rw [show lo + j - 1 = lo + (j - 1) by omega] at e
          exact O.tr _ _ _ (u i (j - 1) (by omega) (by omega)) e
        · obtain rfl : i = j := by omega
          exact O.rf _
end
end Tim
set_option Elab.async false
set_option linter.all false
set_option maxRecDepth 100000
set_option maxHeartbeats 4000000
namespace Tim
open PySem PyProof.Rows
section
variable {κ : Type} {lt : κ → κ → Bool} {k : Keyed → κ} {S : Keyed → Prop} {kind : SortKind} {prog : Program} {w : World} {A : Around} {E : Value → Shared → Prop} {s : Shared}
def descP (lo nrem n0 : Nat) : StateT SortSt Sem (Option Nat) := do
  rule "list.sort.descending-run"
  let mut n := n0 + 1
  let mut neq := 0
  for _ in [n:nrem] do
    let some smaller ← ltAt' (lo + n) (lo + n - 1) | return none
    if smaller then
      if neq > 0 then reverseSlice' (lo + n - (neq + 1)) (lo + n)
      neq := 0
    else
      let some larger ← ltAt' (lo + n - 1) (lo + n) | return none
      if larger then break
      neq := neq + 1
    n := n + 1
  if neq > 0 then reverseSlice' (lo + n - (neq + 1)) (lo + n)
  reverseSlice' lo (lo + n)
  for _ in [n:nrem] do
    let some smaller ← ltAt' (lo + n) (lo + n - 1) | return none
    if smaller then break
    n := n + 1
  return some n
def tail3 (lo nrem n0 : Nat) : StateT SortSt Sem (Option Nat) := do
  let mut n := n0
  reverseSlice' lo (lo + n)
  for _ in [n:nrem] do
    let some smaller ← ltAt' (lo + n) (lo + n - 1) | return none
    if smaller then break
    n := n + 1
  return some n
theorem StA.rev {lo n : Nat} {st : SortSt} {i j : Nat} (F : Fine kind st) (hi : lo ≤ i) (hj : j ≤ lo + n) (hz : lo + n ≤ (arrOf st).size) : StA kind lo n st (setArr st (mirror (arrOf st) i j ((j - i) / 2))) :=
  .set F (mirror_perm _ _ _ _) fun q hq => by rw [getElem?_mirror_all (i := i) (by omega) q, if_neg (by omega)]
theorem wpS_tail {st st0 : SortSt} {lo nrem n : Nat} {Q : Option Nat → SortSt → Prop} (C : Cmp lt k S kind prog w A s) (hst : StA kind lo nrem st0 st) (hS : AllS S st) (hn : lo + nrem ≤ (arrOf st).size) (h1 : 1 ≤ n) (h2 : n ≤ nrem) (hd : DnK lt k (arrOf st) lo n)
    (h : ∀ n st', StA kind lo nrem st0 st' → 1 ≤ n → n ≤ nrem → UpK lt k (arrOf st') lo n → Q (some n) st') :
    wpS (model prog w) A E s (tail3 lo nrem n) Q st := by
  unfold tail3
  dsimp only
  rw [reverseSlice'_eq]
  refine wpS_bind (wpS_modify ?_)
  have hr := StA.rev (lo := lo) (i := lo) (j := lo + n) (n := nrem) hst.fine (Nat.le_refl _) (by omega) hn
  have hst2 := hst.trans hr
  have hsz := hr.size
  refine wpS_bind (wpS_asc C hst2.fine (hr.all hS) (by omega) h1 h2 (fun i j hij hj => ?_) fun m a b c _ => ?_)
  · show lt (kx k (mirror (arrOf st) lo (lo + n) ((lo + n - lo) / 2)) (lo + j)) (kx k (mirror (arrOf st) lo (lo + n) ((lo + n - lo) / 2)) (lo + i)) = false
    rw [kx_rev (by omega), kx_rev (by omega), if_pos (by omega), if_pos (by omega), show lo + (lo + n) - 1 - (lo + j) = lo + (n - 1 - j) by omega, show lo + (lo + n) - 1 - (lo + i) = lo + (n - 1 - i) by omega]
    exact hd _ _ (by omega) (by omega)
  · exact wpS_pure (h m _ hst2 (by omega) b c)
theorem wpS_descP {st st0 : SortSt} {lo nrem n0 : Nat} {Q : Option Nat → SortSt → Prop} (C : Cmp lt k S kind prog w A s) (hst : StA kind lo nrem st0 st) (hS : AllS S st) (hn : lo + nrem ≤ (arrOf st).size) (h2 : n0 + 1 ≤ nrem) (hd : DnK lt k (arrOf st) lo (n0 + 1))
    (h : ∀ n st', StA kind lo nrem st0 st' → 1 ≤ n → n ≤ nrem → UpK lt k (arrOf st') lo n → Q (some n) st') : wpS (model prog w) A E s (descP lo nrem n0) Q st := by
  have O := C.ord
  unfold descP
  refine wpS_bind (wpS_lift (wpAny_rule ⟨rfl, ?_⟩))
  dsimp only
  refine wpS_bind (wpS_mono (wpS_forRange (I := fun x c st' => StA kind lo nrem st0 st' ∧ AllS S st' ∧ (arrOf st').size = (arrOf st).size ∧ ∃ n neq, c = (none, n, neq) ∧ n = x ∧ n0 + 1 ≤ n ∧ n ≤ nrem ∧ DnK lt k (arrOf st') lo n ∧ neq + 1 ≤ n ∧ ∀ i, n - (neq + 1) ≤ i → i < n → kx k (arrOf st') (lo + i) = kx k (arrOf st') (lo + n - 1))
    (Q := fun c st' => StA kind lo nrem st0 st' ∧ AllS S st' ∧ (arrOf st').size = (arrOf st).size ∧ ∃ n neq, c = (none, n, neq) ∧ n0 + 1 ≤ n ∧ n ≤ nrem ∧ DnK lt k (arrOf st') lo n ∧ neq + 1 ≤ n ∧ ∀ i, n - (neq + 1) ≤ i → i < n → kx k (arrOf st') (lo + i) = kx k (arrOf st') (lo + n - 1)) ?step ?fin ?init) ?post)
  case init => exact ⟨hst, hS, rfl, _, _, rfl, rfl, Nat.le_refl _, h2, hd, by omega, fun i a b => by congr 1; omega⟩
  case fin =>
    rintro c st' ⟨a1, a2, a3, n, neq, rfl, e, b1, b2, b3, b4, b5⟩
    exact ⟨a1, a2, a3, n, neq, rfl, b1, b2, b3, b4, b5⟩
  case step =>
    rintro x c st' hx1 hx2 ⟨a1, a2, a3, n, neq, rfl, rfl, b1, b2, b3, b4, b5⟩
    have more : ∀ xs : Array Keyed, (∀ q, kx k xs q = kx k (arrOf st') q) → lt (kx k (arrOf st') (lo + n)) (kx k (arrOf st') (lo + n - 1)) = true → DnK lt k xs lo (n + 1) := fun xs hk e i j hij hj => by
      rw [hk, hk]
      rcases Nat.lt_or_ge j n with z | z
      · exact b3 i j hij z
      · obtain rfl : j = n := by omega
        rcases Nat.lt_or_ge i j with y | y
        · rw [show lo + j - 1 = lo + (j - 1) by omega] at e
          exact O.tr (kx k (arrOf st') (lo + j)) (kx k (arrOf st') (lo + (j - 1))) (kx k (arrOf st') (lo + i)) (O.as _ _ e) (b3 i (j - 1) (by omega) (by omega))
        · obtain rfl : i = j := by omega
          exact O.rf _
    dsimp only
    refine wpS_bind (wpS_at C a1.fine a2 (by omega) (by omega) ?_)
    cases e : lt (kx k (arrOf st') (lo + n)) (kx k (arrOf st') (lo + n - 1)) with
    | true =>
      dsimp only
      rw [if_pos rfl]
      by_cases q0 : neq > 0
      · rw [if_pos q0, reverseSlice'_eq]
        have hr := StA.rev (lo := lo) (i := lo + n - (neq + 1)) (j := lo + n) (n := nrem) a1.fine (by omega) (by omega) (by omega)
        have hk := kx_rev_eq (k := k) (xs := arrOf st') (i := lo + n - (neq + 1)) (j := lo + n) (by omega) fun q q1 q2 => by
          have := b5 (q - lo) (by omega) (by omega)
          rwa [show lo + (q - lo) = q by omega] at this
        refine wpS_bind (wpS_modify (wpS_pure ⟨a1.trans hr, hr.all a2, hr.size.trans a3, _, _, rfl, rfl, by omega, by omega, more _ hk e, by omega, fun i c d => by congr 1; omega⟩))
      · rw [if_neg q0]
        exact wpS_pure ⟨a1, a2, a3, _, _, rfl, rfl, by omega, by omega, more _ (fun _ => rfl) e, by omega, fun i c d => by congr 1; omega⟩
    | false =>
      dsimp only
      rw [if_neg (by decide)]
      refine wpS_bind (wpS_at C a1.fine a2 (by omega) (by omega) ?_)
      cases e' : lt (kx k (arrOf st') (lo + n - 1)) (kx k (arrOf st') (lo + n)) with
      | true =>
        dsimp only
        rw [if_pos rfl]
        exact wpS_pure ⟨a1, a2, a3, _, _, rfl, b1, b2, b3, b4, b5⟩
      | false =>
        dsimp only
        rw [if_neg (by decide)]
        have same : kx k (arrOf st') (lo + n) = kx k (arrOf st') (lo + n - 1) := O.an _ _ e e'
        refine wpS_pure ⟨a1, a2, a3, _, _, rfl, rfl, by omega, by omega, fun i j hij hj => ?_, by omega, fun i c d => ?_⟩
        · rcases Nat.lt_or_ge j n with z | z
          · exact b3 i j hij z
          · obtain rfl : j = n := by omega
            rcases Nat.lt_or_ge i j with y | y
            · rw [same, show lo + j - 1 = lo + (j - 1) by omega]; exact b3 i (j - 1) (by omega) (by omega)
            · obtain rfl : i = j := by omega
              exact O.rf _
        · rw [show lo + (n + 1) - 1 = lo + n by omega]
          rcases Nat.lt_or_ge i n with y | y
          · rw [same]; exact b5 i (by omega) y
          · obtain rfl : i = n := by omega
            rfl
  case post =>
    rintro c st' ⟨a1, a2, a3, n, neq, rfl, b1, b2, b3, b4, b5⟩
    dsimp only
    by_cases q0 : neq > 0
    · rw [if_pos q0, reverseSlice'_eq]
      have hr := StA.rev (lo := lo) (i := lo + n - (neq + 1)) (j := lo + n) (n := nrem) a1.fine (by omega) (by omega) (by omega)
      have hk := kx_rev_eq (k := k) (xs := arrOf st') (i := lo + n - (neq + 1)) (j := lo + n) (by omega) fun q q1 q2 => by
        have := b5 (q - lo) (by omega) (by omega)
        rwa [show lo + (q - lo) = q by omega] at this
      refine wpS_bind (wpS_modify ?_)
      have hsz := hr.size
      exact wpS_tail C (a1.trans hr) (hr.all a2) (by omega) (by omega) b2 (fun i j hij hj => by
        show lt (kx k (mirror (arrOf st') (lo + n - (neq + 1)) (lo + n) ((lo + n - (lo + n - (neq + 1))) / 2)) (lo + i)) (kx k (mirror (arrOf st') (lo + n - (neq + 1)) (lo + n) ((lo + n - (lo + n - (neq + 1))) / 2)) (lo + j)) = false
        rw [hk, hk]
        exact b3 i j hij hj) h
    · rw [if_neg q0]
      exact wpS_tail C a1 a2 (by omega) (by omega) b2 b3 h
theorem wpS_count {st : SortSt} {lo nrem : Nat} {Q : Option Nat → SortSt → Prop} (C : Cmp lt k S kind prog w A s) (F : Fine kind st) (hS : AllS S st) (hn : lo + nrem ≤ (arrOf st).size) (h1 : 1 ≤ nrem)
    (h : ∀ n st', StA kind lo nrem st st' → 1 ≤ n → n ≤ nrem → UpK lt k (arrOf st') lo n → Q (some n) st') : wpS (model prog w) A E s (countRun' lo nrem) Q st := by
  have O := C.ord
  rw [countRun'_eq]
  refine wpS_bind (wpS_asc C F hS hn (Nat.le_refl 1) h1 (fun i j hij hj => by obtain rfl : i = j := (by omega); exact O.rf _) fun n a b c d => ?_)
  dsimp only
  by_cases e1 : n = nrem
  · rw [if_pos (by simpa using e1)]
    exact wpS_pure (h n st (.refl F) a b c)
  rw [if_neg (by simpa using e1)]
  have hlt : lt (kx k (arrOf st) (lo + n)) (kx k (arrOf st) (lo + n - 1)) = true := d.resolve_left e1
  by_cases e2 : n > 1
  · rw [if_pos e2]
    refine wpS_bind (wpS_at C F hS (by omega) (by omega) ?_)
    cases e3 : lt (kx k (arrOf st) lo) (kx k (arrOf st) (lo + n - 1)) with
    | true =>
      dsimp only
      rw [if_pos rfl]
      exact wpS_pure (h n st (.refl F) a b c)
    | false =>
      dsimp only
      rw [if_neg (by decide), reverseSlice'_eq]
      refine wpS_bind (wpS_modify ?_)
      have hr := StA.rev (lo := lo) (i := lo) (j := lo + n) (n := nrem) F (Nat.le_refl _) (by omega) hn
      have all : ∀ q, lo ≤ q → q < lo + n → kx k (arrOf st) q = kx k (arrOf st) (lo + n - 1) := fun q q1 q2 => by
        have c0 := c 0 (q - lo) (Nat.zero_le _) (by omega)
        have c1 := c (q - lo) (n - 1) (by omega) (by omega)
        rw [show lo + (q - lo) = q by omega] at c0 c1
        rw [show lo + (n - 1) = lo + n - 1 by omega] at c1
        exact O.an _ _ (O.tr _ _ _ e3 c0) c1
      have hk := kx_rev_eq (k := k) (xs := arrOf st) (i := lo) (j := lo + n) (by omega) all
      have hsz := hr.size
      refine wpS_descP (n0 := n) C hr (hr.all hS) (by omega) (by omega) (fun i j hij hj => ?_) h
      show lt (kx k (mirror (arrOf st) lo (lo + n) ((lo + n - lo) / 2)) (lo + i)) (kx k (mirror (arrOf st) lo (lo + n) ((lo + n - lo) / 2)) (lo + j)) = false
      rw [hk, hk]
      rcases Nat.lt_or_ge j n with z | z
      · rw [all (lo + i) (by omega) (by omega), all (lo + j) (by omega) (by omega)]; exact O.rf _
      · obtain rfl : j = n := by omega
        rcases Nat.lt_or_ge i j with y | y
        · rw [all (lo + i) (by omega) (by omega)]; exact O.as _ _ hlt
        · obtain rfl : i = j := by omega
          exact O.rf _
  · rw [if_neg e2]
    obtain rfl : n = 1 := by omega
    refine wpS_descP (n0 := 1) C (.refl F) hS hn (by omega) (fun i j hij hj => ?_) h
    rcases Nat.lt_or_ge i j with y | y
    · obtain rfl : i = 0 := by omega
      obtain rfl : j = 1 := by omega
      exact O.as _ _ hlt
    · obtain rfl : i = j := by omega
      exact O.rf _
end
end Tim
set_option Elab.async false
set_option linter.all false
set_option maxRecDepth 100000
set_option maxHeartbeats 4000000
namespace Tim
open PySem PyProof.Rows
theorem mergeAt'_eq (i : Nat) : mergeAt' i = (do
  let s ← get
  let (some (sa, na, power), some (sb, nb, _)) := ((pendingOf s)[i]?, (pendingOf s)[i + 1]?) | unsupported "internal:list.sort.pending"
  set (setPending s (((pendingOf s).setIfInBounds i (sa, na + nb, power)).eraseIdxIfInBounds (i + 1)))
  let some k ← gallop' false (← elem' (arrOf s) sb) (arrOf s) sa na 0 | return false
  let (sa, na) := (sa + k, na - k)
  if na == 0 then return true
  let some nb ← gallop' true (← elem' (arrOf s) (sa + na - 1)) (arrOf s) sb nb (nb - 1) | return false
  if nb == 0 then return true
  let x := (arrOf s).extract sa sb
  let y := (arrOf s).extract sb (sb + nb)
  let merged ← if na ≤ nb then mergeLo' x y else mergeHi' x y
  modify fun s => setArr s (merged.toList.zipIdx.foldl (fun a (p, j) => a.setIfInBounds (sa + j) p) (arrOf s))
  return (failedOf (← get)).isNone) := rfl
theorem fold_set : ∀ (M : List Keyed) (xs : Array Keyed) (lo n : Nat), lo + n + M.length ≤ xs.size → ((M.zipIdx n).foldl (fun a (p, j) => a.setIfInBounds (lo + j) p) xs).toList = xs.toList.take (lo + n) ++ M ++ xs.toList.drop (lo + n + M.length)
  | [], xs, lo, n, h => by simp
  | p :: M, xs, lo, n, h => by
    rw [List.zipIdx_cons, List.foldl_cons]
    simp only [List.length_cons] at h ⊢
    have hs : (xs.setIfInBounds (lo + n) p).size = xs.size := by simp
    have := fold_set M (xs.setIfInBounds (lo + n) p) lo (n + 1) (by rw [hs]; omega)
    rw [this, Array.toList_setIfInBounds]
    have e1 : (xs.toList.set (lo + n) p).take (lo + (n + 1)) = xs.toList.take (lo + n) ++ [p] := by
      rw [show lo + (n + 1) = (lo + n) + 1 by omega, List.take_add_one, List.take_set_of_le (Nat.le_refl _), List.getElem?_set_self (by rw [Array.length_toList]; omega)]
      rfl
    have e2 : (xs.toList.set (lo + n) p).drop (lo + (n + 1) + M.length) = xs.toList.drop (lo + n + (M.length + 1)) := by
      rw [List.drop_set_of_lt (by omega), show lo + (n + 1) + M.length = lo + n + (M.length + 1) by omega]
    rw [e1, e2, List.append_assoc, List.append_assoc, List.append_assoc]
    rfl
section
variable {κ : Type} {lt : κ → κ → Bool} {k : Keyed → κ} {S : Keyed → Prop} {kind : SortKind} {prog : Program} {w : World} {A : Around} {E : Value → Shared → Prop} {s : Shared}
abbrev seg (L : List Keyed) (lo n : Nat) : List Keyed := (L.drop lo).take n
abbrev SegS (lt : κ → κ → Bool) (k : Keyed → κ) (L : List Keyed) (lo n : Nat) : Prop := (seg L lo n).Pairwise (Le lt k)
theorem wpS_set {st st' : SortSt} {Q : PUnit → SortSt → Prop} (h : Q ⟨⟩ st') : wpS (model prog w) A E s (set st' : StateT SortSt Sem PUnit) Q st := by
  unfold wpS
  rw [StateT.run_set]
  exact wpAny_pure ⟨rfl, h⟩
theorem seg_add (L : List Keyed) (lo m n : Nat) : seg L lo (m + n) = seg L lo m ++ seg L (lo + m) n := by
  unfold seg
  rw [List.take_add, List.drop_drop]
theorem seg_len {L : List Keyed} {lo n : Nat} (h : lo + n ≤ L.length) : (seg L lo n).length = n := by
  unfold seg
  rw [List.length_take, List.length_drop]
  omega
theorem seg_at {L : List Keyed} {lo n i : Nat} (h : i < n) : (seg L lo n)[i]? = L[lo + i]? := by
  unfold seg
  rw [List.getElem?_take_of_lt h, List.getElem?_drop]
theorem seg_split (L : List Keyed) (lo n : Nat) : L = L.take lo ++ seg L lo n ++ L.drop (lo + n) := by
  unfold seg
  rw [List.append_assoc, ← List.drop_drop, List.take_append_drop, List.take_append_drop]
theorem seg_congr {L L' : List Keyed} {lo n : Nat} (h : ∀ i, lo ≤ i → i < lo + n → L'[i]? = L[i]?) : seg L' lo n = seg L lo n := by
  apply List.ext_getElem?
  intro i
  by_cases hi : i < n
  · rw [seg_at hi, seg_at hi]; exact h _ (by omega) (by omega)
  · unfold seg
    rw [List.getElem?_take_eq_none (by omega), List.getElem?_take_eq_none (by omega)]
theorem upk_seg {xs : Array Keyed} {lo n : Nat} (h : lo + n ≤ xs.size) (u : UpK lt k xs lo n) : SegS lt k xs.toList lo n := by
  rw [SegS, List.pairwise_iff_getElem]
  intro i j hi hj hij
  have hl := seg_len (L := xs.toList) (lo := lo) (n := n) (by rw [Array.length_toList]; exact h)
  have val : ∀ i (hi : i < (seg xs.toList lo n).length), k (seg xs.toList lo n)[i] = kx k xs (lo + i) := fun i hi => by
    have e : (seg xs.toList lo n)[i]? = some (seg xs.toList lo n)[i] := List.getElem?_eq_getElem hi
    rw [seg_at (by omega), Array.getElem?_toList] at e
    unfold kx
    rw [e]; rfl
  unfold Le
  rw [val, val]
  exact u i j (by omega) (by omega)
structure Mrg (lt : κ → κ → Bool) (k : Keyed → κ) (kind : SortKind) (lo n : Nat) (st st' : SortSt) : Prop where
  fine : Fine kind st'
  perm : (arrOf st').toList.Perm (arrOf st).toList
  out : ∀ i, i < lo ∨ lo + n ≤ i → (arrOf st').toList[i]? = (arrOf st).toList[i]?
  srt : SegS lt k (arrOf st').toList lo n
theorem out_of {L M : List Keyed} {lo n : Nat} (hM : M.length = n) (h : lo + n ≤ L.length) (i : Nat) (hi : i < lo ∨ lo + n ≤ i) : (L.take lo ++ M ++ L.drop (lo + n))[i]? = L[i]? := by
  rcases hi with hi | hi
  · rw [List.append_assoc, List.getElem?_append_left (by rw [List.length_take]; omega), List.getElem?_take_of_lt hi]
  · rw [List.getElem?_append_right (by rw [List.length_append, List.length_take]; omega), List.getElem?_drop, List.length_append, List.length_take, hM]
    congr 1
    omega
theorem seg_of {L M : List Keyed} {lo n : Nat} (hM : M.length = n) (h : lo + n ≤ L.length) : seg (L.take lo ++ M ++ L.drop (lo + n)) lo n = M := by
  unfold seg
  rw [List.append_assoc, List.drop_left' (by rw [List.length_take]; omega), List.take_left' hM]
theorem pw_app3 {X Y Z : List Keyed} (h1 : X.Pairwise (Le lt k)) (h2 : Y.Pairwise (Le lt k)) (h3 : Z.Pairwise (Le lt k)) (h12 : ∀ x ∈ X, ∀ y ∈ Y, Le lt k x y) (h13 : ∀ x ∈ X, ∀ y ∈ Z, Le lt k x y) (h23 : ∀ x ∈ Y, ∀ y ∈ Z, Le lt k x y) : (X ++ Y ++ Z).Pairwise (Le lt k) :=
  List.pairwise_append.mpr ⟨List.pairwise_append.mpr ⟨h1, h2, h12⟩, h3, fun x hx y hy => (List.mem_append.mp hx).elim (fun q => h13 x q y hy) fun q => h23 x q y hy⟩
theorem wpS_mergeAt {st : SortSt} {i sa na sb nb pw pw2 : Nat} {Q : Bool → SortSt → Prop} (C : Cmp lt k S kind prog w A s) (F : Fine kind st) (hS : AllS S st) (e1 : (pendingOf st)[i]? = some (sa, na, pw)) (e2 : (pendingOf st)[i + 1]? = some (sb, nb, pw2)) (hb : sb = sa + na) (n1 : 1 ≤ na) (n2 : 1 ≤ nb) (hz : sb + nb ≤ (arrOf st).size)
    (hA : SegS lt k (arrOf st).toList sa na) (hB : SegS lt k (arrOf st).toList sb nb)
    (h : ∀ st', Mrg lt k kind sa (na + nb) st st' → pendingOf st' = ((pendingOf st).setIfInBounds i (sa, na + nb, pw)).eraseIdxIfInBounds (i + 1) → Q true st') : wpS (model prog w) A E s (mergeAt' i) Q st := by
  subst hb
  generalize hL : (arrOf st).toList = L at hA hB
  have hlen : L.length = (arrOf st).size := by rw [← hL, Array.length_toList]
  rw [mergeAt'_eq]
  refine wpS_bind (wpS_get ?_)
  rw [e1, e2]
  refine wpS_bind (wpS_set ?_)
  obtain ⟨b0, eb0⟩ : ∃ b0, L[sa + na]? = some b0 := ⟨_, List.getElem?_eq_getElem (by omega)⟩
  have memL : ∀ x ∈ L, S x := fun x hx => hS x (by rw [hL]; exact hx)
  have same : ∀ st', arrOf st' = arrOf st → Fine kind st' → SegS lt k L sa (na + nb) → Mrg lt k kind sa (na + nb) st st' := fun st' ea ff hs => ⟨ff, by rw [ea], fun _ _ => by rw [ea], by rw [ea, hL]; exact hs⟩
  have F2 : Fine kind (setPending st (((pendingOf st).setIfInBounds i (sa, na + nb, pw)).eraseIdxIfInBounds (i + 1))) := ⟨F.kd, F.fl⟩
  have hbB : (seg L (sa + na) nb)[0]? = some b0 := by rw [seg_at (by omega)]; simpa using eb0
  refine wpS_bind (wpS_elem (by rw [hL]; exact eb0) ?_)
  refine wpS_bind (wpS_gal C F2 (memL _ (List.mem_of_getElem? eb0)) hS (by omega) (by omega) (by rw [hL]; exact hA) fun p hp lo hi => ?_)
  rw [hL] at lo hi
  simp only [Bool.false_eq_true, if_false] at lo hi
  have loB : ∀ x ∈ (seg L sa na).take p, ∀ y ∈ seg L (sa + na) nb, Le lt k x y := fun x hx y hy => by
    have := le_all C hB hbB (lo x hx)
    exact this y (by simpa using hy)
  dsimp only
  by_cases c1 : na - p = 0
  · rw [if_pos (by simpa using c1)]
    refine wpS_pure (h _ (same _ rfl F2 ?_) rfl)
    have : p = na := by omega
    subst this
    rw [List.take_of_length_le (by rw [seg_len (by omega)]; exact Nat.le_refl _)] at loB
    rw [SegS, seg_add]
    exact List.pairwise_append.mpr ⟨hA, hB, loB⟩
  rw [if_neg (by simpa using c1)]
  obtain ⟨al, eal⟩ : ∃ al, L[sa + p + (na - p) - 1]? = some al := ⟨_, List.getElem?_eq_getElem (by omega)⟩
  have ealA : (seg L sa na)[na - 1]? = some al := by rw [seg_at (by omega), ← eal]; congr 1; omega
  refine wpS_bind (wpS_elem (by rw [hL]; exact eal) ?_)
  refine wpS_bind (wpS_gal C F2 (memL _ (List.mem_of_getElem? eal)) hS (by omega) (by omega) (by rw [hL]; exact hB) fun q hq lo2 hi2 => ?_)
  rw [hL] at lo2 hi2
  simp only [if_true] at lo2 hi2
  have allA : ∀ x ∈ seg L sa na, Le lt k x al := fun x hx => all_le C hA n1 ealA (C.ord.rf _) x (by rw [List.take_of_length_le (by rw [seg_len (by omega)]; exact Nat.le_refl _)]; exact hx)
  have hiA : ∀ x ∈ seg L sa na, ∀ y ∈ (seg L (sa + na) nb).drop q, Le lt k x y := fun x hx y hy => le_trans C (allA x hx) (hi2 y hy)
  dsimp only
  by_cases c2 : q = 0
  · rw [if_pos (by simpa using c2)]
    refine wpS_pure (h _ (same _ rfl F2 ?_) rfl)
    subst c2
    rw [SegS, seg_add]
    exact List.pairwise_append.mpr ⟨hA, hB, fun x hx y hy => hiA x hx y (by simpa using hy)⟩
  rw [if_neg (by simpa using c2)]
  have ex : ((arrOf st).extract (sa + p) (sa + na)).toList = (seg L sa na).drop p := by
    rw [ext_list, hL, List.drop_take, List.drop_drop]
    congr 1
    omega
  have ey : ((arrOf st).extract (sa + na) (sa + na + q)).toList = (seg L (sa + na) nb).take q := by
    rw [ext_list, hL, List.take_take, show sa + na + q - (sa + na) = q by omega, show min q nb = q by omega]
  have hx1 : ((arrOf st).extract (sa + p) (sa + na)).size = na - p := by rw [Array.size_extract]; omega
  have hy1 : ((arrOf st).extract (sa + na) (sa + na + q)).size = q := by rw [Array.size_extract]; omega
  have subA : ∀ x ∈ seg L sa na, S x := fun x hx => memL x (List.mem_of_mem_drop (List.mem_of_mem_take hx))
  have subB : ∀ x ∈ seg L (sa + na) nb, S x := fun x hx => memL x (List.mem_of_mem_drop (List.mem_of_mem_take hx))
  have sX : ((seg L sa na).drop p).Pairwise (Le lt k) := hA.sublist (List.drop_sublist _ _)
  have sY : ((seg L (sa + na) nb).take q).Pairwise (Le lt k) := hB.sublist (List.take_sublist _ _)
  have y0 : ∀ v, ((seg L (sa + na) nb).take q)[0]? = some v → v = b0 := fun v hv => by
    rw [List.getElem?_take_of_lt (by omega), hbB] at hv
    exact (Option.some.inj hv).symm
  have xl : ∀ v, ((seg L sa na).drop p)[na - p - 1]? = some v → v = al := fun v hv => by
    rw [List.getElem?_drop, show p + (na - p - 1) = na - 1 by omega, ealA] at hv
    exact (Option.some.inj hv).symm
  have fin : ∀ (r : Array Keyed) (st' : SortSt), St0 kind (setPending st (((pendingOf st).setIfInBounds i (sa, na + nb, pw)).eraseIdxIfInBounds (i + 1))) st' → Good lt k ((arrOf st).extract (sa + p) (sa + na)) ((arrOf st).extract (sa + na) (sa + na + q)) r →
      wpS (model prog w) A E s (do
        modify fun s => setArr s (r.toList.zipIdx.foldl (fun a (x : Keyed × Nat) => a.setIfInBounds (sa + p + x.2) x.1) (arrOf s))
        let __s ← get
        pure (failedOf __s).isNone) Q st' := by
    rintro r st' s0 ⟨g1, g2⟩
    rw [ex, ey] at g1
    have rl : r.toList.length = na - p + q := by
      rw [g1.length_eq]
      simp only [seg, List.length_append, List.length_drop, List.length_take]
      omega
    have ea : arrOf st' = arrOf st := s0.ar
    have fs := fold_set r.toList (arrOf st') (sa + p) 0 (by rw [ea]; omega)
    refine wpS_bind (wpS_modify ?_)
    refine wpS_bind (wpS_get ?_)
    have efail : (failedOf (setArr st' (r.toList.zipIdx.foldl (fun a (x : Keyed × Nat) => a.setIfInBounds (sa + p + x.2) x.1) (arrOf st')))).isNone = true := by
      show (failedOf st').isNone = true
      rw [s0.fine.fl]; rfl
    rw [efail]
    have eL : (r.toList.zipIdx.foldl (fun a (x : Keyed × Nat) => a.setIfInBounds (sa + p + x.2) x.1) (arrOf st')).toList = L.take sa ++ ((seg L sa na).take p ++ r.toList ++ (seg L (sa + na) nb).drop q) ++ L.drop (sa + (na + nb)) := by
      refine fs.trans ?_
      rw [ea, hL, rl, Nat.add_zero]
      have t1 : L.take (sa + p) = L.take sa ++ (seg L sa na).take p := by
        rw [List.take_add, List.take_take, show min p na = p by omega]
      have t2 : L.drop (sa + p + (na - p + q)) = (seg L (sa + na) nb).drop q ++ L.drop (sa + (na + nb)) := by
        rw [show sa + p + (na - p + q) = (sa + na) + q by omega, ← List.drop_drop]
        conv => lhs; rw [← List.take_append_drop nb (L.drop (sa + na))]
        rw [List.drop_append_of_le_length (by rw [List.length_take, List.length_drop]; omega), List.drop_drop, show sa + na + nb = sa + (na + nb) by omega]
      rw [t1, t2]
      simp only [List.append_assoc]
    have Ml : ((seg L sa na).take p ++ r.toList ++ (seg L (sa + na) nb).drop q).length = na + nb := by
      rw [List.length_append, List.length_append, rl]
      simp only [seg, List.length_drop, List.length_take]
      omega
    have perm1 : ((seg L sa na).take p ++ r.toList ++ (seg L (sa + na) nb).drop q).Perm (seg L sa (na + nb)) := by
      rw [seg_add]
      have : ((seg L sa na).take p ++ r.toList ++ (seg L (sa + na) nb).drop q).Perm ((seg L sa na).take p ++ ((seg L sa na).drop p ++ (seg L (sa + na) nb).take q) ++ (seg L (sa + na) nb).drop q) := (List.Perm.append_left _ g1).append_right _
      refine this.trans (List.Perm.of_eq ?_)
      rw [← List.append_assoc, List.take_append_drop, List.append_assoc, List.take_append_drop]
    refine wpS_pure (h _ ⟨⟨s0.fine.kd, s0.fine.fl⟩, ?_, ?_, ?_⟩ ?_)
    · show (r.toList.zipIdx.foldl _ (arrOf st')).toList.Perm _
      rw [eL, hL]
      conv => rhs; rw [seg_split L sa (na + nb)]
      exact (List.Perm.append_left _ perm1).append_right _
    · intro j hj
      show (r.toList.zipIdx.foldl _ (arrOf st')).toList[j]? = _
      rw [eL, hL]
      exact out_of Ml (by omega) j hj
    · show SegS lt k (r.toList.zipIdx.foldl _ (arrOf st')).toList sa (na + nb)
      rw [SegS, eL, seg_of Ml (by omega)]
      have mem : ∀ y ∈ r.toList, y ∈ (seg L sa na).drop p ∨ y ∈ (seg L (sa + na) nb).take q := fun y hy => List.mem_append.mp (g1.mem_iff.mp hy)
      have spl : ((seg L sa na).take p ++ (seg L sa na).drop p).Pairwise (Le lt k) := by rw [List.take_append_drop]; exact hA
      have splB : ((seg L (sa + na) nb).take q ++ (seg L (sa + na) nb).drop q).Pairwise (Le lt k) := by rw [List.take_append_drop]; exact hB
      refine pw_app3 (hA.sublist (List.take_sublist _ _)) g2 (hB.sublist (List.drop_sublist _ _)) (fun x hx y hy => ?_) (fun x hx y hy => hiA x (List.mem_of_mem_take hx) y hy) (fun x hx y hy => ?_)
      · rcases mem y hy with z | z
        · exact (List.pairwise_append.mp spl).2.2 x hx y z
        · exact loB x hx y (List.mem_of_mem_take z)
      · rcases mem x hx with z | z
        · exact hiA x (List.mem_of_mem_drop z) y hy
        · exact (List.pairwise_append.mp splB).2.2 x z y hy
    · exact s0.pd
  have hl' : ∀ x ∈ ((arrOf st).extract (sa + na) (sa + na + q)).toList, ∀ y, ((arrOf st).extract (sa + p) (sa + na)).toList[((arrOf st).extract (sa + p) (sa + na)).size - 1]? = some y → Le lt k x y := fun x hx y hy => by
    rw [ey] at hx
    rw [ex, hx1] at hy
    rw [xl y hy]
    exact le_of_lt C (lo2 x hx)
  have hf' : ∀ x, ((arrOf st).extract (sa + na) (sa + na + q)).toList[0]? = some x → ∀ y ∈ ((arrOf st).extract (sa + p) (sa + na)).toList, Le lt k x y := fun x hx y hy => by
    rw [ey] at hx
    rw [ex] at hy
    rw [y0 x hx]
    exact le_of_lt C (hi y hy)
  have hSx : ∀ x ∈ ((arrOf st).extract (sa + p) (sa + na)).toList, S x := fun x hx => subA x (by rw [ex] at hx; exact List.mem_of_mem_drop hx)
  have hSy : ∀ x ∈ ((arrOf st).extract (sa + na) (sa + na + q)).toList, S x := fun x hx => subB x (by rw [ey] at hx; exact List.mem_of_mem_take hx)
  by_cases c3 : na - p ≤ q
  · rw [if_pos c3]
    exact wpS_bind (wpS_mergeLo C F2 hSx hSy (by rw [ex]; exact sX) (by rw [ey]; exact sY) (by omega) (by omega) (fun x y hx hy => hf' x hx y (List.mem_of_getElem? hy)) hl' fin)
  · rw [if_neg c3]
    exact wpS_bind (wpS_mergeHi C F2 hSx hSy (by rw [ex]; exact sX) (by rw [ey]; exact sY) (by omega) (by omega) hf' hl' fin)
end
end Tim
set_option Elab.async false
set_option linter.all false
set_option maxRecDepth 100000
set_option maxHeartbeats 4000000
namespace Tim
open PySem PyProof.Rows
section
variable {κ : Type} {lt : κ → κ → Bool} {k : Keyed → κ} {S : Keyed → Prop} {kind : SortKind} {prog : Program} {w : World} {A : Around} {E : Value → Shared → Prop} {s : Shared}
def Runs (lt : κ → κ → Bool) (k : Keyed → κ) (L : List Keyed) : List (Nat × Nat × Nat) → Nat → Nat → Prop
  | [], f, t => f = t
  | (s, n, _) :: r, f, t => s = f ∧ 1 ≤ n ∧ SegS lt k L f n ∧ Runs lt k L r (f + n) t
theorem runs_app {L : List Keyed} : ∀ {p q : List (Nat × Nat × Nat)} {f t : Nat}, Runs lt k L (p ++ q) f t ↔ ∃ m, Runs lt k L p f m ∧ Runs lt k L q m t
  | [], q, f, t => ⟨fun h => ⟨f, rfl, h⟩, fun ⟨m, e, h⟩ => by cases e; exact h⟩
  | (s, n, x) :: p, q, f, t => by
    constructor
    · rintro ⟨a, b, c, d⟩
      obtain ⟨m, h1, h2⟩ := runs_app.mp d
      exact ⟨m, ⟨a, b, c, h1⟩, h2⟩
    · rintro ⟨m, ⟨a, b, c, d⟩, h2⟩
      exact ⟨a, b, c, runs_app.mpr ⟨m, d, h2⟩⟩
theorem runs_len {L : List Keyed} : ∀ {p : List (Nat × Nat × Nat)} {f t : Nat}, Runs lt k L p f t → f + p.length ≤ t
  | [], f, t, h => by cases h; simp
  | (s, n, x) :: p, f, t, ⟨_, b, _, d⟩ => by
    have := runs_len d
    simp only [List.length_cons]
    omega
theorem runs_frame {L L' : List Keyed} : ∀ {p : List (Nat × Nat × Nat)} {f t : Nat}, (∀ i, f ≤ i → i < t → L'[i]? = L[i]?) → Runs lt k L p f t → Runs lt k L' p f t
  | [], f, t, _, h => h
  | (s, n, x) :: p, f, t, hh, ⟨a, b, c, d⟩ => by
    have hl := runs_len d
    refine ⟨a, b, ?_, runs_frame (fun i h1 h2 => hh i (by omega) h2) d⟩
    rw [SegS, seg_congr fun i h1 h2 => hh i h1 (by omega)]
    exact c
theorem runs_pi {L : List Keyed} : ∀ {p q : List (Nat × Nat × Nat)} {f t : Nat}, p.map (fun x => (x.1, x.2.1)) = q.map (fun x => (x.1, x.2.1)) → Runs lt k L p f t → Runs lt k L q f t
  | [], [], f, t, _, h => h
  | [], _ :: _, f, t, e, h => by simp at e
  | _ :: _, [], f, t, e, h => by simp at e
  | (s, n, x) :: p, (s', n', x') :: q, f, t, e, ⟨a, b, c, d⟩ => by
    simp only [List.map_cons, List.cons.injEq, Prod.mk.injEq] at e
    obtain ⟨⟨rfl, rfl⟩, e⟩ := e
    exact ⟨a, b, c, runs_pi e d⟩
theorem split2 {ps : Array (Nat × Nat × Nat)} {i : Nat} (h : i + 1 < ps.size) : ∃ pre post sa na pw sb nb pw2, ps.toList = pre ++ (sa, na, pw) :: (sb, nb, pw2) :: post ∧ pre.length = i ∧ ps[i]? = some (sa, na, pw) ∧ ps[i + 1]? = some (sb, nb, pw2) ∧
    ∀ x, ((ps.setIfInBounds i x).eraseIdxIfInBounds (i + 1)).toList = pre ++ x :: post := by
  have hl : ps.toList.length = ps.size := Array.length_toList
  refine ⟨ps.toList.take i, ps.toList.drop (i + 2), ps[i].1, ps[i].2.1, ps[i].2.2, ps[i + 1].1, ps[i + 1].2.1, ps[i + 1].2.2, ?_, by rw [List.length_take]; omega, Array.getElem?_eq_getElem (by omega), Array.getElem?_eq_getElem (by omega), fun x => ?_⟩
  · conv => lhs; rw [← List.take_append_drop i ps.toList]
    rw [List.drop_eq_getElem_cons (by omega), List.drop_eq_getElem_cons (by omega)]
    simp
  · rw [Array.eraseIdxIfInBounds]
    rw [dif_pos (by simp; omega), Array.toList_eraseIdx, Array.toList_setIfInBounds, List.eraseIdx_eq_take_drop_succ]
    rw [List.take_add_one, List.take_set_of_le (Nat.le_refl _), List.getElem?_set_self (by omega), List.drop_set_of_lt (by omega)]
    simp
structure SInv (S : Keyed → Prop) (kind : SortKind) (a₀ : Array Keyed) (st : SortSt) : Prop where
  fine : Fine kind st
  perm : (arrOf st).toList.Perm a₀.toList
  all : AllS S st
theorem SInv.size {a₀ : Array Keyed} {st : SortSt} (h : SInv S kind a₀ st) : (arrOf st).size = a₀.size := by have := h.perm.length_eq; simpa using this
theorem wpS_mergeRuns {a₀ : Array Keyed} {st : SortSt} {i t : Nat} {Q : Bool → SortSt → Prop} (C : Cmp lt k S kind prog w A s) (I : SInv S kind a₀ st) (hi : i + 1 < (pendingOf st).size) (ht : t ≤ a₀.size) (hR : Runs lt k (arrOf st).toList (pendingOf st).toList 0 t)
    (h : ∀ st', SInv S kind a₀ st' → Runs lt k (arrOf st').toList (pendingOf st').toList 0 t → (pendingOf st').size + 1 = (pendingOf st).size → (∀ j, t ≤ j → (arrOf st').toList[j]? = (arrOf st).toList[j]?) → Q true st') : wpS (model prog w) A E s (mergeAt' i) Q st := by
  obtain ⟨pre, post, sa, na, pw, sb, nb, pw2, e, el, e1, e2, en⟩ := split2 hi
  rw [e] at hR
  obtain ⟨m, r1, r2⟩ := runs_app.mp hR
  obtain ⟨rfl, b1, c1, rfl, b2, c2, d2⟩ := r2
  have hl := runs_len d2
  have hl0 := runs_len r1
  have hsz := I.size
  refine wpS_mergeAt C I.fine I.all e1 e2 rfl b1 b2 (by omega) c1 c2 fun st' M hp => ?_
  have hpl : (pendingOf st').toList = pre ++ (sa, na + nb, pw) :: post := by rw [hp]; exact en _
  refine h st' ⟨M.fine, M.perm.trans I.perm, fun x hx => I.all x (M.perm.mem_iff.mp hx)⟩ ?_ ?_ fun j hj => M.out j (.inr (by omega))
  · rw [hpl]
    refine runs_app.mpr ⟨sa, runs_frame (fun j h1 h2 => M.out j (.inl h2)) r1, rfl, by omega, M.srt, ?_⟩
    rw [show sa + (na + nb) = sa + na + nb by omega]
    exact runs_frame (fun j h1 h2 => M.out j (.inr (by omega))) d2
  · have h1 := congrArg List.length hpl
    have h2 := congrArg List.length e
    simp only [Array.length_toList, List.length_append, List.length_cons] at h1 h2
    omega
theorem pow_pi (ps : Array (Nat × Nat × Nat)) (i pw : Nat) : (ps.modify i fun x => (x.1, x.2.1, pw)).toList.map (fun x => (x.1, x.2.1)) = ps.toList.map (fun x => (x.1, x.2.1)) := by
  apply List.ext_getElem?
  intro j
  rw [List.getElem?_map, List.getElem?_map, Array.getElem?_toList, Array.getElem?_toList, Array.getElem?_modify]
  split
  · cases ps[j]? with
    | none => rfl
    | some x => rfl
  · rfl
theorem wpS_sortRuns {a₀ : Array Keyed} {st : SortSt} {Q : Unit → SortSt → Prop} (C : Cmp lt k S kind prog w A s) (h2 : 2 ≤ a₀.size) (I : SInv S kind a₀ st) (hp0 : pendingOf st = #[])
    (h : ∀ st', SInv S kind a₀ st' → (arrOf st').toList.Pairwise (Le lt k) → Q () st') : wpS (model prog w) A E s sortRuns' Q st := by
  have hsz0 := I.size
  rw [sortRuns'_eq]
  refine wpS_bind (wpS_get ?_)
  dsimp only
  rw [hsz0]
  generalize minRun' a₀.size a₀.size 0 = minrun
  refine wpS_bind (wpS_mono (wpS_forRange (I := fun t c st' => SInv S kind a₀ st' ∧ ∃ lo, c = (none, lo) ∧ min t a₀.size ≤ lo ∧ lo ≤ a₀.size ∧ Runs lt k (arrOf st').toList (pendingOf st').toList 0 lo)
    (Q := fun c st' => SInv S kind a₀ st' ∧ c = (none, a₀.size) ∧ Runs lt k (arrOf st').toList (pendingOf st').toList 0 a₀.size) ?step ?fin ?init) ?post)
  case init => exact ⟨I, 0, rfl, by omega, by omega, by rw [hp0]; rfl⟩
  case fin =>
    rintro c st' ⟨I', lo, rfl, a, b, r⟩
    have : lo = a₀.size := by omega
    subst this
    exact ⟨I', rfl, r⟩
  case post =>
    rintro c st' ⟨I', rfl, r⟩
    dsimp only
    refine wpS_bind (wpS_mono (wpS_forRange (I := fun t c st' => SInv S kind a₀ st' ∧ c = (none, ()) ∧ (pendingOf st').size + t ≤ a₀.size ∧ Runs lt k (arrOf st').toList (pendingOf st').toList 0 a₀.size)
      (Q := fun c st' => SInv S kind a₀ st' ∧ c = (none, ()) ∧ (pendingOf st').size ≤ 1 ∧ Runs lt k (arrOf st').toList (pendingOf st').toList 0 a₀.size) ?step2 ?fin2 ?init2) ?post2)
    case init2 =>
      have := runs_len r
      simp only [Array.length_toList] at this
      exact ⟨I', rfl, by omega, r⟩
    case fin2 =>
      rintro c st2 ⟨I2, rfl, a, r⟩
      exact ⟨I2, rfl, by omega, r⟩
    case post2 =>
      rintro c st2 ⟨I2, rfl, a, r⟩
      refine wpS_pure (h st2 I2 ?_)
      have hs2 := I2.size
      have hl : (pendingOf st2).toList.length ≤ 1 := by rw [Array.length_toList]; exact a
      match hq : (pendingOf st2).toList, hl, r with
      | [], _, r => exact absurd (show 0 = a₀.size from r) (by omega)
      | [(x, n, y)], _, ⟨_, _, c, d⟩ =>
        have d : 0 + n = a₀.size := d
        have : seg (arrOf st2).toList 0 n = (arrOf st2).toList := List.take_of_length_le (by rw [List.length_drop, Array.length_toList]; omega)
        rw [SegS, this] at c
        exact c
      | _ :: _ :: _, hl, _ => simp at hl
    case step2 =>
      rintro t c st2 _ ht ⟨I2, rfl, a, r⟩
      refine wpS_bind (wpS_get ?_)
      by_cases c1 : (pendingOf st2).size ≤ 1
      · rw [if_pos c1]
        exact wpS_pure ⟨I2, rfl, c1, r⟩
      rw [if_neg c1]
      generalize hii : (if (if (pendingOf st2).size - 2 > 0 then Option.map (fun x => x.snd.fst) (pendingOf st2)[(pendingOf st2).size - 2 - 1]? else none).any (fun x => decide (x < ((pendingOf st2)[(pendingOf st2).size - 2 + 1]?).elim 0 fun x => x.snd.fst)) = true then (pendingOf st2).size - 2 - 1 else (pendingOf st2).size - 2) = ii
      have hi : ii + 1 < (pendingOf st2).size := by
        have key : ∀ (c : Prop) [Decidable c] (x : Nat), (if c then x - 1 else x) ≤ x := fun c _ x => by split <;> omega
        have h3 : ii ≤ (pendingOf st2).size - 2 := by rw [← hii]; exact key _ _
        omega
      refine wpS_bind (wpS_mergeRuns C I2 hi (Nat.le_refl _) r fun st3 I3 r3 p3 _ => ?_)
      simp only [Bool.not_true, Bool.false_eq_true, if_false]
      exact wpS_pure ⟨I3, rfl, by omega, r3⟩
  case step =>
    rintro t c st1 _ ht ⟨I1, lo, rfl, a, b, r⟩
    have hs1 := I1.size
    dsimp only
    by_cases c1 : lo ≥ a₀.size
    · rw [if_pos c1]
      have : lo = a₀.size := by omega
      subst this
      exact wpS_pure ⟨I1, rfl, r⟩
    rw [if_neg c1]
    refine wpS_bind (wpS_count C I1.fine I1.all (by omega) (by omega) fun n st2 s2 n1 n2 u2 => ?_)
    dsimp only
    have mk : ∀ {st3 : SortSt} (s3 : StA kind lo (a₀.size - lo) st1 st3), SInv S kind a₀ st3 ∧ Runs lt k (arrOf st3).toList (pendingOf st3).toList 0 lo := fun {st3} s3 => by
      refine ⟨⟨s3.fine, (Array.perm_iff_toList_perm.mp s3.perm).trans I1.perm, s3.all I1.all⟩, ?_⟩
      rw [s3.pd]
      exact runs_frame (fun j h1 h2 => by rw [Array.getElem?_toList, Array.getElem?_toList]; exact s3.out j (.inl h2)) r
    have more : ∀ (n : Nat) (st3 : SortSt), StA kind lo (a₀.size - lo) st1 st3 → 1 ≤ n → n ≤ a₀.size - lo → UpK lt k (arrOf st3) lo n → SInv S kind a₀ st3 ∧ Runs lt k (arrOf st3).toList (pendingOf st3).toList 0 lo ∧ SegS lt k (arrOf st3).toList lo n := fun n st3 s3 _ hn u => ⟨(mk s3).1, (mk s3).2, upk_seg (by rw [s3.size]; omega) u⟩
    have push : ∀ (n : Nat) (st3 : SortSt), SInv S kind a₀ st3 → 1 ≤ n → n ≤ a₀.size - lo → Runs lt k (arrOf st3).toList (pendingOf st3).toList 0 lo → SegS lt k (arrOf st3).toList lo n →
        SInv S kind a₀ (setPending st3 ((pendingOf st3).push (lo, n, 0))) ∧ ∃ lo', ((none : Option Unit), lo + n) = (none, lo') ∧ min (t + 1) a₀.size ≤ lo' ∧ lo' ≤ a₀.size ∧ Runs lt k (arrOf (setPending st3 ((pendingOf st3).push (lo, n, 0)))).toList (pendingOf (setPending st3 ((pendingOf st3).push (lo, n, 0)))).toList 0 lo' := fun n st3 I3 n1 n2 r3 g3 => by
      refine ⟨⟨⟨I3.fine.kd, I3.fine.fl⟩, I3.perm, I3.all⟩, lo + n, rfl, by omega, by omega, ?_⟩
      show Runs lt k (arrOf st3).toList ((pendingOf st3).push (lo, n, 0)).toList 0 (lo + n)
      rw [Array.toList_push]
      exact runs_app.mpr ⟨lo, r3, rfl, n1, g3, rfl⟩
    by_cases c2 : n < minrun
    · rw [if_pos c2]
      refine wpS_bind (wpS_lift (wpAny_rule ⟨rfl, ?_⟩))
      have hs2 := s2.size
      refine wpS_bind (wpS_binary C s2.fine (s2.all I1.all) (by omega) (by omega) u2 fun st3 s3 u3 => ?_)
      simp only [Bool.not_true, Bool.false_eq_true, if_false]
      have s3' : StA kind lo (a₀.size - lo) st2 st3 := ⟨s3.pd, s3.fine, s3.perm, fun j hj => s3.out j (hj.imp id fun z => by omega)⟩
      have n3 : 1 ≤ min (a₀.size - lo) minrun := by omega
      have n4 : min (a₀.size - lo) minrun ≤ a₀.size - lo := by omega
      obtain ⟨I3, r3, g3⟩ := more _ st3 (s2.trans s3') n3 n4 u3
      refine wpS_bind (wpS_get ?_)
      cases hb : (pendingOf st3).back? with
      | none =>
        dsimp only
        exact wpS_bind (wpS_modify (wpS_pure (push (min (a₀.size - lo) minrun) st3 I3 n3 n4 r3 g3)))
      | some x =>
        obtain ⟨s1, m1, x3⟩ := x
        dsimp only
        generalize power' a₀.size (2 * s1 + m1) (2 * s1 + m1 + m1 + min (a₀.size - lo) minrun) a₀.size = pw
        refine wpS_bind (wpS_mono (wpS_forRange (I := fun _ c st' => SInv S kind a₀ st' ∧ c = (none, ()) ∧ Runs lt k (arrOf st').toList (pendingOf st').toList 0 lo ∧ SegS lt k (arrOf st').toList lo (min (a₀.size - lo) minrun))
          (Q := fun c st' => SInv S kind a₀ st' ∧ c = (none, ()) ∧ Runs lt k (arrOf st').toList (pendingOf st').toList 0 lo ∧ SegS lt k (arrOf st').toList lo (min (a₀.size - lo) minrun)) ?istep ?ifin ?iinit) ?ipost)
        case iinit => exact ⟨I3, rfl, r3, g3⟩
        case ifin => exact fun _ _ q => q
        case istep =>
          rintro u c st4 _ hu ⟨I4, rfl, r4, g4⟩
          refine wpS_bind (wpS_get ?_)
          cases hq : (if (pendingOf st4).size > 1 then (pendingOf st4)[(pendingOf st4).size - 2]? else none) with
          | none =>
            dsimp only
            exact wpS_pure ⟨I4, rfl, r4, g4⟩
          | some x =>
            obtain ⟨y1, y2, older⟩ := x
            dsimp only
            have big : (pendingOf st4).size > 1 := by
              rcases Nat.lt_or_ge 1 (pendingOf st4).size with z | z
              · exact z
              · rw [if_neg (by omega)] at hq; cases hq
            by_cases c5 : older ≤ pw
            · rw [if_pos c5]
              exact wpS_pure ⟨I4, rfl, r4, g4⟩
            rw [if_neg c5]
            refine wpS_bind (wpS_mergeRuns C I4 (by omega) b r4 fun st5 I5 r5 _ out5 => ?_)
            simp only [Bool.not_true, Bool.false_eq_true, if_false]
            refine wpS_pure ⟨I5, rfl, r5, ?_⟩
            rw [SegS, seg_congr fun j h1 h2 => out5 j h1]
            exact g4
        case ipost =>
          rintro c st4 ⟨I4, rfl, r4, g4⟩
          dsimp only
          refine wpS_bind (wpS_modify ?_)
          refine wpS_bind (wpS_modify (wpS_pure (push (min (a₀.size - lo) minrun) (setPending st4 ((pendingOf st4).modify ((pendingOf st4).size - 1) fun x => (x.1, x.2.1, pw))) ⟨⟨I4.fine.kd, I4.fine.fl⟩, I4.perm, I4.all⟩ n3 n4 ?_ g4)))
          exact runs_pi (pow_pi _ _ _).symm r4
    · rw [if_neg c2]
      have n3 := n1
      have n4 := n2
      obtain ⟨I3, r3, g3⟩ := more _ st2 s2 n3 n4 u2
      refine wpS_bind (wpS_get ?_)
      cases hb : (pendingOf st2).back? with
      | none =>
        dsimp only
        exact wpS_bind (wpS_modify (wpS_pure (push n st2 I3 n3 n4 r3 g3)))
      | some x =>
        obtain ⟨s1, m1, x3⟩ := x
        dsimp only
        generalize power' a₀.size (2 * s1 + m1) (2 * s1 + m1 + m1 + n) a₀.size = pw
        refine wpS_bind (wpS_mono (wpS_forRange (I := fun _ c st' => SInv S kind a₀ st' ∧ c = (none, ()) ∧ Runs lt k (arrOf st').toList (pendingOf st').toList 0 lo ∧ SegS lt k (arrOf st').toList lo n)
          (Q := fun c st' => SInv S kind a₀ st' ∧ c = (none, ()) ∧ Runs lt k (arrOf st').toList (pendingOf st').toList 0 lo ∧ SegS lt k (arrOf st').toList lo n) ?istep ?ifin ?iinit) ?ipost)
        case iinit => exact ⟨I3, rfl, r3, g3⟩
        case ifin => exact fun _ _ q => q
        case istep =>
          rintro u c st4 _ hu ⟨I4, rfl, r4, g4⟩
          refine wpS_bind (wpS_get ?_)
          cases hq : (if (pendingOf st4).size > 1 then (pendingOf st4)[(pendingOf st4).size - 2]? else none) with
          | none =>
            dsimp only
            exact wpS_pure ⟨I4, rfl, r4, g4⟩
          | some x =>
            obtain ⟨y1, y2, older⟩ := x
            dsimp only
            have big : (pendingOf st4).size > 1 := by
              rcases Nat.lt_or_ge 1 (pendingOf st4).size with z | z
              · exact z
              · rw [if_neg (by omega)] at hq; cases hq
            by_cases c5 : older ≤ pw
            · rw [if_pos c5]
              exact wpS_pure ⟨I4, rfl, r4, g4⟩
            rw [if_neg c5]
            refine wpS_bind (wpS_mergeRuns C I4 (by omega) b r4 fun st5 I5 r5 _ out5 => ?_)
            simp only [Bool.not_true, Bool.false_eq_true, if_false]
            refine wpS_pure ⟨I5, rfl, r5, ?_⟩
            rw [SegS, seg_congr fun j h1 h2 => out5 j h1]
            exact g4
        case ipost =>
          rintro c st4 ⟨I4, rfl, r4, g4⟩
          dsimp only
          refine wpS_bind (wpS_modify ?_)
          refine wpS_bind (wpS_modify (wpS_pure (push n (setPending st4 ((pendingOf st4).modify ((pendingOf st4).size - 1) fun x => (x.1, x.2.1, pw))) ⟨⟨I4.fine.kd, I4.fine.fl⟩, I4.perm, I4.all⟩ n3 n4 ?_ g4)))
          exact runs_pi (pow_pi _ _ _).symm r4
end
end Tim
set_option Elab.async false
set_option linter.all false
set_option maxRecDepth 100000
set_option maxHeartbeats 4000000
namespace Tim
open PySem PyProof.Rows
theorem zip_self {α : Type} : ∀ vs : List α, vs.zip vs = vs.map fun v => (v, v)
  | [] => rfl
  | v :: vs => by rw [List.zip_cons_cons, zip_self vs]; rfl
section
variable {κ : Type} {lt : κ → κ → Bool} {k : Keyed → κ} {S : Keyed → Prop} {kind : SortKind} {prog : Program} {w : World} {A : Around} {E : Value → Shared → Prop} {s : Shared}
theorem list_sort_any {a : Addr} {vs : List Value} {n : Nat} {P : PySem.Fin → Shared → Prop} (ho : s.heap.get? a = some (seqObj "list" vs.toArray n)) (h2 : 2 ≤ vs.length) (hz : vs.length ≤ sizeLine)
    (hk : ∀ h' : Heap, (∀ b o, b ≠ a → s.heap.get? b = some o → h'.get? b = some o) → ∀ {Q : SortKind → Shared → Prop} {E' : Value → Shared → Prop}, Q kind { s with heap := h' } → wpAny (model prog w) A (keyKind' vs.toArray) Q E' { s with heap := h' })
    (hC : ∀ h' : Heap, (∀ b o, b ≠ a → s.heap.get? b = some o → h'.get? b = some o) → Cmp lt k S kind prog w A { s with heap := h' }) (hS : ∀ v ∈ vs, S (v, v))
    (h : ∀ out : List Value, out.Perm vs → out.Pairwise (fun x y => Le lt k (x, x) (y, y)) → P (.done (.ret .none)) { s with heap := sortedHeap s.heap a vs out.toArray }) :
    wpAny (model prog w) A (Builtin.«list.sort» ⟨[.ref a], []⟩) P E s := by
  rw [list_sort_plain]
  have ha : a < s.heap.objs.size := Heap.lt_size ho
  refine wpAny_bind (listItems_at ho rfl ?_)
  refine wpAny_bind (listUpdate_at ho rfl ?_ (by rw [List.size_toArray]; exact hz) (Nat.zero_le _))
  obtain ⟨e1, ho1⟩ : ∃ e1, (s.heap.update a (Obj.mapSeq fun _ => #[])).get? a = some (seqObj "list" #[] e1) := ⟨_, get?_update_seq ho (fun _ => #[])⟩
  refine wpAny_bind (seqEpoch_at ho1 rfl ?_)
  refine wpAny_bind (wpAny_newTuple ?_ (by show vs.length ≤ _; exact hz))
  refine wpAny_bind (wpAny_newList ?_ (Nat.zero_le _))
  refine wpAny_holding ?_
  have ho6 : (((s.heap.update a (Obj.mapSeq fun _ => #[])).push (seqObj "tuple" vs.toArray 0)).push (seqObj "list" #[] 0)).get? a = some (seqObj "list" #[] e1) := by
    rw [Heap.get?_push_ne _ _ _ (by rw [size_push', Heap.size_update]; exact Nat.ne_of_lt (Nat.lt_succ_of_lt ha)), Heap.get?_push_ne _ _ _ (by rw [Heap.size_update]; exact Nat.ne_of_lt ha)]
    exact ho1
  have keep : ∀ b o, b ≠ a → s.heap.get? b = some o → (((s.heap.update a (Obj.mapSeq fun _ => (#[] : Array Value))).push (seqObj "tuple" vs.toArray 0)).push (seqObj "list" #[] 0)).get? b = some o := fun b o hb e => by
    refine Heap.get?_push_of_some _ (Heap.get?_push_of_some _ ?_)
    rw [Heap.get?_update_ne _ _ _ _ hb]
    exact e
  show wpAny (model prog w) A _ P E { s with heap := ((s.heap.update a (Obj.mapSeq fun _ => #[])).push (seqObj "tuple" vs.toArray 0)).push (seqObj "list" #[] 0) }
  dsimp only
  have hn2 : ¬ vs.toArray.size < 2 := by rw [List.size_toArray]; omega
  rw [if_neg hn2, if_neg hn2]
  refine wpAny_bind (hk _ keep ?_)
  have C := hC _ keep
  have hpl : (vs.toArray.zip vs.toArray).toList = vs.map fun v => (v, v) := by
    rw [Array.toList_zip]
    exact zip_self vs
  have hps : (vs.toArray.zip vs.toArray).size = vs.length := by simp
  refine wpAny_bind (wpAny_mono (wpS_sortRuns (a₀ := vs.toArray.zip vs.toArray) (st := SortSt.mk' kind (vs.toArray.zip vs.toArray) #[] 7 none)
    (Q := fun _ st' => SInv S kind (vs.toArray.zip vs.toArray) st' ∧ (arrOf st').toList.Pairwise (Le lt k)) C (by rw [hps]; exact h2) ⟨⟨rfl, rfl⟩, List.Perm.refl _, fun x hx => ?_⟩ rfl fun st' I p => ⟨I, p⟩) ?_ fun _ _ e => e)
  · have hx : x ∈ (vs.toArray.zip vs.toArray).toList := hx
    rw [hpl] at hx
    obtain ⟨v, hv, rfl⟩ := List.mem_map.mp hx
    exact hS v hv
  rintro ⟨⟨⟩, st'⟩ s' ⟨rfl, I, hp⟩
  dsimp only
  have hperm := I.perm
  rw [hpl] at hperm
  have two : ∀ x ∈ (arrOf st').toList, x = (x.2, x.2) := fun x hx => by
    obtain ⟨v, hv, rfl⟩ := List.mem_map.mp (hperm.mem_iff.mp hx)
    rfl
  have hout : ((arrOf st').map (·.2)) = ((arrOf st').toList.map (·.2)).toArray := by
    apply Array.toList_inj.mp
    simp
  have p2 : ((arrOf st').toList.map (·.2)).Perm vs := by
    have := hperm.map (·.2)
    rwa [List.map_map, show ((fun x : Keyed => x.2) ∘ fun v : Value => (v, v)) = id from rfl, List.map_id] at this
  refine wpAny_bind (seqEpoch_at ho6 rfl ?_)
  rw [hout]
  refine wpAny_bind (listUpdate_at ho6 rfl ?_ (Nat.zero_le _) (by rw [List.size_toArray, p2.length_eq]; omega))
  rw [I.fine.fl]
  simp only [bne_self_eq_false, Bool.false_eq_true, if_false]
  refine wpAny_pure (h _ p2 ?_)
  rw [List.pairwise_map]
  exact hp.imp_of_mem fun {x y} hx hy q => by rw [← two x hx, ← two y hy]; exact q
end
end Tim
set_option Elab.async false
set_option linter.all false
set_option maxRecDepth 100000
set_option maxHeartbeats 4000000
namespace PyProof.Rows
open PySem
section
variable {prog : Program} {w : World} {A : Around} {E : Value → Shared → Prop} {s : Shared}
theorem list_sort_short {a : Addr} {vs : List Value} {n : Nat} {P : Fin → Shared → Prop} (ho : s.heap.get? a = some (seqObj "list" vs.toArray n)) (h2 : vs.length < 2)
    (h : P (.done (.ret .none)) { s with heap := sortedHeap s.heap a vs vs.toArray }) : wpAny (model prog w) A (Builtin.«list.sort» ⟨[.ref a], []⟩) P E s := by
  rw [list_sort_plain]
  have ha : a < s.heap.objs.size := Heap.lt_size ho
  refine wpAny_bind (listItems_at ho rfl ?_)
  refine wpAny_bind (listUpdate_at ho rfl ?_)
  obtain ⟨e1, ho1⟩ : ∃ e1, (s.heap.update a (Obj.mapSeq fun _ => #[])).get? a = some (seqObj "list" #[] e1) := ⟨_, get?_update_seq ho (fun _ => #[])⟩
  refine wpAny_bind (seqEpoch_at ho1 rfl ?_)
  refine wpAny_bind (wpAny_newTuple ?_)
  refine wpAny_bind (wpAny_newList ?_)
  refine wpAny_holding ?_
  have ho6 : (((s.heap.update a (Obj.mapSeq fun _ => #[])).push (seqObj "tuple" vs.toArray 0)).push (seqObj "list" #[] 0)).get? a = some (seqObj "list" #[] e1) := by
    rw [Heap.get?_push_ne _ _ _ (by rw [size_push', Heap.size_update]; exact Nat.ne_of_lt (Nat.lt_succ_of_lt ha)), Heap.get?_push_ne _ _ _ (by rw [Heap.size_update]; exact Nat.ne_of_lt ha)]
    exact ho1
  show wpAny (model prog w) A _ P E { s with heap := ((s.heap.update a (Obj.mapSeq fun _ => #[])).push (seqObj "tuple" vs.toArray 0)).push (seqObj "list" #[] 0) }
  dsimp only
  have h2' : vs.toArray.size < 2 := by simpa using h2
  rw [if_pos h2', if_pos h2']
  refine wpAny_bind (wpAny_pure ?_)
  rw [StateT.run_pure]
  refine wpAny_bind (wpAny_pure ?_)
  dsimp only
  refine wpAny_bind (seqEpoch_at ho6 rfl ?_)
  have e : (arrOf (SortSt.mk' general' (vs.toArray.zip vs.toArray) #[] 7 none)).map (·.2) = vs.toArray := by
    show (vs.toArray.zip vs.toArray).map (·.2) = vs.toArray
    rw [Array.map_snd_zip (by simp)]
  rw [e]
  refine wpAny_bind (listUpdate_at ho6 rfl ?_ (hsz2 := by simp only [List.size_toArray]; rw [sizeLine_eq]; omega))
  simp only [bne_self_eq_false, Bool.false_eq_true, if_false]
  exact wpAny_pure h
end
end PyProof.Rows
namespace L2
open PySem PySem.W PyProof.Rows Srt Pc
class Rep {α : Type} (R : Hp → V → α → Prop) : Prop where
  up : ∀ {H H' : Hp} {v : V} {x : α}, Same H H' → R H v x → R H' v x
  lst : ∀ {H : Hp} {v : V} {x : α} {p : Addr} {ys zs : List V}, H p = some (.lst ys) → R H v x → R (upd H p (.lst zs)) v x
def IsI : Hp → V → Int → Prop := fun _ v n => v = .int n
def IsS : Hp → V → Str → Prop := fun _ v n => v = .str n
def IsB : Hp → V → Bool → Prop := fun _ v n => v = .bl n
def IsC : Hp → V → C3 → Prop := fun H v c => ∃ a, v = V.ref a ∧ H a = some (.tup c.v)
instance : Rep IsI := ⟨fun _ h => h, fun _ h => h⟩
instance : Rep IsS := ⟨fun _ h => h, fun _ h => h⟩
instance : Rep IsB := ⟨fun _ h => h, fun _ h => h⟩
instance : Rep IsC := ⟨fun s ⟨a, e, q⟩ => ⟨a, e, s _ _ q⟩, fun h' ⟨a, e, q⟩ => ⟨a, e, lk_kind h' (by intro z; cases z) q⟩⟩
abbrev Rs {α : Type} (R : Hp → V → α → Prop) (H : Hp) : List V → List α → Prop := Paired (R H)
abbrev Cs := Rs IsC
theorem Rs.up {α : Type} {R : Hp → V → α → Prop} [Rep R] {H H' : Hp} {ys : List V} {xs : List α} (s : Same H H') (h : Rs R H ys xs) : Rs R H' ys xs := Paired.mapP h fun _ _ q => Rep.up s q
theorem Rs.lst {α : Type} {R : Hp → V → α → Prop} [Rep R] {H : Hp} {p : Addr} {zs us : List V} {ys : List V} {xs : List α} (h' : H p = some (.lst us)) (h : Rs R H ys xs) : Rs R (upd H p (.lst zs)) ys xs := Paired.mapP h fun _ _ q => Rep.lst h' q
theorem Rs.len {α : Type} {R : Hp → V → α → Prop} {H : Hp} {ys : List V} {xs : List α} (h : Rs R H ys xs) : ys.length = xs.length := Paired.length h
theorem Rs.get {α : Type} {R : Hp → V → α → Prop} {H : Hp} : ∀ {ys : List V} {xs : List α} {i : Nat} {v : V}, Rs R H ys xs → ys[i]? = some v → ∃ x, xs[i]? = some x ∧ R H v x
  | _, _, _, _, .nil, e => by simp at e
  | _, _, 0, _, .cons r _, e => by simp at e; subst e; exact ⟨_, rfl, r⟩
  | _, _, i + 1, v, .cons _ t, e => by
    obtain ⟨u, h1, h2⟩ := Rs.get (i := i) (v := v) t (by simpa using e)
    exact ⟨u, by simpa using h1, h2⟩
theorem Rs.get' {α : Type} {R : Hp → V → α → Prop} {H : Hp} : ∀ {ys : List V} {xs : List α} {i : Nat} {x : α}, Rs R H ys xs → xs[i]? = some x → ∃ v, ys[i]? = some v ∧ R H v x
  | _, _, _, _, .nil, e => by simp at e
  | _, _, 0, _, .cons r _, e => by simp at e; subst e; exact ⟨_, rfl, r⟩
  | _, _, i + 1, x, .cons _ t, e => by
    obtain ⟨u, h1, h2⟩ := Rs.get' (i := i) (x := x) t (by simpa using e)
    exact ⟨u, by simpa using h1, h2⟩
theorem Rs.app {α : Type} {R : Hp → V → α → Prop} {H : Hp} : ∀ {ys ys' : List V} {xs xs' : List α}, Rs R H ys xs → Rs R H ys' xs' → Rs R H (ys ++ ys') (xs ++ xs')
  | _, _, _, _, .nil, s => s
  | _, _, _, _, .cons r t, s => .cons r (Rs.app t s)
def cutX {α : Type} (xs : List α) (lo hi : Option Int) : List α := (xs.drop (HT.sIx xs.length 0 lo)).take (HT.sIx xs.length xs.length hi - HT.sIx xs.length 0 lo)
theorem Rs.ints {H : Hp} : ∀ ns : List Int, Rs IsI H (ns.map V.int) ns
  | [] => .nil
  | _ :: r => .cons rfl (Rs.ints r)
theorem prs_of {K : PySem.W.Frag} {H : Hp} : ∀ {ys : List V} {cs : List C3}, Cs H ys cs → ∃ ps : Prs, ys = refs ps ∧ ps.map (·.2) = cs.map C3.l ∧ Tps K H ps ∧ ∀ q ∈ ps, H q.1 = some (.tup (q.2.map V.int))
  | _, _, .nil => ⟨[], rfl, rfl, fun _ h => absurd h (List.not_mem_nil), fun _ h => absurd h (List.not_mem_nil)⟩
  | _, _, .cons (b := c) ⟨a, e, q⟩ t => by
    obtain ⟨ps, e1, e2, e3, e4⟩ := prs_of (K := K) t
    refine ⟨(a, c.l) :: ps, by rw [e, e1]; rfl, by simp [e2], fun p hp => ?_, fun p hp => ?_⟩
    · rcases List.mem_cons.mp hp with rfl | hp
      · exact SqT.of q
      · exact e3 p hp
    · rcases List.mem_cons.mp hp with rfl | hp
      · exact q
      · exact e4 p hp
theorem cs_of {H : Hp} : ∀ {ps : Prs} {cs : List C3}, ps.map (·.2) = cs.map C3.l → (∀ q ∈ ps, H q.1 = some (.tup (q.2.map V.int))) → Cs H (refs ps) cs
  | [], [], _, _ => .nil
  | [], _ :: _, e, _ => by simp at e
  | _ :: _, [], e, _ => by simp at e
  | (a, l) :: ps, c :: cs, e, t => by
    simp only [List.map_cons, List.cons.injEq] at e
    refine .cons ⟨a, rfl, ?_⟩ (cs_of e.2 fun p hp => t p (List.mem_cons_of_mem _ hp))
    have := t (a, l) (List.mem_cons_self ..)
    rw [e.1] at this
    exact this
def cle (a b : C3) : Bool := !HT.lexLt b.l a.l
theorem cle_total (a b : C3) : (cle a b || cle b a) = true := by
  unfold cle
  cases h : HT.lexLt b.l a.l
  · rfl
  · rw [lex_as _ _ h]; rfl
theorem cle_trans (a b c : C3) (h1 : cle a b = true) (h2 : cle b c = true) : cle a c = true := by
  unfold cle at *
  simp only [Bool.not_eq_true'] at *
  exact lex_tr _ _ _ h1 h2
theorem cle_anti {a b : C3} (h1 : cle a b = true) (h2 : cle b a = true) : a = b := by
  unfold cle at *
  simp only [Bool.not_eq_true'] at *
  exact C3.inj.mp (lex_an _ _ h2 h1)
abbrev Asc (cs : List C3) : Prop := cs.Pairwise fun a b => cle a b = true
def srtC (cs : List C3) : List C3 := cs.mergeSort cle
theorem srtC_perm (cs : List C3) : (srtC cs).Perm cs := List.mergeSort_perm _ _
theorem srtC_asc (cs : List C3) : Asc (srtC cs) := List.pairwise_mergeSort cle_trans cle_total _
theorem asc_one : ∀ {l m : List C3}, l.Perm m → Asc l → Asc m → l = m
  | [], m, h, _, _ => List.Perm.nil_eq h
  | a :: l, [], h, _, _ => by have := h.length_eq; simp at this
  | a :: l, b :: m, h, hl, hm => by
    obtain ⟨h1, h2⟩ := List.pairwise_cons.mp hl
    obtain ⟨g1, g2⟩ := List.pairwise_cons.mp hm
    have e : a = b := by
      have ha : a ∈ b :: m := h.mem_iff.mp (List.mem_cons_self ..)
      have hb : b ∈ a :: l := h.mem_iff.mpr (List.mem_cons_self ..)
      rcases List.mem_cons.mp ha with e | ha
      · exact e
      · rcases List.mem_cons.mp hb with e | hb
        · exact e.symm
        · exact cle_anti (h1 b hb) (g1 a ha)
    subst e
    rw [asc_one (List.Perm.cons_inv h) h2 g2]
theorem srtC_uniq {l cs : List C3} (h : l.Perm cs) (ha : Asc l) : l = srtC cs := asc_one (h.trans (srtC_perm cs).symm) ha (srtC_asc cs)
theorem srtC_of_asc {cs : List C3} (h : Asc cs) : srtC cs = cs := (srtC_uniq (List.Perm.refl _) h).symm
theorem lists_of_map : ∀ {L : List (List Int)} {cs : List C3}, L.Perm (cs.map C3.l) → ∃ ds : List C3, L = ds.map C3.l ∧ ds.Perm cs := fun {L cs} h => by
  have hm : ∀ x ∈ L, ∃ c : C3, x = c.l := fun x hx => by
    obtain ⟨c, _, e⟩ := List.mem_map.mp (h.mem_iff.mp hx)
    exact ⟨c, e.symm⟩
  have : ∃ ds : List C3, L = ds.map C3.l := by
    clear h
    induction L with
    | nil => exact ⟨[], rfl⟩
    | cons x L ih =>
      obtain ⟨c, e⟩ := hm x (List.mem_cons_self ..)
      obtain ⟨ds, e2⟩ := ih fun y hy => hm y (List.mem_cons_of_mem _ hy)
      exact ⟨c :: ds, by rw [e, e2]; rfl⟩
  obtain ⟨ds, e⟩ := this
  refine ⟨ds, e, ?_⟩
  rw [e] at h
  have h2 := h.map (fun l : List Int => (⟨l.getD 0 0, l.getD 1 0, l.getD 2 0⟩ : C3))
  rw [List.map_map, List.map_map] at h2
  have id1 : ∀ xs : List C3, xs.map ((fun l : List Int => (⟨l.getD 0 0, l.getD 1 0, l.getD 2 0⟩ : C3)) ∘ C3.l) = xs := fun xs => by
    conv => rhs; rw [← List.map_id xs]
    exact List.map_congr_left fun c _ => rfl
  rwa [id1, id1] at h2
section
variable {X : Cx}
def keyOf (ps : Prs) (v : Value) : List Int := match v with
  | .ref a => ((ps.find? fun q => decide (q.1 = a)).map (·.2)).getD []
  | _ => []
theorem keyOf_eq {H : Hp} {ps : Prs} (t : ∀ q ∈ ps, H q.1 = some (.tup (q.2.map V.int))) {q : Addr × List Int} (hq : q ∈ ps) : keyOf ps (.ref q.1) = q.2 := by
  unfold keyOf
  cases e : ps.find? (fun p => decide (p.1 = q.1)) with
  | none => exact absurd (List.find?_eq_none.mp e q hq) (by simp)
  | some p =>
    have h1 := List.find?_some e
    have h2 := List.mem_of_find?_eq_some e
    have h1 : p.1 = q.1 := of_decide_eq_true h1
    have a := t p h2
    rw [h1, t q hq] at a
    have a := HO.tup.inj (Option.some.inj a)
    have e' : (match (Value.ref q.1) with | .ref a => ((ps.find? fun q => decide (q.1 = a)).map (·.2)).getD [] | _ => []) = p.2 := by
      show ((ps.find? fun p => decide (p.1 = q.1)).map (·.2)).getD [] = p.2
      rw [e]
      rfl
    rw [e']
    have inj : ∀ x y : List Int, x.map V.int = y.map V.int → x = y := fun x y h => by
      have := congrArg (List.map fun v : V => match v with | .int i => i | _ => 0) h
      simpa [List.map_map, Function.comp_def] using this
    exact (inj _ _ a).symm
theorem refs_mem : ∀ {ps : Prs} {its : List Value}, Vals (refs ps) its → ∀ v ∈ its, ∃ q ∈ ps, v = .ref q.1
  | [], _, r, v, hv => by
    have r : Vals [] _ := r
    cases r
    cases hv
  | q :: ps, _, r, v, hv => by
    have r : Vals (V.ref q.1 :: refs ps) _ := r
    cases r with
    | cons r1 r2 =>
      cases r1
      rcases List.mem_cons.mp hv with rfl | hv
      · exact ⟨q, List.mem_cons_self .., rfl⟩
      · obtain ⟨p, hp, e⟩ := refs_mem r2 v hv
        exact ⟨p, List.mem_cons_of_mem _ hp, e⟩
theorem refs_of : ∀ (out : List Value) (ps : Prs), (∀ v ∈ out, ∃ q ∈ ps, v = .ref q.1) → ∃ qs : Prs, (∀ q ∈ qs, q ∈ ps) ∧ Vals (refs qs) out ∧ out = qs.map fun q => Value.ref q.1
  | [], ps, _ => ⟨[], fun _ h => absurd h List.not_mem_nil, .nil, rfl⟩
  | v :: out, ps, h => by
    obtain ⟨q, hq, rfl⟩ := h v (List.mem_cons_self ..)
    obtain ⟨qs, a, b, c⟩ := refs_of out ps fun u hu => h u (List.mem_cons_of_mem _ hu)
    refine ⟨q :: qs, fun p hp => ?_, .cons rfl b, by rw [c]; rfl⟩
    rcases List.mem_cons.mp hp with rfl | hp
    · exact hq
    · exact a p hp
end
end L2
set_option Elab.async false
set_option linter.all false
set_option maxRecDepth 100000
set_option maxHeartbeats 4000000
namespace L2
open PySem PySem.W PyProof.Rows Srt Pc
structure Feeds {α : Type} (J : It) (H : Hp) (xs : List α) (R : Hp → V → α → Prop) : Prop where
  stop : ∀ H', Same H H' → J.stop xs.length H'
  go : ∀ i x H', Same H H' → xs[i]? = some x → J.go i H' ∧ ∀ v H2, J.yld i H' v H2 → Same H' H2 ∧ R H2 v x
theorem feeds_list {α : Type} {R : Hp → V → α → Prop} [Rep R] {K : PySem.W.Frag} {H : Hp} {a : Addr} {ys : List V} {xs : List α} (h : SqL K H a ys) (r : Rs R H ys xs) : Feeds (Itl K a) H xs R where
  stop := fun H' s => by rw [← r.len]; exact itl_stop (s.seq h)
  go := fun i x H' s e => by
    obtain ⟨v, e1, q⟩ := r.get' e
    refine ⟨itl_go (s.seq h) (List.getElem?_eq_some_iff.mp e1).1, fun v' H2 y => ?_⟩
    obtain ⟨rfl, e2⟩ := itl_yld (s.seq h) y
    rw [e1] at e2
    obtain rfl := Option.some.inj e2
    exact ⟨Same.refl _, Rep.up s q⟩
theorem feeds_range {H : Hp} {lo : Int} {n : Nat} : Feeds (Itr lo n) H ((List.range n).map fun i : Nat => lo + (i : Int)) IsI where
  stop := fun H' _ => by
    show n ≤ ((List.range n).map fun i : Nat => lo + (i : Int)).length
    simp
  go := fun i x H' s e => by
    rw [List.getElem?_map] at e
    have hi : i < n := by
      rcases Nat.lt_or_ge i n with z | z
      · exact z
      · rw [List.getElem?_eq_none (by simpa using z)] at e; cases e
    rw [List.getElem?_eq_getElem (by simpa using hi)] at e
    have e : lo + ((List.range n)[i]'(by simpa using hi) : Int) = x := Option.some.inj e
    rw [List.getElem_range] at e
    refine ⟨hi, fun v H2 y => ?_⟩
    obtain ⟨rfl, rfl⟩ := y
    exact ⟨Same.refl _, by rw [← e]; rfl⟩
theorem take_snoc {α : Type} {xs : List α} {i : Nat} {x : α} (h : xs[i]? = some x) : xs.take (i + 1) = xs.take i ++ [x] := by
  rw [List.take_add_one, h]; rfl
theorem comp_fm {α β : Type} {R : Hp → V → α → Prop} {S : Hp → V → β → Prop} [Rep S] {J : It} {xs : List α} {acc : Addr} {Q : VK} {g : TG} {tc : TT} {te : TE} {H : Hp} (p : α → Bool) (f : α → β) (n : Nat) (rest : St) (hF : Feeds J H xs R) (hz : xs.length ≤ 16000000) (hacc : H acc = none)
    (turn : ∀ (os : St) (v : V) (x : α) (H' : Hp) (R1 : St → VK) (R0 : St → Hp → Prop), os.length = n → Same H H' → x ∈ xs → R H' v x →
      (∀ os' r H'', os'.length = n → Same H' H'' → p x = true → S H'' r (f x) → R1 (os' ++ rest) r H'') → (∀ os' H'', os'.length = n → Same H' H'' → p x = false → R0 (os' ++ rest) H'') →
      g v (os ++ rest) H' fun σ3 H3 => tc σ3 H3 fun b H4 => if b = true then te σ3 H4 (R1 σ3) else R0 σ3 H4)
    (done : ∀ (zs : List V) (H' : Hp), Same H H' → H' acc = some (.lst zs) → Rs S H' zs ((xs.filter p).map f) → Q (.ref acc) H') :
    CompGo acc Q g tc te J (List.replicate n none ++ rest) (upd H acc (.lst [])) := by
  refine comp_turns (n := xs.length) (fun i σ' H' => (∃ os : St, os.length = n ∧ σ' = os ++ rest) ∧ Same H H' ∧ ∃ zs, H' acc = some (.lst zs) ∧ Rs S H' zs (((xs.take i).filter p).map f)) ?_ ?_ ?_
  · exact ⟨⟨_, by simp, rfl⟩, same_new hacc, [], upd_same, .nil⟩
  · rintro σ' H' ⟨_, s1, zs, e1, r1⟩
    rw [List.take_of_length_le (Nat.le_refl _)] at r1
    exact ⟨hF.stop H' s1, done zs H' s1 e1 r1⟩
  · rintro i σ' H' hi ⟨⟨os, ho, rfl⟩, s1, zs, e1, r1⟩
    have ex : xs[i]? = some xs[i] := List.getElem?_eq_getElem hi
    obtain ⟨g1, g2⟩ := hF.go i _ H' s1 ex
    refine ⟨g1, fun v H2 y => ?_⟩
    obtain ⟨s2, q⟩ := g2 v H2 y
    refine turn os v xs[i] H2 _ _ ho (s1.trans s2) (List.getElem_mem hi) q (fun os' r H'' ho' s3 hp hs => ?_) (fun os' H'' ho' s3 hp => ?_)
    · have hl : zs.length < sizeLine := by
        have h1 := r1.len
        have h2 := List.length_filter_le p (xs.take i)
        rw [List.length_map] at h1
        rw [List.length_take] at h2
        rw [sizeLine_eq]
        omega
      refine ⟨zs, s3 _ _ (s2 _ _ e1), hl, ⟨os', ho', rfl⟩, same_up (s1.trans (s2.trans s3)) hacc, _, upd_same, ?_⟩
      rw [take_snoc ex, List.filter_append, List.map_append]
      have e2 : ([xs[i]].filter p).map f = [f xs[i]] := by rw [List.filter_cons, hp]; rfl
      rw [e2]
      have e3 := s3 _ _ (s2 _ _ e1)
      exact Rs.lst e3 (Rs.app (Rs.up (s2.trans s3) r1) (.cons hs .nil))
    · refine ⟨⟨os', ho', rfl⟩, s1.trans (s2.trans s3), zs, s3 _ _ (s2 _ _ e1), ?_⟩
      rw [take_snoc ex, List.filter_append, List.map_append]
      have e2 : ([xs[i]].filter p).map f = [] := by rw [List.filter_cons, hp]; rfl
      rw [e2, List.append_nil]
      exact Rs.up (s2.trans s3) r1
theorem comp_map {α β : Type} {R : Hp → V → α → Prop} {S : Hp → V → β → Prop} [Rep S] {J : It} {xs : List α} {acc : Addr} {Q : VK} {g : TG} {te : TE} {H : Hp} (f : α → β) (n : Nat) (rest : St) (hF : Feeds J H xs R) (hz : xs.length ≤ 16000000) (hacc : H acc = none)
    (turn : ∀ (os : St) (v : V) (x : α) (H' : Hp) (R1 : St → VK), os.length = n → Same H H' → x ∈ xs → R H' v x →
      (∀ os' r H'', os'.length = n → Same H' H'' → S H'' r (f x) → R1 (os' ++ rest) r H'') → g v (os ++ rest) H' fun σ3 H3 => te σ3 H3 (R1 σ3))
    (done : ∀ (zs : List V) (H' : Hp), Same H H' → H' acc = some (.lst zs) → Rs S H' zs (xs.map f) → Q (.ref acc) H') :
    CompGo acc Q g tYes te J (List.replicate n none ++ rest) (upd H acc (.lst [])) := by
  refine comp_fm (S := S) (fun _ => true) f n rest hF hz hacc (fun os v x H' R1 R0 ho s hx q k1 _ => ?_) fun zs H' s e r => done zs H' s e (by rwa [List.filter_eq_self.mpr fun _ _ => rfl] at r)
  have t := turn os v x H' R1 ho s hx q fun os' r H'' a b c => k1 os' r H'' a b rfl c
  have e : (fun σ3 H3 => tYes σ3 H3 fun b H4 => if b = true then te σ3 H4 (R1 σ3) else R0 σ3 H4) = fun σ3 H3 => te σ3 H3 (R1 σ3) := by
    funext σ3 H3
    show (if true = true then te σ3 H3 (R1 σ3) else R0 σ3 H3) = _
    rw [if_pos rfl]
  rw [e]
  exact t
theorem for_feeds {α : Type} {R : Hp → V → α → Prop} {J : It} {xs : List α} {g : TG} {tb : TS} {D : Ends} {σ : St} {H0 H : Hp} (Pv : Nat → St → Hp → Prop) (hF : Feeds J H0 xs R) (hsame : ∀ i σ H, Pv i σ H → Same H0 H) (h0 : Pv 0 σ H) (hd : ∀ σ H, Pv xs.length σ H → D.nx σ H)
    (turn : ∀ i x v σ H H', i < xs.length → xs[i]? = some x → Pv i σ H → Same H H' → R H' v x → g v σ H' fun σ2 H2 => tb { D with nx := Pv (i + 1), ct := Pv (i + 1), bk := D.nx } σ2 H2) : ForGo J g tb D σ H :=
  for_turns (n := xs.length) Pv h0 (fun σ H p => ⟨hF.stop H (hsame _ σ H p), hd σ H p⟩) fun i σ H hi p => by
    have ex : xs[i]? = some xs[i] := List.getElem?_eq_getElem hi
    obtain ⟨g1, g2⟩ := hF.go i _ H (hsame _ σ H p) ex
    exact ⟨g1, fun v H' y => let ⟨s, q⟩ := g2 v H' y; turn i xs[i] v σ H H' hi ex p s q⟩
section
variable {X : Cx} {σ : St} {H : Hp} {Q : VK} {D : Ends} {K : PySem.W.Frag}
theorem tups_of {ys : List V} {cs : List C3} (h : Cs H ys cs) : ∃ as : List Addr, ys = as.map V.ref ∧ TupsI K H as (cs.map C3.l) := by
  induction h with
  | nil => exact ⟨[], rfl, .nil⟩
  | cons r _ ih =>
    obtain ⟨a, e, q⟩ := r
    obtain ⟨as, e1, t⟩ := ih
    exact ⟨a :: as, by rw [e, e1]; rfl, .cons (SqT.of q) t⟩
theorem map_l_inj {cs ds : List C3} : cs.map C3.l = ds.map C3.l ↔ cs = ds := by
  constructor
  · intro h
    induction cs generalizing ds with
    | nil => cases ds with
      | nil => rfl
      | cons => simp at h
    | cons c cs ih => cases ds with
      | nil => simp at h
      | cons d ds =>
        simp only [List.map_cons, List.cons.injEq] at h
        rw [C3.inj.mp h.1, ih h.2]
  · intro h; rw [h]
def rEqC (K : PySem.W.Frag) (neg : Bool) : R2 := fun x y H Q => ∃ (a b : Addr) (ys zs : List V) (cs ds : List C3), x = .ref a ∧ y = .ref b ∧ SqL K H a ys ∧ Cs H ys cs ∧ SqL K H b zs ∧ Cs H zs ds ∧ Q (.bl (if neg then !decide (cs = ds) else decide (cs = ds))) H
theorem dec_l {cs ds : List C3} : decide (cs.map C3.l = ds.map C3.l) = decide (cs = ds) := by
  by_cases h : cs = ds
  · rw [decide_eq_true h, decide_eq_true (map_l_inj.mpr h)]
  · rw [decide_eq_false h, decide_eq_false fun e => h (map_l_inj.mp e)]
theorem qo_eqR (h : X.K = K) (hu : X.A.units + 64 < cLine) : QOp X (compareOp .Eq) (rEqC K false) := ⟨by
  subst h
  rintro pins s σ H x y v u Q I rx ry ⟨a, b, ys, zs, cs, ds, rfl, rfl, ha, hc, hb, hd, q⟩
  obtain ⟨as, e1, t1⟩ := tups_of (K := X.K) hc
  obtain ⟨bs, e2, t2⟩ := tups_of (K := X.K) hd
  exact op_eqL hu pins s σ H _ _ v u Q I rx ry ⟨a, b, as, bs, _, _, rfl, rfl, e1 ▸ ha, t1, e2 ▸ hb, t2, by simp only [dec_l]; exact q⟩⟩
theorem qo_neR (h : X.K = K) (hu : X.A.units + 64 < cLine) : QOp X (compareOp .NotEq) (rEqC K true) := ⟨by
  subst h
  rintro pins s σ H x y v u Q I rx ry ⟨a, b, ys, zs, cs, ds, rfl, rfl, ha, hc, hb, hd, q⟩
  obtain ⟨as, e1, t1⟩ := tups_of (K := X.K) hc
  obtain ⟨bs, e2, t2⟩ := tups_of (K := X.K) hd
  exact op_neL hu pins s σ H _ _ v u Q I rx ry ⟨a, b, as, bs, _, _, rfl, rfl, e1 ▸ ha, t1, e2 ▸ hb, t2, by simp only [dec_l]; exact q⟩⟩
theorem rd_eqR {a b : Addr} {ys zs : List V} {cs ds : List C3} (h1 : SqL K H a ys) (c1 : Cs H ys cs) (h2 : SqL K H b zs) (c2 : Cs H zs ds) (q : Q (.bl (decide (cs = ds))) H) : rEqC K false (.ref a) (.ref b) H Q := ⟨a, b, ys, zs, cs, ds, rfl, rfl, h1, c1, h2, c2, q⟩
theorem rd_neR {a b : Addr} {ys zs : List V} {cs ds : List C3} (h1 : SqL K H a ys) (c1 : Cs H ys cs) (h2 : SqL K H b zs) (c2 : Cs H zs ds) (q : Q (.bl (!decide (cs = ds))) H) : rEqC K true (.ref a) (.ref b) H Q := ⟨a, b, ys, zs, cs, ds, rfl, rfl, h1, c1, h2, c2, q⟩
end
end L2
set_option Elab.async false
set_option linter.all false
set_option maxRecDepth 100000
set_option maxHeartbeats 4000000
namespace L2
open PySem PySem.Spec PyProof.Rows
theorem b_reversed : bootBuiltins "reversed" = some (.type "reversed") := by decide +kernel
section
variable {X : Cx}
end
end L2
set_option Elab.async false
set_option linter.all false
set_option maxRecDepth 100000
set_option maxHeartbeats 4000000
namespace L2
open PySem PySem.W PyProof.Rows Srt Pc
def IsP {α β : Type} (R : Hp → V → α → Prop) (S : Hp → V → β → Prop) : Hp → V → α × β → Prop := fun H v p => ∃ a x y, v = V.ref a ∧ H a = some (.tup [x, y]) ∧ R H x p.1 ∧ S H y p.2
instance {α β : Type} {R : Hp → V → α → Prop} {S : Hp → V → β → Prop} [Rep R] [Rep S] : Rep (IsP R S) :=
  ⟨fun s ⟨a, x, y, e, q, r1, r2⟩ => ⟨a, x, y, e, s _ _ q, Rep.up s r1, Rep.up s r2⟩, fun h' ⟨a, x, y, e, q, r1, r2⟩ => ⟨a, x, y, e, lk_kind h' (by intro z; cases z) q, Rep.lst h' r1, Rep.lst h' r2⟩⟩
theorem rd_notNr {H : Hp} {Q : VK} {p : Addr} (h : Q (.bl true) H) : rIsN true (.ref p) .non H Q := ⟨rfl, h⟩
end L2
namespace Pc
open PySem L2 Srt
theorem smallM {n : Nat} (h : n ≤ 1000000) : n < sizeLine := Nat.lt_of_le_of_lt h (by decide)
theorem srtC_nodup {cs : List C3} (h : cs.Nodup) : (srtC cs).Nodup := (srtC_perm cs).nodup_iff.mpr h
end Pc
set_option Elab.async false
set_option linter.all false
set_option maxRecDepth 100000
set_option maxHeartbeats 4000000
namespace L2
open PySem PySem.W PyProof.Rows Srt Pc
section
variable {X : Cx} {K : PySem.W.Frag} {H : Hp} {Q : VK}
def rMaxL (K : PySem.W.Frag) : List V → Hp → VK → Prop := fun xs H Q => ∃ (p : Addr) (ns : List Int), xs = [.ref p] ∧ SqL K H p (ns.map V.int) ∧ ns ≠ [] ∧ ∀ M, M ∈ ns → (∀ a, a ∈ ns → a ≤ M) → Q (.int M) H
theorem call_maxL (hc : X.calm = true) : CallR X (.builtin "max") (rMaxL X.K) := by
  intro pins s σ H xs us Q I r h
  obtain ⟨p, ns, rfl, hp, hne, q⟩ := h
  obtain ⟨u, rfl, ru⟩ := vals1 r
  cases ru
  obtain ⟨its, rv, pl, hz⟩ := I.list hp
  have hi : IntsAre its ns := intsAre_of rv
  have hl : 0 < ns.length := List.length_pos_iff.mpr hne
  obtain ⟨ys, hys⟩ := hi.allInts.items
  have hsz : 0 < ys.size := by
    have e := congrArg Array.size hys
    rw [List.size_toArray, hi.length] at e
    have e2 : (intItems ys).size = ys.size := by simp [intItems]
    omega
  have hnum : numsOf (intItems ys).toList = ns := by rw [← hys]; exact hi.numsOf
  rw [nums_intItems] at hnum
  refine max_intList (xs := ys) (I.ok.hd hc) (by rw [← hys]; exact pl.isList) hsz fun v h' tk hv hk => ?_
  obtain ⟨t, rfl⟩ := intItems_at hv
  obtain ⟨h1, h2⟩ := argBest_gt (numAt ys) (ys.size - 1)
  refine ⟨.int _, H, I.kept hk, ⟨t, rfl⟩, q _ ?_ fun a ha => ?_⟩
  · rw [← hnum, numAt_eq]; exact getD_mem (by rw [List.length_map, Array.length_toList]; omega)
  · rw [← hnum] at ha
    obtain ⟨j, hj, rfl⟩ := mem_getD ha
    rw [List.length_map, Array.length_toList] at hj
    rw [← numAt_eq]; exact h2 j (by omega)
theorem qc_maxL (h : X.K = K) (hc : X.calm = true) : QCl X (.builtin "max") (rMaxL K) := ⟨h ▸ call_maxL hc⟩
theorem rd_maxL {p : Addr} {ns : List Int} (h : SqL K H p (ns.map V.int)) (hn : ns ≠ []) (q : ∀ M, M ∈ ns → (∀ a, a ∈ ns → a ≤ M) → Q (.int M) H) : rMaxL K [.ref p] H Q := ⟨p, ns, rfl, h, hn, q⟩
theorem depth_T (ns : List Int) : PyData.depth (.tuple (ns.map PyData.int)) ≤ 1 := by
  simp [PyData.depth, PySem.W.ke_depthAll]
end
end L2
set_option Elab.async false
set_option linter.all false
set_option maxRecDepth 100000
set_option maxHeartbeats 4000000
namespace PyProof.Rows
open PySem PySem.Spec
section
variable {prog : Program} {w : World} {A : Around} {E : Value → Shared → Prop} {s : Shared}
end
end PyProof.Rows
namespace L2
open PySem PySem.W PySem.Spec PyProof.Rows Srt Pc
section
variable {prog : Program} {w : World} {A : Around} {R : Result → Shared → Prop}
end
end L2
set_option Elab.async false
set_option linter.all false
set_option maxRecDepth 100000
set_option maxHeartbeats 4000000
namespace L2
open PySem PySem.W PySem.Spec PyProof.Rows Srt Pc
def keyC (c : C3) : List Key := c.l.map Sum.inl
theorem keyC_v (c : C3) : (keyC c).map kV = c.v := by
  unfold keyC C3.v
  rw [List.map_map]
  rfl
theorem keyC_inj {c d : C3} : keyC c = keyC d ↔ c = d := by
  constructor
  · intro h
    have h1 : (keyC c).map kV = (keyC d).map kV := by rw [h]
    rw [keyC_v, keyC_v] at h1
    have h2 : c.l = d.l := by
      have : ∀ xs ys : List Int, xs.map V.int = ys.map V.int → xs = ys := by
        intro xs
        induction xs with
        | nil => intro ys e; cases ys with
          | nil => rfl
          | cons => simp at e
        | cons x xs ih => intro ys e; cases ys with
          | nil => simp at e
          | cons y ys =>
            simp only [List.map_cons, List.cons.injEq] at e
            rw [V.int.inj e.1, ih ys e.2]
      exact this _ _ h1
    exact C3.inj.mp h2
  · intro h; rw [h]
def IsKV : Hp → V → C3 × V → Prop := fun H v x => ∃ p ka, v = .ref p ∧ H p = some (.tup [.ref ka, x.2]) ∧ H ka = some (.tup x.1.v)
instance : Rep IsKV := ⟨fun s ⟨p, ka, e, q, r⟩ => ⟨p, ka, e, s _ _ q, s _ _ r⟩, fun h' ⟨p, ka, e, q, r⟩ => ⟨p, ka, e, lk_kind h' (by intro z; cases z) q, lk_kind h' (by intro z; cases z) r⟩⟩
section
variable {X : Cx} {K : PySem.W.Frag} {H : Hp} {Q : VK}
theorem dput_c {d a : Addr} {kvs : List (List Key × V)} {c : C3} {v : V} (e : H d = some (.dT kvs)) (ea : H a = some (.tup c.v)) (hl : kvs.length < sizeLine) : DPut H d (.ref a) v (upd H d (.dT (putK kvs (keyC c) v))) := DPut.t e (by rw [keyC_v]; exact ea) hl
end
end L2
set_option Elab.async false
set_option linter.all false
set_option maxRecDepth 100000
set_option maxHeartbeats 4000000
namespace L2
open PySem PySem.W PySem.Spec PyProof.Rows Srt Pc
section
variable {prog : Program} {w : World} {K : Type} [DecidableEq K] {knd : HeapKind prog w K} {A : Around} {E : Value → Shared → Prop} {s : Shared}
end
section
variable {X : Cx} {pins : List (Addr × Obj)} {σ : St} {H : Hp} {s : Shared} {d a : Addr} {kvs : List (List Key × V)} {k : List Key} {A : Around} {E : Value → Shared → Prop}
end
end L2
set_option Elab.async false
set_option linter.all false
set_option maxRecDepth 100000
set_option maxHeartbeats 4000000
namespace L2
open PySem PySem.W
theorem rd_seqK {t1 t2 : TS} {D : Ends} {σ : St} {H : Hp} (h : ∀ N : St → Hp → Prop, (∀ σ' H', t2 D σ' H' → N σ' H') → t1 { D with nx := N } σ H) : tSeq t1 t2 D σ H := h (t2 D) fun _ _ x => x
end L2
namespace Pc
open PySem L2 Srt
def C3.within (n : Int) (c : C3) : Prop := (-n ≤ c.x ∧ c.x ≤ n) ∧ (-n ≤ c.y ∧ c.y ≤ n) ∧ (-n ≤ c.z ∧ c.z ≤ n)
theorem ints_eq {H : Hp} : ∀ {zs : List V} {ns : List Int}, Rs IsI H zs ns → zs = ns.map V.int
  | _, _, .nil => rfl
  | _, _, .cons h t => by
    have h : _ = _ := h
    rw [h, ints_eq t]
    rfl
end Pc
set_option Elab.async false
set_option linter.all false
set_option maxRecDepth 100000
set_option maxHeartbeats 4000000
namespace L2
open PySem PySem.W PySem.Spec PyProof.Rows Srt Pc
section
variable {prog : Program} {w : World} {A : Around} {E : Value → Shared → Prop} {s : Shared} {env : Env}
theorem wpAny_Dict_oneH {ke ve : Expr} {pos : Pos} {Q : Value → Shared → Prop} (hu : (tupleKind (mixKind prog w)).room A)
    (h : wpAny (model prog w) A (evalPairs (pairTrees [some ke] [ve] env pos)) (fun vs s₁ => ∃ (k : List Key) (a : Addr) (v : Value), vs = [(.ref a, v)] ∧ IsTupleKey (mixKind prog w) s₁.heap k a ∧ s₁.heap.DictOfH (tupleKind (mixKind prog w)) s.heap.objs.size [] ∧
      ∀ h' t, h'.DictOfH (tupleKind (mixKind prog w)) s.heap.objs.size [(k, a, v)] → Heap.SameBut s.heap.objs.size s₁.heap h' → Q (.ref s.heap.objs.size) { s₁ with heap := h', toks := t }) E
      { s with heap := s.heap.push { cls := .type "dict", data := .dict #[] } }) :
    wpAny (model prog w) A (eval (.Dict [some ke] [ve] pos) env) Q E s := by
  rw [arm_eval_Dict, zip_pairTrees [some ke] [ve] env pos rfl rfl, dictDisplay_pairs _ (by simp [pairTrees]) (by simp [pairTrees])]
  refine wpAny_bind (wpAny_standAt (wpAny_bind ?_))
  unfold subDict
  refine wpAny_bind (wpAny_alloc ?_)
  refine wpAny_bind (wpAny_holding ?_)
  rw [if_pos (by simp [pairTrees])]
  refine wpAny_bind (wpAny_mono h (fun vs s₁ h₁ => ?_) fun _ _ e => e)
  obtain ⟨k, a, v, rfl, hk, hm, hQ⟩ := h₁
  refine wpAny_holding ?_
  rw [List.forIn_cons]
  refine wpAny_bind (wpAny_bind (wpAny_bind (wpAny_dictSet_heap (hsz := Nat.zero_le _) hu hk hm fun h' d' hs => wpAny_pure ?_)))
  dsimp only
  rw [List.forIn_nil]
  refine wpAny_pure (wpAny_pure (wpAny_pure (wpAny_pure (hQ h' _ ?_ hs))))
  have e : storedH ([] : List (List Key × Addr × Value)) k a v = [(k, a, v)] := rfl
  rw [← e]
  exact d'
end
def tDisp1 (tk tv : TE) : TE := fun σ H Q => ∀ p, H p = none → tk σ (upd H p (.dT [])) fun x H1 => tv σ H1 fun y H2 => H2 p = some (.dT []) ∧ ∃ (a : Addr) (k : List Key), x = .ref a ∧ H2 a = some (.tup (k.map kV)) ∧ Q (.ref p) (upd H2 p (.dT [(k, y)]))
theorem pe_disp1 {X : Cx} {pos : Pos} {ke ve : Expr} {tk tv : TE} (hu : X.A.units < cLine) (hk : PE X ke tk) (hv : PE X ve tv) : PE X (.Dict [some ke] [ve] pos) (tDisp1 tk tv) := by
  intro pins s σ H Q I q
  have hn := I.hok.fresh (Nat.le_refl s.heap.objs.size)
  have I1 := I.laid (a := s.heap.objs.size) (o := .dT []) (h' := s.heap.push { cls := .type "dict", data := .dict #[] }) (t' := s.toks) (fun _ _ q => Heap.get?_push_of_some _ q) (Nat.le_refl _) (dt_empty s.heap I.big)
  refine wpAny_Dict_oneH (show X.A.units < cLine from hu) (pairTrees_cons_walk (thn (hk pins _ σ _ _ I1 (q _ hn)) fun u s1 ⟨x, H1, I2, rx, q1⟩ => thn (hv pins s1 σ H1 _ I2 q1) fun w2 s2 ⟨y, H2, I3, ry, e, a, k, ex, ea, q2⟩ => pairTrees_nil_walk ?_))
  subst ex
  obtain rfl : u = Value.ref a := rx
  obtain ⟨z, hd, xs, r0, dd⟩ := dt_of I3.hok e
  cases r0
  refine ⟨k, a, w2, rfl, key_of I3.hok ea, dd, fun h' t dd' hs => ⟨.ref s.heap.objs.size, _, ?_, rfl, q2⟩⟩
  obtain ⟨o, es, ep, hq, h2, h3, h4, _, h5⟩ := dd'
  refine d_write I3 (by rw [e]; exact True.intro) hs ⟨o, hq⟩ ⟨by show 1 ≤ sizeLine; decide, hd, _, .cons ⟨rfl, ?_, ry⟩ .nil, o, es, ep, hq, h2, h3, h4, h5⟩
  rw [upd_ne (ne_of ea e (fun z => nomatch z))]
  exact ea
theorem qe_disp1 {X : Cx} {pos : Pos} {ke ve : Expr} {tk tv : TE} (hu : X.A.units < cLine) (hk : QE X ke tk) (hv : QE X ve tv) : QE X (.Dict [some ke] [ve] pos) (tDisp1 tk tv) := ⟨pe_disp1 hu hk.r hv.r⟩
end L2
set_option Elab.async false
set_option linter.all false
set_option maxRecDepth 100000
set_option maxHeartbeats 4000000
namespace L2
open PySem PySem.W PySem.Spec PyProof.Rows Srt Pc
theorem hu0_of {k : Nat} {A : Around} (hr : Room k A) : A.units < cLine := by have := hr.units; omega
section
variable {prog : Program} {w : World} {A : Around} {E : Value → Shared → Prop} {s : Shared}
end
section
variable {X : Cx} {K : PySem.W.Frag} {H : Hp} {Q : VK}
end
end L2
set_option Elab.async false
set_option linter.all false
set_option maxRecDepth 100000
set_option maxHeartbeats 4000000
namespace L2
open PySem PySem.W PySem.Spec PyProof.Rows Srt Pc
def DRaw (h : Heap) (d : Addr) (es : Array DictEntry) (ep : Nat) : Prop := ∃ o, h.get? d = some o ∧ o.ExactDict ∧ o.data = .dict es ep
theorem DRaw.lt {h : Heap} {d es ep} (x : DRaw h d es ep) : d < h.objs.size := let ⟨_, a, _⟩ := x; Heap.lt_size a
theorem DRaw.to {h h' : Heap} {d es ep} (x : DRaw h d es ep) (e : ∀ o, h.get? d = some o → h'.get? d = some o) : DRaw h' d es ep := let ⟨o, a, r⟩ := x; ⟨o, e _ a, r⟩
section
variable {prog : Program} {w : World} {A : Around} {E : Value → Shared → Prop} {s : Shared} {d it : Addr} {es : Array DictEntry} {ep i : Nat}
theorem DRaw.ty (x : DRaw s.heap d es ep) : s.TypeIs (.ref d) "dict" := let ⟨o, a, c, _⟩ := x; ⟨o, a, c.1⟩
theorem raw_iter {Q : Value → Shared → Prop} (lo : (d == sysModules) = false) (x : DRaw s.heap d es ep)
    (q : Q (.ref s.heap.objs.size) { s with heap := s.heap.push { cls := .type "dict_keyiterator", data := .fields #[.ref d, .int 0 0, .int es.size 0, .int ep 0] } }) : wpAny (model prog w) A (pyIter (.ref d)) Q E s := by
  obtain ⟨o, a, c, dat⟩ := id x
  refine wpAny_pyIter_slot x.ty PySem.F.slot_dict_iter (wpAny_call_entry PySem.F.slot_dict_iter x.ty PySem.F.entry_dict_iter ?_ (PySem.F.args_dict_iter_1 _))
  unfold Builtin.«dict.__iter__»; refine wpAny_bind ?_
  unfold Builtin.Dict.dictSlotNone; refine wpAny_bind (wpAny_notOrdered_dict x.ty ?_)
  show wpAny _ _ (pure (Value.ref d)) _ _ s; refine wpAny_pure ?_
  show wpAny _ _ (Builtin.Dict.showsAll d >>= _) _ _ s; unfold Builtin.Dict.showsAll
  rw [if_neg (by rw [lo]; simp)]; refine wpAny_bind (wpAny_pure ?_)
  refine wpAny_bind (wpAny_dictEntries a dat (wpAny_bind (wpAny_dictEpoch a dat ?_)))
  refine wpAny_bind (wpAny_newObj_type (wpAny_pure ⟨_, rfl, "dict_keyiterator", _, ⟨_, Heap.get?_push_size _ rfl, rfl⟩, PySem.F.slot_dict_keyiterator_next.lookup, q⟩))
theorem raw_next {Q : Option Value → Shared → Prop} (t : s.heap.IsKeyIter it d i es.size ep) (x : DRaw s.heap d es ep) {u : DictEntry} (hx : es[i]? = some u)
    (q : ∀ h', h'.IsKeyIter it d (i + 1) es.size ep → Heap.SameBut it s.heap h' → Q (some u.key) { s with heap := h' }) : wpAny (model prog w) A (pyNext (.ref it)) Q E s := by
  obtain ⟨o, ho, hc, hd⟩ := id t
  obtain ⟨od, a, c, dat⟩ := id x
  unfold pyNext
  refine wpAny_bind (wpAny_attempt (wpAny_callSpecial?_slot (name := Str.ofString "__next__") t.typeIs PySem.F.slot_dict_keyiterator_next (wpAny_call_entry PySem.F.slot_dict_keyiterator_next t.typeIs PySem.F.entry_dict_keyiterator_next ?_ (PySem.F.args_dict_keyiterator_next_1 _))))
  refine wpAny_bind (wpAny_pure ?_); refine wpAny_bind ?_; refine wpAny_bind ?_
  refine wpAny_bind (wpAny_typeNameOfWhole_keyiter t.typeIs (wpAny_pure ?_)); refine wpAny_bind (wpAny_fieldsOf ho hd ?_)
  simp only [show Builtin.Dict_items.ownsTuple "dict_keyiterator" = false by decide, Bool.false_eq_true, if_false]
  show wpAny _ _ (if (Value.ref d == Value.none) = true then _ else _) _ _ s; rw [if_neg (by simp)]
  refine wpAny_bind (wpAny_pure ?_); refine wpAny_bind (wpAny_dictEntries a dat ?_)
  rw [if_neg (by simp)]; refine wpAny_bind (wpAny_pure ?_); refine wpAny_bind (wpAny_dictEpoch a dat ?_)
  rw [if_neg (by simp)]; refine wpAny_pure ?_
  simp only [show ¬ ((i : Int) < 0) from by omega, if_false, Int.toNat_natCast, hx]; refine wpAny_bind ?_
  refine wpAny_bind (wpAny_typeNameOfWhole_keyiter t.typeIs (wpAny_pure ?_)); refine wpAny_bind (wpAny_isOneOf_keyiter t.typeIs ?_)
  show wpAny _ _ (setField (.ref it) 1 (rawInt ((i : Int) + 1)) >>= _) _ _ s; refine wpAny_bind (wpAny_setField ho hd (by simp) ?_)
  have t' : (s.heap.update it (Obj.mapFields (·.setIfInBounds 1 (rawInt ((i : Int) + 1))))).IsKeyIter it d (i + 1) es.size ep := ⟨_, Heap.get?_update_self _ ho (Obj.isFreed_of_fields (Obj.data_mapFields hd _)), (Obj.cls_mapFields ..).trans hc, by rw [Obj.data_mapFields hd]; simp [rawInt]⟩
  refine wpAny_bind (wpAny_holding ?_); refine wpAny_bind (wpAny_isOneOf_keyiter (s := { s with heap := s.heap.update it (Obj.mapFields (·.setIfInBounds 1 (rawInt ((i : Int) + 1)))) }) t'.typeIs ?_)
  show wpAny _ _ (pure u.key) _ _ _; exact wpAny_pure (wpAny_pure ⟨_, rfl, wpAny_pure (q _ t' (Heap.SameBut.update ..))⟩)
theorem raw_end {Q : Option Value → Shared → Prop} (hh : A.handled = none) (t : s.heap.IsKeyIter it d i es.size ep) (x : DRaw s.heap d es ep) (hx : es.size ≤ i)
    (q : ∀ h', Heap.ExtBut it s.heap h' → Q none { s with heap := h' }) : wpAny (model prog w) A (pyNext (.ref it)) Q E s := by
  obtain ⟨o, ho, hc, hd⟩ := id t
  obtain ⟨od, a, c, dat⟩ := id x
  unfold pyNext
  refine wpAny_bind (wpAny_attempt (wpAny_callSpecial?_slot (name := Str.ofString "__next__") t.typeIs PySem.F.slot_dict_keyiterator_next (wpAny_call_entry PySem.F.slot_dict_keyiterator_next t.typeIs PySem.F.entry_dict_keyiterator_next ?_ (PySem.F.args_dict_keyiterator_next_1 _))))
  refine wpAny_bind (wpAny_pure ?_); refine wpAny_bind ?_; refine wpAny_bind ?_
  refine wpAny_bind (wpAny_typeNameOfWhole_keyiter t.typeIs (wpAny_pure ?_)); refine wpAny_bind (wpAny_fieldsOf ho hd ?_)
  simp only [show Builtin.Dict_items.ownsTuple "dict_keyiterator" = false by decide, Bool.false_eq_true, if_false]
  show wpAny _ _ (if (Value.ref d == Value.none) = true then _ else _) _ _ s; rw [if_neg (by simp)]
  refine wpAny_bind (wpAny_pure ?_); refine wpAny_bind (wpAny_dictEntries a dat ?_)
  rw [if_neg (by simp)]; refine wpAny_bind (wpAny_pure ?_); refine wpAny_bind (wpAny_dictEpoch a dat ?_)
  rw [if_neg (by simp)]; refine wpAny_pure ?_
  simp only [show ¬ ((i : Int) < 0) from by omega, if_false, Int.toNat_natCast, Array.getElem?_eq_none hx]; refine wpAny_bind ?_
  refine wpAny_bind (wpAny_typeNameOfWhole_keyiter t.typeIs (wpAny_pure ?_))
  show wpAny _ _ (setField (.ref it) 0 .none >>= _) _ _ s; refine wpAny_bind (wpAny_setField ho hd (by simp) ?_)
  show wpAny _ _ (newExc (.type "StopIteration") [] >>= _) _ _ _; refine wpAny_bind ?_
  simp only [newExc, newTuple]; refine wpAny_bind (wpAny_newObj_type ?_ (by size_fits))
  refine wpAny_bind (m := firstArgMember _ _) (wpAny_of_eq (a := Value.none) (by first | rfl | (simp only [firstArgMember]; rfl)) (wpAny_newObj_type ?_ (by size_fits)))
  simp only [raiseNew]; refine wpAny_bind (wpAny_handled ?_)
  rw [show A.in1.handled = none from hh]; refine wpAny_bind (wpAny_pure (wpAny_throw ?_))
  refine wpAny_bind (wpAny_isInstance (T := "StopIteration") (b := true) ⟨_, Heap.get?_push_size _ rfl, rfl⟩ isSubtype_stop (wpAny_pure (q _ (((Heap.SameBut.update ..).extBut.push _).push _))))
theorem raw_walks (hh : A.handled = none) (I d : Addr) (hne : d ≠ I) (es : Array DictEntry) (ep : Nat) :
    Walks prog w A I [I, d] [I] es.size (fun i v => ∃ u, es[i]? = some u ∧ v = u.key) (fun i h => h.IsKeyIter I d i es.size ep ∧ DRaw h d es ep) where
  sub := fun b hb => by simp only [List.mem_singleton] at hb; simp [hb]
  frame := fun _ _ _ st k => ⟨st.1.at fun o e => k I (by simp) o e, st.2.to fun o e => k d (by simp) o e⟩
  item := fun i s Q E hi st hQ => raw_next st.1 st.2 (u := es[i]) (by simp [hi]) fun h' t' sb => hQ _ h' s.toks ⟨es[i], by simp [hi], rfl⟩ ⟨t', st.2.to fun o e => (sb.2 d hne).trans e⟩ fun b o hb e => (sb.2 b (fun z => hb (by simp [z]))).trans e
  done := fun s Q E st hQ => raw_end hh st.1 st.2 (Nat.le_refl _) fun h' eb => hQ h' s.toks fun b o hb e => eb b o (fun z => hb (by simp [z])) e
  self := fun _ _ _ _ st hQ => wpAny_pyIter_keyiter st.1 hQ
theorem raw_src (lo : (d == sysModules) = false) : KdlSrc prog w "dict" d d es.size (fun i v => ∃ u, es[i]? = some u ∧ v = u.key) (fun h => DRaw h d es ep) where
  type := fun _ x => x.ty
  there := fun _ x => ⟨x.lt, x.lt⟩
  keep := fun _ _ x k => x.to fun o e => k d (.inl rfl) o e
  notList := by decide
  notTuple := by decide
  hint := fun _ _ _ _ x q => kdl_hint_dict x.ty q
  iter := fun _ _ hh x => ⟨_, _, (fun _ _ q => raw_iter lo x q), raw_walks hh _ d (Nat.ne_of_lt x.lt) es ep, ⟨_, Heap.get?_push_size _ rfl, rfl, rfl⟩, x.to fun o e => Heap.get?_push_of_some _ e⟩
end
end L2
set_option Elab.async false
set_option linter.all false
set_option maxRecDepth 100000
set_option maxHeartbeats 4000000
namespace L2
open PySem PySem.W PySem.Spec PyProof.Rows Srt Pc
theorem Inv.thaw {X : Cx} {pins : List (Addr × Obj)} {σ : St} {H : Hp} {s : Shared} {d : Addr} {o : Obj} {kvs : List (List Key × V)} (I : Inv X pins σ H s) (e : H d = some (.frz o (.dT kvs))) (h0 : ∀ o u, X.H₀ d ≠ some (.frz o u)) : Inv X pins σ (upd H d (.dT kvs)) s := by
  have ne : ∀ {b : Addr}, H b = none → b ≠ d := fun z w => by rw [w, e] at z; cases z
  have up : ∀ {b : Addr} {u : HO}, H b = some u → (∀ o v, u ≠ .frz o v) → upd H d (.dT kvs) b = some u := fun {b u} z q => by
    by_cases hb : b = d
    · subst hb; rw [e] at z; exact absurd (Option.some.inj z).symm (q _ _)
    · rw [upd_ne hb]; exact z
  exact {
    ok := I.ok
    os := I.os
    bare := I.bare
    base := ⟨I.base.keep, I.base.slot, fun b o q n hx => by rw [upd_ne (ne (I.base.free b o q n hx))]; exact I.base.free b o q n hx, I.base.there, fun b xs q => up (I.base.tups b xs q) (fun _ _ z => nomatch z),
      fun b o u q => by
        have z := I.base.frzs b o u q
        by_cases hb : b = d
        · subst hb; exact absurd q (h0 _ _)
        · rw [upd_ne hb]; exact z,
      fun b ps q => let ⟨m, z⟩ := I.base.tbls b ps q; ⟨m, up z (fun _ _ z => nomatch z)⟩⟩
    loc := I.loc
    cell := I.cell
    free := by rw [upd_ne (ne I.free)]; exact I.free
    freeC := fun x c q => by rw [upd_ne (ne (I.freeC x c q))]; exact I.freeC x c q
    pin := fun p hp => let ⟨a, b, c⟩ := I.pin p hp; ⟨a, by rw [upd_ne (ne b)]; exact b, c⟩
    hok := fun b u q => by
      have ho : ∀ c, H c = some (.own b) → upd H d (.dT kvs) c = some (.own b) := fun c z => up z (fun _ _ z => nomatch z)
      have ht : ∀ c xs, H c = some (.tup xs) → upd H d (.dT kvs) c = some (.tup xs) := fun c xs z => up z (fun _ _ z => nomatch z)
      by_cases hb : b = d
      · subst hb
        rw [upd_same] at q
        cases q
        exact (I.hok b _ e).2.stay (fun _ _ _ z => z) ho ht
      · rw [upd_ne hb] at q
        exact (I.hok b u q).stay (fun _ _ _ z => z) ho ht
    len := I.len }
def Itd (d : Addr) (o : Obj) (kvs : List (List Key × V)) : It :=
  ⟨fun i H => i < kvs.length ∧ H d = some (.frz o (.dT kvs)), fun i H x H' => H' = H ∧ ∃ kv a, kvs[i]? = some kv ∧ x = .ref a ∧ H a = some (.tup (kv.1.map kV)), fun i H => kvs.length ≤ i ∧ H d = some (.frz o (.dT kvs))⟩
theorem paired_get {α β : Type} {F : α → β → Prop} : ∀ {l : List α} {m : List β}, Paired F l m → ∀ {i : Nat} {a : α}, l[i]? = some a → ∃ b, m[i]? = some b ∧ F a b
  | _, _, .nil, i, a, h => by simp at h
  | _, _, .cons h t, 0, a, e => by simp only [List.getElem?_cons_zero, Option.some.injEq] at e; subst e; exact ⟨_, rfl, h⟩
  | _, _, .cons h t, i + 1, a, e => by simp only [List.getElem?_cons_succ] at e ⊢; exact paired_get t e
theorem turn_dT {P : Program} {w : World} {K : PySem.W.Frag} {tg : Expr} {d it : Addr} {o : Obj} {kvs : List (List Key × V)} {es : Array DictEntry} {ep : Nat} (od : o.data = .dict es ep) :
    Turn P w K tg (Itd d o kvs) [it] it (fun i h => h.IsKeyIter it d i es.size ep) where
  mem := by simp
  obj := fun i h st b hb => by
    obtain rfl : b = it := by simpa using hb
    obtain ⟨u, e, c, dd⟩ := st
    exact ⟨u, e, fun v z => by rw [dd] at z; cases z⟩
  keep := fun i h h' st k => st.at fun u e => k it (by simp) u e
  item := by
    rintro X rfl rfl rfl hc i pins s σ H E I hf st ⟨hi, ed⟩
    obtain ⟨f0, f1, f2, f3, f4, f5⟩ := hf it (by simp)
    obtain ⟨g0, z, _, xs, r, o', es', ep', g1, g2, g3, g4, g5⟩ := I.hok d _ ed
    rw [g0] at g1
    cases g1
    rw [od] at g3
    cases g3
    obtain ⟨x, hx, q1, q2, q3⟩ := paired_get r (List.getElem?_eq_getElem hi)
    have hu : es[i]? = some (entryOfKey (tupleKind (mixKind X.prog X.w)) x) := by rw [← Array.getElem?_toList, g4, List.getElem?_map, hx]; rfl
    refine raw_next st ⟨o, g0, g2, od⟩ hu fun h' st' sb => ?_
    have I1 : Inv X pins σ H { s with heap := h' } := I.turned (t' := s.toks) (fun b u hb e => (sb.2 b hb).trans e) f0 f1 f3 f4 f5
    obtain ⟨u, e, c, dd⟩ := id st'
    exact ⟨_, rfl, go_of (s := { s with heap := h' }) e c dd (by decide) ⟨.ref x.2.1, H, I1, rfl, ⟨rfl, _, x.2.1, List.getElem?_eq_getElem hi, rfl, q2⟩, st', fun b hb => (hf b hb).1⟩⟩
  done := by
    rintro X rfl rfl rfl hc i pins s σ H E I hf st ⟨hi, ed⟩
    obtain ⟨f0, f1, f2, f3, f4, f5⟩ := hf it (by simp)
    obtain ⟨g0, z, _, xs, r, o', es', ep', g1, g2, g3, g4, g5⟩ := I.hok d _ ed
    rw [g0] at g1
    cases g1
    rw [od] at g3
    cases g3
    have hl : es.size = kvs.length := by rw [← Array.length_toList, g4, List.length_map, Paired.length r]
    exact raw_end (I.ok.hd hc) st ⟨o, g0, g2, od⟩ (by omega) fun h' eb => ⟨rfl, I.turned (t' := s.toks) (fun b u hb e => eb b u hb e) f0 f1 f3 f4 f5⟩
  self := fun _ _ _ _ _ st h => wpAny_pyIter_keyiter st h
def iDT (tl : TE) : TI := fun σ H R => tl σ H fun x H1 => ∃ d kvs, x = .ref d ∧ H1 d = some (.dT kvs) ∧ ∀ o, R (Itd d o kvs) (upd H1 d (.frz o (.dT kvs)))
theorem pi_dT {X : Cx} {tg l : Expr} {tl : TE} (hl : PE X l tl) : PI X tg l (iDT tl) := by
  intro pins s σ H R I h
  refine thn (hl pins s σ H _ I h) fun v s1 ⟨x, H1, I1, r1, q1⟩ => ?_
  obtain ⟨d, kvs, e, ed, q⟩ := q1
  subst e
  cases r1
  obtain ⟨z, lo, xs, r, o, es, ep, g1, g2, g3, g4, g5⟩ := id (I1.hok d _ ed)
  refine raw_iter lo ⟨o, g1, g2, g3⟩ ?_
  have If : Inv X pins σ (upd H1 d (.frz o (.dT kvs))) s1 := by
    refine I1.write (x := d) (e := d) (t' := s1.toks) (h' := s1.heap) (by rw [ed]; exact True.intro) (.inl rfl) (fun _ _ _ z => z) ⟨_, g1⟩ ⟨g1, ?_⟩
    refine (I1.hok d _ ed).stay (fun _ _ _ z => z) (fun b q => ?_) (fun b xs q => ?_)
    · rw [upd_ne (ne_of q ed (fun z => nomatch z))]; exact q
    · rw [upd_ne (ne_of q ed (fun z => nomatch z))]; exact q
  refine ⟨s1.heap.objs.size, [s1.heap.objs.size], _, _, _, rfl, If.kept (t' := s1.toks) fun b o e => Heap.get?_push_of_some _ e, turn_dT g3, ⟨_, Heap.get?_push_size _ rfl, rfl, rfl⟩, fun b hb => ?_, q o⟩
  obtain rfl : b = s1.heap.objs.size := by simpa using hb
  exact If.fpOk (Nat.le_refl _) (If.hok.fresh (Nat.le_refl _))
def Ends.thaw (D : Ends) (d : Addr) (kvs : List (List Key × V)) : Ends where
  nx := fun σ H => (∃ o, H d = some (.frz o (.dT kvs))) ∧ D.nx σ (upd H d (.dT kvs))
  rt := fun v H => (∃ o, H d = some (.frz o (.dT kvs))) ∧ D.rt v (upd H d (.dT kvs))
  bk := fun σ H => (∃ o, H d = some (.frz o (.dT kvs))) ∧ D.bk σ (upd H d (.dT kvs))
  ct := fun σ H => (∃ o, H d = some (.frz o (.dT kvs))) ∧ D.ct σ (upd H d (.dT kvs))
def mk1 (c : C3) : List Key × V := (keyC c, .bl true)
def Marks (H : Hp) (d : Addr) (cs : List C3) : Prop := H d = some (.dT (cs.map mk1))
def addC (cs : List C3) (c : C3) : List C3 := if c ∈ cs then cs else cs ++ [c]
theorem mem_addC {cs : List C3} {c x : C3} : x ∈ addC cs c ↔ x ∈ cs ∨ x = c := by
  unfold addC
  split
  · rename_i h
    constructor
    · exact .inl
    · rintro (h' | rfl)
      · exact h'
      · exact h
  · simp
theorem nodup_addC {cs : List C3} {c : C3} (h : cs.Nodup) : (addC cs c).Nodup := by
  unfold addC
  split
  · exact h
  · rename_i hn
    rw [List.nodup_append]
    refine ⟨h, by simp, fun a ha b hb => ?_⟩
    rw [List.mem_singleton] at hb
    subst hb
    exact fun e => hn (e ▸ ha)
theorem len_addC {cs : List C3} {c : C3} : (addC cs c).length ≤ cs.length + 1 := by unfold addC; split <;> simp
theorem put_marks (cs : List C3) (c : C3) : putK (cs.map mk1) (keyC c) (.bl true) = (addC cs c).map mk1 := by
  unfold putK addC
  by_cases h : c ∈ cs
  · have a : ((cs.map mk1).any fun kv => decide (kv.1 = keyC c)) = true := by
      rw [List.any_eq_true]
      exact ⟨mk1 c, List.mem_map.mpr ⟨c, h, rfl⟩, by simp [mk1]⟩
    rw [if_pos a, if_pos h, List.map_map]
    refine List.map_congr_left fun x _ => ?_
    show (if (mk1 x).1 = keyC c then _ else mk1 x) = mk1 x
    split
    · rename_i e
      rfl
    · rfl
  · have a : ¬ ((cs.map mk1).any fun kv => decide (kv.1 = keyC c)) = true := by
      rw [List.any_eq_true]
      rintro ⟨kv, hkv, e⟩
      obtain ⟨x, hx, rfl⟩ := List.mem_map.mp hkv
      have e : keyC x = keyC c := of_decide_eq_true e
      rw [keyC_inj] at e
      subst e
      exact h hx
    rw [if_neg a, if_neg h, List.map_append]
    rfl
theorem val_marks (cs : List C3) (c : C3) : (valV (cs.map mk1) (keyC c)).isSome = decide (c ∈ cs) := by
  rw [← valV_any]
  by_cases h : c ∈ cs
  · rw [decide_eq_true h, List.any_eq_true]
    exact ⟨mk1 c, List.mem_map.mpr ⟨c, h, rfl⟩, by simp [mk1]⟩
  · rw [decide_eq_false h, List.any_eq_false]
    intro kv hkv
    obtain ⟨x, hx, rfl⟩ := List.mem_map.mp hkv
    intro e
    have e : keyC x = keyC c := of_decide_eq_true e
    rw [keyC_inj] at e
    subst e
    exact h hx
end L2
set_option Elab.async false
set_option linter.all false
set_option maxRecDepth 100000
set_option maxHeartbeats 4000000
namespace L2
open PySem PySem.W PySem.Spec PyProof.Rows Srt Pc
section
variable {prog : Program} {w : World} {A : Around} {E : Value → Shared → Prop} {s : Shared}
theorem col_src {T : String} {r d : Addr} {n : Nat} {P : Nat → Value → Prop} {OK : Heap → Prop} {R : List Value → Shared → Prop} (Ks : KdlSrc prog w T r d n P OK) (hh : A.handled = none) (hok : OK s.heap) (hn : n ≤ sizeLine)
    (h : ∀ (h' : Heap) (tk : Nat) (acc : Array Value), (∀ b o, s.heap.get? b = some o → h'.get? b = some o) → s.heap.objs.size ≤ h'.objs.size → ItemsOf P acc n → R acc.toList { s with heap := h', toks := tk }) : wpAny (model prog w) A (collect (.ref r)) R E s := by
  have lt := Ks.there _ hok
  unfold collect; refine wpAny_bind (wpAny_runValue (codeAny_builtin entry_proto_collect' ?_))
  rw [Around.under_plainId PySem.F.plain_proto_collect _]; show wpAny _ A.in1 (newList [] >>= fun l => again (.builtin "list.__iadd__" ⟨[l, .ref r], []⟩)) _ _ s
  refine wpAny_bind (wpAny_newObj_type (wpAny_pure ⟨plainId_quiet PySem.F.plain_list_iadd _, codeAny_builtin entry_list_iadd' ?_⟩))
  rw [Around.under_plainId PySem.F.plain_list_iadd _]; show wpAny _ A.in1 (Builtin.List.listExtendWith (.ref s.heap.objs.size) (.ref r) (.ref s.heap.objs.size)) _ _ _
  have fin := kdl_extend (A := A) (s := { s with heap := s.heap.push { cls := .type "list", data := .seq ([] : List Value).toArray } }) (R := fun (q : Result) (s' : Shared) => ∃ (h' : Heap) (tk : Nat) (acc' : Array Value) (c' : Nat), q = .ok (.ret (.ref s.heap.objs.size)) ∧ s' = { s with heap := h', toks := tk } ∧ (∀ b o, s.heap.get? b = some o → h'.get? b = some o) ∧ h'.get? s.heap.objs.size = some { cls := .type "list", dict := none, data := .seq acc' c', slots := #[] } ∧ ItemsOf P acc' n)
    Ks hh (Ks.keep _ _ hok fun b _ o e => Heap.get?_push_of_some _ e) s.heap.objs.size (Nat.ne_of_gt lt.1) (Nat.ne_of_gt lt.2) (.ref s.heap.objs.size) 0 (Heap.get?_push_size _ rfl) (fun h' tk acc' c' k k2 k3 => ⟨h', tk, acc', c', rfl, rfl, fun b o e => k b o (Nat.ne_of_lt (Heap.lt_size e)) (Heap.get?_push_of_some _ e), k2, k3⟩) hn
  refine wpAny_mono fin (fun f s' x => ?_) fun e s' x => (by obtain ⟨_, _, _, _, e', _⟩ := x; cases e')
  cases f with
  | done f => obtain ⟨h', tk, acc', c', e, rfl, k, k2, k3⟩ := x; cases e; exact (show wpAny _ A (load s.heap.objs.size >>= _) _ _ _ from wpAny_bind (wpAny_load k2 (wpAny_pure (h h' tk acc' k (Nat.le_of_lt (Heap.lt_size k2)) k3))))
  | again c₁ => exact ⟨x.1, codeAny_mono x.2 fun q s₂ y => by obtain ⟨h', tk, acc', c', rfl, rfl, k, k2, k3⟩ := y; exact (show wpAny _ A (load s.heap.objs.size >>= _) _ _ _ from wpAny_bind (wpAny_load k2 (wpAny_pure (h h' tk acc' k (Nat.le_of_lt (Heap.lt_size k2)) k3))))⟩
theorem sorted_src {T : String} {r d : Addr} {n : Nat} {P : Nat → Value → Prop} {OK : Heap → Prop} {Q : Value → Shared → Prop} (Ks : KdlSrc prog w T r d n P OK) (hh : A.handled = none) (hok : OK s.heap) (hn : n ≤ sizeLine)
    (h : ∀ (h' : Heap) (tk : Nat) (vs : List Value), (∀ b o, s.heap.get? b = some o → h'.get? b = some o) → s.heap.objs.size ≤ h'.objs.size → vs.length = n → (∀ (j : Nat) (v : Value), vs[j]? = some v → P j v) →
      wpAny (model prog w) A.in1 (call (.builtin "list.sort") [.ref h'.objs.size]) (fun _ s' => Q (.ref h'.objs.size) s') E { s with heap := h'.push (seqObj "list" vs.toArray 0), toks := tk }) :
    wpAny (model prog w) A (call (.builtin "sorted") [.ref r]) Q E s := by
  refine Calls.call_function_entry kind_sorted plain_sorted entry_sorted (args_sorted1 _) ?_
  unfold Builtin.«sorted»; refine wpAny_bind (m := checkCount "sorted" 1 1 _) (wpAny_pure ?_)
  refine wpAny_bind (col_src (A := A.in1) Ks hh hok hn fun h' tk acc hk hs hacc => ?_)
  have hl : acc.toList.length = n := by rw [Array.length_toList]; exact hacc.1
  refine wpAny_bind (wpAny_newList ?_ (by rw [hl]; exact hn))
  refine wpAny_bind (wpAny_holding (wpAny_mono (h h' tk acc.toList hk hs hl fun j v e => hacc.2 j v (by rw [← Array.getElem?_toList]; exact e)) (fun _ s' x => wpAny_pure ⟨_, rfl, x⟩) fun _ _ e => e))
end
section
variable {X : Cx}
def rSortD (K : PySem.W.Frag) : List V → Hp → VK → Prop := fun xs H Q => ∃ (d : Addr) (kvs : List (List Key × V)) (cs : List C3), xs = [.ref d] ∧ H d = some (.dT kvs) ∧ kvs.map (·.1) = cs.map keyC ∧
  ∀ (p : Addr) (zs : List V), H p = none → Cs (upd H p (.lst zs)) zs (srtC cs) → Q (.ref p) (upd H p (.lst zs))
theorem sort_laid {pins : List (Addr × Obj)} {σ : St} {H : Hp} {s : Shared} {ys : List V} {cs : List C3} {its : List Value} {h' : Heap} {tk : Nat} {A : Around} {E : Value → Shared → Prop} {R : Value → Shared → Prop} (I : Inv X pins σ H s) (hc : Cs H ys cs) (rv : Vals ys its) (hz : ys.length ≤ sizeLine)
    (kk : ∀ b o, s.heap.get? b = some o → h'.get? b = some o) (hge : s.heap.objs.size ≤ h'.objs.size) (q : ∀ (p : Addr) (zs : List V) (s' : Shared), H p = none → Cs (upd H p (.lst zs)) zs (srtC cs) → Inv X pins σ (upd H p (.lst zs)) s' → p = h'.objs.size → R .none s') :
    wpAny (model X.prog X.w) A (call (.builtin "list.sort") [.ref h'.objs.size]) R E { s with heap := h'.push (seqObj "list" its.toArray 0), toks := tk } := by
  obtain ⟨ps, e1, e2, e3, e3t⟩ := prs_of (K := X.K) hc
  have hlen : ps.length = cs.length := by have := congrArg List.length e2; simpa using this
  have rv' : Vals (refs ps) its := by rw [← e1]; exact rv
  have hlen2 : its.length = ps.length := by have := rv'.length; simpa using this.symm
  have hz' : its.length ≤ sizeLine := by have := rv.length; omega
  have hn : H h'.objs.size = none := I.hok.fresh hge
  have hoL : (h'.push (seqObj "list" its.toArray 0)).get? h'.objs.size = some (seqObj "list" its.toArray 0) := Heap.get?_push_size _ rfl
  have kk2 : ∀ b o, s.heap.get? b = some o → (h'.push (seqObj "list" its.toArray 0)).get? b = some o := fun b o z => Heap.get?_push_of_some _ (kk b o z)
  have old : ∀ (out : Array Value) b o, s.heap.get? b = some o → (sortedHeap (h'.push (seqObj "list" its.toArray 0)) h'.objs.size its out).get? b = some o := fun out b o z => by
    have hlt : b < h'.objs.size := Heap.lt_size (kk b o z)
    rw [sortedHeap_old (Nat.ne_of_lt hlt) (by rw [size_push']; exact Nat.lt_succ_of_lt hlt)]
    exact kk2 b o z
  have d3 : ∀ p ∈ ps, p.2.length = 3 := fun p hp => by
    have : p.2 ∈ ps.map (·.2) := List.mem_map.mpr ⟨p, hp, rfl⟩
    rw [e2] at this
    obtain ⟨c, _, e⟩ := List.mem_map.mp this
    rw [← e]; rfl
  by_cases h2 : 2 ≤ its.length
  · have tup' : ∀ h1 : Heap, (∀ b o, s.heap.get? b = some o → h1.get? b = some o) → ∀ p ∈ ps, ∃ vs : List Value, Vals (p.2.map V.int) vs ∧ IsTup h1 p.1 vs.toArray := fun h1 kk p hp => by
      obtain ⟨vs, rv', ⟨ob, ho, hcl, n, hdat⟩, _⟩ := I.tuple (e3 p hp)
      exact ⟨vs, rv', ob, kk _ _ ho, hcl, n, hdat⟩
    have far : ∀ b o, s.heap.get? b = some o → b ≠ h'.objs.size := fun b o z => Nat.ne_of_lt (Heap.lt_size (kk b o z))
    refine wpAny_call_entry slot_list_sort ⟨_, hoL, rfl⟩ entry_list_sort (Tim.list_sort_any (lt := HT.lexLt) (k := fun x => keyOf ps x.1) (S := fun x => x.1 ∈ its) (kind := tuples' (Value.type "int" != Value.type "tuple")) hoL h2 hz' (fun h1 k1 {Q' E'} hQ => ?_) (fun h1 k1 => ⟨lexO, fun x y hx hy {Q' E'} hQ => ?_⟩) (fun v hv => hv) fun out hp hs => ?_) (args_list_sort _)
    · obtain ⟨fs, kt, hfl, hfs⟩ := firsts_of (h := h1) rv' fun p hp => ⟨fun e => by have := d3 p hp; rw [e] at this; simp at this, tup' h1 (fun b o z => k1 b o (far b o z) (kk2 b o z)) p hp⟩
      refine kat_kind (T := .type "int") kt (by omega) (fun v hv => ?_) rfl hQ
      obtain ⟨i, t, rfl⟩ := hfs v hv
      exact Looks.of_pure rfl
    · obtain ⟨p1, m1, f1⟩ := refs_mem rv' _ hx
      obtain ⟨p2, m2, f2⟩ := refs_mem rv' _ hy
      rw [f1, f2] at hQ ⊢
      rw [keyOf_eq e3t m1, keyOf_eq e3t m2] at hQ
      obtain ⟨vi, ri, oi, hoi, _, ni, di⟩ := tup' h1 (fun b o z => k1 b o (far b o z) (kk2 b o z)) p1 m1
      obtain ⟨vj, rj, oj, hoj, _, nj, dj⟩ := tup' h1 (fun b o z => k1 b o (far b o z) (kk2 b o z)) p2 m2
      refine kat_lt hoi di hoj dj ?_
      refine lex_pairs 0 ri rj ((d3 p1 m1).trans (d3 p2 m2).symm) ?_ hQ
      have a1 := ri.length
      have a2 := rj.length
      have b1 := d3 p1 m1
      have b2 := d3 p2 m2
      simp only [List.length_map] at a1 a2
      rw [List.size_toArray, List.size_toArray]
      exact decide_eq_false (by omega)
    · obtain ⟨qs, q1, q2, q3⟩ := refs_of out ps fun v hv => refs_mem rv' v (hp.mem_iff.mp hv)
      obtain ⟨e, he⟩ := sortedHeap_at (out := out.toArray) hoL
      have keyq : ∀ p ∈ qs, keyOf ps (.ref p.1) = p.2 := fun p hp => keyOf_eq e3t (q1 p hp)
      have kp : (out.map (keyOf ps)).Perm (its.map (keyOf ps)) := hp.map _
      have ko : out.map (keyOf ps) = qs.map (·.2) := by
        rw [q3, List.map_map]
        exact List.map_congr_left fun p hp => keyq p hp
      have ki : its.map (keyOf ps) = ps.map (·.2) := by
        have go : ∀ (ps' : Prs) (its' : List Value), (∀ p ∈ ps', p ∈ ps) → Vals (refs ps') its' → its'.map (keyOf ps) = ps'.map (·.2) := by
          intro ps'
          induction ps' with
          | nil => intro its' _ r; have r : Vals [] _ := r; cases r; rfl
          | cons p ps' ih =>
            intro its' hm r
            have r : Vals (V.ref p.1 :: refs ps') _ := r
            cases r with
            | cons r1 r2 =>
              cases r1
              rw [List.map_cons, List.map_cons, keyOf_eq e3t (hm p (List.mem_cons_self ..)), ih _ (fun p' hp' => hm p' (List.mem_cons_of_mem _ hp')) r2]
        exact go ps its (fun _ h => h) rv'
      rw [ko, ki, e2] at kp
      obtain ⟨ds, e4, e5⟩ := lists_of_map kp
      have ha : Asc ds := by
        have h3 : (qs.map (·.2)).Pairwise (fun a b => HT.lexLt b a = false) := by
          rw [← ko, List.pairwise_map]
          exact hs
        rw [e4] at h3
        exact (List.pairwise_map.mp h3).imp fun h => by unfold cle; rw [h]; rfl
      have e6 := srtC_uniq e5 ha
      have hzl : (refs qs).length ≤ sizeLine := by rw [q2.length, hp.length_eq]; exact hz'
      refine ⟨_, rfl, q h'.objs.size (refs qs) _ hn ?_ (I.laid (t' := tk) (old out.toArray) hge ⟨hzl, out, e, q2, he⟩) rfl⟩
      refine Rs.up (same_new hn) ?_
      rw [← e6]
      exact cs_of e4 fun x hx => e3t x (q1 x hx)
  · obtain ⟨e, he⟩ := sortedHeap_at (out := its.toArray) hoL
    refine wpAny_call_entry slot_list_sort ⟨_, hoL, rfl⟩ entry_list_sort (list_sort_short hoL (by omega) ⟨_, rfl, q h'.objs.size ys _ hn ?_ (I.laid (t' := tk) (old its.toArray) hge ⟨hz, its, e, rv, he⟩) rfl⟩) (args_list_sort _)
    have : srtC cs = cs := by
      refine srtC_of_asc ?_
      match cs, hlen with
      | [], _ => exact .nil
      | [c], _ => exact .cons (fun _ h => nomatch h) .nil
      | _ :: _ :: _, hlen => simp at hlen; omega
    rw [this]
    exact Rs.up (same_new hn) hc
theorem cs_keys {H : Hp} {kvs : List (List Key × V)} {xs : List (List Key × Addr × Value)} {cs : List C3} (h : KT H kvs xs) (e : kvs.map (·.1) = cs.map keyC) : Cs H (xs.map fun x => V.ref x.2.1) cs := by
  unfold KT at h
  induction h generalizing cs with
  | nil =>
    cases cs with
    | nil => exact .nil
    | cons _ _ => simp at e
  | cons h t ih =>
    cases cs with
    | nil => simp at e
    | cons c cs =>
      simp only [List.map_cons, List.cons.injEq] at e
      refine .cons ⟨_, rfl, ?_⟩ (ih e.2)
      rw [← keyC_v, ← e.1]
      exact h.2.1
theorem vals_keys : ∀ (xs : List (List Key × Addr × Value)), Vals (xs.map fun x => V.ref x.2.1) (xs.map fun x => Value.ref x.2.1)
  | [] => .nil
  | x :: xs => .cons rfl (vals_keys xs)
theorem call_sortD (hc : X.calm = true) : CallR X (.builtin "sorted") (rSortD X.K) := by
  intro pins s σ H xs us Q I r h
  obtain ⟨d, kvs, cs, rfl, ed, ek, q⟩ := h
  obtain ⟨u, rfl, ru⟩ := vals1 r
  cases ru
  obtain ⟨z, lo, ts, r, o, es, ep, g1, g2, g3, g4, g5⟩ := I.hok d _ ed
  have hl : es.size = ts.length := by rw [← Array.length_toList, g4, List.length_map]
  have hl2 : kvs.length = ts.length := Paired.length r
  refine sorted_src (raw_src (es := es) (ep := ep) lo) (I.ok.hd hc) ⟨o, g1, g2, g3⟩ (by omega) fun h' tk vs kk hs hlv hv => ?_
  have ev : vs = ts.map fun x => Value.ref x.2.1 := by
    refine List.ext_getElem? fun j => ?_
    rcases Nat.lt_or_ge j vs.length with hj | hj
    · have e := List.getElem?_eq_getElem hj
      obtain ⟨u, hu, e2⟩ := hv j _ e
      rw [← Array.getElem?_toList, g4, List.getElem?_map] at hu
      rw [e, List.getElem?_map]
      cases ht : ts[j]? with
      | none => rw [ht] at hu; cases hu
      | some t =>
        rw [ht] at hu
        cases hu
        rw [e2]; rfl
    · rw [List.getElem?_eq_none hj, List.getElem?_eq_none (by rw [List.length_map]; omega)]
  subst ev
  refine sort_laid I (cs_keys r ek) (vals_keys ts) (by rw [List.length_map]; omega) kk hs fun p zs s' hp hcz I' e => ?_
  exact ⟨.ref p, _, I', by rw [e]; rfl, q p zs hp hcz⟩
theorem qc_sortD {K : PySem.W.Frag} (h : X.K = K) (hc : X.calm = true) : QCl X (.builtin "sorted") (rSortD K) := ⟨h ▸ call_sortD hc⟩
theorem rd_sortD {K : PySem.W.Frag} {H : Hp} {Q : VK} {d : Addr} {cs : List C3} (h : Marks H d cs) (q : ∀ (p : Addr) (zs : List V), H p = none → Cs (upd H p (.lst zs)) zs (srtC cs) → Q (.ref p) (upd H p (.lst zs))) : rSortD K [.ref d] H Q :=
  ⟨d, _, cs, rfl, h, by rw [List.map_map]; rfl, q⟩
end
end L2
set_option Elab.async false
set_option linter.all false
set_option maxRecDepth 100000
set_option maxHeartbeats 4000000
namespace L2
open PySem PySem.W PySem.Spec PyProof.Rows Srt Pc
mutual
inductive Dat (K : PySem.W.Frag) (H : Hp) : V → PyData → Prop
  | int (n : Int) : Dat K H (.int n) (.int n)
  | bl (b : Bool) : Dat K H (.bl b) (.bool b)
  | str (x : Str) : Dat K H (.str x) (.str x)
  | non : Dat K H .non .none
  | tup {a : Addr} {vs : List V} {ds : List PyData} : SqT K H a vs → Dats K H vs ds → Dat K H (.ref a) (.tuple ds)
  | lst {a : Addr} {vs : List V} {ds : List PyData} : SqL K H a vs → Dats K H vs ds → Dat K H (.ref a) (.list ds)
inductive Dats (K : PySem.W.Frag) (H : Hp) : List V → List PyData → Prop
  | nil : Dats K H [] []
  | cons {v : V} {vs : List V} {d : PyData} {ds : List PyData} : Dat K H v d → Dats K H vs ds → Dats K H (v :: vs) (d :: ds)
end
section
variable {K : PySem.W.Frag} {H H' : Hp}
mutual
theorem Dat.up (s : Same H H') : ∀ {v : V} {d : PyData}, Dat K H v d → Dat K H' v d
  | _, _, .int n => .int n
  | _, _, .bl b => .bl b
  | _, _, .str x => .str x
  | _, _, .non => .non
  | _, _, .tup h t => .tup (same_tup s h) (Dats.up s t)
  | _, _, .lst h t => .lst (s.seq h) (Dats.up s t)
theorem Dats.up (s : Same H H') : ∀ {vs : List V} {ds : List PyData}, Dats K H vs ds → Dats K H' vs ds
  | _, _, .nil => .nil
  | _, _, .cons h t => .cons (Dat.up s h) (Dats.up s t)
end
end
section
variable {X : Cx} {K : PySem.W.Frag}
mutual
theorem Dat.reads {pins : List (Addr × Obj)} {σ : St} {H : Hp} {s : Shared} (I : Inv X pins σ H s) : ∀ {v : V} {d : PyData} {u : Value}, Dat X.K H v d → RelV v u → ∃ as, Reads s.heap u d as
  | _, _, _, .int n, r => by obtain ⟨t, rfl⟩ := r; exact ⟨_, .int n t⟩
  | _, _, _, .bl b, r => by cases r; exact ⟨_, .bool b⟩
  | _, _, _, .str x, r => by obtain ⟨t, rfl⟩ := r; exact ⟨_, .str x t⟩
  | _, _, _, .non, r => by cases r; exact ⟨_, .none⟩
  | _, _, _, .tup h t, r => by
    cases r
    obtain ⟨its, rv, ⟨o, ho, hc, n, hd⟩, _⟩ := I.tuple h
    obtain ⟨as, z⟩ := Dats.reads I t rv
    exact ⟨_, reads_tuple_at ho hc hd (by simpa using z)⟩
  | _, _, _, .lst h t, r => by
    cases r
    obtain ⟨its, rv, ⟨o, n, ho, hc, _, hd⟩, _⟩ := I.list h
    obtain ⟨as, z⟩ := Dats.reads I t rv
    exact ⟨_, reads_list_at ho hc hd (by simpa using z)⟩
theorem Dats.reads {pins : List (Addr × Obj)} {σ : St} {H : Hp} {s : Shared} (I : Inv X pins σ H s) : ∀ {vs : List V} {ds : List PyData} {us : List Value}, Dats X.K H vs ds → Vals vs us → ∃ as, ReadsAll s.heap us ds as
  | _, _, _, .nil, r => by cases r; exact ⟨_, .nil⟩
  | _, _, _, .cons h t, r => by
    cases r with
    | cons r1 r2 =>
      obtain ⟨as, z1⟩ := Dat.reads I h r1
      obtain ⟨bs, z2⟩ := Dats.reads I t r2
      exact ⟨_, .cons z1 z2⟩
end
variable {H : Hp} {Q : VK} {x y : V} {d : PyData}
structure Shp (n : Nat) (d : PyData) : Prop where
  lay : d.canLay0 = true
  dep : d.depth ≤ n
end
end L2
set_option Elab.async false
set_option linter.all false
set_option maxRecDepth 100000
set_option maxHeartbeats 4000000
namespace L2
open PySem PySem.W PyProof.Rows Srt Pc
def hid (H : Hp) (p : Addr) : Hp := fun q => if q = p then none else H q
theorem hid_same {H : Hp} {p : Addr} : Same (hid H p) H := fun b o h => by
  unfold hid at h
  split at h
  · cases h
  · exact h
theorem hid_at {H : Hp} {p q : Addr} {u : HO} (ne : q ≠ p) (h : H q = some u) : hid H p q = some u := by unfold hid; rw [if_neg ne]; exact h
theorem hid_none {H : Hp} {p : Addr} : hid H p p = none := by unfold hid; rw [if_pos rfl]
theorem same_hid {H Hc : Hp} {p : Addr} (s : Same H Hc) (h : H p = none) : Same H (hid Hc p) := fun b o q => hid_at (ne_of_none q h) (s b o q)
theorem cut_ints (ns : List Int) (lo hi : Option Int) : cutV (ns.map V.int) lo hi = (cutX ns lo hi).map V.int := by
  unfold cutV cutX
  rw [List.length_map, List.map_take, List.map_drop]
theorem cutX_len {α : Type} (xs : List α) (lo hi : Option Int) : (cutX xs lo hi).length ≤ xs.length := by
  unfold cutX
  rw [List.length_take, List.length_drop]
  omega
section
variable {σ : St} {H : Hp} {Q : VK} {D : Ends} {K : PySem.W.Frag}
theorem rd_dput {td ty tv : TE} (h : tv σ H fun v H1 => td σ H1 fun x H2 => ty σ H2 fun y H3 => ∃ a H4, x = .ref a ∧ DPut H3 a y v H4 ∧ D.nx σ H4) : sDPut td ty tv D σ H := h
theorem rd_din {td ty : TE} (h : ty σ H fun y H1 => td σ H1 fun x H2 => ∃ a o, x = .ref a ∧ DGet H2 a y o ∧ Q (.bl o.isSome) H2) : tDIn ty td σ H Q := h
theorem rd_dnotin {td ty : TE} (h : ty σ H fun y H1 => td σ H1 fun x H2 => ∃ a o, x = .ref a ∧ DGet H2 a y o ∧ Q (.bl (!o.isSome)) H2) : tDNotIn ty td σ H Q := h
theorem rd_gsub {to ti : TE} {t : TSet} {v : V} {R : St → Hp → Prop} (h : to σ H fun o H1 => ti σ H1 fun i H2 => t o i v H2 fun H3 => R σ H3) : gSub to ti t v σ H R := h
theorem rd_setL {p : Addr} {xs : List V} {k : Int} {j : Nat} {v : V} {R : Hp → Prop} (e : H p = some (.lst xs)) (ej : ixN xs.length k = some j) (q : R (upd H p (.lst (xs.set j v)))) : rSetL (.ref p) (.int k) v H R := ⟨p, xs, k, j, rfl, rfl, e, ej, q⟩
theorem rd_dnewT (h : ∀ p, H p = none → Q (.ref p) (upd H p (.dT []))) : tDNewT σ H Q := h
theorem marks_put {d a : Addr} {cs : List C3} {c : C3} (e : Marks H d cs) (ea : H a = some (.tup c.v)) (hl : cs.length ≤ 1000000) (q : Marks (upd H d (.dT ((addC cs c).map mk1))) d (addC cs c) → D.nx σ (upd H d (.dT ((addC cs c).map mk1)))) :
    ∃ p H4, V.ref d = .ref p ∧ DPut H p (.ref a) (.bl true) H4 ∧ D.nx σ H4 := ⟨d, _, rfl, by
  have := dput_c (v := .bl true) e ea (by rw [List.length_map]; exact smallM hl)
  rw [put_marks] at this
  exact this, q upd_same⟩
end
end L2
namespace Pc
open PySem L2 Srt
def IsA : Hp → V → Ax → Prop := fun _ v ax => v = .str ax.s
instance : Rep IsA := ⟨fun _ h => h, fun _ h => h⟩
def bareAt (cs : List C3) (u : Wy) (lo hi : Int) (c : C3) : Bool := decide (lo ≤ u.ax.at c) && (decide (u.ax.at c < hi) && !decide (u.next c ∈ cs))
def firstBare (cs : List C3) (u : Wy) (lo hi : Int) : Option C3 := cs.find? (bareAt cs u lo hi)
def FB (H : Hp) (u : Wy) (v : V) : Option C3 → Prop
  | none => v = .non
  | some c => ∃ p a b, v = .ref p ∧ H p = some (.tup [.ref a, .ref b]) ∧ H a = some (.tup (u.next c).v) ∧ H b = some (.tup c.v)
theorem FB.up {H H' : Hp} {u : Wy} {v : V} {o : Option C3} (s : Same H H') (h : FB H u v o) : FB H' u v o := by
  cases o with
  | none => exact h
  | some c => obtain ⟨p, a, b, e, x, y, z⟩ := h; exact ⟨p, a, b, e, s _ _ x, s _ _ y, s _ _ z⟩
def offU (cs : List C3) (ax : Ax) (a b : Int) : Bool := (firstBare cs ⟨ax, false⟩ (a + 1) b).isNone
def offD (cs : List C3) (ax : Ax) (a b : Int) : Bool := (firstBare cs ⟨ax, true⟩ a (b - 1)).isNone
theorem fold_addC_len (cs : List C3) : (cs.foldl addC []).length ≤ cs.length := by
  have : ∀ (cs acc : List C3), (cs.foldl addC acc).length ≤ acc.length + cs.length := by
    intro cs
    induction cs with
    | nil => intro acc; simp
    | cons c cs ih =>
      intro acc
      have h1 := ih (addC acc c)
      have h2 := @len_addC acc c
      rw [List.foldl_cons, List.length_cons]
      omega
  simpa using this cs []
def spMarked (K : PySem.W.Frag) : Sp := fun vs H Q _ => ∃ (a : Addr) (ys : List V) (cs : List C3), vs = [.ref a] ∧ SqL K H a ys ∧ Cs H ys cs ∧ cs.length ≤ 100000 ∧ ∀ d H', Same H H' → H d = none → Marks H' d (cs.foldl addC []) → Q (.ref d) H'
def spBar (K : PySem.W.Frag) : Sp := fun vs H Q _ => ∃ (a : Addr) (x y z n : Int) (f : Bool), vs = [.ref a, .int n, .bl f] ∧ SqL K H a [.int x, .int y, .int z] ∧ (-57 ≤ x ∧ x ≤ 51) ∧ (-57 ≤ y ∧ y ≤ 51) ∧ (-57 ≤ z ∧ z ≤ 51) ∧
  ∀ p ys cs H', Same H H' → H p = none → H' p = some (.lst ys) → Cs H' ys cs → cs ≠ [] → cs.length ≤ 4 → (∀ c ∈ cs, c.within 60) → Q (.ref p) H'
def spBodyB (K : PySem.W.Frag) : Sp := fun vs H Q _ => ∃ (a b : Addr) (ns ms : List Int), vs = [.ref a, .ref b] ∧ SqL K H a (ns.map V.int) ∧ SqL K H b (ms.map V.int) ∧ ms.length ≤ 200 ∧
  ∀ p ys cs H', Same H H' → H p = none → H' p = some (.lst ys) → Cs H' ys cs → Asc cs → cs.Nodup → (∀ c ∈ cs, c.within 60) → cs.length ≤ 800 → (ms ≠ [] → cs ≠ []) → Q (.ref p) H'
theorem set3 (p q r t : Int) (h0 : 0 ≤ t) (h1 : t < 3) : ∃ j, ixN 3 t = some j ∧ ∃ old : Int, atI [V.int p, V.int q, V.int r] t = some (.int old) ∧ ∃ p' q' r' : Int, [V.int p, V.int q, V.int r].set j (.int (old + 1)) = [V.int p', V.int q', V.int r'] ∧ (p ≤ p' ∧ p' ≤ p + 1) ∧ (q ≤ q' ∧ q' ≤ q + 1) ∧ (r ≤ r' ∧ r' ≤ r + 1) := by
  rcases (by omega : t = 0 ∨ t = 1 ∨ t = 2) with h | h | h <;> subst h
  · exact ⟨0, rfl, p, rfl, p + 1, q, r, rfl, by omega, by omega, by omega⟩
  · exact ⟨1, rfl, q, rfl, p, q + 1, r, rfl, by omega, by omega, by omega⟩
  · exact ⟨2, rfl, r, rfl, p, q, r + 1, rfl, by omega, by omega, by omega⟩
theorem cs_hid {H : Hp} {d : Addr} {kvs : List (List Key × V)} (e : H d = some (.dT kvs)) : ∀ {ys : List V} {cs : List C3}, Cs H ys cs → Cs (hid H d) ys cs
  | _, _, .nil => .nil
  | _, _, .cons ⟨a, ea, q⟩ t => .cons ⟨a, ea, hid_at (ne_of q e (fun z => nomatch z)) q⟩ (cs_hid e t)
end Pc
set_option Elab.async false
set_option linter.all false
set_option maxRecDepth 100000
set_option maxHeartbeats 4000000
namespace L2
open PySem PySem.Spec PyProof.Rows
theorem comp_runG {X : Cx} {pins : List (Addr × Obj)} {σ : St} {Q : VK} {tg elt iter : Expr} {ifs : List Expr} {scope : Scope} {pos : Pos} {N own : List Str} {caps : List Nat} {g : TG} {tc : TT} {te : TE} {cl : List (Str × Addr)} {it acc : Addr} {fp : List Addr} {tn : Nat → Heap → Prop} {J : It}
    {s3 : Shared} {H3 : Hp} {h1 : Heap} {m : Str → Option Value} {t1 m0 : Nat} {W : Nat → Nat → St → Hp → Prop} (hc : X.calm = true)
    (hN : N = own ++ caps.map fun j => (X.N[j]?).getD (Str.ofString "")) (ok : BlkOk X.env.scope X.N scope caps) (hkind : scope.kind = .function)
    (hcl : BlkCl X scope cl s3.heap.objs.size h1)
    (hg : PG (cxBlk X N scope cl s3 H3 fp) tg g) (hifs : PIfs (cxBlk X N scope cl s3 H3 fp) ifs tc) (he : PE (cxBlk X N scope cl s3 H3 fp) elt te)
    (I3 : Inv X pins σ H3 s3) (f3 : ∀ b ∈ fp, FpOk X pins H3 b) (flt : ∀ b ∈ fp, b < s3.heap.objs.size) (T : Turn X.prog X.w X.K tg J fp it tn) (st3 : tn 0 s3.heap)
    (hns : h1.Ns s3.heap.objs.size m) (keep : ∀ b o, s3.heap.get? b = some o → h1.get? b = some o) (w0 : W 0 m0 (blockSt own.length caps σ) H3)
    (turn : ∀ i m σ' H', W i m σ' H' →
      (J.stop i H' ∧ Q (.ref acc) H') ∨ (J.go i H' ∧ ∃ N : St → Hp → Prop, (∀ σ'' H'', N σ'' H'' → ∃ m', m' < m ∧ W (i + 1) m' σ'' H'') ∧ ∀ x H2, J.yld i H' x H2 → g x σ' H2 fun σ3 H3 => tc σ3 H3 fun b H4 =>
        if b = true then te σ3 H4 fun v H5 => ∃ ys, H5 acc = some (.lst ys) ∧ ys.length < sizeLine ∧ N σ3 (upd H5 acc (.lst (ys ++ [v])))
        else N σ3 H4)) {RR : Result → Shared → Prop}
    (fin : ∀ s6 H5 m6, Inv X pins σ H5 s6 → H5 s3.heap.objs.size = none → s6.heap.Ns s3.heap.objs.size m6 → Q (.ref acc) H5 → RR (.ok .next) s6) :
    codeAny (model X.prog X.w) X.A (.compStart (.ListComp elt [⟨tg, iter, ifs, 0⟩] scope pos) 0 (.ref it) (.ref acc) (compEnvC scope cl s3.heap.objs.size X.env))
      RR { s3 with heap := h1, toks := t1 } := by
  have IB := blk_start (t1 := t1) (own := own) I3 f3 flt hN ok hkind hcl hns keep
  have stat : ∀ {H' : Hp}, (∀ b ∈ fp, H' b = none) → ∀ b ∈ fp, FpOk (cxBlk X N scope cl s3 H3 fp) [] H' b := fun {H'} hn b hb =>
    ⟨hn b hb, (IB.ok.exf b hb).1, IB.ok.exfs b hb, .inl hb, (IB.ok.exf b hb).2, fun p hp => absurd (show p ∈ ([] : List (Addr × Obj)) from hp) (by simp)⟩
  have st4 : tn 0 h1 := T.keep _ _ _ st3 fun b _ o e => keep b o e
  have loop : codeAny (model X.prog X.w) X.A (.compLoop (.ListComp elt [⟨tg, iter, ifs, 0⟩] scope pos) 0 (.ref it) (.ref acc) (compEnvC scope cl s3.heap.objs.size X.env))
      RR { s3 with heap := h1, toks := t1 } := by
    refine compLoop_gen (fun n s' => ∃ i σ' H', Inv (cxBlk X N scope cl s3 H3 fp) [] σ' H' s' ∧ tn i s'.heap ∧ (∀ b ∈ fp, H' b = none) ∧ W i n σ' H') ?_ m0 ⟨0, _, H3, IB, st4, fun b hb => (f3 b hb).1, w0⟩
    rintro n s5 ⟨i, σ5, H5, I5, st5, fr5, w5⟩
    rcases turn i n σ5 H5 w5 with ⟨stop, qn⟩ | ⟨go, Nx, hNx, step⟩
    · refine thn (T.done (cxBlk X N scope cl s3 H3 fp) rfl rfl rfl hc i [] s5 σ5 H5 _ I5 (stat fr5) st5 stop) fun r s6 ⟨hr, I6⟩ => ?_
      subst hr
      obtain ⟨m6, hn6, _⟩ := I6.loc
      have IX : Inv X pins σ H5 s6 := I3.call' (ch := fp) I6.os I6.base I6.hok I6.bare fun b hb => ⟨(f3 b hb).2.2.2.1, (f3 b hb).2.1, (f3 b hb).2.2.2.2.1, (f3 b hb).2.2.2.2.2⟩
      exact fin s6 H5 m6 IX I6.free hn6 qn
    · refine thn (T.item (cxBlk X N scope cl s3 H3 fp) rfl rfl rfl hc i [] s5 σ5 H5 _ I5 (stat fr5) st5 go) fun r s6 ⟨u, hr, h6⟩ => ?_
      subst hr
      refine thn h6 fun _ s7 ⟨x, H7, I7, r7, y7, st7, fr7⟩ => ?_
      have I7' := I7.pinned (stat fr7) (T.obj _ _ st7)
      refine thn (hg _ s7 σ5 H7 x u _ I7' r7 (step x H7 y7)) fun _ s8 ⟨σ8, H8, I8, q8⟩ => ?_
      have again : ∀ {s9 : Shared} {H9 : Hp}, Inv (cxBlk X N scope cl s3 H3 fp) ([] ++ pinsAt fp s7.heap) σ8 H9 s9 → Nx σ8 H9 →
          ∃ m, m < n ∧ ∃ i σ' H', Inv (cxBlk X N scope cl s3 H3 fp) [] σ' H' s9 ∧ tn i s9.heap ∧ (∀ b ∈ fp, H' b = none) ∧ W i m σ' H' := fun {s9 H9} I9 n9 => by
        obtain ⟨m', hm, w9⟩ := hNx σ8 H9 n9
        refine ⟨m', hm, i + 1, σ8, H9, I9.unpinned, T.keep _ _ _ st7 fun b hb o e => (I9.pin (b, o) (List.mem_append_right _ (List.mem_append_right _ (mem_pinsAt hb e)))).1, fun b hb => ?_, w9⟩
        obtain ⟨o, e, d⟩ := T.obj _ _ st7 b hb
        exact (I9.pin (b, o) (List.mem_append_right _ (List.mem_append_right _ (mem_pinsAt hb e)))).2.1
      refine thn (hifs _ s8 σ8 H8 _ I8 q8) fun b s9 ⟨H9, I9, q9⟩ => ?_
      cases b with
      | false =>
        rw [if_neg (by decide)] at q9 ⊢
        exact again I9 q9
      | true =>
        rw [if_pos rfl] at q9 ⊢
        refine thn (he _ s9 σ8 H9 _ I9 q9) fun xv s10 ⟨v, H10, I10, r10, ys, ey, hz, n10⟩ => ?_
        refine thn (mt_append (X := cxBlk X N scope cl s3 H3 fp) _ s10 σ8 H10 (.ref acc) [v] (.ref acc) [xv] (fun _ H' => H' = upd H10 acc (.lst (ys ++ [v]))) I10 rfl (.cons r10 .nil) ⟨acc, ys, v, rfl, rfl, ey, hz, rfl⟩) fun _ s11 ⟨_, H11, I11, _, e11⟩ => ?_
        subst e11
        exact again I11 n10
  exact codeAny_compStart_list loop (T.self _ _ _ _ _ st4 loop)
theorem ps_setU {X : Cx} {i : Nat} {x : Str} {pos' spos : Pos} {tg elt iter : Expr} {ifs : List Expr} {scope : Scope} {pos : Pos} {N : List Str} {wi : TI} {g : TG} {tc : TT} {te : TE} (own : List Str) (caps : List Nat) (hXN : X.N.Nodup) (hxi : X.N[i]? = some x) (hx : Loc X.env.scope x) (hc : X.calm = true)
    (hN : N = own ++ caps.map fun j => (X.N[j]?).getD (Str.ofString "")) (hok : blkOk X.env.scope X.N scope caps = true) (hkind : scope.kind = .function)
    (hi : PI X tg iter wi) (hg : ∀ cl s₃ H₃ ch, PG (cxBlk X N scope cl s₃ H₃ ch) tg g) (hifs : ∀ cl s₃ H₃ ch, PIfs (cxBlk X N scope cl s₃ H₃ ch) ifs tc) (he : ∀ cl s₃ H₃ ch, PE (cxBlk X N scope cl s₃ H₃ ch) elt te)
    (hsw : swapsWith (.ListComp elt [⟨tg, iter, ifs, 0⟩] scope pos) (some (.Name x pos')) spos.line X.env = pure true) (hf : X.fn x = true ∨ X.env.scope.names.lookup x = some .local) (hs : ∀ x, foldedSetIterable iter X.env x = pure x := by intro _; rfl) :
    PS X (.Assign [.Name x pos'] (.ListComp elt [⟨tg, iter, ifs, 0⟩] scope pos) spos) (tAsg (tComp own.length caps wi g tc te) (gName i)) := by
  intro pins s σ H D I h
  have ok := blkOk_iff hok
  obtain ⟨cl, hclo, hcl1, hcl2'⟩ := clo_go X.env scope.names [] (fun y hy hk => I.ok.has y.1 (ok.free y hy hk)) (fun x c e => by simp at e)
  have hcl2 : ∀ x, (x, NameKind.free) ∈ scope.names → ∃ c, cl.lookup x = some c := fun x hx => hcl2' x (.inl hx)
  rw [← closureFor_eq] at hclo
  rw [exec_Assign_Name_used _ _ _ _ hsw]
  refine wpAny_bind (wpAny_standAt (wpAny_bind ?_))
  show wpAny _ X.A (do let _ ← comprehension (.ListComp elt [⟨tg, iter, ifs, 0⟩] scope pos) scope X.env _ (newList []) false (eval iter X.env) (some (assign (.Name x pos') X.env))) _ _ s
  refine wpAny_bind (wpAny_mono (wpAny_comprehension_free (use := some (assign (.Name x pos') X.env)) (Q := fun _ s' => SP X pins D .next s') rfl hs hclo hkind ok.loc (thn (hi pins s σ H _ I h) fun v s1 h1 => thn h1 fun itv s2 h2 => ?_)) (fun _ s' hq => wpAny_pure (wpAny_pure hq)) fun _ _ e => e)
  obtain ⟨it, fp, tn, J, H2, e, I2, T, st2, f2, R⟩ := h2
  subst e
  obtain ⟨W, ⟨m0, w0⟩, turn⟩ := R s2.heap.objs.size I2.fresh
  have flt : ∀ b ∈ fp, b < s2.heap.objs.size := fun b hb => let ⟨o, ho, _⟩ := T.obj 0 _ st2 b hb; Heap.lt_size ho
  have I3 : Inv X pins σ (upd H2 s2.heap.objs.size (.lst [])) { s2 with heap := s2.heap.push { cls := .type "list", dict := none, data := .seq ([] : List Value).toArray } } := I2.lnew (t' := s2.toks) (its := []) .nil (Nat.zero_le _)
  have f3 : ∀ b ∈ fp, FpOk X pins (upd H2 s2.heap.objs.size (.lst [])) b := fun b hb => ⟨by rw [upd_ne (Nat.ne_of_lt (flt b hb))]; exact (f2 b hb).1, (f2 b hb).2⟩
  refine wpAny_newObj_type (newEnv_blk fun h₁ hns₁ keep₁ cok => ?_)
  have flt3 : ∀ b ∈ fp, b < (s2.heap.push { cls := .type "list", dict := none, data := .seq ([] : List Value).toArray }).objs.size := fun b hb => by
    rw [Heap.size_push]
    exact Nat.lt_succ_of_lt (flt b hb)
  refine comp_runG (own := own) (Q := fun x H1 => gName i x σ H1 D.nx) hc hN ok hkind (blkCl_of ok I3 hcl1 hcl2 cok) (hg _ _ _ _) (hifs _ _ _ _) (he _ _ _ _) I3 f3 flt3 T (T.keep _ _ _ st2 fun b _ o e => Heap.get?_push_of_some _ e) hns₁ keep₁ w0 turn (fun s6 H5 m6 IX hC hn6 q => ?_)
  show wpAny _ X.A (assign (.Name x pos') X.env (.ref s2.heap.objs.size)) _ _ _
  have nL := Nat.ne_of_gt I3.lt
  have nC : ∀ y c, X.env.cells.lookup y = some c → c ≠ (s2.heap.push { cls := .type "list", dict := none, data := .seq ([] : List Value).toArray }).objs.size := fun y c e => by
    obtain ⟨v, o, ho, _⟩ := I3.cell y c e
    exact Nat.ne_of_lt (Heap.lt_size ho)
  refine wpAny_assign_Name (store_ok2 IX hXN hxi hx (v := .ref s2.heap.objs.size) rfl (fun s7 I7 ⟨a, sb, ha⟩ => ⟨m6, hn6.sameBut sb ?_, fun h' hs' => ⟨_, H5, I7.turned (t' := s7.toks) (fun b o hb e => (hs'.2 b hb).trans e) hC nL (.inr I3.sz) nC (fun p hp => Nat.ne_of_lt (Heap.lt_size (I3.pin p hp).1)), q⟩⟩) hf)
  rcases ha with rfl | ha
  · exact nL
  · exact (nC _ _ ha).symm
theorem qs_setU {X : Cx} {i : Nat} {x : Str} {pos' spos : Pos} {tg elt iter : Expr} {ifs : List Expr} {scope : Scope} {pos : Pos} {N : List Str} {wi : TI} {g : TG} {tc : TT} {te : TE} (own : List Str) (caps : List Nat) (hXN : X.N.Nodup) (hxi : X.N[i]? = some x) (hx : Loc X.env.scope x) (hc : X.calm = true)
    (hN : N = own ++ caps.map fun j => (X.N[j]?).getD (Str.ofString "")) (hok : blkOk X.env.scope X.N scope caps = true) (hkind : scope.kind = .function)
    (hi : QI X tg iter wi) (hg : ∀ cl s₃ H₃ ch, QG (cxBlk X N scope cl s₃ H₃ ch) tg g) (hifs : ∀ cl s₃ H₃ ch, QF (cxBlk X N scope cl s₃ H₃ ch) ifs tc) (he : ∀ cl s₃ H₃ ch, QE (cxBlk X N scope cl s₃ H₃ ch) elt te)
    (hsw : swapsWith (.ListComp elt [⟨tg, iter, ifs, 0⟩] scope pos) (some (.Name x pos')) spos.line X.env = pure true := by rfl) (hf : X.fn x = true ∨ X.env.scope.names.lookup x = some .local := by first | exact .inl rfl | exact .inr rfl | assumption) (hs : ∀ x, foldedSetIterable iter X.env x = pure x := by intro _; rfl) :
    QS X (.Assign [.Name x pos'] (.ListComp elt [⟨tg, iter, ifs, 0⟩] scope pos) spos) (tAsg (tComp own.length caps wi g tc te) (gName i)) :=
  ⟨ps_setU own caps hXN hxi hx hc hN hok hkind hi.r (fun a b c d => (hg a b c d).r) (fun a b c d => (hifs a b c d).r) (fun a b c d => (he a b c d).r) hsw hf hs⟩
end L2
set_option Elab.async false
set_option linter.all false
set_option maxRecDepth 100000
set_option maxHeartbeats 4000000
namespace L2
open PySem PySem.Spec PyProof.Rows
section
variable {X : Cx} {K : PySem.W.Frag}
end
end L2
set_option Elab.async false
set_option linter.all false
set_option maxRecDepth 100000
set_option maxHeartbeats 4000000
namespace Pc
open PySem L2 Srt
def good (cs : List C3) (ax : Ax) (a b : Int) : Bool := offU cs ax a b || offD cs ax a b
def farF (cs : List C3) (ax : Ax) (a : Int) : Nat → Int → Int
  | 0, b => b
  | n + 1, b => if good cs ax a (b + 1) = true then farF cs ax a n (b + 1) else b
def far (cs : List C3) (ax : Ax) (a top : Int) : Int := farF cs ax a (top - (a + 1)).toNat (a + 1)
abbrev Bx := Int × Int × Bool
inductive Chain (cs : List C3) (ax : Ax) (last : Int) : Int → List Bx → Prop
  | nil : Chain cs ax last last []
  | cons {a b : Int} {u : Bool} {r : List Bx} : a < b → b ≤ last → good cs ax a b = true → u = offU cs ax a b → (b = last ∨ good cs ax a (b + 1) = false) → Chain cs ax last b r → Chain cs ax last a ((a, b, u) :: r)
def IsHi (ax : Ax) (cs : List C3) (m : Int) : Prop := (∃ c ∈ cs, ax.at c = m) ∧ ∀ c ∈ cs, ax.at c ≤ m
open Classical in
noncomputable def hiA (ax : Ax) (cs : List C3) : Int := if h : ∃ m, IsHi ax cs m then h.choose else 0
def kd (u : Bool) : Str := if u = true then Str.ofString "up" else Str.ofString "down"
def IsBox : Hp → V → Bx → Prop := fun H v x => ∃ p, v = .ref p ∧ H p = some (.tup [.int x.1, .int x.2.1, .str (kd x.2.2)])
instance : Rep IsBox := ⟨fun s ⟨p, e, q⟩ => ⟨p, e, s _ _ q⟩, fun h' ⟨p, e, q⟩ => ⟨p, e, lk_kind h' (by intro z; cases z) q⟩⟩
end Pc
namespace L2
open PySem PySem.W PyProof.Rows Srt Pc
section
variable {σ : St} {H : Hp} {Q : VK} {D : Ends} {K : PySem.W.Frag}
theorem rd_while {c : TT} {tb : TS} (W : Nat → St → Hp → Prop) (m : Nat) (h0 : W m σ H) (h : ∀ m σ H, W m σ H → c σ H fun b H1 => if b = true then ∃ N : St → Hp → Prop, (∀ σ' H', N σ' H' → ∃ m', m' < m ∧ W m' σ' H') ∧ tb { D with nx := N, ct := N, bk := D.nx } σ H1 else D.nx σ H1) : tWhile c tb D σ H := ⟨W, ⟨m, h0⟩, h⟩
theorem SqL.tru {p : Addr} {xs : List V} (h : SqL K H p xs) : TruV K (.ref p) H (!xs.isEmpty) := .inl ⟨xs, h, rfl⟩
theorem rd_truthx {ta : TE} {R : Bool → Hp → Prop} (h : ta σ H fun x H' => ∃ k, TruV K x H' k ∧ R k H') : tTruth K ta σ H R := h
end
end L2
namespace L2
open PySem PySem.W PyProof.Rows Srt Pc
end L2
namespace Pc
open PySem L2 Srt
end Pc
set_option Elab.async false
set_option linter.all false
set_option maxRecDepth 100000
set_option maxHeartbeats 4000000
namespace L2
open PySem PySem.W PyProof.Rows Srt Pc
end L2
namespace Pc
open PySem L2 Srt
abbrev Pap := Int × Int × Option C3 × Option C3
theorem FB.lst {H : Hp} {u : Wy} {v : V} {o : Option C3} {p : Addr} {ys zs : List V} (e : H p = some (.lst ys)) (h : FB H u v o) : FB (upd H p (.lst zs)) u v o := by
  cases o with
  | none => exact h
  | some c => obtain ⟨q, a, b, r, x, y, z⟩ := h; exact ⟨q, a, b, r, lk_kind e (by intro z; cases z) x, lk_kind e (by intro z; cases z) y, lk_kind e (by intro z; cases z) z⟩
def IsPap (ax : Ax) : Hp → V → Pap → Prop := fun H v x => ∃ p v1 v2, v = .ref p ∧ H p = some (.tup [.int x.1, .int x.2.1, v1, v2]) ∧ FB H ⟨ax, false⟩ v1 x.2.2.1 ∧ FB H ⟨ax, true⟩ v2 x.2.2.2
instance {ax : Ax} : Rep (IsPap ax) := ⟨fun s ⟨p, v1, v2, e, q, f1, f2⟩ => ⟨p, v1, v2, e, s _ _ q, f1.up s, f2.up s⟩, fun h' ⟨p, v1, v2, e, q, f1, f2⟩ => ⟨p, v1, v2, e, lk_kind h' (by intro z; cases z) q, f1.lst h', f2.lst h'⟩⟩
end Pc
set_option Elab.async false
set_option linter.all false
set_option maxRecDepth 100000
set_option maxHeartbeats 4000000
namespace Pc
open PySem L2 Srt
inductive Row (cs : List C3) (ax : Ax) (last : Int) : Int → List (Int × Int) → Prop
  | nil : Row cs ax last last []
  | cons {a b : Int} {r : List (Int × Int)} : a < b → b ≤ last → good cs ax a b = true → Row cs ax last b r → Row cs ax last a ((a, b) :: r)
def spWide (K : PySem.W.Frag) : Sp := fun vs H Q _ => ∃ (a : Addr) (ns : List Int), vs = [.ref a] ∧ SqL K H a (ns.map V.int) ∧ ns.length ≤ 63 ∧ ∀ p (ms : List Int) H', Same H H' → SqL K H' p (ms.map V.int) → ms.length ≤ 200 → Q (.ref p) H'
end Pc
set_option Elab.async false
set_option linter.all false
set_option maxRecDepth 100000
set_option maxHeartbeats 4000000
namespace L2
open PySem PySem.Spec PyProof.Rows PySem.W
section
variable {prog : Program} {w : World} {A : Around}
end
section
variable {prog : Program} {w : World} {A : Around} {R : Result → Shared → Prop} {I : Addr} {fp wr : List Addr} {n : Nat} {P : Nat → Value → Prop} {St : Nat → Heap → Prop}
end
end L2
set_option Elab.async false
set_option linter.all false
set_option maxRecDepth 100000
set_option maxHeartbeats 4000000
namespace L2
open PySem PySem.Spec PyProof.Rows PySem.W Srt Pc
open AutoSeq1 (wpAny_loadPart')
section
variable {prog : Program} {w : World} {A : Around} {E : Value → Shared → Prop} {s : Shared}
end
section
variable {prog : Program} {w : World} {A : Around} {E : Value → Shared → Prop} {s : Shared}
end
section
variable {X : Cx} {K : PySem.W.Frag}
end
end L2
set_option Elab.async false
set_option linter.all false
set_option maxRecDepth 100000
set_option maxHeartbeats 4000000
namespace L2
open PySem PySem.W PySem.Spec PyProof.Rows Srt Pc
section
variable {prog : Program} {w : World} {K : Type} [DecidableEq K] {knd : HeapKind prog w K} {A : Around} {E : Value → Shared → Prop} {s : Shared}
end
section
variable {X : Cx} {pins : List (Addr × Obj)} {σ : St} {H : Hp} {s : Shared} {d a : Addr} {kvs : List (List Key × V)} {k : List Key} {A : Around} {E : Value → Shared → Prop}
end
theorem qe_dget1 {X : Cx} {o e : Expr} {apos cpos : Pos} {td ty : TE} (hu : X.A.units + 1 < cLine) (ho : QE X o td) (he : QE X e ty) (m : M1 X o "get" apos e cpos) : QE X (.Call (.Attribute o "get" apos) [e] [] cpos) (tDGet1 td ty) := ⟨pe_dget1 hu ho.r he.r m⟩
section
variable {X : Cx} {K : PySem.W.Frag}
variable {σ : St} {H : Hp} {Q : VK}
end
end L2
set_option Elab.async false
set_option linter.all false
set_option maxRecDepth 100000
set_option maxHeartbeats 4000000
namespace Pc
open PySem L2 Srt
def lnI (ax : Ax) (c : C3) : List Int := match ax with
  | .x => [c.y, c.z]
  | .y => [c.x, c.z]
  | .z => [c.x, c.y]
def kI (k : List Int) : List Key := k.map Sum.inl
def numsAt (ax : Ax) (cs : List C3) (k : List Int) : List Int := (cs.filter fun c => decide (lnI ax c = k)).map ax.at
structure Ln (H0 H : Hp) (d : Addr) (ax : Ax) (cs : List C3) (kvs : List (List Key × V)) : Prop where
  e : H d = some (.dT kvs)
  len : kvs.length ≤ cs.length
  at' : ∀ k : List Int, (valV kvs (kI k) = none ∧ numsAt ax cs k = []) ∨ ∃ l, valV kvs (kI k) = some (.ref l) ∧ H l = some (.lst ((numsAt ax cs k).map V.int)) ∧ H0 l = none
  inj : ∀ k k' v, valV kvs (kI k) = some v → valV kvs (kI k') = some v → k = k'
end Pc
namespace L2
open PySem PySem.W Pc
end L2
namespace L2
open PySem PySem.W PyProof.Rows Srt Pc
theorem rd_isNn {H : Hp} {Q : VK} (h : Q (.bl true) H) : rIsN false .non .non H Q := ⟨rfl, h⟩
theorem rd_notNn {H : Hp} {Q : VK} (h : Q (.bl false) H) : rIsN true .non .non H Q := ⟨rfl, h⟩
theorem rd_isNi {H : Hp} {Q : VK} {i : Int} (h : Q (.bl false) H) : rIsN false (.int i) .non H Q := ⟨rfl, h⟩
theorem rd_notNi {H : Hp} {Q : VK} {i : Int} (h : Q (.bl true) H) : rIsN true (.int i) .non H Q := ⟨rfl, h⟩
end L2
namespace Pc
open PySem L2 Srt
end Pc
namespace Pc
open PySem L2 Srt
def IsW : Hp → V → Wy → Prop := fun _ v u => v = .str u.s
instance : Rep IsW := ⟨fun _ h => h, fun _ h => h⟩
end Pc
set_option Elab.async false
set_option linter.all false
set_option maxRecDepth 100000
set_option maxHeartbeats 4000000
namespace Pc
open PySem L2 Srt
end Pc
set_option Elab.async false
set_option linter.all false
set_option maxRecDepth 100000
set_option maxHeartbeats 4000000
namespace L2
open PySem PySem.Spec PyProof.Rows PySem.W Srt Pc
section
variable {X : Cx} {K : PySem.W.Frag}
end
end L2
namespace Pc
open PySem L2 Srt
structure Mp (f : C3 → C3) (ax ax' : Ax) (k : Int) (cs cs' : List C3) : Prop where
  inj : ∀ c d, f c = f d → c = d
  at' : ∀ c, ax'.at (f c) = ax.at c + k
  nx : ∀ up c, (Wy.mk ax' up).next (f c) = f ((Wy.mk ax up).next c)
  mem : ∀ d, d ∈ cs' ↔ ∃ c ∈ cs, f c = d
section
variable {f : C3 → C3} {ax ax' : Ax} {k : Int} {cs cs' : List C3}
end
section
variable {ax : Ax} {cs : List C3}
end
end Pc
set_option Elab.async false
set_option linter.all false
set_option maxRecDepth 100000
set_option maxHeartbeats 4000000
namespace L2
open PySem PySem.Spec PyProof.Rows PySem.W
section
variable {X : Cx} {K : PySem.W.Frag}
end
end L2
namespace Pc
open PySem L2 Srt
def SpR (sz lo : C3) : Hp → V → Int → Prop := fun _ v i => ∃ n : Int, v = .int n ∧ ∀ ax : Ax, ax.n = i → ax.at lo ≤ n ∧ n < ax.at lo + ax.at sz
instance {sz lo : C3} : Rep (SpR sz lo) := ⟨fun _ h => h, fun _ h => h⟩
end Pc
set_option Elab.async false
set_option linter.all false
set_option maxRecDepth 100000
set_option maxHeartbeats 400000
namespace L2
open PySem PySem.W PySem.Spec PyProof.Rows Srt Pc
section
variable {X : Cx} {K : PySem.W.Frag}
def tCompD (n : Nat) (caps : List Nat) (i : Nat) (g : TG) (tc : TT) (te : TE) : TE := fun σ H Q => ∃ d kvs, σ[i]? = some (some (.ref d)) ∧ H d = some (.dT kvs) ∧ ∀ o acc, upd H d (.frz o (.dT kvs)) acc = none →
  CompGo acc (fun v H' => (∃ o, H' d = some (.frz o (.dT kvs))) ∧ Q v (upd H' d (.dT kvs))) g tc te (Itd d o kvs) (blockSt n caps σ) (upd (upd H d (.frz o (.dT kvs))) acc (.lst []))
theorem qe_compD {tg elt : Expr} {x : Str} {p : Pos} {i : Nat} {ifs : List Expr} {scope : Scope} {pos : Pos} {N : List Str} {g : TG} {tc : TT} {te : TE} (own : List Str) (caps : List Nat) (hc : X.calm = true)
    (hN : N = own ++ caps.map fun j => (X.N[j]?).getD (Str.ofString "")) (hok : blkOk X.env.scope X.N scope caps = true) (hkind : scope.kind = .function)
    (hi : QE X (.Name x p) (tVar i)) (hg : ∀ cl s₃ H₃ ch, QG (cxBlk X N scope cl s₃ H₃ ch) tg g) (hifs : ∀ cl s₃ H₃ ch, QF (cxBlk X N scope cl s₃ H₃ ch) ifs tc) (he : ∀ cl s₃ H₃ ch, QE (cxBlk X N scope cl s₃ H₃ ch) elt te) :
    QE X (.ListComp elt [⟨tg, .Name x p, ifs, 0⟩] scope pos) (tCompD own.length caps i g tc te) := by
  constructor
  rintro pins s σ H Q I ⟨d, kvs, e1, e2, h⟩
  have h0 : ∀ o u, X.H₀ d ≠ some (.frz o u) := fun o u z => by rw [I.base.frzs d o u z] at e2; cases e2
  refine thn (pe_comp own caps hc hN hok hkind (pi_dT hi.r) (fun a b c d => (hg a b c d).r) (fun a b c d => (hifs a b c d).r) (fun a b c d => (he a b c d).r) (by intro _; rfl) pins s σ H (fun v H' => (∃ o, H' d = some (.frz o (.dT kvs))) ∧ Q v (upd H' d (.dT kvs))) I ⟨.ref d, e1, d, kvs, rfl, e2, fun o acc ha => h o acc ha⟩) fun v s' q => ?_
  obtain ⟨y, H', I', r, ⟨o, e⟩, q⟩ := q
  exact ⟨y, _, I'.thaw e h0, r, q⟩
theorem rd_compD {σ : St} {H : Hp} {Q : VK} {n : Nat} {caps : List Nat} {i : Nat} {g : TG} {tc : TT} {te : TE} (h : ∃ d kvs, σ[i]? = some (some (.ref d)) ∧ H d = some (.dT kvs) ∧ ∀ o acc, upd H d (.frz o (.dT kvs)) acc = none →
  CompGo acc (fun v H' => (∃ o, H' d = some (.frz o (.dT kvs))) ∧ Q v (upd H' d (.dT kvs))) g tc te (Itd d o kvs) (blockSt n caps σ) (upd (upd H d (.frz o (.dT kvs))) acc (.lst []))) : tCompD n caps i g tc te σ H Q := h
def IsK : Hp → V → (List Key × V) → Prop := fun H v kv => ∃ a, v = .ref a ∧ H a = some (.tup (kv.1.map kV))
theorem feeds_keys {H : Hp} {d : Addr} {o : Obj} {kvs : List (List Key × V)} (h : H d = some (.frz o (.dT kvs))) : Feeds (Itd d o kvs) H kvs IsK where
  stop := fun H' s => ⟨Nat.le_refl _, s _ _ h⟩
  go := fun i x H' s e => by
    refine ⟨⟨(List.getElem?_eq_some_iff.mp e).1, s _ _ h⟩, fun v H2 y => ?_⟩
    obtain ⟨rfl, kv, a, e1, rfl, e2⟩ := y
    rw [e] at e1
    cases e1
    exact ⟨Same.refl _, a, rfl, e2⟩
end
end L2
set_option Elab.async false
set_option linter.all false
set_option maxRecDepth 100000
set_option maxHeartbeats 1000000
namespace Pc
open PySem L2 Srt
end Pc
namespace Pc
open PySem L2 Srt
structure LnK (H0 H : Hp) (d : Addr) (ax : Ax) (cs : List C3) (kvs : List (List Key × V)) : Prop extends Ln H0 H d ax cs kvs where
  ks : ∀ kv ∈ kvs, ∃ k, kv.1 = kI k ∧ valV kvs (kI k) = some kv.2
end Pc
namespace L2
open PySem PySem.W PyProof.Rows Srt Pc
end L2
namespace Pc
open PySem L2 Srt
end Pc
namespace Pc
open PySem L2 Srt
def IsV2 : Hp → V → V × List Int → Prop := fun _ v x => v = x.1
instance : Rep IsV2 := ⟨fun _ h => h, fun _ h => h⟩
end Pc
namespace Pc
open PySem L2 Srt
def IsV : Hp → V → V → Prop := fun _ v x => v = x
instance : Rep IsV := ⟨fun _ h => h, fun _ h => h⟩
end Pc
set_option Elab.async false
set_option linter.all false
set_option maxRecDepth 100000
set_option maxHeartbeats 1000000
namespace Pc
open PySem L2 Srt
def PA (H : Hp) (v : V) (x : List C3 × Wy) : Prop := ∃ p b ys, v = .ref p ∧ H p = some (.tup [.ref b, .str x.2.s]) ∧ H b = some (.lst ys) ∧ Cs H ys x.1
end Pc
namespace Pc
open PySem L2 Srt
end Pc
namespace Pc
open PySem L2 Srt
end Pc
set_option Elab.async false
set_option linter.all false
set_option maxRecDepth 100000
set_option maxHeartbeats 4000000
namespace L2
open PySem PySem.Spec PyProof.Rows
section
variable {X : Cx}
theorem ints_vals : ∀ {ns : List Int} {its : List Value}, Vals (ns.map V.int) its → IntsAre its ns
  | [], _, h => by cases h; exact .nil
  | n :: r, _, h => by
    cases h with
    | cons a b =>
      obtain ⟨t, rfl⟩ := a
      exact .cons n t (ints_vals b)
end
end L2
set_option Elab.async false
set_option linter.all false
set_option maxRecDepth 100000
set_option maxHeartbeats 4000000
namespace Pc
open PySem L2 Srt
def ckey : List Key → C3
  | [.inl x, .inl y, .inl z] => ⟨x, y, z⟩
  | _ => ⟨0, 0, 0⟩
theorem ckey_key (c : C3) : ckey (keyC c) = c := by cases c; rfl
theorem same_frz {H H' : Hp} {d : Addr} {o : Obj} {u : HO} (ed : H d = some u) (s : Same (upd H d (.frz o u)) H') : Same H (upd H' d u) := fun b v q => by
  by_cases hb : b = d
  · subst hb
    rw [upd_same, ← ed]
    exact q
  · rw [upd_ne hb]
    exact s b v (by rw [upd_ne hb]; exact q)
def Low (c : C3) : Prop := (0 ≤ c.x ∧ c.x ≤ 3) ∧ (0 ≤ c.y ∧ c.y ≤ 3) ∧ (0 ≤ c.z ∧ c.z ≤ 3)
end Pc
set_option Elab.async false
set_option linter.all false
set_option maxRecDepth 100000
set_option maxHeartbeats 4000000
namespace L2
open PySem PySem.Spec PyProof.Rows
section
variable {X : Cx}
end
end L2
set_option Elab.async false
set_option linter.all false
set_option maxRecDepth 100000
set_option maxHeartbeats 4000000
namespace Pc
def hol (nss : List (List Int)) (i : Int) : List Int := nss.getD i.toNat []
structure HolOk (nss : List (List Int)) : Prop where
  len : nss.length ≤ 100
  each : ∀ ms ∈ nss, ms.length ≤ 100
  rng : ∀ (i : Nat) (ms : List Int), nss[i]? = some ms → ∀ j ∈ ms, 0 ≤ j ∧ j < nss.length ∧ j ≠ (i : Int)
  asc : ∀ ms ∈ nss, ms.Pairwise (· < ·)
structure IsRing (nss : List (List Int)) (r : List Int) : Prop where
  two : 2 ≤ r.length
  nd : r.Nodup
  rng : ∀ i ∈ r, 0 ≤ i ∧ i < nss.length
  nxt : ∀ (k : Nat) (i j : Int), r[k]? = some i → r[k + 1]? = some j → j ∈ hol nss i
  lst : ∀ (i j : Int), r.getLast? = some i → r[0]? = some j → j ∈ hol nss i
structure Walk (nss : List (List Int)) (ts ws : List Int) : Prop where
  ne : ws ≠ []
  nd : ws.Nodup
  sub : ∀ i ∈ ws, i ∈ ts
  nxt : ∀ (k : Nat) (i j : Int), ws[k]? = some i → ws[k + 1]? = some j → j ∈ hol nss i
open PySem L2 Srt
end Pc
namespace Pc
open PySem L2 Srt
end Pc
namespace Pc
open PySem L2 Srt
end Pc
set_option Elab.async false
set_option linter.all false
set_option maxRecDepth 100000
set_option maxHeartbeats 4000000
namespace Pc
open PySem L2 Srt
end Pc
set_option Elab.async false
set_option linter.all false
set_option maxRecDepth 100000
set_option maxHeartbeats 4000000
namespace Pc
open PySem L2 Srt
theorem ix_i {n i : Nat} (h : i < n) : ixN n (i : Int) = some i := by
  unfold ixN
  rw [if_pos (by omega), if_pos (by omega), Int.toNat_natCast]
end Pc
set_option Elab.async false
set_option linter.all false
set_option maxRecDepth 100000
set_option maxHeartbeats 4000000
namespace L2
open PySem PySem.W PySem.Spec PyProof.Rows Srt Pc
theorem meets_tupLt (l b : Addr) (us vs : List Value) (n n2 : Nat) (dd dd2 : Option Addr) (sl sl2 : Array (Option Value)) (ns ms : List Int) (hu : IntsAre us ns) (hv : IntsAre vs ms) (hlen : ns.length = ms.length) :
    Meets (Builtin.«tuple.__lt__» ⟨[.ref l, .ref b], []⟩)
      (fun _ R s => s.heap.get? l = some { cls := .type "tuple", dict := dd, data := .seq us.toArray n, slots := sl } ∧ s.heap.get? b = some { cls := .type "tuple", dict := dd2, data := .seq vs.toArray n2, slots := sl2 } ∧
        R (.ok (.ret (.bool (HT.lexLt ns ms)))) s) :=
  .of_wp fun prog w A R s h => by
    obtain ⟨hp, g, d, tk, os⟩ := s
    obtain ⟨hl, hb, h⟩ := h
    have f2 := AutoSeq1.sub_tuple_tuple
    wp_walk using wpAny_loadPart' hl, wpAny_loadPart' hb, wpAny_forIn_list _ (fun rest c s' => c.1 = none ∧ s' = (⟨hp, g, d, tk, os⟩ : Shared) ∧ ∃ us' vs' ns' ms', rest = List.zip us' vs' ∧ IntsAre us' ns' ∧ IntsAre vs' ms' ∧ ns'.length = ms'.length ∧
      R (.ok (.ret (.bool (HT.lexLt ns' ms')))) (⟨hp, g, d, tk, os⟩ : Shared)) _
    case turn =>
      rintro ⟨y, x⟩ rest c s' ⟨hc, rfl, us', vs', ns', ms', hz, iu, iv, hl', hR⟩
      cases iu with
      | nil => cases hz
      | cons a t1 ru =>
        cases iv with
        | nil => cases hz
        | cons e t2 rv =>
          rw [List.zip_cons_cons] at hz
          injection hz with h1 h2
          injection h1 with h3 h4
          subst h3 h4
          rw [HT.lexLt_cons] at hR
          refine wpAny_bind (wpAny_eqBool_int ?_)
          by_cases he : a = e
          · rw [if_pos he] at hR
            rw [beq_iff_eq.mpr he]
            wp_walk
            exact ⟨rfl, rfl, _, _, _, _, h2, ru, rv, by simpa using hl', hR⟩
          · rw [if_neg he] at hR
            rw [beq_eq_false_iff_ne.mpr he, if_pos (by rfl)]
            refine wpAny_bind (wpAny_rule (wpAny_bind ?_))
            refine (show wpAny _ _ (compareOp .Lt (.int a t1) (.int e t2)) _ _ _ from lt_int ?_)
            wp_walk
            exact ⟨_, rfl, hR⟩
    case fin =>
      rintro c s' ⟨hc, rfl, us', vs', ns', ms', hz, iu, iv, hl', hR⟩
      obtain ⟨c1, c2⟩ := c
      have hc : c1 = none := hc
      subst hc
      have l1 := iu.length
      have l2 := iv.length
      have hn : ns' = [] ∧ ms' = [] := by
        have := congrArg List.length hz
        rw [List.length_zip] at this
        simp only [List.length_nil] at this
        exact ⟨List.eq_nil_of_length_eq_zero (by omega), List.eq_nil_of_length_eq_zero (by omega)⟩
      obtain ⟨rfl, rfl⟩ := hn
      have hs : Builtin.Tuple.tupleCompareSizes .Lt us.toArray.size vs.toArray.size = .bool false := by
        have a1 := hu.length
        have a2 := hv.length
        simp [Builtin.Tuple.tupleCompareSizes]
        omega
      dsimp only
      rw [hs]
      wp_walk
      exact ⟨_, rfl, hR⟩
    case h =>
      exact ⟨rfl, rfl, us, vs, ns, ms, rfl, hu, hv, hlen, h⟩
theorem lt_tups {prog : Program} {w : World} {A : Around} {E : Value → Shared → Prop} {s : Shared} {a b : Addr} {us vs : List Value} {ns ms : List Int} {Q : Value → Shared → Prop} (ha : IsTup s.heap a us.toArray) (hb : IsTup s.heap b vs.toArray) (hu : IntsAre us ns) (hv : IntsAre vs ms) (hl : ns.length = ms.length) (hr : A.units < cLine)
    (h : Q (.bool (HT.lexLt ns ms)) s) : wpAny (model prog w) A (compareOp .Lt (.ref a) (.ref b)) Q E s := by
  obtain ⟨⟨cls, dd, data, sl⟩, ho, hc, n, hd⟩ := id ha
  obtain ⟨⟨cls2, dd2, data2, sl2⟩, ho2, hc2, n2, hd2⟩ := id hb
  simp only at hc hd hc2 hd2
  subst hc hd hc2 hd2
  exact richCompare_meets_room (op := .Lt) ⟨_, ho, rfl⟩ ⟨_, ho2, rfl⟩ F.slot_tuple_lt F.entry_tuple_lt (F.args_tuple_lt_2 _ _) (meets_tupLt a b us vs n n2 dd dd2 sl sl2 ns ms hu hv hl) ⟨ho, ho2, (fun x => nomatch x), h⟩ hr
def PR (H : Hp) (v : V) (x : Int × C3) : Prop := ∃ a b, v = .ref a ∧ H a = some (.tup [.int x.1, .ref b]) ∧ H b = some (.tup x.2.v)
instance : Rep PR := ⟨fun s ⟨a, b, e, q, r⟩ => ⟨a, b, e, s _ _ q, s _ _ r⟩, fun h' ⟨a, b, e, q, r⟩ => ⟨a, b, e, lk_kind h' (by intro z; cases z) q, lk_kind h' (by intro z; cases z) r⟩⟩
end L2
set_option Elab.async false
set_option linter.all false
set_option maxRecDepth 100000
set_option maxHeartbeats 4000000
namespace L2
open PySem PySem.W PySem.Spec PyProof.Rows Srt Pc
section
variable {X : Cx}
end
end L2
namespace Pc
open PySem L2 Srt
def KD (kvs : List (List Key × V)) (ds : List C3) : Prop := kvs.map (·.1) = ds.map keyC
theorem keyC_inj {c d : C3} (h : keyC c = keyC d) : c = d := by
  have := congrArg ckey h
  rwa [ckey_key, ckey_key] at this
theorem kd_some : ∀ {kvs : List (List Key × V)} {ds : List C3} (c : C3), KD kvs ds → (valV kvs (keyC c)).isSome = decide (c ∈ ds)
  | [], [], _, _ => by simp [valV]
  | [], _ :: _, _, h => by simp [KD] at h
  | _ :: _, [], _, h => by simp [KD] at h
  | (k, v) :: kvs, d :: ds, c, h => by
    simp only [KD, List.map_cons, List.cons.injEq] at h
    have ih := kd_some (kvs := kvs) (ds := ds) c h.2
    unfold valV at ih ⊢
    rw [List.find?_cons]
    by_cases e : k = keyC c
    · have hd : d = c := keyC_inj (h.1.symm.trans e)
      subst hd
      simp [e]
    · have hd : c ≠ d := fun z => e (by rw [z]; exact h.1)
      rw [decide_eq_false e]
      simp only [List.mem_cons]
      rw [ih]
      simp [hd]
theorem kd_put {kvs : List (List Key × V)} {ds : List C3} {c : C3} {v : V} (h : KD kvs ds) (hc : c ∉ ds) : KD (putK kvs (keyC c) v) (ds ++ [c]) := by
  have hn : valV kvs (keyC c) = none := by
    have := kd_some c h
    rw [decide_eq_false hc] at this
    cases e : valV kvs (keyC c) with
    | none => rfl
    | some v => rw [e] at this; cases this
  unfold KD at h ⊢
  rw [putK_new _ hn, List.map_append, List.map_append, h]
  rfl
def nb (c : C3) : List C3 := [⟨c.x - 1, c.y, c.z⟩, ⟨c.x, c.y - 1, c.z⟩, ⟨c.x, c.y, c.z - 1⟩, ⟨c.x, c.y, c.z + 1⟩, ⟨c.x, c.y + 1, c.z⟩, ⟨c.x + 1, c.y, c.z⟩]
theorem nb_l (c : C3) : (nb c).map C3.l = nbs c := rfl
theorem nb_symm {c d : C3} (h : d ∈ nb c) : c ∈ nb d := by
  obtain ⟨x, y, z⟩ := c
  obtain ⟨a, b, e⟩ := d
  simp only [nb, List.mem_cons, C3.mk.injEq, List.not_mem_nil, or_false] at h ⊢
  rcases h with ⟨rfl, rfl, rfl⟩ | ⟨rfl, rfl, rfl⟩ | ⟨rfl, rfl, rfl⟩ | ⟨rfl, rfl, rfl⟩ | ⟨rfl, rfl, rfl⟩ | ⟨rfl, rfl, rfl⟩
  · exact .inr (.inr (.inr (.inr (.inr ⟨by omega, rfl, rfl⟩))))
  · exact .inr (.inr (.inr (.inr (.inl ⟨rfl, by omega, rfl⟩))))
  · exact .inr (.inr (.inr (.inl ⟨rfl, rfl, by omega⟩)))
  · exact .inr (.inr (.inl ⟨rfl, rfl, by omega⟩))
  · exact .inr (.inl ⟨rfl, by omega, rfl⟩)
  · exact .inl ⟨by omega, rfl, rfl⟩
inductive Rch (cs : List C3) (f : C3 → Int) (vs : List C3) : C3 → Prop
  | base {c : C3} : c ∈ vs → c ∈ cs → Rch cs f vs c
  | step {c d : C3} : Rch cs f vs c → d ∈ nb c → d ∈ cs → f d ≤ f c → Rch cs f vs d
def Clo (cs : List C3) (f : C3 → Int) (ds : List C3) (c : C3) (ns : List C3) : Prop := ∀ d ∈ ns, d ∈ cs → f d ≤ f c → d ∈ ds
structure Fl (cs : List C3) (f : C3 → Int) (vs ds ws : List C3) (ex : C3 → Prop) : Prop where
  nd : ds.Nodup
  sound : ∀ c ∈ ds, Rch cs f vs c
  base : ∀ c ∈ vs, c ∈ cs → c ∈ ds
  sub : ∀ c ∈ ws, c ∈ ds
  clo : ∀ c ∈ ds, c ∉ ws → ¬ ex c → Clo cs f ds c (nb c)
section
variable {cs : List C3} {f : C3 → Int} {vs ds ws : List C3} {ex : C3 → Prop}
theorem nodup_lenC : ∀ {l m : List C3}, l.Nodup → (∀ x ∈ l, x ∈ m) → l.length ≤ m.length
  | [], _, _, _ => Nat.zero_le _
  | a :: r, m, hn, h => by
    have ha : a ∈ m := h a List.mem_cons_self
    have hn' := List.nodup_cons.mp hn
    have ih := nodup_lenC (l := r) (m := m.erase a) hn'.2 fun x hx => by
      have hxa : x ≠ a := fun e => hn'.1 (by rw [← e]; exact hx)
      exact (List.mem_erase_of_ne hxa).mpr (h x (List.mem_cons_of_mem _ hx))
    have := List.length_erase_of_mem ha
    have hp : 0 < m.length := List.length_pos_of_mem ha
    rw [List.length_cons]
    omega
end
end Pc
set_option Elab.async false
set_option linter.all false
set_option maxRecDepth 100000
set_option maxHeartbeats 4000000
namespace Pc
open PySem L2 Srt
theorem kd_old {kvs : List (List Key × V)} {ds : List C3} {c : C3} {v : V} (h : KD kvs ds) (hc : c ∈ ds) : KD (putK kvs (keyC c) v) ds := by
  have hs := kd_some c h
  rw [decide_eq_true hc] at hs
  unfold KD at h ⊢
  rw [← h]
  unfold putK
  cases e : valV kvs (keyC c) with
  | none => rw [e] at hs; cases hs
  | some w =>
    have hany : (kvs.any fun kv => decide (kv.1 = keyC c)) = true := by
      unfold valV at e
      cases e2 : kvs.find? fun kv => decide (kv.1 = keyC c) with
      | none => rw [e2] at e; cases e
      | some kv =>
        have h2 := List.find?_some e2
        exact List.any_eq_true.mpr ⟨kv, List.mem_of_find?_eq_some e2, h2⟩
    rw [if_pos hany, List.map_map]
    refine List.map_congr_left fun kv _ => ?_
    simp only [Function.comp]
    split <;> rfl
theorem kd_addC {kvs : List (List Key × V)} {ds : List C3} {c : C3} {v : V} (h : KD kvs ds) : KD (putK kvs (keyC c) v) (addC ds c) := by
  unfold addC
  split
  · rename_i hc; exact kd_old h hc
  · rename_i hc; exact kd_put h hc
theorem kd_len {kvs : List (List Key × V)} {ds : List C3} (h : KD kvs ds) : kvs.length = ds.length := by
  have := congrArg List.length h
  simpa using this
theorem cs_made {H : Hp} {p : Addr} {ps : Prs} {c : C3} (m : Made H p ps) (e : ps.map (·.2) = nbs c) : H p = some (.lst (refs ps)) ∧ Cs H (refs ps) (nb c) := ⟨m.1, cs_of (by rw [e, nb_l]) m.2⟩
def nbL (c : C3) : List C3 := [⟨c.x - 1, c.y, c.z⟩, ⟨c.x + 1, c.y, c.z⟩, ⟨c.x, c.y - 1, c.z⟩, ⟨c.x, c.y + 1, c.z⟩, ⟨c.x, c.y, c.z - 1⟩, ⟨c.x, c.y, c.z + 1⟩]
theorem mem_nbL {c d : C3} : d ∈ nbL c ↔ d ∈ nb c := by
  simp only [nb, nbL, List.mem_cons, List.not_mem_nil, or_false]
  constructor
  · rintro (h | h | h | h | h | h) <;> simp [h]
  · rintro (h | h | h | h | h | h) <;> simp [h]
def spBesideL (K : PySem.W.Frag) : Sp := fun vs H Q _ => ∃ (a : Addr) (c : C3), vs = [.ref a] ∧ SqT K H a c.v ∧ ∀ p zs H', Same H H' → H p = none → H' p = some (.lst zs) → Cs H' zs (nbL c) → Q (.ref p) H'
end Pc
set_option Elab.async false
set_option linter.all false
set_option maxRecDepth 100000
set_option maxHeartbeats 4000000
namespace Pc
open PySem L2 Srt
theorem beside_at (c : C3) {i j : Nat} (hi : i < 3) (hj : j < 2) : ∃ d n st, (nbL c)[2 * i + j]? = some d ∧ ([-1, 1] : List Int)[j]? = some st ∧ atI c.v (i : Int) = some (.int n) ∧ c.v.set i (.int (n + st)) = d.v := by
  obtain ⟨x, y, z⟩ := c
  match i, hi, j, hj with
  | 0, _, 0, _ => exact ⟨_, x, -1, rfl, rfl, rfl, rfl⟩
  | 0, _, 1, _ => exact ⟨_, x, 1, rfl, rfl, rfl, rfl⟩
  | 1, _, 0, _ => exact ⟨_, y, -1, rfl, rfl, rfl, rfl⟩
  | 1, _, 1, _ => exact ⟨_, y, 1, rfl, rfl, rfl, rfl⟩
  | 2, _, 0, _ => exact ⟨_, z, -1, rfl, rfl, rfl, rfl⟩
  | 2, _, 1, _ => exact ⟨_, z, 1, rfl, rfl, rfl, rfl⟩
theorem rs_snoc {α : Type} {R : Hp → V → α → Prop} {H : Hp} : ∀ {zs : List V} {xs : List α} {x : α}, Rs R H zs (xs ++ [x]) → ∃ zr v, zs = zr ++ [v] ∧ Rs R H zr xs ∧ R H v x
  | _, [], _, .cons h .nil => ⟨[], _, rfl, .nil, h⟩
  | _, y :: ys, _, .cons h t => by
    obtain ⟨zr, v, e, r, q⟩ := rs_snoc t
    exact ⟨_ :: zr, v, by rw [e]; rfl, .cons h r, q⟩
end Pc
set_option Elab.async false
set_option linter.all false
set_option maxRecDepth 100000
set_option maxHeartbeats 4000000
namespace Pc
open PySem L2 Srt
theorem cs_pick {H : Hp} {zs : List V} {cs : List C3} (h : Cs H zs cs) {i : Int} (h0 : 0 ≤ i) (h1 : i < (zs.length : Int)) : ∃ q c, atI zs i = some (.ref q) ∧ H q = some (.tup c.v) ∧ c ∈ cs := by
  obtain ⟨j, rfl⟩ : ∃ j : Nat, i = (j : Int) := ⟨i.toNat, by omega⟩
  have hl := h.len
  obtain ⟨v, ev, q, rfl, eq⟩ := Rs.get' h (List.getElem?_eq_getElem (show j < cs.length by omega))
  exact ⟨q, _, atI_nat ev, eq, List.getElem_mem _⟩
end Pc
set_option Elab.async false
set_option linter.all false
set_option maxRecDepth 100000
set_option maxHeartbeats 4000000
namespace Pc
open PySem L2 Srt
def LD (H : Hp) (lk : List (List Key × V)) (ds : List C3) (f : C3 → Int) (us : List C3) : Prop := ∀ (i : Nat) (c : C3), ds[i]? = some c →
  (valV lk (keyC c) = some .non ∧ c ∈ us) ∨ ∃ (j : Nat) (d : C3) (b : Addr), j < i ∧ ds[j]? = some d ∧ valV lk (keyC c) = some (.ref b) ∧ H b = some (.tup d.v) ∧ c ∈ nb d ∧ f c ≤ f d
structure Way (f : C3 → Int) (us ds : List C3) (c : C3) (pa : List C3) : Prop where
  ne : pa ≠ []
  hd : pa[0]? = some c
  nd : pa.Nodup
  sub : ∀ d ∈ pa, d ∈ ds
  nxt : ∀ (k : Nat) (a b : C3), pa[k]? = some a → pa[k + 1]? = some b → b ∈ nb a ∧ f a ≤ f b
  lst : ∀ d, pa.getLast? = some d → d ∈ us
structure Wlk (f : C3 → Int) (ds : List C3) (c here : C3) (i : Nat) (pa : List C3) : Prop where
  nd : pa.Nodup
  sub : ∀ d ∈ pa, ∃ j, i < j ∧ ds[j]? = some d
  nxt : ∀ (k : Nat) (a b : C3), pa[k]? = some a → pa[k + 1]? = some b → b ∈ nb a ∧ f a ≤ f b
  at' : ds[i]? = some here
  one : (pa = [] ∧ here = c) ∨ (pa[0]? = some c ∧ ∃ l, pa.getLast? = some l ∧ here ∈ nb l ∧ f l ≤ f here)
theorem Wlk.snocs {f : C3 → Int} {ds : List C3} {c here : C3} {i : Nat} {pa : List C3} (hn : ds.Nodup) (w : Wlk f ds c here i pa) : (pa ++ [here]).Nodup ∧ (∀ (k : Nat) (a b : C3), (pa ++ [here])[k]? = some a → (pa ++ [here])[k + 1]? = some b → b ∈ nb a ∧ f a ≤ f b) ∧ (pa ++ [here])[0]? = some c := by
  have hnm : here ∉ pa := fun z => by
    obtain ⟨j, hj, e⟩ := w.sub here z
    have h1 := (List.getElem?_eq_some_iff.mp w.at').1
    have h2 := (List.getElem?_eq_some_iff.mp e).1
    have := (List.getElem?_inj h1 hn).mp (w.at'.trans e.symm)
    omega
  refine ⟨List.nodup_append.mpr ⟨w.nd, by simp, fun x hx y hy => by simp at hy; subst hy; exact fun e => hnm (e ▸ hx)⟩, fun k a b ha hb => ?_, ?_⟩
  · have hlt := (List.getElem?_eq_some_iff.mp hb).1
    rw [List.length_append, List.length_singleton] at hlt
    by_cases h : k + 1 < pa.length
    · rw [List.getElem?_append_left (by omega)] at ha
      rw [List.getElem?_append_left h] at hb
      exact w.nxt k a b ha hb
    · have e : k + 1 = pa.length := by omega
      rw [List.getElem?_append_right (by omega), e, Nat.sub_self] at hb
      rw [List.getElem?_append_left (by omega)] at ha
      have hb : here = b := by simpa using hb
      subst hb
      rcases w.one with ⟨h1, _⟩ | ⟨_, l, h1, h2, h3⟩
      · subst h1; simp at e
      · rw [List.getLast?_eq_getElem?, show pa.length - 1 = k by omega, ha] at h1
        cases h1
        exact ⟨h2, h3⟩
  · rcases w.one with ⟨h1, h2⟩ | ⟨h1, _⟩
    · subst h1 h2; rfl
    · have := (List.getElem?_eq_some_iff.mp h1).1
      rw [List.getElem?_append_left this]
      exact h1
theorem Wlk.go {f : C3 → Int} {ds : List C3} {c here d : C3} {i j : Nat} {pa : List C3} (hn : ds.Nodup) (w : Wlk f ds c here i pa) (hj : j < i) (hd : ds[j]? = some d) (h1 : here ∈ nb d) (h2 : f here ≤ f d) : Wlk f ds c d j (pa ++ [here]) := by
  obtain ⟨a1, a2, a3⟩ := w.snocs hn
  refine ⟨a1, fun x hx => ?_, a2, hd, .inr ⟨a3, here, by simp, nb_symm h1, h2⟩⟩
  rcases List.mem_append.mp hx with z | z
  · obtain ⟨m, q1, q2⟩ := w.sub x z
    exact ⟨m, by omega, q2⟩
  · rw [List.mem_singleton] at z
    subst z
    exact ⟨i, hj, w.at'⟩
theorem Wlk.fin {f : C3 → Int} {us ds : List C3} {c here : C3} {i : Nat} {pa : List C3} (hn : ds.Nodup) (w : Wlk f ds c here i pa) (hu : here ∈ us) : Way f us ds c (pa ++ [here]) := by
  obtain ⟨a1, a2, a3⟩ := w.snocs hn
  refine ⟨by simp, a3, a1, fun d hd => ?_, a2, fun d hd => ?_⟩
  · rcases List.mem_append.mp hd with z | z
    · obtain ⟨j, _, e⟩ := w.sub d z
      exact List.mem_of_getElem? e
    · rw [List.mem_singleton] at z
      subst z
      exact List.mem_of_getElem? w.at'
  · have : here = d := by simpa using hd
    subst this
    exact hu
end Pc
set_option Elab.async false
set_option linter.all false
set_option maxRecDepth 100000
set_option maxHeartbeats 4000000
namespace Pc
open PySem L2 Srt
end Pc
namespace L2
end L2
namespace Pc
open PySem L2 Srt
end Pc
set_option Elab.async false
set_option linter.all false
set_option maxRecDepth 100000
set_option maxHeartbeats 4000000
namespace Pc
open PySem L2 Srt
inductive Fol (L : List (C3 × Option C3)) : C3 → List C3 → Prop
  | last {c : C3} : (c, none) ∈ L → Fol L c [c]
  | step {c d : C3} {pa : List C3} : (c, some d) ∈ L → Fol L d pa → Fol L c (c :: pa)
def KL (H : Hp) (lk : List (List Key × V)) (L : List (C3 × Option C3)) : Prop := ∀ c o, (c, o) ∈ L → match o with
  | none => valV lk (keyC c) = some .non
  | some d => ∃ b, valV lk (keyC c) = some (.ref b) ∧ H b = some (.tup d.v)
theorem KL.up {H H' : Hp} {lk : List (List Key × V)} {L : List (C3 × Option C3)} (s : ∀ b d, H b = some (.tup (C3.v d)) → H' b = some (.tup d.v)) (h : KL H lk L) : KL H' lk L := fun c o hc => by
  have := h c o hc
  cases o with
  | none => exact this
  | some d => obtain ⟨b, e1, e2⟩ := this; exact ⟨b, e1, s _ _ e2⟩
theorem KL.put {H : Hp} {lk : List (List Key × V)} {L : List (C3 × Option C3)} {c here : C3} {b : Addr} (h : KL H lk L) (hc : c ∉ L.map (·.1)) (hb : H b = some (.tup here.v)) : KL H (putK lk (keyC c) (.ref b)) (L ++ [(c, some here)]) := fun a o ha => by
  rcases List.mem_append.mp ha with z | z
  · have hne : keyC a ≠ keyC c := fun e => hc (by rw [← keyC_inj e]; exact List.mem_map.mpr ⟨_, z, rfl⟩)
    have := h a o z
    cases o with
    | none =>
      show valV _ _ = _
      rw [valV_put, if_neg hne]
      exact this
    | some d =>
      obtain ⟨b', e1, e2⟩ := this
      exact ⟨b', by rw [valV_put, if_neg hne]; exact e1, e2⟩
  · rw [List.mem_singleton] at z
    cases z
    exact ⟨b, by rw [valV_put, if_pos rfl], hb⟩
end Pc
namespace Pc
open PySem L2 Srt
theorem v_inj {c d : C3} (h : c.v = d.v) : c = d := by
  obtain ⟨x1, y1, z1⟩ := c
  obtain ⟨x2, y2, z2⟩ := d
  simp only [C3.v, List.cons.injEq, V.int.injEq] at h
  obtain ⟨rfl, rfl, rfl, _⟩ := h
  rfl
def spFollowedD (K : PySem.W.Frag) : Sp := fun vs H Q _ => ∃ (p s : Addr) (lk : List (List Key × V)) (ds us : List C3) (f : C3 → Int) (c : C3) (L : List (C3 × Option C3)), vs = [.ref p, .ref s] ∧ H p = some (.dT lk) ∧ KD lk ds ∧ ds.Nodup ∧ LD H lk ds f us ∧ KL H lk L ∧ L.map (·.1) = ds ∧ ds.length ≤ 1000 ∧ H s = some (.tup c.v) ∧ c ∈ ds ∧
  ∀ q zs pa H', Same H H' → H q = none → H' q = some (.lst zs) → Cs H' zs pa → Way f us ds c pa → Fol L c pa → Q (.ref q) H'
end Pc
set_option Elab.async false
set_option linter.all false
set_option maxRecDepth 100000
set_option maxHeartbeats 4000000
namespace Pc
open PySem L2 Srt
def spMixG : Sp := fun vs H Q _ => ∃ (a b : Int), vs = [.int a, .int b] ∧ 0 ≤ b ∧ b ≤ 4000000000 ∧ ∀ n : Int, 0 ≤ n → n < 2147483647 → Q (.int n) H
end Pc
set_option Elab.async false
set_option linter.all false
set_option maxRecDepth 100000
set_option maxHeartbeats 4000000
open PySem PySem.W
namespace L2
end L2
set_option Elab.async false
set_option linter.all false
set_option maxRecDepth 100000
set_option maxHeartbeats 4000000
namespace Pc
open PySem L2 Srt
def rimB (cs : List C3) (c : C3) : Bool := !(nb c).all fun d => decide (d ∈ cs)
def inr (cs : List C3) : List C3 := cs.filter fun c => !rimB cs c
theorem mem_adds (c : C3) : ∀ (cs acc : List C3), c ∈ cs.foldl addC acc ↔ c ∈ acc ∨ c ∈ cs
  | [], acc => by simp
  | a :: cs, acc => by
    rw [List.foldl_cons, mem_adds c cs, mem_addC, List.mem_cons, or_assoc]
end Pc
set_option Elab.async false
set_option linter.all false
set_option maxRecDepth 100000
set_option maxHeartbeats 4000000
namespace L2
open PySem PySem.W PySem.Spec PyProof.Rows Srt Pc
section
variable {prog : Program} {w : World} {A : Around} {E : Value → Shared → Prop} {s : Shared} {d : Addr} {es : Array DictEntry} {ep : Nat}
end
section
variable {X : Cx}
end
end L2
namespace Pc
open PySem L2 Srt
def IsZ (lo hi : Int) : Hp → V → Unit → Prop := fun _ v _ => ∃ z : Int, v = .int z ∧ lo ≤ z ∧ z ≤ hi
instance {lo hi : Int} : Rep (IsZ lo hi) := ⟨fun _ h => h, fun _ h => h⟩
end Pc
set_option Elab.async false
set_option linter.all false
set_option maxRecDepth 100000
set_option maxHeartbeats 4000000
namespace Pc
open PySem L2 Srt
theorem kd_mem {kvs : List (List Key × V)} {ds : List C3} (h : KD kvs ds) {kv : List Key × V} (hm : kv ∈ kvs) : ∃ c ∈ ds, kv.1 = keyC c := by
  have : kv.1 ∈ ds.map keyC := by
    unfold KD at h
    rw [← h]
    exact List.mem_map_of_mem hm
  obtain ⟨c, hc, e⟩ := List.mem_map.mp this
  exact ⟨c, hc, e.symm⟩
theorem kd_keys {kvs : List (List Key × V)} {ds : List C3} (p : C3 → Bool) (h : KD kvs ds) : (kvs.filter fun kv => p (ckey kv.1)).map (fun kv => ckey kv.1) = ds.filter p := by
  unfold KD at h
  induction kvs generalizing ds with
  | nil =>
    cases ds with
    | nil => rfl
    | cons _ _ => simp at h
  | cons kv kvs ih =>
    cases ds with
    | nil => simp at h
    | cons d ds =>
      simp only [List.map_cons, List.cons.injEq] at h
      have e : ckey kv.1 = d := by rw [h.1, ckey_key]
      rw [List.filter_cons, List.filter_cons, e]
      split
      · rw [List.map_cons, ih h.2, e]
      · exact ih h.2
def IsM (cs : List C3) : Hp → V → Unit → Prop := fun H v _ => ∃ g c, v = .ref g ∧ H g = some (.tup c.v) ∧ c ∈ cs
instance {cs : List C3} : Rep (IsM cs) := ⟨fun s ⟨g, c, e, q, m⟩ => ⟨g, c, e, s _ _ q, m⟩, fun h' ⟨g, c, e, q, m⟩ => ⟨g, c, e, lk_kind h' (by intro z; cases z) q, m⟩⟩
end Pc
set_option Elab.async false
set_option linter.all false
set_option maxRecDepth 100000
set_option maxHeartbeats 4000000
namespace Pc
open PySem L2 Srt
end Pc
set_option Elab.async false
set_option linter.all false
set_option maxRecDepth 100000
set_option maxHeartbeats 4000000
namespace L2
open PySem PySem.W PySem.Spec PyProof.Rows Srt Pc
section
variable {prog : Program} {w : World} {A : Around} {E : Value → Shared → Prop} {s : Shared}
section
variable {K : Type} [DecidableEq K] {knd : HeapKind prog w K}
end
end
section
variable {X : Cx} {K : PySem.W.Frag} {H : Hp} {Q : VK}
end
end L2
set_option Elab.async false
set_option linter.all false
set_option maxRecDepth 100000
set_option maxHeartbeats 4000000
namespace Pc
open PySem L2 Srt
def l1 (c d : C3) : Nat := (d.x - c.x).natAbs + (d.y - c.y).natAbs + (d.z - c.z).natAbs
end Pc
set_option Elab.async false
set_option linter.all false
set_option maxRecDepth 100000
set_option maxHeartbeats 4000000
namespace L2
open PySem PySem.W PySem.Spec PyProof.Rows Srt Pc
section
variable {prog : Program} {w : World} {A : Around} {E : Value → Shared → Prop} {s : Shared}
theorem rev_walks (hh : A.handled = none) (I l : Addr) (hne : l ≠ I) (xs : Array Value) :
    Walks prog w A I [I, l] [I] xs.size (fun i v => xs[xs.size - 1 - i]? = some v) (fun i h => i ≤ xs.size ∧ h.IsRevIter I l ((xs.size : Int) - 1 - (i : Int)) ∧ h.IsList l xs) where
  sub := fun b hb => by simp only [List.mem_singleton] at hb; simp [hb]
  frame := fun i h h' st k => ⟨st.1, st.2.1.at fun o e => k I (by simp) o e, let ⟨o, e, r⟩ := st.2.2; ⟨o, k l (by simp) o e, r⟩⟩
  item := fun i s Q E hi st hQ => by
    have e0 : (xs.size : Int) - 1 - (i : Int) = ((xs.size - 1 - i : Nat) : Int) := by omega
    have hit := st.2.1
    rw [e0] at hit
    have hx : xs[xs.size - 1 - i]? = some (xs[xs.size - 1 - i]'(by omega)) := Array.getElem?_eq_getElem (by omega)
    refine wpAny_pyNext_rev_item hit st.2.2 hx fun h' t' sb => hQ _ h' s.toks hx ⟨by omega, ?_, ?_⟩ fun b o hb e => (sb.2 b (fun z => hb (by simp [z]))).trans e
    · have e1 : ((xs.size - 1 - i : Nat) : Int) - 1 = (xs.size : Int) - 1 - ((i + 1 : Nat) : Int) := by omega
      rw [← e1]
      exact t'
    · obtain ⟨o, e, r⟩ := st.2.2
      exact ⟨o, (sb.2 l hne).trans e, r⟩
  done := fun s Q E st hQ => by
    have hit := st.2.1
    rw [show (xs.size : Int) - 1 - (xs.size : Int) = -1 by omega] at hit
    exact wpAny_pyNext_rev_end hh hit fun h' eb => hQ h' s.toks fun b o hb e => eb b o (fun z => hb (by simp [z])) e
  self := fun _ _ _ _ st hQ => wpAny_pyIter_revIter st.2.1 hQ
theorem lri_len : typeLookup (.type "list_reverseiterator") "__len__" = pure none := by rw [typeLookup_type, builtinLookup_eq_fast]; kernel_rfl
theorem lri_hint : typeLookup (.type "list_reverseiterator") "__length_hint__" = pure (some (.builtin "list_reverseiterator.__length_hint__")) := by rw [typeLookup_type, builtinLookup_eq_fast]; kernel_rfl
theorem lri_self : isSubtype (.type "list_reverseiterator") (.type "list_reverseiterator") = pure true := by rw [isSubtype_type]; kernel_rfl
theorem rev_hint {I : Addr} {Q : Bool → Shared → Prop} (hT : s.TypeIs (.ref I) "list_reverseiterator") (h : Q false s) : wpAny (model prog w) A (Builtin.List.listLengthHint (.ref I)) Q E s := by
  unfold Builtin.List.listLengthHint
  refine wpAny_bind (wpAny_specialOf hT lri_len ?_)
  wp_delta
  refine wpAny_ite_split (fun hab => absurd hab (by decide)) (fun _ => ?_)
  refine wpAny_ite_split (fun hab => absurd hab (by decide)) (fun _ => ?_)
  refine wpAny_bind (wpAny_specialOf hT lri_hint ?_)
  generalize hid : ("list_reverseiterator.__length_hint__" : String) = id0
  wp_delta
  rw [show splitId id0 = some ("list_reverseiterator", "__length_hint__") from by subst hid; decide +kernel]
  subst hid
  refine wpAny_bind (wpAny_isInstance hT lri_self ?_)
  refine wpAny_ite_split (fun hab => absurd hab (by decide)) (fun _ => ?_)
  refine wpAny_ite_split (fun _ => ?_) (fun hab => absurd (by decide +kernel) hab)
  refine wpAny_ite_split (fun hab => absurd hab (by decide)) (fun _ => ?_)
  exact wpAny_pure h
theorem rev_extend {R : Result → Shared → Prop} {I l S : Addr} {xs : Array Value} {c0 : Nat} {res : Value} (hh : A.handled = none) (hit : s.heap.IsRevIter I l ((xs.size : Int) - 1)) (hl : s.heap.IsList l xs) (h1 : S ≠ I) (h2 : S ≠ l) (h3 : l ≠ I) (hz : xs.size ≤ sizeLine) (hS : s.heap.get? S = some { cls := .type "list", data := .seq #[] c0 })
    (hR : ∀ g tk ys c, (∀ b o, b ≠ S → b ≠ I → s.heap.get? b = some o → g.get? b = some o) → g.get? S = some { cls := .type "list", dict := none, data := .seq ys c, slots := #[] } → ItemsOf (fun i v => xs[xs.size - 1 - i]? = some v) ys xs.size → R (.ok (.ret res)) { s with heap := g, toks := tk }) :
    wpAny (model prog w) A.in1 (Builtin.List.listExtendWith (.ref S) (.ref I) res)
      (fun fin s' => match fin with | .done f => R (.ok f) s' | .again c' => c'.quiet = true ∧ codeAny (model prog w) A c' R s') (fun e s' => R (.error e) s') s := by
  have W := rev_walks (prog := prog) (w := w) (A := A.in1) hh I l h3 xs
  have hSf : S ∉ [I, l] := by simp [h1, h2]
  have st0 : ∀ g : Heap, g.IsRevIter I l ((xs.size : Int) - 1) → g.IsList l xs → (0 ≤ xs.size ∧ g.IsRevIter I l ((xs.size : Int) - 1 - ((0 : Nat) : Int)) ∧ g.IsList l xs) := fun g a b => ⟨Nat.zero_le _, by simpa using a, b⟩
  have key : ∀ (g : Heap) (c1 tk : Nat), g.IsRevIter I l ((xs.size : Int) - 1) → g.IsList l xs → (∀ b o, b ≠ S → s.heap.get? b = some o → g.get? b = some o) → g.get? S = some { cls := .type "list", data := .seq #[] c1 } → codeAny (model prog w) A (.builtin "list.extend.loop" ⟨[.ref S, .ref I, res], []⟩) R { s with heap := g, toks := tk } := by
    intro g c1 tk a b hk hS1
    refine codeAny_extend_loopS W.toS hz S hSf res xs.size 0 _ #[] c1 rfl (Nat.zero_le _) (st0 g a b) hS1 (ItemsOf.nil _) fun s' ys c' hm hS' hacc => ?_
    rw [Moved.eq_with hm]
    refine hR s'.heap s'.toks ys c' (fun b o hb hbI e => hm.heap b o (fun z => ?_) (hk b o hb e)) hS' hacc
    rcases List.mem_cons.mp z with z | z
    · exact hb z
    · exact hbI (List.mem_singleton.mp z)
  have hT : s.TypeIs (.ref I) "list_reverseiterator" := hit.typeIs
  unfold Builtin.List.listExtendWith
  refine wpAny_bind (wpAny_typeOf hT ?_)
  have e1 : Builtin.List.listSameRef (.ref S) (.ref I) = false := by simp [Builtin.List.listSameRef, h1]
  simp only [e1, show (Value.type "list_reverseiterator" == Value.type "list") = false by decide, show (Value.type "list_reverseiterator" == Value.type "tuple") = false by decide, Bool.or_false, Bool.false_eq_true, if_false]
  refine wpAny_bind (wpAny_pyIter_revIter hit ?_)
  refine wpAny_bind (wpAny_holding (rev_hint hT ?_))
  refine wpAny_ite_split (fun hab => absurd hab (by decide +kernel)) (fun _ => wpAny_pure ⟨plainId_quiet PySem.F.plain_extend_loop _, key s.heap c0 s.toks hit hl (fun _ _ _ e => e) hS⟩)
theorem list_rev {Q : Value → Shared → Prop} {I l : Addr} {xs : Array Value} (hh : A.handled = none) (hit : s.heap.IsRevIter I l ((xs.size : Int) - 1)) (hl : s.heap.IsList l xs) (h3 : l ≠ I) (hz : xs.size ≤ sizeLine)
    (hQ : ∀ g tk ys c, (∀ b o, b ≠ I → s.heap.get? b = some o → g.get? b = some o) → g.get? s.heap.objs.size = some { cls := .type "list", dict := none, data := .seq ys c, slots := #[] } → ItemsOf (fun i v => xs[xs.size - 1 - i]? = some v) ys xs.size → Q (.ref s.heap.objs.size) { s with heap := g, toks := tk }) :
    wpAny (model prog w) A (call (.type "list") [.ref I]) Q E s := by
  have ltI : I < s.heap.objs.size := by obtain ⟨_, e, _⟩ := hit; exact Heap.lt_size e
  have ltl : l < s.heap.objs.size := by obtain ⟨_, e, _⟩ := hl; exact Heap.lt_size e
  refine callType_codes (Q₁ := fun x s₁ => x = .ref s.heap.objs.size ∧ s₁ = { s with heap := s.heap.push { cls := .type "list", data := .seq #[] } }) PySem.F.called_list (PySem.F.typeCall_list_1 _) PySem.F.entry_list_init (code_list_new _ ⟨rfl, rfl⟩) fun x s₁ e₁ => ?_
  obtain ⟨rfl, rfl⟩ := e₁
  have hS : (s.heap.push { cls := .type "list", data := .seq #[] }).get? s.heap.objs.size = some { cls := .type "list", data := .seq #[] } := Heap.get?_push_size _ rfl
  refine ⟨⟨_, hS, rfl⟩, PySem.F.args_list_init_2 _ _, ?_⟩
  show wpAny _ _ (do let old ← Builtin.List.listItems (.ref s.heap.objs.size); Builtin.List.listUpdate (.ref s.heap.objs.size) (fun _ => #[]); letGo old.toList.reverse; Builtin.List.listExtendWith (.ref s.heap.objs.size) (.ref I) .none) _ _ _
  refine wpAny_bind ?_
  unfold Builtin.List.listItems
  refine wpAny_bind (wpAny_seqItems hS rfl (wpAny_pure ?_))
  show wpAny _ _ (updateSeq s.heap.objs.size (fun _ => #[]) >>= fun _ => letGo (#[] : Array Value).toList.reverse >>= fun _ => Builtin.List.listExtendWith (.ref s.heap.objs.size) (.ref I) .none) _ _ _
  refine wpAny_bind (wpAny_updateSeq hS rfl ?_)
  have hS2 := Heap.get?_update_self (Obj.mapSeq (fun _ => (#[] : Array Value))) hS rfl
  have far : ∀ b o, b ≠ s.heap.objs.size → s.heap.get? b = some o → ((s.heap.push { cls := .type "list", data := .seq #[] }).update s.heap.objs.size (Obj.mapSeq (fun _ => (#[] : Array Value)))).get? b = some o := fun b o hb e => (Heap.get?_update_other _ _ (Ne.symm hb)).trans (Heap.get?_push_of_some _ e)
  refine wpAny_bind (wpAny_letGo ?_)
  refine rev_extend (l := l) (xs := xs) hh (hit.at fun o e => far I o (Nat.ne_of_lt ltI) e) (let ⟨o, e, r⟩ := hl; ⟨o, far l o (Nat.ne_of_lt ltl) e, r⟩) (Nat.ne_of_gt ltI) (Nat.ne_of_gt ltl) h3 hz hS2 fun g tk ys c hk hS' hacc => ?_
  exact ⟨rfl, hQ g tk ys c (fun b o hb e => hk b o (Nat.ne_of_lt (Heap.lt_size e)) hb (far b o (Nat.ne_of_lt (Heap.lt_size e)) e)) hS' hacc⟩
end
section
variable {X : Cx}
theorem vals_rev0 : ∀ {ys : List V} {its : List Value}, Vals ys its → Vals ys.reverse its.reverse
  | _, _, .nil => .nil
  | _, _, .cons h t => by
    rw [List.reverse_cons, List.reverse_cons]
    exact Paired.snoc (vals_rev0 t) h
theorem vals_rev {ys : List V} {its zs : List Value} (rv : Vals ys its) (hl : zs.length = its.length) (h : ∀ (j : Nat) (v : Value), zs[j]? = some v → its[its.length - 1 - j]? = some v) : Vals ys.reverse zs := by
  have e : zs = its.reverse := by
    refine List.ext_getElem? fun j => ?_
    rcases Nat.lt_or_ge j zs.length with hj | hj
    · rw [List.getElem?_reverse (by omega), List.getElem?_eq_getElem hj]
      exact (h j _ (List.getElem?_eq_getElem hj)).symm
    · rw [List.getElem?_eq_none hj, List.getElem?_eq_none (by rw [List.length_reverse]; omega)]
  rw [e]
  exact vals_rev0 rv
def tListV (K : PySem.W.Frag) (ta : TA) : TE := fun σ H Q => ta σ H fun vs H1 => ∃ a xs, vs = [.ref a] ∧ SqL K H1 a xs ∧ ∀ l, H1 l = none → Q (.ref l) (upd H1 l (.lst xs.reverse))
theorem pe_listV {a : Expr} {ta : TA} {p pos p' pos' : Pos} (hc : X.calm = true) (hg : Gl X "list") (hm : X.mg "list" = none) (hg' : Gl X "reversed") (hm' : X.mg "reversed" = none) (hb : bootBuiltins "list" = some (.type "list")) (ha : PA X [a] ta) (hs : starEach [a] X.env = [(false, eval a X.env)] := by rfl)
    (hs' : starEach [Expr.Call (.Name "reversed" p') [a] [] pos'] X.env = [(false, eval (.Call (.Name "reversed" p') [a] [] pos') X.env)] := by rfl) : PE X (.Call (.Name "list" p) [.Call (.Name "reversed" p') [a] [] pos'] [] pos) (tListV X.K ta) := by
  intro pins s σ H Q I h
  refine Call_ (ld_blt I hg hm hb (PyProof.Rows.callWith_type1 ?_ hs' rfl))
  rw [hs']
  refine Calls.spliced_cons ?_
  refine Call_ (ld_blt I hg' hm' b_reversed (PyProof.Rows.callWith_type1 (thn (ha pos' pins s σ H _ I h) fun us s1 ⟨vs, H1, I1, r1, q1⟩ => ?_) hs rfl))
  obtain ⟨x, xs, e, sx, q⟩ := q1
  subst e
  obtain ⟨u, rfl, ru⟩ := vals1 r1
  cases ru
  obtain ⟨its, rv, pl, hz⟩ := I1.list sx
  have hl := rv.length
  refine call_reversed_list pl.isList (Calls.spliced_nil ?_)
  have I2 : Inv X pins σ H1 { s1 with heap := s1.heap.push (revObj x ((its.toArray.size : Int) - 1)) } := I1.kept (t' := s1.toks) fun b o e => Heap.get?_push_of_some _ e
  have hr : (s1.heap.push (revObj x ((its.toArray.size : Int) - 1))).IsRevIter s1.heap.objs.size x ((its.toArray.size : Int) - 1) := ⟨_, Heap.get?_push_size _ rfl, rfl, rfl⟩
  have hxl : x < s1.heap.objs.size := by obtain ⟨_, e, _⟩ := pl.isList; exact Heap.lt_size e
  refine list_rev (xs := its.toArray) (I2.ok.hd hc) hr (let ⟨o, e, r⟩ := pl.isList; ⟨o, Heap.get?_push_of_some _ e, r⟩) (Nat.ne_of_lt hxl) (by rw [List.size_toArray]; omega) fun g tk ys c hk hS hacc => ?_
  have hsz : (s1.heap.push (revObj x ((its.toArray.size : Int) - 1))).objs.size = s1.heap.objs.size + 1 := Heap.size_push ..
  have hge : s1.heap.objs.size ≤ (s1.heap.push (revObj x ((its.toArray.size : Int) - 1))).objs.size := by omega
  have hv : Vals xs.reverse ys.toList := vals_rev rv (by rw [Array.length_toList, hacc.1, List.size_toArray]) fun j v hj => by
    have := hacc.2 j v (by rw [← Array.getElem?_toList]; exact hj)
    simpa using this
  refine ⟨.ref _, upd H1 _ (.lst xs.reverse), I1.laid (t' := tk) (fun b o e => hk b o (Nat.ne_of_lt (Heap.lt_size e)) (Heap.get?_push_of_some _ e)) hge ⟨by rw [List.length_reverse]; omega, ys.toList, c, hv, by rw [Array.toArray_toList]; exact hS⟩, rfl, q _ (I1.hok.fresh hge)⟩
theorem qe_listV {K : PySem.W.Frag} {a : Expr} {ta : TA} {p pos p' pos' : Pos} (hK : X.K = K) (hc : X.calm = true) (hg : Gl X "list") (hm : X.mg "list" = none) (hg' : Gl X "reversed") (hm' : X.mg "reversed" = none) (hb : bootBuiltins "list" = some (.type "list")) (ha : QA X [a] ta) (hs : starEach [a] X.env = [(false, eval a X.env)] := by rfl)
    (hs' : starEach [Expr.Call (.Name "reversed" p') [a] [] pos'] X.env = [(false, eval (.Call (.Name "reversed" p') [a] [] pos') X.env)] := by rfl) : QE X (.Call (.Name "list" p) [.Call (.Name "reversed" p') [a] [] pos'] [] pos) (tListV K ta) := ⟨hK ▸ pe_listV hc hg hm hg' hm' hb ha.r hs hs'⟩
theorem rd_listV {K : PySem.W.Frag} {ta : TA} {σ : St} {H : Hp} {Q : VK} (h : ta σ H fun vs H1 => ∃ a xs, vs = [.ref a] ∧ SqL K H1 a xs ∧ ∀ l, H1 l = none → Q (.ref l) (upd H1 l (.lst xs.reverse))) : tListV K ta σ H Q := h
end
end L2
set_option Elab.async false
set_option linter.all false
set_option maxRecDepth 100000
set_option maxHeartbeats 4000000
namespace L2
open PySem PySem.W PySem.Spec PyProof.Rows Srt Pc
section
variable {prog : Program} {w : World} {A : Around} {E : Value → Shared → Prop} {s : Shared} {d : Addr} {es : Array DictEntry} {ep : Nat}
theorem raw_min {Q : Value → Shared → Prop} (hh : A.handled = none) (lo : (d == sysModules) = false) (x : DRaw s.heap d es ep) (val : Nat → Int) (hv : ∀ (i : Nat) (v : Value), (∃ u : DictEntry, es[i]? = some u ∧ v = u.key) → ∃ t, v = Value.int (val i) t) (hne : 0 < es.size)
    (q : ∀ t g tk, (∀ b o, s.heap.get? b = some o → g.get? b = some o) → Q (.int (val (argBest (fun i j => decide (val i < val j)) (es.size - 1))) t) { s with heap := g, toks := tk }) : wpAny (model prog w) A (call (.builtin "min") [.ref d]) Q E s := by
  have hlt := x.lt
  refine call_min_walk (raw_iter lo x ?_)
  have e : (s.heap.push { cls := .type "dict_keyiterator", data := .fields #[.ref d, .int 0 0, .int es.size 0, .int ep 0] }).objs.size = s.heap.objs.size + 1 := Heap.size_push ..
  refine ⟨_, _, _, _, _, _, _, rfl, raw_walks (A := A.in1) hh _ d (Nat.ne_of_lt hlt) es ep, ⟨⟨_, Heap.get?_push_size _ rfl, rfl, rfl⟩, x.to fun o e => Heap.get?_push_of_some _ e⟩, fun b hb => ?_, hne, CmpOf.ints_lt val hv, fun v g tk hP hk => ?_⟩
  · show b < (s.heap.push _).objs.size
    rw [e]
    simp only [List.mem_cons, List.not_mem_nil, or_false] at hb
    rcases hb with rfl | rfl
    · exact Nat.lt_succ_self _
    · exact Nat.lt_succ_of_lt hlt
  · obtain ⟨t, rfl⟩ := hv _ v hP
    exact q t g tk fun b o e => hk b o (fun z => by rw [List.mem_singleton.mp z] at e; exact absurd (Heap.lt_size e) (Nat.lt_irrefl _)) (Heap.get?_push_of_some _ e)
section
variable {K : Type} [DecidableEq K] {knd : KeyKind prog w K}
theorem setdef_new {kvs : List (K × Value)} {k : K} {key v : Value} {Q : Value → Shared → Prop} (hkey : knd.is k key = true) (hm : s.heap.DictOf knd d kvs) (hz : kvs.length ≤ sizeLine) (hno : k ∉ kvs.map (·.1))
    (q : ∀ g, g.DictOf knd d (stored kvs k v) → Heap.SameBut d s.heap g → Q v { s with heap := g, toks := s.toks + 1 }) : wpAny (model prog w) A (dictSetDefault d key v) Q E s := by
  obtain ⟨o, es, ep, ho, hc, hd, hk, hp, hn⟩ := hm
  have hes : es.size ≤ sizeLine := by
    have e1 := hp.length
    have e2 : es.toList.length = es.size := by simp
    omega
  have hidx : (es.findIdx? fun e => knd.is k e.key) = kvs.findIdx? fun kv => decide (kv.1 = k) := by
    rw [← hp.findIdx k]
    obtain ⟨l⟩ := es
    simp
  have hnone : (es.findIdx? fun e => knd.is k e.key) = none := by
    rw [hidx, List.findIdx?_eq_none_iff]
    intro x hx
    exact decide_eq_false fun z => hno (List.mem_map.mpr ⟨x, hx, z⟩)
  have hany : ¬ (kvs.any fun kv => decide (kv.1 = k)) = true := by
    rw [List.any_eq_true]
    rintro ⟨kv, hkv, he⟩
    exact hno (List.mem_map.mpr ⟨kv, hkv, of_decide_eq_true he⟩)
  unfold dictSetDefault
  try with_reducible refine wpAny_holding ?_
  refine wpAny_bind (knd.pyHash hkey ?_)
  refine wpAny_bind (wpAny_dictFind_of (s := { s with toks := s.toks + 1 }) hkey ho hd hk ?_)
  rw [hnone]
  refine wpAny_bind (wpAny_rule (wpAny_bind (wpAny_updateDictKeys (hz := hes) (s := { s with toks := s.toks + 1 }) ho hd (wpAny_pure (q _ ⟨_, _, ep + 1, Heap.get?_update_self _ ho (Obj.isFreed_of_dict (Obj.data_mapDictKeys hd _)), hc.mapDictKeys _, Obj.data_mapDictKeys hd _, hk.push hkey _, ?_, ?_⟩ (Heap.SameBut.update ..))))))
  · rw [stored, if_neg hany]
    have := hp.append hkey (knd.hash k) v
    obtain ⟨l⟩ := es
    simpa using this
  · rw [stored, if_neg hany, List.map_append, List.nodup_append]
    exact ⟨hn, by simp, fun a ha b hb e => hno (by simp only [List.map_cons, List.map_nil, List.mem_singleton] at hb; rw [← hb, ← e]; exact ha)⟩
end
end
section
variable {X : Cx} {pins : List (Addr × Obj)} {σ : St} {H : Hp} {s : Shared} {d : Addr} {kvs : List (Key × V)} {k : Key} {A : Around} {E : Value → Shared → Prop}
theorem dk_setdef {v : V} {u key : Value} {Q : Value → Shared → Prop} (I : Inv X pins σ H s) (e : H d = some (.dK kvs)) (ry : RelV (kV k) key) (hl : kvs.length < sizeLine) (rv : RelV v u)
    (h1 : ∀ x w' s', valV kvs k = some x → Inv X pins σ H s' → RelV x w' → Q w' s') (h2 : valV kvs k = none → ∀ s', Inv X pins σ (upd H d (.dK (putK kvs k v))) s' → Q u s') :
    wpAny (model X.prog X.w) A (call (.builtin "dict.setdefault") [.ref d, key, u]) Q E s := by
  obtain ⟨z, hd, vs, rel, dd⟩ := dk_of I.hok e
  have hz : vs.length ≤ sizeLine := by rw [← rel.length]; exact z
  have ho := rel.val k
  cases hv : valV kvs k with
  | some x =>
    rw [hv] at ho
    cases hw : valueAt vs k with
    | none => rw [hw] at ho; exact absurd ho (by simp [RelO])
    | some w' =>
      rw [hw] at ho
      refine call_meetsIn PySem.F.slot_dict_setdefault dd.typeIs PySem.F.entry_dict_setdefault (PySem.F.args_dict_setdefault_3 _ _ _) (meets_dict_setdefault (mixKind X.prog X.w) d (kV_is ry) hd u) ⟨_, dd.mapOf, ?_, fun v' hv' => ?_, fun hno => ?_⟩
      · obtain ⟨o, es, ep, g1, g2, g3, g4, g5, g6⟩ := dd
        intro o' es' ep' f1 f2
        rw [g1] at f1
        cases f1
        rw [g3] at f2
        cases f2
        have e1 := g5.length
        have e2 : es.toList.length = es.size := by simp
        omega
      · have hv' : valueAt vs k = some v' := hv'
        rw [hw] at hv'
        cases hv'
        exact h1 x w' _ hv (I.tok _) ho
      · have hno : valueAt vs k = none := hno
        rw [hw] at hno
        cases hno
  | none =>
    rw [hv] at ho
    cases hw : valueAt vs k with
    | some w' => rw [hw] at ho; exact absurd ho (by simp [RelO])
    | none =>
      have hno : k ∉ vs.map (·.1) := fun z => by
        obtain ⟨kv, hkv, rfl⟩ := List.mem_map.mp z
        unfold valueAt at hw
        rw [Option.map_eq_none_iff, List.find?_eq_none] at hw
        exact absurd (decide_eq_true rfl) (hw kv hkv)
      refine wpAny_call_entry PySem.F.slot_dict_setdefault dd.typeIs PySem.F.entry_dict_setdefault ?_ (PySem.F.args_dict_setdefault_3 _ _ _)
      unfold Builtin.«dict.setdefault»; refine wpAny_bind ?_
      unfold Builtin.Dict.keyAndDefault; refine wpAny_bind (wpAny_notOrdered_dict dd.typeIs ?_)
      show wpAny _ _ (pure (d, key, some u)) _ _ s; refine wpAny_pure ?_
      show wpAny _ _ (if (d == sysModules) = true then _ else (dictSetDefault d key u >>= _)) _ _ s
      rw [if_neg (by rw [hd]; simp)]
      refine wpAny_bind (setdef_new (kV_is ry) dd hz hno fun g dd' hs => wpAny_pure ⟨_, rfl, h2 hv _ (d_write I (by rw [e]; exact True.intro) hs (let ⟨q, _, _, hq, _⟩ := dd'; ⟨q, hq⟩) (dk_new (Nat.le_trans (length_putK kvs k v) hl) hd (rel.put k rv) dd'))⟩)
end
section
variable {X : Cx}
def tDSetK (td ty tx : TE) : TE := fun σ H Q => td σ H fun x H1 => ∃ d, x = .ref d ∧ IsD H1 d ∧ ty σ H1 fun y H2 => tx σ H2 fun z H3 => ∃ (kvs : List (Key × V)) (k : Key), H3 d = some (.dK kvs) ∧ y = kV k ∧ kvs.length < sizeLine ∧
  (∀ v, valV kvs k = some v → Q v H3) ∧ (valV kvs k = none → Q z (upd H3 d (.dK (putK kvs k z))))
theorem qe_dsetK {o e f : Expr} {apos cpos : Pos} {td ty tx : TE} (ho : QE X o td) (he : QE X e ty) (hf : QE X f tx) (m : M2 X o "setdefault" apos e f cpos) : QE X (.Call (.Attribute o "setdefault" apos) [e, f] [] cpos) (tDSetK td ty tx) := ⟨by
  intro pins s σ H Q I h
  refine wpAny_Call_method m.base m.few m.line PySem.F.plainAttrs_dict PySem.F.slot_dict_setdefault PySem.F.type_dict_setdefault (thn (ho.r pins s σ H _ I h) fun u s1 ⟨x, H1, I1, rx, d, ex, dd, q1⟩ => ?_)
  subst ex
  obtain rfl : u = Value.ref d := rx
  obtain ⟨t1, t2, _⟩ := isD_at I1 dd
  refine ⟨t1, t2, ?_⟩
  rw [m.trees]
  refine Calls.callWith_builtin rfl (Calls.evalArgs_plain (Calls.spliced_cons (thn (he.r pins s1 σ H1 _ I1 q1) fun iv s2 ⟨y, H2, I2, ry, q2⟩ => Calls.spliced_cons (thn (hf.r pins s2 σ H2 _ I2 q2) fun fv s3 ⟨z, H3, I3, rz, kvs, k, ed, ey, hl, g1, g2⟩ => Calls.spliced_nil ?_))))
  subst ey
  exact dk_setdef I3 ed ry hl rz (fun x w' s' hv I' r => ⟨x, H3, I', r, g1 x hv⟩) (fun hv s' I' => ⟨z, _, I', rz, g2 hv⟩)⟩
theorem rd_dsetK {σ : St} {H : Hp} {Q : VK} {td ty tx : TE} (h : td σ H fun x H1 => ∃ d, x = .ref d ∧ IsD H1 d ∧ ty σ H1 fun y H2 => tx σ H2 fun z H3 => ∃ (kvs : List (Key × V)) (k : Key), H3 d = some (.dK kvs) ∧ y = kV k ∧ kvs.length < sizeLine ∧
  (∀ v, valV kvs k = some v → Q v H3) ∧ (valV kvs k = none → Q z (upd H3 d (.dK (putK kvs k z))))) : tDSetK td ty tx σ H Q := h
theorem qe_dpopK {o e : Expr} {apos cpos : Pos} {td ty : TE} (ho : QE X o td) (he : QE X e ty) (m : M1 X o "pop" apos e cpos) : QE X (.Call (.Attribute o "pop" apos) [e] [] cpos) (tDPop1 td ty) := ⟨pe_dpop1 ho.r he.r m⟩
def rMinK : List V → Hp → VK → Prop := fun xs H Q => ∃ (d : Addr) (kvs : List (Key × V)) (ns : List Int), xs = [.ref d] ∧ H d = some (.dK kvs) ∧ kvs.map (·.1) = ns.map Sum.inl ∧ ns ≠ [] ∧ ∀ M, M ∈ ns → (∀ a, a ∈ ns → M ≤ a) → Q (.int M) H
theorem pairs_keys {P : Program} {w : World} {es : List DictEntry} {vs : List (Key × Value)} {ns : List Int} (h : Pairs (mixKind P w) es vs) (hk : vs.map (·.1) = ns.map Sum.inl) : ∀ (i : Nat) (u : DictEntry), es[i]? = some u → ∃ n t, ns[i]? = some n ∧ u.key = .int n t := by
  induction h generalizing ns with
  | nil =>
    intro i u h
    simp at h
  | cons h1 h2 t ih =>
    cases ns with
    | nil => simp at hk
    | cons n ns =>
      simp only [List.map_cons, List.cons.injEq] at hk
      intro i u h
      cases i with
      | zero =>
        simp only [List.getElem?_cons_zero, Option.some.injEq] at h
        subst h
        rw [hk.1] at h1
        have h1 : keyIs (Sum.inl n) _ = true := h1
        rcases keyIs_shape h1 with ⟨i, t, e1, e2⟩ | ⟨x, t, e1, e2⟩
        · cases e1
          exact ⟨n, t, rfl, e2⟩
        · cases e1
      | succ i =>
        simp only [List.getElem?_cons_succ] at h ⊢
        exact ih hk.2 i u h
theorem call_minK (hc : X.calm = true) : CallR X (.builtin "min") rMinK := by
  intro pins s σ H xs us Q I r h
  obtain ⟨d, kvs, ns, rfl, ed, ek, hne, q⟩ := h
  obtain ⟨u, rfl, ru⟩ := vals1 r
  cases ru
  obtain ⟨z, lo, vs, rel, o, es, ep, g1, g2, g3, g4, g5, g6⟩ := dk_of I.hok ed
  have hkeys : vs.map (·.1) = ns.map Sum.inl := by rw [← rel.keys]; exact ek
  have hl : es.size = ns.length := by
    have e1 := g5.length
    have e2 : es.toList.length = es.size := by simp
    have e3 := congrArg List.length hkeys
    simp only [List.length_map] at e3
    omega
  have hpos : 0 < ns.length := List.length_pos_iff.mpr hne
  have hv : ∀ (i : Nat) (v : Value), (∃ u : DictEntry, es[i]? = some u ∧ v = u.key) → ∃ t, v = Value.int (ns[i]?.getD 0) t := fun i v ⟨u, hu, e⟩ => by
    obtain ⟨n, t, h1, h2⟩ := pairs_keys g5 hkeys i u (by rw [Array.getElem?_toList]; exact hu)
    exact ⟨t, by rw [e, h2, h1]; rfl⟩
  refine raw_min (I.ok.hd hc) lo ⟨o, g1, g2, g3⟩ (fun i => ns[i]?.getD 0) hv (by omega) fun t g tk hk => ?_
  obtain ⟨h1, h2⟩ := argBest_lt (fun i => ns[i]?.getD 0) (es.size - 1)
  refine ⟨.int _, H, I.kept hk, ⟨t, rfl⟩, q _ ?_ fun a ha => ?_⟩
  · rw [List.getElem?_eq_getElem (by omega)]
    exact List.getElem_mem _
  · obtain ⟨j, hj⟩ := List.getElem?_of_mem ha
    have hjl := (List.getElem?_eq_some_iff.mp hj).1
    have := h2 j (by omega)
    simp only [hj, Option.getD_some] at this
    exact this
theorem qc_minK (hc : X.calm = true) : QCl X (.builtin "min") rMinK := ⟨call_minK hc⟩
theorem rd_dpopK {σ : St} {H : Hp} {Q : VK} {td ty : TE} (h : td σ H fun x H1 => ∃ a, x = .ref a ∧ IsD H1 a ∧ ty σ H1 fun y H2 => ∃ kvs k v, H2 a = some (.dK kvs) ∧ y = kV k ∧ valV kvs k = some v ∧ Q v (upd H2 a (.dK (dropK kvs k)))) : tDPop1 td ty σ H Q := h
end
end L2
set_option Elab.async false
set_option linter.all false
set_option maxRecDepth 100000
set_option maxHeartbeats 4000000
namespace Pc
open PySem L2 Srt
abbrev WQ := List (Int × List C3)
abbrev PL := List (C3 × Int × Option C3)
abbrev PS := PL × WQ
def lowW (W : WQ) : Int := ((W.map (·.1)).min?).getD 0
def atW (W : WQ) (k : Int) : List C3 := ((W.find? fun p => decide (p.1 = k)).map (·.2)).getD []
def setW (W : WQ) (k : Int) (l : List C3) : WQ := W.map fun p => if p.1 = k then (p.1, l) else p
def popC (W : WQ) : C3 := (atW W (lowW W)).getLastD ⟨0, 0, 0⟩
def popW (W : WQ) : WQ := if (atW W (lowW W)).dropLast = [] then W.filter (fun p => decide (p.1 ≠ lowW W)) else setW W (lowW W) (atW W (lowW W)).dropLast
def putW (W : WQ) (k : Int) (c : C3) : WQ := if k ∈ W.map (·.1) then setW W k (atW W k ++ [c]) else W ++ [(k, [c])]
def lvl (L : PL) (c : C3) : Int := ((L.find? fun p => decide (p.1 = c)).map (·.2.1)).getD 0
def prC (cs : List C3) (here : C3) (lh : Int) (st : PS) (c : C3) : PS := if c ∈ cs ∧ c ∉ st.1.map (·.1) then (st.1 ++ [(c, max lh c.z, some here)], putW st.2 (max lh c.z) c) else st
def pr1 (cs : List C3) (st : PS) : PS := if st.2 = [] then st else (nb (popC st.2)).foldl (prC cs (popC st.2) (lvl st.1 (popC st.2))) (st.1, popW st.2)
def prN (cs : List C3) : Nat → PS → PS
  | 0, s => s
  | n + 1, s => pr1 cs (prN cs n s)
def prI (g : C3) : PS := ([(g, g.z, none)], [(g.z, [g])])
def PF (cs : List C3) (g : C3) : PL := (prN cs (cs.length + 1) (prI g)).1
theorem prN_stop {cs : List C3} {s : PS} {n : Nat} {L : PL} (h : prN cs n s = (L, [])) : ∀ k, prN cs (n + k) s = (L, [])
  | 0 => h
  | k + 1 => by
    show pr1 cs (prN cs (n + k) s) = _
    rw [prN_stop h k]
    rfl
theorem PF_eq {cs : List C3} {g : C3} {n : Nat} {L : PL} (h : prN cs n (prI g) = (L, [])) (hn : n ≤ cs.length + 1) : PF cs g = L := by
  unfold PF
  have := prN_stop h (cs.length + 1 - n)
  rw [show n + (cs.length + 1 - n) = cs.length + 1 by omega] at this
  rw [this]
theorem lowW_eq {W : WQ} {M : Int} (h1 : M ∈ W.map (·.1)) (h2 : ∀ a ∈ W.map (·.1), M ≤ a) : M = lowW W := by
  unfold lowW
  rw [List.min?_eq_some_iff.mpr ⟨h1, h2⟩]
  rfl
theorem lowW_mem {W : WQ} (h : W ≠ []) : lowW W ∈ W.map (·.1) ∧ ∀ a ∈ W.map (·.1), lowW W ≤ a := by
  have : W.map (·.1) ≠ [] := by simpa using h
  unfold lowW
  cases e : (W.map (·.1)).min? with
  | none => exact absurd (List.min?_eq_none_iff.mp e) this
  | some m => exact List.min?_eq_some_iff.mp e
theorem atW_mem {W : WQ} {k : Int} (hn : (W.map (·.1)).Nodup) {l : List C3} (h : (k, l) ∈ W) : atW W k = l := by
  unfold atW
  induction W with
  | nil => cases h
  | cons p W ih =>
    rw [List.map_cons, List.nodup_cons] at hn
    rw [List.find?_cons]
    rcases List.mem_cons.mp h with e | e
    · rw [← e, decide_eq_true rfl]; rfl
    · have : p.1 ≠ k := fun z => hn.1 (by rw [z]; exact List.mem_map.mpr ⟨_, e, rfl⟩)
      rw [decide_eq_false this]
      exact ih hn.2 e
theorem keys_setW (W : WQ) (k : Int) (l : List C3) : (setW W k l).map (·.1) = W.map (·.1) := by
  unfold setW
  rw [List.map_map]
  refine List.map_congr_left fun p _ => ?_
  simp only [Function.comp]
  split <;> rfl
theorem mem_setW {W : WQ} {k : Int} {l : List C3} {p : Int × List C3} (h : p ∈ setW W k l) : (p.1 = k ∧ p.2 = l ∧ k ∈ W.map (·.1)) ∨ (p.1 ≠ k ∧ p ∈ W) := by
  unfold setW at h
  obtain ⟨q, hq, e⟩ := List.mem_map.mp h
  by_cases hk : q.1 = k
  · rw [if_pos hk] at e
    subst e
    exact .inl ⟨hk, rfl, by rw [← hk]; exact List.mem_map.mpr ⟨q, hq, rfl⟩⟩
  · rw [if_neg hk] at e
    subst e
    exact .inr ⟨hk, hq⟩
def wc (W : WQ) : Nat := (W.map fun p => p.2.length).sum
theorem wc_set {W : WQ} (hn : (W.map (·.1)).Nodup) {k : Int} (hk : k ∈ W.map (·.1)) (l : List C3) : wc (setW W k l) + (atW W k).length = wc W + l.length := by
  induction W with
  | nil => cases hk
  | cons p W ih =>
    rw [List.map_cons, List.nodup_cons] at hn
    unfold wc setW atW at *
    rw [List.map_cons, List.map_cons, List.map_cons, List.sum_cons, List.sum_cons, List.find?_cons]
    by_cases e : p.1 = k
    · have hrest : (W.map fun p => if p.1 = k then (p.1, l) else p) = W := by
        refine (List.map_congr_left fun q hq => ?_).trans (List.map_id' _)
        rw [if_neg fun z => hn.1 (by rw [e, ← z]; exact List.mem_map.mpr ⟨q, hq, rfl⟩)]
      rw [hrest, if_pos e, decide_eq_true e]
      simp only [Option.map_some, Option.getD_some]
      omega
    · rw [if_neg e, decide_eq_false e]
      dsimp only
      have := ih hn.2 (by
        rcases List.mem_cons.mp hk with z | z
        · exact absurd z.symm e
        · exact z)
      omega
theorem wc_drop {W : WQ} (hn : (W.map (·.1)).Nodup) {k : Int} (hk : k ∈ W.map (·.1)) : wc (W.filter fun p => decide (p.1 ≠ k)) + (atW W k).length = wc W := by
  induction W with
  | nil => cases hk
  | cons p W ih =>
    rw [List.map_cons, List.nodup_cons] at hn
    unfold wc atW at *
    rw [List.filter_cons, List.map_cons, List.sum_cons, List.find?_cons]
    by_cases e : p.1 = k
    · have hrest : (W.filter fun p => decide (p.1 ≠ k)) = W := List.filter_eq_self.mpr fun q hq => by
        rw [decide_eq_true_eq]
        exact fun z => hn.1 (by rw [e, ← z]; exact List.mem_map.mpr ⟨q, hq, rfl⟩)
      rw [if_neg (by simp [e]), hrest, decide_eq_true e]
      simp only [Option.map_some, Option.getD_some]
      omega
    · rw [if_pos (by simp [e]), decide_eq_false e, List.map_cons, List.sum_cons]
      dsimp only
      have := ih hn.2 (by
        rcases List.mem_cons.mp hk with z | z
        · exact absurd z.symm e
        · exact z)
      omega
theorem atW_in {W : WQ} {k : Int} (hn : (W.map (·.1)).Nodup) (hk : k ∈ W.map (·.1)) : (k, atW W k) ∈ W := by
  obtain ⟨p, hp, rfl⟩ := List.mem_map.mp hk
  rw [atW_mem hn hp]
  exact hp
theorem wc_put {W : WQ} (hn : (W.map (·.1)).Nodup) (k : Int) (c : C3) : wc (putW W k c) = wc W + 1 := by
  unfold putW
  split
  · rename_i hk
    have := wc_set hn hk (atW W k ++ [c])
    rw [List.length_append, List.length_singleton] at this
    omega
  · unfold wc
    rw [List.map_append, List.sum_append]
    simp
structure PInv (cs : List C3) (g : C3) (n : Nat) (st : PS) : Prop where
  nd : (st.1.map (·.1)).Nodup
  sub : ∀ p ∈ st.1, p.1 ∈ cs
  chn : ∀ (i : Nat) p, st.1[i]? = some p → p = (g, g.z, none) ∨ ∃ (j : Nat) (q : C3 × Int × Option C3), j < i ∧ st.1[j]? = some q ∧ p.2.2 = some q.1 ∧ p.1 ∈ nb q.1 ∧ p.2.1 = max q.2.1 p.1.z
  wnd : (st.2.map (·.1)).Nodup
  wne : ∀ p ∈ st.2, p.2 ≠ []
  win : ∀ p ∈ st.2, ∀ c ∈ p.2, c ∈ st.1.map (·.1)
  cnt : wc st.2 + n = st.1.length
  gm : (g, g.z, none) ∈ st.1
theorem PInv.len {cs : List C3} {g : C3} {n : Nat} {st : PS} (h : PInv cs g n st) : st.1.length ≤ cs.length := by
  have := nodup_lenC h.nd (m := cs) fun x hx => by
    obtain ⟨p, hp, rfl⟩ := List.mem_map.mp hx
    exact h.sub p hp
  simpa using this
theorem PInv.init {cs : List C3} {g : C3} (hg : g ∈ cs) : PInv cs g 0 (prI g) := by
  refine ⟨by simp [prI], fun p hp => ?_, fun i p hp => ?_, by simp [prI], fun p hp => ?_, fun p hp c hc => ?_, rfl, List.mem_singleton.mpr rfl⟩
  · simp only [prI, List.mem_singleton] at hp
    rw [hp]
    exact hg
  · have hlt := (List.getElem?_eq_some_iff.mp hp).1
    have : i = 0 := by simp [prI] at hlt; omega
    subst this
    exact .inl (by simpa [prI] using hp.symm)
  · simp only [prI, List.mem_singleton] at hp
    rw [hp]
    simp
  · simp only [prI, List.mem_singleton] at hp
    rw [hp] at hc
    simp only [List.mem_singleton] at hc
    rw [hc]
    simp [prI]
theorem PInv.pop {cs : List C3} {g : C3} {n : Nat} {L : PL} {W : WQ} (h : PInv cs g n (L, W)) (hW : W ≠ []) : PInv cs g (n + 1) (L, popW W) ∧ popC W ∈ L.map (·.1) ∧ ∃ pre, atW W (lowW W) = pre ++ [popC W] := by
  have hlow := (lowW_mem hW).1
  have hwn : (W.map (·.1)).Nodup := h.wnd
  have hin : (lowW W, atW W (lowW W)) ∈ W := atW_in hwn hlow
  have hne : atW W (lowW W) ≠ [] := h.wne _ hin
  have hpre : atW W (lowW W) = (atW W (lowW W)).dropLast ++ [popC W] := by
    unfold popC
    rw [List.getLastD_eq_getLast?, List.getLast?_eq_some_getLast hne]
    exact (List.dropLast_concat_getLast hne).symm
  have hcl : popC W ∈ atW W (lowW W) := by rw [hpre]; exact List.mem_append_right _ (List.mem_singleton.mpr rfl)
  have hlen : (atW W (lowW W)).length = (atW W (lowW W)).dropLast.length + 1 := by
    have := List.length_pos_iff.mpr hne
    rw [List.length_dropLast]
    omega
  have hcnt : wc W + n = L.length := h.cnt
  refine ⟨?_, h.win _ hin _ hcl, _, hpre⟩
  have hwc : wc (popW W) + 1 = wc W := by
    unfold popW
    split
    · rename_i e
      have := wc_drop hwn hlow
      rw [e] at hlen
      simp only [List.length_nil] at hlen
      omega
    · have := wc_set hwn hlow (atW W (lowW W)).dropLast
      omega
  refine ⟨h.nd, h.sub, h.chn, ?_, fun p hp => ?_, fun p hp c hc => ?_, by show wc (popW W) + (n + 1) = L.length; omega, h.gm⟩
  · show ((popW W).map (·.1)).Nodup
    unfold popW
    split
    · exact h.wnd.sublist (List.filter_sublist.map _)
    · rw [keys_setW]; exact h.wnd
  · have hp : p ∈ popW W := hp
    unfold popW at hp
    split at hp
    · exact h.wne p (List.mem_filter.mp hp).1
    · rename_i e
      rcases mem_setW hp with ⟨_, h2, _⟩ | ⟨_, h2⟩
      · rw [h2]; exact e
      · exact h.wne p h2
  · have hp : p ∈ popW W := hp
    unfold popW at hp
    split at hp
    · exact h.win p (List.mem_filter.mp hp).1 c hc
    · rcases mem_setW hp with ⟨_, h2, _⟩ | ⟨_, h2⟩
      · rw [h2] at hc
        exact h.win _ hin c (List.dropLast_subset _ hc)
      · exact h.win p h2 c hc
theorem PInv.put {cs : List C3} {g : C3} {n : Nat} {L : PL} {W : WQ} (h : PInv cs g n (L, W)) {c : C3} {q : C3 × Int × Option C3} (hq : q ∈ L) (hcs : c ∈ cs) (hc : c ∉ L.map (·.1)) (hnb : c ∈ nb q.1) : PInv cs g n (L ++ [(c, max q.2.1 c.z, some q.1)], putW W (max q.2.1 c.z) c) := by
  obtain ⟨j, hj⟩ := List.getElem?_of_mem hq
  have hjl := (List.getElem?_eq_some_iff.mp hj).1
  have hcnt : wc W + n = L.length := h.cnt
  have hwn : (W.map (·.1)).Nodup := h.wnd
  refine ⟨?_, fun p hp => ?_, fun i p hp => ?_, ?_, fun p hp => ?_, fun p hp x hx => ?_, ?_, List.mem_append_left _ h.gm⟩
  · show ((L ++ [(c, max q.2.1 c.z, some q.1)]).map (·.1)).Nodup
    rw [List.map_append, List.nodup_append]
    exact ⟨h.nd, by simp, fun x hx y hy e => hc (by simp only [List.map_cons, List.map_nil, List.mem_singleton] at hy; rw [← hy, ← e]; exact hx)⟩
  · rcases List.mem_append.mp hp with z | z
    · exact h.sub p z
    · rw [List.mem_singleton] at z
      rw [z]
      exact hcs
  · have hp : (L ++ [(c, max q.2.1 c.z, some q.1)])[i]? = some p := hp
    by_cases hi : i < L.length
    · rw [List.getElem?_append_left hi] at hp
      rcases h.chn i p hp with z | ⟨j', q', h1, h2, h3⟩
      · exact .inl z
      · exact .inr ⟨j', q', h1, by show (L ++ _)[j']? = _; rw [List.getElem?_append_left (by omega)]; exact h2, h3⟩
    · have hlt := (List.getElem?_eq_some_iff.mp hp).1
      rw [List.length_append, List.length_singleton] at hlt
      have hi' : i = L.length := by omega
      subst hi'
      rw [List.getElem?_append_right (Nat.le_refl _), Nat.sub_self] at hp
      have hp : (c, max q.2.1 c.z, some q.1) = p := by simpa using hp
      subst hp
      exact .inr ⟨j, q, hjl, by show (L ++ _)[j]? = _; rw [List.getElem?_append_left hjl]; exact hj, rfl, hnb, rfl⟩
  · show ((putW W _ c).map (·.1)).Nodup
    unfold putW
    split
    · rw [keys_setW]; exact hwn
    · rename_i hk
      rw [List.map_append, List.nodup_append]
      exact ⟨hwn, by simp, fun x hx y hy e => hk (by simp only [List.map_cons, List.map_nil, List.mem_singleton] at hy; rw [← hy, ← e]; exact hx)⟩
  · have hp : p ∈ putW W (max q.2.1 c.z) c := hp
    unfold putW at hp
    split at hp
    · rcases mem_setW hp with ⟨_, h2, _⟩ | ⟨_, h2⟩
      · rw [h2]; simp
      · exact h.wne p h2
    · rcases List.mem_append.mp hp with z | z
      · exact h.wne p z
      · rw [List.mem_singleton] at z
        rw [z]
        simp
  · have hp : p ∈ putW W (max q.2.1 c.z) c := hp
    show x ∈ (L ++ [(c, max q.2.1 c.z, some q.1)]).map (·.1)
    rw [List.map_append]
    have old : ∀ x, x ∈ L.map (·.1) → x ∈ L.map (·.1) ++ [(c, max q.2.1 c.z, some q.1)].map (·.1) := fun x hx => List.mem_append_left _ hx
    have new : c ∈ L.map (·.1) ++ [(c, max q.2.1 c.z, some q.1)].map (·.1) := List.mem_append_right _ (by simp)
    unfold putW at hp
    split at hp
    · rename_i hk
      rcases mem_setW hp with ⟨_, h2, _⟩ | ⟨_, h2⟩
      · rw [h2] at hx
        rcases List.mem_append.mp hx with z | z
        · exact old x (h.win _ (atW_in hwn hk) x z)
        · rw [List.mem_singleton] at z
          rw [z]
          exact new
      · exact old x (h.win p h2 x hx)
    · rcases List.mem_append.mp hp with z | z
      · exact old x (h.win p z x hx)
      · rw [List.mem_singleton] at z
        rw [z] at hx
        rw [List.mem_singleton.mp hx]
        exact new
  · show wc (putW W _ c) + n = (L ++ [_]).length
    rw [wc_put hwn, List.length_append, List.length_singleton]
    omega
structure WD (H : Hp) (kw : List (Key × V)) (W : WQ) : Prop where
  key : kw.map (·.1) = W.map fun p => Sum.inl p.1
  nd : (W.map (·.1)).Nodup
  inj : ∀ k k' a, valV kw k = some (.ref a) → valV kw k' = some (.ref a) → k = k'
  at' : ∀ p ∈ W, ∃ a zs, valV kw (Sum.inl p.1) = some (.ref a) ∧ H a = some (.lst zs) ∧ Cs H zs p.2
theorem WD.len {H : Hp} {kw : List (Key × V)} {W : WQ} (h : WD H kw W) : kw.length = W.length := by
  have := congrArg List.length h.key
  simpa using this
theorem WD.none {H : Hp} {kw : List (Key × V)} {W : WQ} (h : WD H kw W) {k : Int} : valV kw (Sum.inl k) = none ↔ k ∉ W.map (·.1) := by
  constructor
  · intro e hm
    refine valV_not e ?_
    rw [h.key]
    obtain ⟨p, hp, rfl⟩ := List.mem_map.mp hm
    exact List.mem_map.mpr ⟨p, hp, rfl⟩
  · intro hm
    cases e : valV kw (Sum.inl k) with
    | none => rfl
    | some v =>
      have : (kw.any fun kv => decide (kv.1 = Sum.inl k)) = true := by rw [valV_any, e]; rfl
      obtain ⟨kv, h1, h2⟩ := List.any_eq_true.mp this
      have h3 : kv.1 ∈ kw.map (·.1) := List.mem_map.mpr ⟨kv, h1, rfl⟩
      rw [h.key, of_decide_eq_true h2] at h3
      obtain ⟨p, hp, ep⟩ := List.mem_map.mp h3
      exact absurd (List.mem_map.mpr ⟨p, hp, Sum.inl.inj ep⟩) hm
theorem WD.get {H : Hp} {kw : List (Key × V)} {W : WQ} (h : WD H kw W) {k : Int} (hk : k ∈ W.map (·.1)) : ∃ a zs, valV kw (Sum.inl k) = some (.ref a) ∧ H a = some (.lst zs) ∧ Cs H zs (atW W k) ∧ (k, atW W k) ∈ W := by
  obtain ⟨p, hp, rfl⟩ := List.mem_map.mp hk
  obtain ⟨a, zs, e1, e2, e3⟩ := h.at' p hp
  have : atW W p.1 = p.2 := atW_mem h.nd hp
  rw [this]
  exact ⟨a, zs, e1, e2, e3, hp⟩
theorem WD.mono {H H' : Hp} {kw : List (Key × V)} {W : WQ} (h : WD H kw W) (hl : ∀ k a zs, valV kw k = some (.ref a) → H a = some (.lst zs) → H' a = some (.lst zs)) (ht : ∀ b xs, H b = some (.tup xs) → H' b = some (.tup xs)) : WD H' kw W :=
  ⟨h.key, h.nd, h.inj, fun p hp => by
    obtain ⟨a, zs, e1, e2, e3⟩ := h.at' p hp
    exact ⟨a, zs, e1, hl _ _ _ e1 e2, Paired.mapP e3 fun _ _ ⟨q, x1, x2⟩ => ⟨q, x1, ht _ _ x2⟩⟩⟩
theorem WD.up {H H' : Hp} {kw : List (Key × V)} {W : WQ} (h : WD H kw W) (s : Same H H') : WD H' kw W := h.mono (fun _ _ _ _ e => s _ _ e) fun _ _ e => s _ _ e
theorem WD.set {H : Hp} {kw : List (Key × V)} {W : WQ} (h : WD H kw W) {k : Int} {a : Addr} {zs zs' : List V} {l : List C3} (e : valV kw (Sum.inl k) = some (.ref a)) (ea : H a = some (.lst zs)) (hc : Cs H zs' l) : WD (upd H a (.lst zs')) kw (setW W k l) :=
  ⟨by rw [h.key]; have := congrArg (List.map (Sum.inl : Int → Key)) (keys_setW W k l); rw [List.map_map, List.map_map] at this; exact this.symm, by rw [keys_setW]; exact h.nd, h.inj, fun p hp => by
    rcases mem_setW hp with ⟨h1, h2, h3⟩ | ⟨h1, h2⟩
    · rw [h1, h2]
      exact ⟨a, zs', e, upd_same, Rs.lst ea hc⟩
    · obtain ⟨b, ys, e1, e2, e3⟩ := h.at' p h2
      have hne : b ≠ a := fun z => by
        subst z
        exact h1 (Sum.inl.inj (h.inj _ _ _ e1 e))
      exact ⟨b, ys, e1, lk_ne hne e2, Rs.lst ea e3⟩⟩
theorem valK_drop (kvs : List (Key × V)) (k j : Key) : valV (dropK kvs k) j = if j = k then none else valV kvs j := by
  unfold valV dropK
  induction kvs with
  | nil => simp
  | cons kv r ih =>
    rw [List.filter_cons]
    by_cases h : kv.1 = k
    · rw [if_neg (by simp [h]), ih]
      by_cases hj : j = k
      · rw [if_pos hj, if_pos hj]
      · rw [if_neg hj, if_neg hj, List.find?_cons]
        have : ¬ kv.1 = j := fun z => hj (z.symm.trans h)
        rw [decide_eq_false this]
    · rw [if_pos (by simp [h]), List.find?_cons, List.find?_cons]
      by_cases hj : kv.1 = j
      · have : ¬ j = k := fun z => h (hj.trans z)
        rw [decide_eq_true hj, if_neg this]
      · rw [decide_eq_false hj]
        exact ih
theorem WD.drop {H : Hp} {kw : List (Key × V)} {W : WQ} (h : WD H kw W) (k : Int) : WD H (dropK kw (Sum.inl k)) (W.filter fun p => decide (p.1 ≠ k)) := by
  refine ⟨?_, h.nd.sublist (List.filter_sublist.map _), fun i j a h1 h2 => ?_, fun p hp => ?_⟩
  · have hk := h.key
    unfold dropK
    clear h
    induction kw generalizing W with
    | nil =>
      cases W with
      | nil => rfl
      | cons _ _ => simp at hk
    | cons kv kw ih =>
      cases W with
      | nil => simp at hk
      | cons p W =>
        simp only [List.map_cons, List.cons.injEq] at hk
        rw [List.filter_cons, List.filter_cons]
        by_cases e : p.1 = k
        · rw [if_neg (by simp [hk.1, e]), if_neg (by simp [e])]
          exact ih hk.2
        · rw [if_pos (by simp [hk.1, e]), if_pos (by simp [e]), List.map_cons, List.map_cons, ih hk.2, hk.1]
  · rw [valK_drop] at h1 h2
    split at h1
    · cases h1
    · split at h2
      · cases h2
      · exact h.inj _ _ _ h1 h2
  · obtain ⟨hp, hne⟩ := List.mem_filter.mp hp
    obtain ⟨a, zs, e1, e2, e3⟩ := h.at' p hp
    refine ⟨a, zs, ?_, e2, e3⟩
    rw [valK_drop, if_neg (fun z => (of_decide_eq_true hne) (Sum.inl.inj z))]
    exact e1
theorem WD.new {H : Hp} {kw : List (Key × V)} {W : WQ} (h : WD H kw W) {k : Int} (hk : k ∉ W.map (·.1)) {a : Addr} {zs : List V} {l : List C3} (hn : ∀ j, valV kw j ≠ some (.ref a)) (ea : H a = some (.lst zs)) (hc : Cs H zs l) : WD H (putK kw (Sum.inl k) (.ref a)) (W ++ [(k, l)]) := by
  have hno := h.none.mpr hk
  refine ⟨?_, ?_, fun i j b h1 h2 => ?_, fun p hp => ?_⟩
  · rw [putK_new _ hno, List.map_append, List.map_append, h.key]
    rfl
  · rw [List.map_append, List.nodup_append]
    exact ⟨h.nd, by simp, fun x hx y hy e => hk (by simp only [List.map_cons, List.map_nil, List.mem_singleton] at hy; rw [← hy, ← e]; exact hx)⟩
  · rw [valV_put] at h1 h2
    split at h1
    · rename_i e1
      cases h1
      split at h2
      · rename_i e2
        rw [e1, e2]
      · exact absurd h2 (hn _)
    · split at h2
      · cases h2
        exact absurd h1 (hn _)
      · exact h.inj _ _ _ h1 h2
  · rcases List.mem_append.mp hp with z | z
    · obtain ⟨b, ys, e1, e2, e3⟩ := h.at' p z
      refine ⟨b, ys, ?_, e2, e3⟩
      rw [valV_put, if_neg (fun z' => hk (by rw [← Sum.inl.inj z']; exact List.mem_map.mpr ⟨p, z, rfl⟩))]
      exact e1
    · rw [List.mem_singleton] at z
      subst z
      exact ⟨a, zs, by rw [valV_put, if_pos rfl], ea, hc⟩
def InW (kw : List (Key × V)) (b : Addr) : Prop := ∃ k, valV kw k = some (.ref b)
def spTake (K : PySem.W.Frag) : Sp := fun vs H Q _ => ∃ (w : Addr) (kw : List (Key × V)) (W : WQ), vs = [.ref w] ∧ H w = some (.dK kw) ∧ WD H kw W ∧ W ≠ [] ∧ (∀ p ∈ W, p.2 ≠ []) ∧
  ∀ g kw' H', H' w = some (.dK kw') → WD H' kw' (popW W) → H' g = some (.tup (popC W).v) → (∀ b, InW kw' b → InW kw b) → (∀ b o, b ≠ w → ¬ InW kw b → H b = some o → H' b = some o) → Q (.ref g) H'
end Pc
set_option Elab.async false
set_option linter.all false
set_option maxRecDepth 100000
set_option maxHeartbeats 4000000
namespace L2
open PySem
theorem rd_disp1 {σ : St} {H : Hp} {Q : VK} {tk tv : TE} (h : ∀ p, H p = none → tk σ (upd H p (.dT [])) fun x H1 => tv σ H1 fun y H2 => H2 p = some (.dT []) ∧ ∃ (a : Addr) (k : List Key), x = .ref a ∧ H2 a = some (.tup (k.map kV)) ∧ Q (.ref p) (upd H2 p (.dT [(k, y)]))) : tDisp1 tk tv σ H Q := h
theorem rd_dget1 {σ : St} {H : Hp} {Q : VK} {td ty : TE} (h : td σ H fun x H1 => ∃ a, x = .ref a ∧ IsD H1 a ∧ ty σ H1 fun y H2 => ∃ o, DGet H2 a y o ∧ Q (o.getD .non) H2) : tDGet1 td ty σ H Q := h
end L2
namespace Pc
open PySem L2 Srt
theorem pop_pre {W : WQ} (hn : (W.map (·.1)).Nodup) (hne : ∀ p ∈ W, p.2 ≠ []) (hW : W ≠ []) : atW W (lowW W) = (atW W (lowW W)).dropLast ++ [popC W] := by
  have hin := atW_in hn (lowW_mem hW).1
  have h : atW W (lowW W) ≠ [] := hne _ hin
  unfold popC
  rw [List.getLastD_eq_getLast?, List.getLast?_eq_some_getLast h]
  exact (List.dropLast_concat_getLast h).symm
theorem wlen_wc {W : WQ} (h : ∀ p ∈ W, p.2 ≠ []) : W.length ≤ wc W := by
  unfold wc
  induction W with
  | nil => exact Nat.le_refl _
  | cons p W ih =>
    have h1 := List.length_pos_iff.mpr (h p List.mem_cons_self)
    have h2 := ih fun q hq => h q (List.mem_cons_of_mem _ hq)
    rw [List.map_cons, List.sum_cons, List.length_cons]
    omega
theorem atW_wc {W : WQ} {k : Int} (hn : (W.map (·.1)).Nodup) (hk : k ∈ W.map (·.1)) : (atW W k).length ≤ wc W := by
  have := wc_drop hn hk
  omega
theorem WD.lst {H : Hp} {kw : List (Key × V)} {W : WQ} (h : WD H kw W) {b : Addr} (hb : InW kw b) : ∃ zs, H b = some (.lst zs) := by
  obtain ⟨j, z⟩ := hb
  have hjn : (valV kw j).isSome = true := by rw [z]; rfl
  rw [← valV_any] at hjn
  obtain ⟨kv, h1, h2⟩ := List.any_eq_true.mp hjn
  have h3 : kv.1 ∈ kw.map (·.1) := List.mem_map.mpr ⟨kv, h1, rfl⟩
  rw [h.key, of_decide_eq_true h2] at h3
  obtain ⟨p, hp, rfl⟩ := List.mem_map.mp h3
  obtain ⟨a', zs', f1, f2, _⟩ := h.at' p hp
  rw [f1] at z
  cases z
  exact ⟨zs', f2⟩
def LVL (kvs : List (List Key × V)) (L : PL) : Prop := KD kvs (L.map (·.1)) ∧ ∀ p ∈ L, valV kvs (keyC p.1) = some (.int p.2.1)
theorem LVL.put {kvs : List (List Key × V)} {L : PL} (h : LVL kvs L) {c : C3} {n : Int} {o : Option C3} (hc : c ∉ L.map (·.1)) : LVL (putK kvs (keyC c) (.int n)) (L ++ [(c, n, o)]) := by
  refine ⟨by rw [List.map_append]; exact kd_put h.1 hc, fun p hp => ?_⟩
  rw [valV_put]
  rcases List.mem_append.mp hp with z | z
  · rw [if_neg fun e => hc (by rw [← keyC_inj e]; exact List.mem_map.mpr ⟨p, z, rfl⟩)]
    exact h.2 p z
  · rw [List.mem_singleton] at z
    rw [z, if_pos rfl]
theorem lvl_mem {L : PL} (hn : (L.map (·.1)).Nodup) {p : C3 × Int × Option C3} (h : p ∈ L) : lvl L p.1 = p.2.1 := by
  unfold lvl
  induction L with
  | nil => cases h
  | cons q L ih =>
    rw [List.map_cons, List.nodup_cons] at hn
    rw [List.find?_cons]
    rcases List.mem_cons.mp h with e | e
    · rw [← e, decide_eq_true rfl]; rfl
    · have : q.1 ≠ p.1 := fun z => hn.1 (by rw [z]; exact List.mem_map.mpr ⟨p, e, rfl⟩)
      rw [decide_eq_false this]
      exact ih hn.2 e
def lds (L : PL) : List (C3 × Option C3) := L.map fun p => (p.1, p.2.2)
theorem lds_fst (L : PL) : (lds L).map (·.1) = L.map (·.1) := by unfold lds; rw [List.map_map]; rfl
theorem pf_one {L : PL} (hn : (L.map (·.1)).Nodup) {p q : C3 × Int × Option C3} (hp : p ∈ L) (hq : q ∈ L) (e : p.1 = q.1) : p = q := by
  induction L with
  | nil => cases hp
  | cons r L ih =>
    rw [List.map_cons, List.nodup_cons] at hn
    rcases List.mem_cons.mp hp with e1 | e1 <;> rcases List.mem_cons.mp hq with e2 | e2
    · rw [e1, e2]
    · exact absurd (List.mem_map.mpr ⟨q, e2, by rw [← e, e1]⟩) hn.1
    · exact absurd (List.mem_map.mpr ⟨p, e1, by rw [e, e2]⟩) hn.1
    · exact ih hn.2 e1 e2
theorem pf_max {cs : List C3} {g : C3} {n : Nat} {st : PS} (h : PInv cs g n st) {c : C3} {pa : List C3} (hf : Fol (lds st.1) c pa) : ∀ p ∈ st.1, p.1 = c → (∀ x ∈ pa, x.z ≤ p.2.1) ∧ ∃ x ∈ pa, x.z = p.2.1 := by
  induction hf with
  | last hc =>
    rename_i c
    intro p hp e
    obtain ⟨q, hq, eq⟩ := List.mem_map.mp hc
    have e1 : q.1 = c := congrArg Prod.fst eq
    have e2 : q.2.2 = none := congrArg Prod.snd eq
    have : p = q := pf_one h.nd hp hq (e.trans e1.symm)
    subst this
    obtain ⟨i, hi⟩ := List.getElem?_of_mem hp
    rcases h.chn i p hi with z | ⟨j, q', _, _, h3, _⟩
    · have ez : c.z = p.2.1 := by rw [← e1, z]
      exact ⟨fun x hx => by rw [List.mem_singleton.mp hx]; omega, c, List.mem_singleton.mpr rfl, ez⟩
    · rw [e2] at h3
      cases h3
  | step hc _ ih =>
    rename_i c d pa _
    intro p hp e
    obtain ⟨q, hq, eq⟩ := List.mem_map.mp hc
    have e1 : q.1 = c := congrArg Prod.fst eq
    have e2 : q.2.2 = some d := congrArg Prod.snd eq
    have : p = q := pf_one h.nd hp hq (e.trans e1.symm)
    subst this
    obtain ⟨i, hi⟩ := List.getElem?_of_mem hp
    rcases h.chn i p hi with z | ⟨j, q', _, h2, h3, _, h5⟩
    · rw [z] at e2
      cases e2
    · rw [e2] at h3
      have e3 : q'.1 = d := (Option.some.inj h3).symm
      obtain ⟨i1, x, hx, i2⟩ := ih q' (List.mem_of_getElem? h2) e3
      rw [e1] at h5
      refine ⟨fun y hy => ?_, ?_⟩
      · rcases List.mem_cons.mp hy with z | z
        · rw [z, h5]; omega
        · have := i1 y z
          rw [h5]; omega
      · by_cases hle : c.z ≤ q'.2.1
        · exact ⟨x, List.mem_cons_of_mem _ hx, by rw [h5, i2]; omega⟩
        · exact ⟨c, List.mem_cons_self, by rw [h5]; omega⟩
theorem pf_ld {cs : List C3} {g : C3} {n : Nat} {st : PS} (h : PInv cs g n st) {H : Hp} {k2 : List (List Key × V)} (hk : KL H k2 (lds st.1)) : LD H k2 (st.1.map (·.1)) (fun _ => 0) [g] := fun i c hc => by
  rw [List.getElem?_map] at hc
  obtain ⟨p, hp, rfl⟩ := Option.map_eq_some_iff.mp hc
  have hm : (p.1, p.2.2) ∈ lds st.1 := List.mem_map.mpr ⟨p, List.mem_of_getElem? hp, rfl⟩
  have hkl := hk _ _ hm
  rcases h.chn i p hp with z | ⟨j, q, h1, h2, h3, h4, _⟩
  · rw [z] at hkl ⊢
    exact .inl ⟨hkl, List.mem_singleton.mpr rfl⟩
  · rw [h3] at hkl
    obtain ⟨b, e1, e2⟩ := hkl
    exact .inr ⟨j, q.1, b, h1, by rw [List.getElem?_map, h2]; rfl, e1, e2, h4, Int.le_refl _⟩
theorem rs_rev {α : Type} {R : Hp → V → α → Prop} {H : Hp} : ∀ {zs : List V} {xs : List α}, Rs R H zs xs → Rs R H zs.reverse xs.reverse
  | _, _, .nil => .nil
  | _, _, .cons h t => by
    rw [List.reverse_cons, List.reverse_cons]
    exact Paired.snoc (rs_rev t) h
def spPoured (K : PySem.W.Frag) : Sp := fun vs H Q _ => ∃ (a g : Addr) (ys : List V) (cs : List C3) (gc : C3), vs = [.ref a, .ref g] ∧ SqL K H a ys ∧ Cs H ys cs ∧ cs.length ≤ 1000 ∧ H g = some (.tup gc.v) ∧ gc ∈ cs ∧
  ∀ t lv ld k1 k2 n H', Same H H' → H' t = some (.tup [.ref lv, .ref ld]) → H' lv = some (.dT k1) → H' ld = some (.dT k2) → LVL k1 (PF cs gc) → KD k2 ((PF cs gc).map (·.1)) → KL H' k2 (lds (PF cs gc)) → PInv cs gc n (PF cs gc, []) → Q (.ref t) H'
def spLevel (K : PySem.W.Frag) : Sp := fun vs H Q _ => ∃ (a g s : Addr) (ys : List V) (cs : List C3) (gc c : C3), vs = [.ref a, .ref g, .ref s] ∧ SqL K H a ys ∧ Cs H ys cs ∧ cs.length ≤ 1000 ∧ H g = some (.tup gc.v) ∧ gc ∈ cs ∧ H s = some (.tup c.v) ∧
  (∀ p n H', p ∈ PF cs gc → p.1 = c → PInv cs gc n (PF cs gc, []) → Same H H' → Q (.int p.2.1) H') ∧ (∀ n H', c ∉ (PF cs gc).map (·.1) → PInv cs gc n (PF cs gc, []) → Same H H' → Q .non H')
def spWayTo (K : PySem.W.Frag) : Sp := fun vs H Q _ => ∃ (a g s : Addr) (ys : List V) (cs : List C3) (gc c : C3), vs = [.ref a, .ref g, .ref s] ∧ SqL K H a ys ∧ Cs H ys cs ∧ cs.length ≤ 1000 ∧ H g = some (.tup gc.v) ∧ gc ∈ cs ∧ H s = some (.tup c.v) ∧
  (∀ n H', c ∉ (PF cs gc).map (·.1) → PInv cs gc n (PF cs gc, []) → Same H H' → Q .non H') ∧ (∀ q zs pa n H', c ∈ (PF cs gc).map (·.1) → PInv cs gc n (PF cs gc, []) → Same H H' → H q = none → H' q = some (.lst zs) → Cs H' zs pa.reverse → Way (fun _ => 0) [gc] cs c pa → Fol (lds (PF cs gc)) c pa → Q (.ref q) H')
end Pc
set_option Elab.async false
set_option linter.all false
set_option maxRecDepth 100000
set_option maxHeartbeats 4000000
namespace Pc
open PySem L2 Srt
def wtg (W : WQ) (c : C3) : Prop := ∃ p ∈ W, c ∈ p.2
theorem wtg_put {W : WQ} (hn : (W.map (·.1)).Nodup) {k : Int} {c x : C3} (h : wtg W x ∨ x = c) : wtg (putW W k c) x := by
  unfold putW
  split
  · rename_i hk
    have hin := atW_in hn hk
    have hm : (k, atW W k ++ [c]) ∈ setW W k (atW W k ++ [c]) := List.mem_map.mpr ⟨_, hin, by rw [if_pos rfl]⟩
    rcases h with ⟨p, hp, hx⟩ | rfl
    · by_cases e : p.1 = k
      · have : atW W k = p.2 := by rw [← e]; exact atW_mem hn (by exact hp)
        exact ⟨_, hm, by rw [this]; exact List.mem_append_left _ hx⟩
      · exact ⟨p, List.mem_map.mpr ⟨p, hp, by rw [if_neg e]⟩, hx⟩
    · exact ⟨_, hm, List.mem_append_right _ (List.mem_singleton.mpr rfl)⟩
  · rcases h with ⟨p, hp, hx⟩ | rfl
    · exact ⟨p, List.mem_append_left _ hp, hx⟩
    · exact ⟨_, List.mem_append_right _ (List.mem_singleton.mpr rfl), List.mem_singleton.mpr rfl⟩
theorem wtg_pop {W : WQ} (hn : (W.map (·.1)).Nodup) (hne : ∀ p ∈ W, p.2 ≠ []) (hW : W ≠ []) {x : C3} (h : wtg W x) (hx : x ≠ popC W) : wtg (popW W) x := by
  obtain ⟨p, hp, hxp⟩ := h
  have hpre := pop_pre hn hne hW
  unfold popW
  by_cases e : p.1 = lowW W
  · have hat : atW W (lowW W) = p.2 := by rw [← e]; exact atW_mem hn (by exact hp)
    rw [← hat, hpre] at hxp
    have hxd : x ∈ (atW W (lowW W)).dropLast := by
      rcases List.mem_append.mp hxp with z | z
      · exact z
      · exact absurd (List.mem_singleton.mp z) hx
    split
    · rename_i e0
      rw [e0] at hxd
      cases hxd
    · exact ⟨_, List.mem_map.mpr ⟨p, hp, by rw [if_pos e]⟩, hxd⟩
  · split
    · exact ⟨p, List.mem_filter.mpr ⟨hp, by simpa using e⟩, hxp⟩
    · exact ⟨p, List.mem_map.mpr ⟨p, hp, by rw [if_neg e]⟩, hxp⟩
structure Dij (cs : List C3) (g : C3) (M : Int) (st : PS) (ex : C3 → Prop) : Prop where
  key : ∀ p ∈ st.2, ∀ c ∈ p.2, ∃ q ∈ st.1, q.1 = c ∧ q.2.1 = p.1
  low : ∀ p ∈ st.2, M ≤ p.1
  par : ∀ q ∈ st.1, (q.1 = g ∧ q.2.1 = g.z) ∨ ∃ m, m ≤ M ∧ q.2.1 = max m q.1.z
  clo : ∀ q ∈ st.1, ¬ wtg st.2 q.1 → ¬ ex q.1 → ∀ d ∈ nb q.1, d ∈ cs → ∃ r ∈ st.1, r.1 = d ∧ r.2.1 ≤ max q.2.1 d.z
theorem Dij.init (cs : List C3) (g : C3) : Dij cs g g.z (prI g) fun _ => False := by
  refine ⟨fun p hp c hc => ?_, fun p hp => ?_, fun q hq => ?_, fun q hq hw => ?_⟩
  · simp only [prI, List.mem_singleton] at hp
    rw [hp] at hc
    rw [hp, List.mem_singleton.mp hc]
    exact ⟨_, List.mem_singleton.mpr rfl, rfl, rfl⟩
  · simp only [prI, List.mem_singleton] at hp
    rw [hp]
    exact Int.le_refl _
  · simp only [prI, List.mem_singleton] at hq
    rw [hq]
    exact .inl ⟨rfl, rfl⟩
  · simp only [prI, List.mem_singleton] at hq
    rw [hq] at hw
    exact absurd ⟨_, List.mem_singleton.mpr rfl, List.mem_singleton.mpr rfl⟩ hw
theorem Dij.pop {cs : List C3} {g : C3} {M : Int} {n : Nat} {L : PL} {W : WQ} (h : Dij cs g M (L, W) fun _ => False) (pin : PInv cs g n (L, W)) (hW : W ≠ []) : Dij cs g (lowW W) (L, popW W) (· = popC W) ∧ ∃ q ∈ L, q.1 = popC W ∧ q.2.1 = lowW W := by
  obtain ⟨hlow, hmin⟩ := lowW_mem hW
  have hwn : (W.map (·.1)).Nodup := pin.wnd
  have hin : (lowW W, atW W (lowW W)) ∈ W := atW_in hwn hlow
  have hpre := pop_pre hwn pin.wne hW
  have hcl : popC W ∈ atW W (lowW W) := by rw [hpre]; exact List.mem_append_right _ (List.mem_singleton.mpr rfl)
  have hM : M ≤ lowW W := h.low _ hin
  have sub : ∀ p ∈ popW W, (∃ p' ∈ W, p'.1 = p.1 ∧ ∀ c ∈ p.2, c ∈ p'.2) := fun p hp => by
    unfold popW at hp
    split at hp
    · exact ⟨p, (List.mem_filter.mp hp).1, rfl, fun _ h => h⟩
    · rcases mem_setW hp with ⟨h1, h2, _⟩ | ⟨_, h2⟩
      · exact ⟨_, hin, h1.symm, fun c hc => by rw [h2] at hc; exact List.dropLast_subset _ hc⟩
      · exact ⟨p, h2, rfl, fun _ h => h⟩
  refine ⟨⟨fun p hp c hc => ?_, fun p hp => ?_, fun q hq => ?_, fun q hq hw hx => ?_⟩, h.key _ hin _ hcl⟩
  · obtain ⟨p', hp', e, hs⟩ := sub p hp
    rw [← e]
    exact h.key p' hp' c (hs c hc)
  · obtain ⟨p', hp', e, _⟩ := sub p hp
    rw [← e]
    exact hmin _ (List.mem_map.mpr ⟨p', hp', rfl⟩)
  · rcases h.par q hq with z | ⟨m, h1, h2⟩
    · exact .inl z
    · exact .inr ⟨m, by omega, h2⟩
  · exact h.clo q hq (fun z => hw (wtg_pop hwn pin.wne hW z hx)) id
theorem dij_fold {cs : List C3} {g : C3} {n : Nat} {q : C3 × Int × Option C3} : ∀ (ns : List C3) (st : PS), (∀ d ∈ ns, d ∈ nb q.1) → PInv cs g n st → Dij cs g q.2.1 st (· = q.1) → q ∈ st.1 →
    PInv cs g n (ns.foldl (prC cs q.1 q.2.1) st) ∧ Dij cs g q.2.1 (ns.foldl (prC cs q.1 q.2.1) st) (· = q.1) ∧ (∀ r ∈ st.1, r ∈ (ns.foldl (prC cs q.1 q.2.1) st).1) ∧ ∀ d ∈ ns, d ∈ cs → ∃ r ∈ (ns.foldl (prC cs q.1 q.2.1) st).1, r.1 = d ∧ r.2.1 ≤ max q.2.1 d.z
  | [], st, _, hp, hd, hq => ⟨hp, hd, fun _ h => h, fun _ h => nomatch h⟩
  | c :: ns, (L, W), hns, hp, hd, hq => by
    rw [List.foldl_cons]
    have hnc := hns c List.mem_cons_self
    have hwn : (W.map (·.1)).Nodup := hp.wnd
    have one : ∃ st', prC cs q.1 q.2.1 (L, W) c = st' ∧ PInv cs g n st' ∧ Dij cs g q.2.1 st' (· = q.1) ∧ (∀ r ∈ L, r ∈ st'.1) ∧ (c ∈ cs → ∃ r ∈ st'.1, r.1 = c ∧ r.2.1 ≤ max q.2.1 c.z) := by
      by_cases hc : c ∈ cs ∧ c ∉ L.map (·.1)
      · refine ⟨_, by unfold prC; rw [if_pos hc], hp.put hq hc.1 hc.2 hnc, ⟨fun p hpm x hx => ?_, fun p hpm => ?_, fun r hr => ?_, fun r hr hw hx d hdn hdc => ?_⟩, fun r hr => List.mem_append_left _ hr, fun _ => ⟨_, List.mem_append_right _ (List.mem_singleton.mpr rfl), rfl, Int.le_refl _⟩⟩
        · have hpm : p ∈ putW W (max q.2.1 c.z) c := hpm
          have old : ∀ p' ∈ W, ∀ x ∈ p'.2, ∃ r ∈ L ++ [(c, max q.2.1 c.z, some q.1)], r.1 = x ∧ r.2.1 = p'.1 := fun p' hp' x hx => by
            obtain ⟨r, h1, h2⟩ := hd.key p' hp' x hx
            exact ⟨r, List.mem_append_left _ h1, h2⟩
          unfold putW at hpm
          split at hpm
          · rename_i hk
            rcases mem_setW hpm with ⟨h1, h2, _⟩ | ⟨_, h2⟩
            · rw [h2] at hx
              rcases List.mem_append.mp hx with z | z
              · rw [h1]
                exact old _ (atW_in hwn hk) x z
              · rw [List.mem_singleton.mp z, h1]
                exact ⟨_, List.mem_append_right _ (List.mem_singleton.mpr rfl), rfl, rfl⟩
            · exact old p h2 x hx
          · rcases List.mem_append.mp hpm with z | z
            · exact old p z x hx
            · rw [List.mem_singleton] at z
              rw [z] at hx
              rw [z, List.mem_singleton.mp hx]
              exact ⟨_, List.mem_append_right _ (List.mem_singleton.mpr rfl), rfl, rfl⟩
        · have hpm : p ∈ putW W (max q.2.1 c.z) c := hpm
          unfold putW at hpm
          split at hpm
          · rcases mem_setW hpm with ⟨h1, _, _⟩ | ⟨_, h2⟩
            · rw [h1]; omega
            · exact hd.low p h2
          · rcases List.mem_append.mp hpm with z | z
            · exact hd.low p z
            · rw [List.mem_singleton] at z
              rw [z]
              show q.2.1 ≤ max q.2.1 c.z
              omega
        · rcases List.mem_append.mp hr with z | z
          · exact hd.par r z
          · rw [List.mem_singleton] at z
            rw [z]
            exact .inr ⟨q.2.1, Int.le_refl _, rfl⟩
        · have hw : ¬ wtg (putW W (max q.2.1 c.z) c) r.1 := hw
          rcases List.mem_append.mp hr with z | z
          · obtain ⟨r', h1, h2⟩ := hd.clo r z (fun y => hw (wtg_put hwn (.inl y))) hx d hdn hdc
            exact ⟨r', List.mem_append_left _ h1, h2⟩
          · rw [List.mem_singleton] at z
            rw [z] at hw
            exact absurd (wtg_put hwn (.inr rfl)) hw
      · refine ⟨(L, W), by unfold prC; rw [if_neg hc], hp, hd, fun _ h => h, fun hcs => ?_⟩
        have hcm : c ∈ L.map (·.1) := by
          by_cases z : c ∈ L.map (·.1)
          · exact z
          · exact absurd ⟨hcs, z⟩ hc
        obtain ⟨r, hr, rfl⟩ := List.mem_map.mp hcm
        refine ⟨r, hr, rfl, ?_⟩
        rcases hd.par r hr with ⟨z1, z2⟩ | ⟨m, h1, h2⟩
        · rw [z1, z2]; omega
        · rw [h2]; omega
    obtain ⟨st', e, p1, p2, p3, p4⟩ := one
    rw [e]
    obtain ⟨r1, r2, r3, r4⟩ := dij_fold ns st' (fun d hd' => hns d (List.mem_cons_of_mem _ hd')) p1 p2 (p3 q hq)
    refine ⟨r1, r2, fun r hr => r3 r (p3 r hr), fun d hdm hdc => ?_⟩
    rcases List.mem_cons.mp hdm with z | z
    · subst z
      obtain ⟨r, h1, h2⟩ := p4 hdc
      exact ⟨r, r3 r h1, h2⟩
    · exact r4 d z hdc
theorem dij_all {cs : List C3} {g : C3} (hg : g ∈ cs) : ∀ n, ∃ m M, PInv cs g m (prN cs n (prI g)) ∧ (Dij cs g M (prN cs n (prI g)) fun _ => False) ∧ ((prN cs n (prI g)).2 = [] ∨ m = n)
  | 0 => ⟨0, g.z, PInv.init hg, Dij.init cs g, .inr rfl⟩
  | n + 1 => by
    obtain ⟨m, M, h1, h2, h3⟩ := dij_all hg n
    show ∃ m M, PInv cs g m (pr1 cs (prN cs n (prI g))) ∧ (Dij cs g M (pr1 cs (prN cs n (prI g))) fun _ => False) ∧ ((pr1 cs (prN cs n (prI g))).2 = [] ∨ m = n + 1)
    generalize prN cs n (prI g) = st at *
    obtain ⟨L, W⟩ := st
    unfold pr1
    by_cases hW : W = []
    · rw [if_pos (show ((L, W) : PS).2 = [] from hW)]
      exact ⟨m, M, h1, h2, .inl hW⟩
    · rw [if_neg (show ¬ ((L, W) : PS).2 = [] from hW)]
      have hm : m = n := h3.resolve_left hW
      subst hm
      obtain ⟨d1, q, hq, e1, e2⟩ := h2.pop h1 hW
      obtain ⟨p1, _, _⟩ := h1.pop hW
      have hl : lvl L (popC W) = lowW W := by rw [← e1, ← e2]; exact lvl_mem h1.nd hq
      show ∃ m_1 M_1, PInv cs g m_1 ((nb (popC W)).foldl (prC cs (popC W) (lvl L (popC W))) (L, popW W)) ∧ (Dij cs g M_1 ((nb (popC W)).foldl (prC cs (popC W) (lvl L (popC W))) (L, popW W)) fun _ => False) ∧ (((nb (popC W)).foldl (prC cs (popC W) (lvl L (popC W))) (L, popW W)).2 = [] ∨ m_1 = m + 1)
      rw [hl]
      rw [← e1, ← e2] at d1 ⊢
      obtain ⟨r1, r2, r3, r4⟩ := dij_fold (nb q.1) (L, popW W) (fun _ h => h) p1 d1 hq
      refine ⟨m + 1, q.2.1, r1, ⟨r2.key, r2.low, r2.par, fun r hr hw _ d hdn hdc => ?_⟩, .inr rfl⟩
      by_cases hx : r.1 = q.1
      · have : r = q := pf_one r1.nd hr (r3 q hq) hx
        subst this
        exact r4 d hdn hdc
      · exact r2.clo r hr hw hx d hdn hdc
theorem pf_end {cs : List C3} {g : C3} (hg : g ∈ cs) : (∃ m, PInv cs g m (PF cs g, [])) ∧ ∀ q ∈ PF cs g, ∀ d ∈ nb q.1, d ∈ cs → ∃ r ∈ PF cs g, r.1 = d ∧ r.2.1 ≤ max q.2.1 d.z := by
  obtain ⟨m, M, h1, h2, h3⟩ := dij_all hg (cs.length + 1)
  have hW : (prN cs (cs.length + 1) (prI g)).2 = [] := by
    rcases h3 with z | z
    · exact z
    · have a1 := h1.cnt
      have a2 := h1.len
      omega
  have e : prN cs (cs.length + 1) (prI g) = (PF cs g, []) := by
    rw [← hW]
    rfl
  rw [e] at h1 h2
  exact ⟨⟨m, h1⟩, fun q hq d hd hdc => h2.clo q hq (fun ⟨p, hp, _⟩ => nomatch hp) id d hd hdc⟩
theorem pf_rung {cs : List C3} {g : C3} {m : Nat} {L : PL} {W : WQ} (h : PInv cs g m (L, W)) (hg : g ∈ cs) : ∀ (i : Nat) (q : C3 × Int × Option C3), L[i]? = some q → q.1.z ≤ q.2.1 ∧ g.z ≤ q.2.1 ∧ ∃ x ∈ cs, q.2.1 = max x.z g.z := by
  intro i
  induction i using Nat.strongRecOn with
  | ind i ih =>
    intro q hq
    rcases h.chn i q hq with z | ⟨j, q', hj, h2, _, _, h5⟩
    · rw [z]
      exact ⟨Int.le_refl _, Int.le_refl _, g, hg, by show g.z = _; omega⟩
    · obtain ⟨a1, a2, x, hx, a3⟩ := ih j hj q' h2
      have hqc := h.sub q (List.mem_of_getElem? hq)
      refine ⟨by rw [h5]; omega, by rw [h5]; omega, ?_⟩
      by_cases hle : q.1.z ≤ q'.2.1
      · exact ⟨x, hx, by rw [h5, ← a3]; omega⟩
      · exact ⟨q.1, hqc, by rw [h5]; omega⟩
end Pc
set_option Elab.async false
set_option linter.all false
set_option maxRecDepth 100000
set_option maxHeartbeats 4000000
namespace L2
open PySem PySem.W PySem.Spec PyProof.Rows Srt Pc
section
variable {X : Cx}
end
end L2
set_option Elab.async false
set_option linter.all false
set_option maxRecDepth 100000
set_option maxHeartbeats 4000000
namespace L2
open PySem
end L2
namespace Pc
open PySem L2 Srt
structure NumD (lk : List (List Key × V)) (es : List C3) (f : C3 → Int) : Prop where
  kd : KD lk es
  nd : es.Nodup
  val : ∀ c ∈ es, valV lk (keyC c) = some (.int (f c))
end Pc
set_option Elab.async false
set_option linter.all false
set_option maxRecDepth 100000
set_option maxHeartbeats 4000000
namespace Tim
open PySem PyProof.Rows
section
variable {κ : Type} {lt : κ → κ → Bool} {prog : Program} {w : World} {A : Around} {E : Value → Shared → Prop} {s : Shared}
def heldHeap (h : Heap) (a : Addr) (vs : List Value) : Heap := ((h.update a (Obj.mapSeq fun _ => #[])).push (seqObj "tuple" vs.toArray 0)).push (seqObj "list" #[] 0)
def doneHeap (h : Heap) (a kS : Addr) (out : Array Value) : Heap := (h.update kS (Obj.mapSeq fun _ => #[])).update a (Obj.mapSeq fun _ => out)
theorem keyed_sort {a : Addr} {f : Value} {vs : List Value} {n : Nat} {P : PySem.Fin → Shared → Prop} (ho : s.heap.get? a = some (seqObj "list" vs.toArray n)) (hz : vs.length ≤ sizeLine)
    (U : Nat → List Value → Shared → Prop)
    (h0 : ∀ e1, (heldHeap s.heap a vs).get? a = some (seqObj "list" #[] e1) → (heldHeap s.heap a vs).get? (s.heap.objs.size + 1) = some (seqObj "list" #[] 0) → U e1 [] { s with heap := heldHeap s.heap a vs })
    (turn : ∀ e1 e v ks s', vs[ks.length]? = some v → U e1 ks s' → s'.heap.get? a = some (seqObj "list" #[] e1) → s'.heap.get? (s.heap.objs.size + 1) = some (seqObj "list" ks.toArray e) →
      wpAny (model prog w) A (call f [v]) (fun k s'' => s''.heap.get? a = some (seqObj "list" #[] e1) ∧ s''.heap.get? (s.heap.objs.size + 1) = some (seqObj "list" ks.toArray e) ∧
        U e1 (ks ++ [k]) { s'' with heap := s''.heap.update (s.heap.objs.size + 1) (Obj.mapSeq (·.push k)) }) (fun _ _ => False) s')
    (fin : ∀ e1 e ks s', ks.length = vs.length → U e1 ks s' → s'.heap.get? a = some (seqObj "list" #[] e1) → s'.heap.get? (s.heap.objs.size + 1) = some (seqObj "list" ks.toArray e) →
      ∃ (k : Keyed → κ) (S : Keyed → Prop) (kind : SortKind), (2 ≤ vs.length → (∀ {Q : SortKind → Shared → Prop} {E' : Value → Shared → Prop}, Q kind s' → wpAny (model prog w) A (keyKind' ks.toArray) Q E' s') ∧ Cmp lt k S kind prog w A s' ∧ ∀ x ∈ ks.zip vs, S x) ∧
        ∀ out : List Keyed, out.Perm (ks.zip vs) → out.Pairwise (Le lt k) → P (.done (.ret .none)) { s' with heap := doneHeap s'.heap a (s.heap.objs.size + 1) (out.map (·.2)).toArray }) :
    wpAny (model prog w) A (ksk_tree a f false) P E s := by
  have ha : a < s.heap.objs.size := Heap.lt_size ho
  have hka : s.heap.objs.size + 1 ≠ a := Nat.ne_of_gt (Nat.lt_succ_of_lt ha)
  obtain ⟨e1, ho1⟩ : ∃ e1, (s.heap.update a (Obj.mapSeq fun _ => #[])).get? a = some (seqObj "list" #[] e1) := ⟨_, get?_update_seq ho (fun _ => #[])⟩
  have hkS : ((s.heap.update a (Obj.mapSeq fun _ => (#[] : Array Value))).push (seqObj "tuple" vs.toArray 0)).objs.size = s.heap.objs.size + 1 := by rw [size_push', Heap.size_update]
  unfold ksk_tree
  refine wpAny_bind (listItems_at ho rfl ?_)
  refine wpAny_bind (listUpdate_at ho rfl ?_ (by rw [List.size_toArray]; exact hz) (Nat.zero_le _))
  refine wpAny_bind (seqEpoch_at ho1 rfl ?_)
  refine wpAny_bind (wpAny_newTuple ?_ (by show vs.length ≤ _; exact hz))
  refine wpAny_bind (wpAny_newList ?_ (Nat.zero_le _))
  refine wpAny_holding ?_
  show wpAny (model prog w) A (ksk_rest a f false vs.toArray e1 (.ref ((s.heap.update a (Obj.mapSeq fun _ => (#[] : Array Value))).push (seqObj "tuple" vs.toArray 0)).objs.size)) P E { s with heap := heldHeap s.heap a vs }
  rw [hkS]
  have g1 : (heldHeap s.heap a vs).get? a = some (seqObj "list" #[] e1) := by
    unfold heldHeap
    rw [Heap.get?_push_ne _ _ _ (by rw [size_push', Heap.size_update]; exact Nat.ne_of_lt (Nat.lt_succ_of_lt ha)), Heap.get?_push_ne _ _ _ (by rw [Heap.size_update]; exact Nat.ne_of_lt ha)]
    exact ho1
  have g2 : (heldHeap s.heap a vs).get? (s.heap.objs.size + 1) = some (seqObj "list" #[] 0) := by
    unfold heldHeap
    rw [← hkS]
    exact Heap.get?_push_size _ rfl
  unfold ksk_rest
  refine wpAny_bind (wpAny_rule ?_)
  rw [List.forIn_toArray]
  refine wpAny_bind (ksk_fold (fun i s' => ∃ ks e, ks.length = i ∧ U e1 ks s' ∧ s'.heap.get? a = some (seqObj "list" #[] e1) ∧ s'.heap.get? (s.heap.objs.size + 1) = some (seqObj "list" ks.toArray e)) vs 0 _ ⟨[], 0, rfl, h0 e1 g1 g2, g1, g2⟩ ?step ?done)
  case step =>
    rintro j x s' hx ⟨ks, e, hl, hU, q1, q2⟩
    simp only [Nat.zero_add] at hl ⊢
    subst hl
    have hj : ks.length < vs.length := (List.getElem?_eq_some_iff.mp hx).1
    refine wpAny_bind (wpAny_attempt (wpAny_mono (turn e1 e x ks s' hx hU q1 q2) (fun v s'' he => ?_) fun _ _ hF => hF.elim))
    obtain ⟨r1, r2, r3⟩ := he
    try dsimp only
    refine wpAny_bind (listUpdate_at r2 rfl ?_ (by rw [List.size_toArray]; omega) (Nat.le_trans (Nat.le_of_eq (Array.size_push ..)) (by rw [List.size_toArray]; omega)))
    obtain ⟨c2, hc2⟩ : ∃ c2, (s''.heap.update (s.heap.objs.size + 1) (Obj.mapSeq (·.push v))).get? (s.heap.objs.size + 1) = some (seqObj "list" (ks.toArray.push v) c2) := ⟨_, get?_update_seq r2 (·.push v)⟩
    refine wpAny_pure ⟨rfl, ks ++ [v], c2, by simp, r3, ?_, ?_⟩
    · exact (Heap.get?_update_ne _ _ _ _ hka.symm).trans r1
    · rw [hc2]
      simp
  case done =>
    rintro s' ⟨ks, e, hl, hU, q1, q2⟩
    simp only [Nat.zero_add] at hl
    try dsimp only
    refine wpAny_bind (listItems_at q2 rfl ?_)
    obtain ⟨k, S, kind, hC, hfin⟩ := fin e1 e ks s' hl hU q1 q2
    have hzl : (ks.toArray.zip vs.toArray).toList = ks.zip vs := by rw [Array.toList_zip]
    have hzs : (ks.toArray.zip vs.toArray).size = vs.length := by simp [hl]
    have tail : ∀ st : SortSt, failedOf st = none → (arrOf st).toList.Perm (ks.zip vs) → (arrOf st).toList.Pairwise (Le lt k) → wpAny (model prog w) A (ksk_tail a false e1 (.ref (s.heap.objs.size + 1)) st) P E s' := by
      intro st hf hp hs
      have hsz2 : (arrOf st).size = vs.length := by rw [← Array.length_toList, hp.length_eq]; simp [hl]
      unfold ksk_tail
      try dsimp only
      have na1 : (s'.heap.update (s.heap.objs.size + 1) (Obj.mapSeq fun _ => (#[] : Array Value))).get? a = some (seqObj "list" #[] e1) := (Heap.get?_update_ne _ _ _ _ hka.symm).trans q1
      refine wpAny_bind (listUpdate_at q2 rfl ?_ (by rw [List.size_toArray]; omega) (Nat.zero_le _))
      refine wpAny_bind (wpAny_letGo ?_)
      refine wpAny_bind (seqEpoch_at na1 rfl ?_)
      simp only [Bool.false_eq_true, if_false]
      have hout : ((arrOf st).map (·.2)) = ((arrOf st).toList.map (·.2)).toArray := by
        apply Array.toList_inj.mp
        simp
      rw [hout]
      refine wpAny_bind (listUpdate_at na1 rfl ?_ (Nat.zero_le _) (by rw [List.size_toArray, List.length_map, Array.length_toList, hsz2]; omega))
      rw [hf]
      simp only [bne_self_eq_false, Bool.false_eq_true, if_false]
      exact wpAny_pure (hfin _ hp hs)
    unfold ksk_end
    try dsimp only
    rw [if_neg (by decide)]
    simp only [Bool.false_eq_true, if_false]
    by_cases h2 : vs.toArray.size < 2
    · rw [if_pos h2, if_pos h2]
      refine wpAny_bind (wpAny_pure ?_)
      rw [StateT.run_pure]
      refine wpAny_bind (wpAny_pure ?_)
      try dsimp only
      rw [List.size_toArray] at h2
      refine tail _ rfl (by show (ks.toArray.zip vs.toArray).toList.Perm _; rw [hzl]) ?_
      show (ks.toArray.zip vs.toArray).toList.Pairwise _
      rw [hzl]
      have hlz : (ks.zip vs).length < 2 := by rw [List.length_zip]; omega
      match hq : ks.zip vs, hlz with
      | [], _ => exact .nil
      | [_], _ => exact .cons (fun _ z => nomatch z) .nil
    · rw [if_neg h2, if_neg h2]
      rw [List.size_toArray] at h2
      obtain ⟨hk, C, hS⟩ := hC (by omega)
      refine wpAny_bind (hk ?_)
      refine wpAny_bind (wpAny_mono (wpS_sortRuns (a₀ := ks.toArray.zip vs.toArray) (st := SortSt.mk' kind (ks.toArray.zip vs.toArray) #[] 7 none)
        (Q := fun _ st' => SInv S kind (ks.toArray.zip vs.toArray) st' ∧ (arrOf st').toList.Pairwise (Le lt k)) C (by rw [hzs]; omega) ⟨⟨rfl, rfl⟩, List.Perm.refl _, fun x hx => ?_⟩ rfl fun st' I p => ⟨I, p⟩) ?_ fun _ _ e => e)
      · have hx : x ∈ (ks.toArray.zip vs.toArray).toList := hx
        rw [hzl] at hx
        exact hS x hx
      rintro ⟨⟨⟩, st'⟩ s2 ⟨rfl, I, hp⟩
      try dsimp only
      have hperm := I.perm
      rw [hzl] at hperm
      exact tail st' I.fine.fl hperm hp
end
end Tim
set_option Elab.async false
set_option linter.all false
set_option maxRecDepth 100000
set_option maxHeartbeats 4000000
namespace L2
open PySem PySem.W PySem.Spec PyProof.Rows Srt Pc
section
variable {X : Cx} {pins : List (Addr × Obj)} {σ : St} {H : Hp} {s : Shared} {h' : Heap}
theorem Inv.adopt {t' : Nat} {it : Addr} {o : HO} (I : Inv X pins σ H s) (k : ∀ b o, b ≠ it → s.heap.get? b = some o → h'.get? b = some o) (f : FpOk X pins H it) (new : ObjOk X.prog X.w (upd H it o) h' it o) : Inv X pins σ (upd H it o) { s with heap := h', toks := t' } := by
  obtain ⟨hn, hL, hfs, h1, h2, h3⟩ := f
  have nit : ∀ b u, H b = some u → b ≠ it := fun b u e z => by rw [z, hn] at e; cases e
  have ne : ∀ b, b ∉ [it] → b ≠ it := fun b hb z => hb (by simp [z])
  refine I.step (g' := s.gens) (d' := s.drawn) (ch := [it]) (fun b hb => ?_) (fun b o _ _ hc e _ => k b o (ne b hc) e) (fun b o _ _ hc e _ => ⟨o.slots, k b o (ne b hc) e⟩) (fun b _ hc _ n => (upd_ne (ne b hc)).trans n)
    (fun b o hc e => ⟨o, k b o (ne b hc) e⟩) (fun b _ e => (upd_ne (nit b _ e)).trans e) (fun b _ _ e => (upd_ne (nit b _ e)).trans e) (fun b ps e => ⟨#[], by rw [upd_ne (nit b _ e), e]; simp⟩) (fun m hm => ?_) (fun b u e => ?_) I.bare
  · have e : b = it := by simpa using hb
    subst e
    exact ⟨h1, hL, h2, h3⟩
  · obtain ⟨o, es, ep, ho, r⟩ := hm
    exact ⟨o, es, ep, k _ o (Ne.symm hL) ho, r⟩
  · by_cases hb : b = it
    · subst hb
      rw [upd_same] at e
      cases e
      exact new
    · rw [upd_ne hb] at e
      refine (I.hok b u e).stay (fun c v hc q => k c v ?_ q) (fun c q => (upd_ne (nit c _ q)).trans q) fun c _ q => (upd_ne (nit c _ q)).trans q
      rcases hc with z | z
      · rw [z]; exact hb
      · exact nit c _ z
theorem Inv.table {t' : Nat} {P : Addr} {ps more : Array Value} (I : Inv X pins σ H s) (k : ∀ b o, b ≠ P → s.heap.get? b = some o → h'.get? b = some o) (hP : H P = some (.tbl ps)) (new : h'.get? P = some (tabObj (ps ++ more))) :
    Inv X pins σ (upd H P (.tbl (ps ++ more))) { s with heap := h', toks := t' } := by
  have ne : ∀ b, H b = none → b ≠ P := fun b e z => by rw [z, hP] at e; cases e
  refine I.step (g' := s.gens) (d' := s.drawn) (ch := []) (fun b hb => absurd hb (by simp)) (fun b o _ _ _ e n => k b o (ne b n) e) (fun b o _ _ _ e n => ⟨o.slots, k b o (ne b n) e⟩) (fun b _ _ _ n => (upd_ne (ne b n)).trans n)
    (fun b o _ e => ?_) (fun b _ e => (upd_ne (by rintro rfl; rw [hP] at e; cases e)).trans e) (fun b _ _ e => (upd_ne (by rintro rfl; rw [hP] at e; cases e)).trans e) (fun b qs e => ?_) (fun m hm => ?_) (fun b u e => ?_) I.bare
  · by_cases hb : b = P
    · exact ⟨_, hb ▸ new⟩
    · exact ⟨o, k b o hb e⟩
  · by_cases hb : b = P
    · subst hb
      rw [hP] at e
      cases e
      exact ⟨more, upd_same⟩
    · exact ⟨#[], by rw [upd_ne hb, e]; simp⟩
  · obtain ⟨o, es, ep, ho, r⟩ := hm
    exact ⟨o, es, ep, k _ o (ne _ I.free) ho, r⟩
  · by_cases hb : b = P
    · subst hb
      rw [upd_same] at e
      cases e
      exact new
    · rw [upd_ne hb] at e
      refine (I.hok b u e).stay (fun c v hc q => k c v ?_ q) (fun c q => (upd_ne (by rintro rfl; rw [hP] at q; cases q)).trans q) fun c _ q => (upd_ne (by rintro rfl; rw [hP] at q; cases q)).trans q
      rcases hc with z | z
      · rw [z]; exact hb
      · rintro rfl; rw [hP] at z; cases z
end
def cxLam (X : Cx) (A : Around) (N : List Str) (qual : Str) (scope : Scope) (f : Addr) (cd : Value) (cl : List (Str × Addr)) (s : Shared) (H : Hp) : Cx where
  prog := X.prog
  w := X.w
  K := X.K
  mg := X.mg
  base := X.base
  A := A.deeper (envX qual scope s.heap.objs.size f cd cl)
  N := N
  s₀ := s
  H₀ := H
  env := envX qual scope s.heap.objs.size f cd cl
  outer := X.stack
  stack := envX qual scope s.heap.objs.size f cd cl :: X.stack
  ex := []
  fn := fun _ => false
  calm := true
  pn := []
  xe := fun _ _ => False
structure LamSc (nm : Str) (scope : Scope) : Prop where
  kind : scope.kind = .function
  co : scope.isCoroutine = false
  gen : scope.isGenerator = false
  nocell : ∀ x ∈ scope.names, x.2 ≠ .cell
  par : scope.names.lookup nm = some .local
def lamSt (v : V) (caps : List Nat) (σ : St) : St := some v :: caps.map fun j => (σ[j]?).getD none
section
variable {X : Cx} {pins : List (Addr × Obj)} {σ : St} {H : Hp} {s : Shared} {h1 : Heap} {A : Around} {N : List Str} {qual nm : Str} {scope : Scope} {f : Addr} {cd : Value} {cl : List (Str × Addr)} {caps : List Nat} {v : V} {u : Value} {t1 : Nat}
theorem lam_start (I : Inv X pins σ H s) (S : LamSc nm scope) (ok : BlkOk X.env.scope X.N scope caps) (hN : N = [nm] ++ caps.map fun j => (X.N[j]?).getD (Str.ofString "")) (hd : A.handled = none) (hfr : A.frames = some X.stack)
    (hcl1 : ∀ x c, cl.lookup x = some c → X.env.cells.lookup x = some c) (hcl2 : ∀ x, (x, NameKind.free) ∈ scope.names → ∃ c, cl.lookup x = some c)
    (hns : h1.Ns s.heap.objs.size (fun x => [(nm, u)].reverse.lookup x)) (keep : ∀ b o, s.heap.get? b = some o → h1.get? b = some o) (rv : RelV v u) :
    Inv (cxLam X A N qual scope f cd cl s H) [] (lamSt v caps σ) H { s with heap := h1, toks := t1 } := by
  have noA : ∀ b : Addr, b ∉ (cxLam X A N qual scope f cd cl s H).ex := fun b z => absurd (show b ∈ ([] : List Addr) from z) (by simp)
  refine ⟨⟨I.ok.mod, S.kind, rfl, rfl, Nat.le_refl _, fun x y c e1 e2 => I.ok.inj x y c (hcl1 x c e1) (hcl1 y c e2), fun x hx => ?_, fun x c e _ => absurd e (by simp [cxLam]), fun _ => hd, Around.frames_deeper hfr, .inr ⟨rfl, rfl⟩,
      fun b z => absurd z (noA b), I.bs, Nat.le_trans I.ok.bsz I.sz, fun b _ _ => noA b, fun b z => absurd z (noA b), I.stack, I.stkFree⟩,
    rfl, I.bare, Un.kept keep, ⟨_, hns, fun i x w e1 e2 e3 => ?_⟩, fun x c e => ?_, I.hok.fresh (Nat.le_refl _), fun x c e => I.freeC x c (hcl1 x c e), fun p hp => absurd (show p ∈ ([] : List (Addr × Obj)) from hp) (by simp), I.hok.kept keep, ?_⟩
  · have hx : scope.names.lookup x = some .cell ∨ scope.names.lookup x = some .free := hx
    rcases hx with hx | hx
    · exact absurd rfl (S.nocell _ (PySem.mem_of_lookup hx))
    · exact hcl2 x (PySem.mem_of_lookup hx)
  · have e1 : N[i]? = some x := e1
    rw [hN] at e1
    cases i with
    | zero =>
      have ex : nm = x := by simpa using e1
      subst ex
      have ew : v = w := by simpa [lamSt] using e2
      subst ew
      exact ⟨u, rv, .inl ⟨S.par, by simp⟩⟩
    | succ i =>
      have e1' : (caps.map fun j => (X.N[j]?).getD (Str.ofString ""))[i]? = some x := by simpa using e1
      have e2' : (caps.map fun j => (σ[j]?).getD none)[i]? = some (some w) := by simpa [lamSt] using e2
      rw [List.getElem?_map] at e1' e2'
      cases ej : caps[i]? with
      | none => rw [ej] at e2'; cases e2'
      | some j =>
        rw [ej] at e1' e2'
        have e1'' : (X.N[j]?).getD (Str.ofString "") = x := Option.some.inj e1'
        have e2'' : (σ[j]?).getD none = some w := Option.some.inj e2'
        obtain ⟨x', hx', hl, hsc⟩ := ok.cap j (List.mem_of_getElem? ej)
        rw [hx'] at e1''
        have ex : x' = x := e1''
        subst ex
        have hσ : σ[j]? = some (some w) := by
          cases q : σ[j]? with
          | none => rw [q] at e2''; cases e2''
          | some o => rw [q] at e2''; rw [show o = some w from e2'']
        obtain ⟨m3, hn3, hl3⟩ := I.loc
        obtain ⟨z, r, lk⟩ := hl3 j x' w hx' hσ (.inr hsc)
        refine ⟨z, r, .inr ⟨.inr hl, ?_⟩⟩
        rcases lk with ⟨hk, _⟩ | ⟨_, c, hc, y⟩
        · have hk : X.env.scope.names.lookup x' = some .local := hk
          rcases hsc with q | q <;> rw [hk] at q <;> cases q
        · obtain ⟨c', hc'⟩ := hcl2 x' (PySem.mem_of_lookup hl)
          have q := hcl1 x' c' hc'
          rw [hc] at q
          cases q
          obtain ⟨o, ho, hd'⟩ := y
          exact ⟨c, hc', o, keep c o ho, hd'⟩
  · obtain ⟨z, o, ho, hd'⟩ := I.cell x c (hcl1 x c e)
    exact ⟨z, o, keep c o ho, hd'⟩
  · show (lamSt v caps σ).length = N.length
    rw [hN]
    simp [lamSt]
theorem lam_call {name : Str} {params : Arguments} {body : Expr} {pm ctv : Value} {c' : Addr} {tb : TE} {Q : VK} (I : Inv X pins σ H s) (S : LamSc nm scope) (ok : BlkOk X.env.scope X.N scope caps) (hN : N = [nm] ++ caps.map fun j => (X.N[j]?).getD (Str.ofString "")) (hd : A.handled = none) (hfr : A.frames = some X.stack) (hroom : A.depth < recursionLimit)
    (hcl1 : ∀ x c, cl.lookup x = some c → X.env.cells.lookup x = some c) (hcl2 : ∀ x, (x, NameKind.free) ∈ scope.names → ∃ c, cl.lookup x = some c)
    (hof : s.heap.get? f = some (kla_obj name qual params body scope cl pm c' ctv)) (hcd : s.heap.CodeRec (.ref c') qual) (hbind : bindArgs (kla_fn name qual params body scope cl pm (.ref c') ctv) ⟨[u], []⟩ = pure [(nm, u)])
    (he : PE (cxLam X A N qual scope f (.ref c') cl s H) body tb) (rv : RelV v u) (h : tb (lamSt v caps σ) H Q) : wpAny (model X.prog X.w) A (call (.ref f) [u]) (EP X pins σ Q) (fun _ _ => False) s := by
  refine wpAny_call (codeAny_mono (R := CR CX0 X.stack X.prog X.w H s Q E0) ?_ fun r s' hq => ?_)
  · refine kla_callFunE hroom hof rfl S.co S.gen rfl hcd ?_
    rw [hbind]
    refine wpAny_pure (wpAny_newFunctionEnv S.nocell (fun y hy => ?_) (fun h₁ hns hsb => ⟨(I.nolimit).fresh _ hsb, ?_⟩) S.kind)
    · rw [List.mem_singleton.mp hy]; exact S.par
    show codeAny _ _ (.expr body (envX qual scope s.heap.objs.size f (.ref c') cl)) _ _
    have hk₁ : ∀ b o, s.heap.get? b = some o → h₁.get? b = some o := fun b o e => hsb.extBut b o (Nat.ne_of_lt (Heap.lt_size e)) (Heap.get?_push_of_some _ e)
    have J := lam_start (t1 := s.toks + [(nm, u)].length) (f := f) (cd := .ref c') (qual := qual) I S ok hN hd hfr hcl1 hcl2 hns hk₁ rv
    refine kla_codeExpr (wpAny_mono (he [] _ _ H _ J h) (fun k s' hk => ?_) fun _ _ y => False.elim y)
    obtain ⟨kv, H', J', rk, q⟩ := hk
    exact ⟨kv, H', J'.os, J'.bare, J'.base, J'.hok, rk, q⟩
  · cases r with
    | error e => exact hq
    | ok fl =>
      cases fl with
      | ret k => exact I.after hq
      | next => exact False.elim hq
      | brk => exact False.elim hq
      | cont => exact False.elim hq
end
def BM (mg : Str → Option Value) (h : Heap) : Prop := ∃ bm ob, mg "__builtins__" = some (.ref bm) ∧ bm ≠ builtinsNs ∧ h.get? bm = some ob ∧ ob.cls = .type "module" ∧ ob.dict = some builtinsNs ∧ ob.data = .plain
def CdO (c : Addr) (qual : Str) : HO := .ext fun h => h.CodeRec (.ref c) qual
def Tb (P : Addr) (lp : Pos) (qual : Str) (H : Hp) : Prop := ∃ ps, H P = some (.tbl ps) ∧ TriplesOk ps.toList ∧ (codeAmong lp ps.toList = none ∨ ∃ c', codeAmong lp ps.toList = some (.ref c') ∧ H c' = some (CdO c' qual))
def Grows (P : Addr) (lp : Pos) (qual : Str) (H H' : Hp) : Prop := (∀ b o, b ≠ P → H b = some o → H' b = some o) ∧ Tb P lp qual H'
theorem codeRec_at {X : Cx} {pins : List (Addr × Obj)} {σ : St} {H : Hp} {s : Shared} {c : Addr} {qual : Str} (I : Inv X pins σ H s) (h : H c = some (CdO c qual)) : s.heap.CodeRec (.ref c) qual := (I.hok c _ h).1
theorem lam_make {X : Cx} {pins : List (Addr × Obj)} {σ : St} {H : Hp} {s : Shared} {params : Arguments} {body : Expr} {scope : Scope} {lp : Pos} {cl : List (Str × Addr)} {c P : Addr} {E : Value → Shared → Prop} {Q : Value → Shared → Prop} (I : Inv X pins σ H s) (hdef : defaultsOf params X.env = ([], []))
    (hcl : closureFor scope X.env = pure cl) (hcode : X.env.code = .ref c) (hC : codeHdIn X.K c P = true) (hB : BM X.mg X.base) (hT : Tb P lp (X.env.qual ++ "<lambda>") H)
    (h : ∀ (f c' : Addr) (ctv : Value) (H' : Hp) (s' : Shared), Grows P lp (X.env.qual ++ "<lambda>") H H' → H' c' = some (CdO c' (X.env.qual ++ "<lambda>")) → H' f = none →
      Inv X (pins ++ [(f, kla_obj "<lambda>" (X.env.qual ++ "<lambda>") params body scope cl ((X.mg "__name__").getD .none) c' ctv)]) σ H' s' → s.heap.objs.size ≤ f → Q (.ref f) s') :
    wpAny (model X.prog X.w) X.A (eval (.Lambda params body scope lp) X.env) Q E s := by
  obtain ⟨ps, hP, ht, hcase⟩ := hT
  have hPo : s.heap.get? P = some (tabObj ps) := I.hok P _ hP
  have CH : CodeHd s.heap c P := (codeHd_of_K I.ok.mod.kin hC).keeps I.bk
  have hg : s.heap.Ns mainGlobals X.mg := I.ok.mod.glob.keeps I.bk
  obtain ⟨bm, ob, b1, b2, b3, b4, b5, b6⟩ := hB
  have hgP : mainGlobals ≠ P := fun q => by
    obtain ⟨o, es, ep, e, hd, _⟩ := hg
    rw [q, hPo] at e; cases e; cases hd
  have hbP : bm ≠ P := fun q => by
    have e := I.bk _ _ b3
    rw [q, hPo] at e; cases e; cases b4
  have hbG : bm ≠ mainGlobals := fun q => by
    obtain ⟨o, es, ep, e, hd, _⟩ := hg
    rw [q] at b3
    rw [I.bk _ _ b3] at e; cases e; rw [hd] at b6; cases b6
  have hBA : s.heap.BuiltinsAt X.mg P := ⟨bm, ob, b1, b2, hbG, hbP, I.bk _ _ b3, b4, b5, b6⟩
  refine kla_eval hdef ?_
  have pin : ∀ {H' : Hp} {s' : Shared} {f : Addr} {o : Obj}, Inv X pins σ H' s' → s'.heap.get? f = some o → s.heap.objs.size ≤ f → H' f = none → (∀ v, o.data ≠ .cell v) → Inv X (pins ++ [(f, o)]) σ H' s' := fun {H' s' f o} I' ho hf hn hd => by
    refine I'.pins_of fun p hp => ?_
    rcases List.mem_append.mp hp with hp | hp
    · exact I'.pin p (List.mem_append_right _ hp)
    · rw [List.mem_singleton.mp hp]
      exact ⟨ho, hn, Nat.ne_of_gt (Nat.lt_of_lt_of_le I.lt hf), I.nofs hf, hd⟩
  rcases hcase with hnf | ⟨c', hf, hc'⟩
  · refine kla_makeFunction (mg := X.mg) hcl I.ok.glob hg hcode CH hPo ht hnf hgP hBA fun c' ctv h' tk hx hge hlt hrec htb => ?_
    have hPlt : P < s.heap.objs.size := Heap.lt_size hPo
    have cP : c' ≠ P := Nat.ne_of_gt (Nat.lt_of_lt_of_le hPlt hge)
    have k2 : ∀ b o, b ≠ P → s.heap.get? b = some o → (h'.push (kla_obj "<lambda>" (X.env.qual ++ "<lambda>") params body scope cl ((X.mg "__name__").getD .none) c' ctv)).get? b = some o := fun b o hb e => Heap.get?_push_of_some _ (hx b o hb e)
    have I1 := I.table (t' := tk) (more := #[rawInt lp.line, rawInt lp.col, .ref c']) k2 hP (Heap.get?_push_of_some _ htb)
    have hc0 : H c' = none := I.hok.fresh hge
    have hc1 : upd H P (.tbl (ps ++ #[rawInt lp.line, rawInt lp.col, .ref c'])) c' = none := (upd_ne cP).trans hc0
    have I2 := I1.adopt (t' := tk) (it := c') (o := CdO c' (X.env.qual ++ "<lambda>")) (h' := h'.push (kla_obj "<lambda>" (X.env.qual ++ "<lambda>") params body scope cl ((X.mg "__name__").getD .none) c' ctv)) (fun b o _ e => e) (I.fpOk hge hc1) ?_
    · have hfn : upd (upd H P (.tbl (ps ++ #[rawInt lp.line, rawInt lp.col, .ref c']))) c' (CdO c' (X.env.qual ++ "<lambda>")) h'.objs.size = none := by
        rw [upd_ne (Nat.ne_of_gt hlt), upd_ne (Nat.ne_of_gt (Nat.lt_trans (Nat.lt_of_lt_of_le hPlt hge) hlt))]
        exact I.hok.fresh (Nat.le_trans hge (Nat.le_of_lt hlt))
      refine h h'.objs.size c' ctv _ _ ⟨fun b o hb e => ?_, ?_⟩ upd_same hfn (pin I2 (Heap.get?_push_size _ rfl) (Nat.le_trans hge (Nat.le_of_lt hlt)) hfn (fun _ z => nomatch z)) (Nat.le_trans hge (Nat.le_of_lt hlt))
      · rw [upd_ne (by rintro rfl; rw [hc0] at e; cases e), upd_ne hb]; exact e
      · refine ⟨ps ++ #[rawInt lp.line, rawInt lp.col, .ref c'], (upd_ne cP.symm).trans upd_same, ?_, .inr ⟨c', ?_, upd_same⟩⟩
        · rw [Array.toList_append]; exact TriplesOk_snoc _ _ _ _ ht
        · rw [Array.toList_append]; exact codeAmong_snoc _ ht hnf
    · obtain ⟨c2, o2, vs2, t2, z1, z2, z3, z4⟩ := hrec
      cases z1
      refine ⟨⟨c', o2, vs2, t2, rfl, Heap.get?_push_of_some _ z2, z3, z4⟩, ⟨o2, Heap.get?_push_of_some _ z2⟩, fun h1 h2 ⟨c3, o3, vs3, t3, y1, y2, y3, y4⟩ kk => ?_⟩
      cases y1
      exact ⟨c', o3, vs3, t3, rfl, kk _ y2, y3, y4⟩
  · refine kla_makeFunctionHit (mg := X.mg) hcl I.ok.glob hg hcode CH hPo ht hf hBA fun ctv h' tk hk hsz => ?_
    have I1 : Inv X pins σ H { s with heap := h'.push { cls := .type "function", data := .func (kla_fn "<lambda>" (X.env.qual ++ "<lambda>") params body scope cl ((X.mg "__name__").getD .none) (.ref c') ctv) }, toks := tk } := I.kept fun b o e => Heap.get?_push_of_some _ (hk b o e)
    have hfn : H h'.objs.size = none := I.hok.fresh hsz
    exact h h'.objs.size c' ctv H _ ⟨fun _ _ _ e => e, ps, hP, ht, .inr ⟨c', hf, hc'⟩⟩ hc' hfn (pin I1 (Heap.get?_push_size _ rfl) hsz hfn (fun _ z => nomatch z)) hsz
end L2
set_option Elab.async false
set_option linter.all false
set_option maxRecDepth 100000
set_option maxHeartbeats 4000000
namespace L2
open PySem PySem.W PySem.Spec PyProof.Rows Srt Pc
def keyL (ky : C3 → Int × Int) (c : C3) : List Int := (ky c).1 :: (ky c).2 :: c.l
def Mt (H : Hp) (ky : C3 → Int × Int) (x : Keyed) (c : C3) : Prop := ∃ p q, x.1 = .ref p ∧ x.2 = .ref q ∧ H p = some (.tup [.int (ky c).1, .int (ky c).2, .ref q]) ∧ H q = some (.tup c.v)
theorem cv_inj {c d : C3} (h : c.v = d.v) : c = d := by
  obtain ⟨x1, y1, z1⟩ := c
  obtain ⟨x2, y2, z2⟩ := d
  simp only [C3.v, List.cons.injEq, V.int.injEq] at h
  obtain ⟨rfl, rfl, rfl, _⟩ := h
  rfl
theorem Mt.one {H : Hp} {ky : C3 → Int × Int} {x : Keyed} {c d : C3} (h1 : Mt H ky x c) (h2 : Mt H ky x d) : c = d := by
  obtain ⟨p, q, e1, e2, e3, e4⟩ := h1
  obtain ⟨p', q', f1, f2, f3, f4⟩ := h2
  rw [e2] at f2
  cases f2
  rw [e4] at f4
  exact cv_inj (HO.tup.inj (Option.some.inj f4))
open Classical in
noncomputable def mtOf (H : Hp) (ky : C3 → Int × Int) (x : Keyed) : C3 := if h : ∃ c, Mt H ky x c then h.choose else ⟨0, 0, 0⟩
theorem mtOf_eq {H : Hp} {ky : C3 → Int × Int} {x : Keyed} {c : C3} (h : Mt H ky x c) : mtOf H ky x = c := by
  have he : ∃ c, Mt H ky x c := ⟨c, h⟩
  unfold mtOf
  rw [dif_pos he]
  exact Mt.one he.choose_spec h
theorem mt_all {H : Hp} {ky : C3 → Int × Int} : ∀ {xs : List Keyed} {cs : List C3}, Paired (Mt H ky) xs cs → (∀ x ∈ xs, ∃ c, Mt H ky x c) ∧ xs.map (mtOf H ky) = cs
  | _, _, .nil => ⟨(fun _ h => nomatch h), rfl⟩
  | _, _, .cons h t => by
    obtain ⟨h1, h2⟩ := mt_all t
    refine ⟨fun x hx => ?_, by rw [List.map_cons, h2, mtOf_eq h]⟩
    rcases List.mem_cons.mp hx with rfl | hx
    · exact ⟨_, h⟩
    · exact h1 x hx
theorem mt_back {H : Hp} {ky : C3 → Int × Int} : ∀ {out : List Keyed}, (∀ x ∈ out, ∃ c, Mt H ky x c) → ∃ zs, Vals zs (out.map (·.2)) ∧ Cs H zs (out.map (mtOf H ky))
  | [], _ => ⟨[], .nil, .nil⟩
  | x :: r, h => by
    obtain ⟨c, hc⟩ := h x List.mem_cons_self
    obtain ⟨zs, h1, h2⟩ := mt_back fun u hu => h u (List.mem_cons_of_mem _ hu)
    have e := mtOf_eq hc
    obtain ⟨p, q, e1, e2, e3, e4⟩ := hc
    exact ⟨.ref q :: zs, .cons e2 h1, .cons ⟨q, rfl, by rw [e]; exact e4⟩ h2⟩
theorem mt_obj {X : Cx} {pins : List (Addr × Obj)} {σ : St} {H : Hp} {s : Shared} {ky : C3 → Int × Int} (I : Inv X pins σ H s) {x : Keyed} {c : C3} (h : Mt H ky x c) :
    ∃ a b o n t t' us, x.1 = .ref a ∧ s.heap.get? a = some o ∧ o.cls = .type "tuple" ∧ o.data = .seq ([Value.int (ky c).1 t, Value.int (ky c).2 t', Value.ref b] : List Value).toArray n ∧ IsTup s.heap b us.toArray ∧ IntsAre us c.l ∧ Reads s.heap (.ref b) (.tuple (c.l.map PyData.int)) [] := by
  obtain ⟨p, q, e1, _, e3, e4⟩ := h
  obtain ⟨its, r, ⟨o, ho, hc, n, hd⟩, _⟩ := I.tuple (SqT.of (K := X.K) e3)
  cases r with
  | cons r1 r2 =>
    obtain ⟨t, rfl⟩ := r1
    cases r2 with
    | cons r3 r4 =>
      obtain ⟨t', rfl⟩ := r3
      cases r4 with
      | cons r5 r6 =>
        cases r5
        cases r6
        obtain ⟨us, ru, ⟨o2, ho2, hc2, n2, hd2⟩, _⟩ := I.tuple (SqT.of (K := X.K) e4)
        exact ⟨p, q, o, n, t, t', us, e1, ho, hc, hd, ⟨o2, ho2, hc2, n2, hd2⟩, ints_vals (ns := c.l) ru, I.readsT (ns := c.l) (SqT.of e4)⟩
theorem mt_firsts {X : Cx} {pins : List (Addr × Obj)} {σ : St} {H : Hp} {s : Shared} {ky : C3 → Int × Int} (I : Inv X pins σ H s) : ∀ {ks its : List Value} {cs : List C3}, ks.length = its.length → Paired (Mt H ky) (ks.zip its) cs → ∃ fs : List Value, KatTups s.heap ks fs ∧ fs.length = ks.length ∧ ∀ v ∈ fs, ∃ i t, v = Value.int i t
  | [], _, _, _, _ => ⟨[], KatTups.nil, rfl, fun _ z => nomatch z⟩
  | _ :: _, [], _, hl, _ => by simp at hl
  | k :: ks, v :: its, _, hl, hp => by
    rw [List.zip_cons_cons] at hp
    cases hp with
    | cons h t =>
      obtain ⟨fs, kt, e, hf⟩ := mt_firsts (ky := ky) I (by simpa using hl) t
      obtain ⟨a, b, o, n, t1, t2, us, e1, ho, hc, hd, _⟩ := mt_obj I h
      have e1 : k = .ref a := e1
      subst e1
      refine ⟨_, KatTups.cons ho hc hd rfl kt, by simp [e], fun u hu => ?_⟩
      rcases List.mem_cons.mp hu with rfl | hu
      · exact ⟨_, t1, rfl⟩
      · exact hf u hu
theorem mt_lt {X : Cx} {pins : List (Addr × Obj)} {σ : St} {H : Hp} {s : Shared} {ky : C3 → Int × Int} {A : Around} (I : Inv X pins σ H s) (hu : A.units + 40 < cLine) {x y : Keyed} {c d : C3} (h1 : Mt H ky x c) (h2 : Mt H ky y d) {Q : Bool → Shared → Prop} {E : Value → Shared → Prop}
    (hQ : Q (HT.lexLt (keyL ky c) (keyL ky d)) s) : wpAny (model X.prog X.w) A (keyLt' (tuples' (Value.type "int" != Value.type "tuple")) x.1 y.1) Q E s := by
  obtain ⟨a1, b1, o1, e1, t1, t1', u1, f1, g1, _, d1, p1, i1, r1⟩ := mt_obj I h1
  obtain ⟨a2, b2, o2, e2, t2, t2', u2, f2, g2, _, d2, p2, i2, r2⟩ := mt_obj I h2
  rw [f1, f2]
  refine kat_lt g1 d1 g2 d2 ?_
  unfold keyL at hQ
  rw [HT.lexLt_cons] at hQ
  show KatLex X.prog X.w A true _ Q [(Value.int (ky c).1 t1, Value.int (ky d).1 t2), (Value.int (ky c).2 t1', Value.int (ky d).2 t2'), (Value.ref b1, Value.ref b2)] 0 _
  refine kat_cons (wpAny_eqBool_int ?_)
  by_cases en : (ky c).1 = (ky d).1
  · rw [if_pos en] at hQ
    rw [beq_iff_eq.mpr en]
    refine kat_yes (kat_cons (wpAny_eqBool_int ?_))
    rw [HT.lexLt_cons] at hQ
    by_cases en2 : (ky c).2 = (ky d).2
    · rw [if_pos en2] at hQ
      rw [beq_iff_eq.mpr en2]
      refine kat_yes (kat_cons ?_)
      have ea := SeqAt.eqAt_reads _ _ A s (.ref b1) (.ref b2) [] [] r1 r2 (SeqAt.canLay_of_shaped (shaped_T _)) (SeqAt.canLay_of_shaped (shaped_T _)) (Nat.lt_of_le_of_lt (Nat.add_le_add_left (Nat.le_trans (Nat.min_le_left _ _) (depth_T c.l)) _) (by omega))
      refine ea X.prog X.w _ _ ?_
      rw [eqv_T]
      by_cases ec : c.l = d.l
      · rw [decide_eq_true ec]
        refine kat_yes ?_
        rw [ec, lex_rf] at hQ
        exact hQ
      · rw [decide_eq_false ec]
        refine kat_no (kat_one _ _ (lt_tups p1 p2 i1 i2 rfl (by omega) ?_))
        exact hQ
    · rw [if_neg en2] at hQ
      rw [beq_eq_false_iff_ne.mpr en2]
      refine kat_no (kat_one _ _ (lt_int ?_))
      exact hQ
  · rw [if_neg en] at hQ
    rw [beq_eq_false_iff_ne.mpr en]
    exact kat_no (oneLt_int hQ)
def tSortL (P : Addr) (lp : Pos) (qual : Str) (caps : List Nat) (te tb : TE) : TE := fun σ H Q => te σ H fun x H1 => ∃ (d : Addr) (kvs : List (List Key × V)) (cs : List C3) (ky : C3 → Int × Int), x = .ref d ∧ H1 d = some (.dT kvs) ∧ kvs.map (·.1) = cs.map keyC ∧ Tb P lp qual H1 ∧
  ∀ H2, Grows P lp qual H1 H2 → (∀ (H3 : Hp) (q : Addr) (c : C3), Same H2 H3 → c ∈ cs → H3 q = some (.tup c.v) → tb (lamSt (.ref q) caps σ) H3 fun k H4 => Same H3 H4 ∧ ∃ p, k = .ref p ∧ H4 p = some (.tup [.int (ky c).1, .int (ky c).2, .ref q])) ∧
    ∀ (H5 : Hp) (p : Addr) (zs : List V) (ds : List C3), Same H2 H5 → H5 p = none → ds.Perm cs → ds.Pairwise (fun c d => HT.lexLt (keyL ky d) (keyL ky c) = false) → Cs (upd H5 p (.lst zs)) zs ds → Q (.ref p) (upd H5 p (.lst zs))
theorem paired_zip {H : Hp} {ky : C3 → Int × Int} {ks its : List Value} {cs : List C3} {k v : Value} {c : C3} (h : Paired (Mt H ky) (ks.zip (its.take ks.length)) (cs.take ks.length)) (hv : its[ks.length]? = some v) (hc : cs[ks.length]? = some c) (m : Mt H ky (k, v) c) :
    Paired (Mt H ky) ((ks ++ [k]).zip (its.take (ks ++ [k]).length)) (cs.take (ks ++ [k]).length) := by
  have l1 : ks.length < its.length := (List.getElem?_eq_some_iff.mp hv).1
  have e1 : its.take (ks ++ [k]).length = its.take ks.length ++ [v] := by rw [List.length_append, List.length_singleton, List.take_add_one, hv]; rfl
  have e2 : cs.take (ks ++ [k]).length = cs.take ks.length ++ [c] := by rw [List.length_append, List.length_singleton, List.take_add_one, hc]; rfl
  rw [e1, e2, List.zip_append (by rw [List.length_take]; omega)]
  have app : ∀ {xs : List Keyed} {ds : List C3}, Paired (Mt H ky) xs ds → Paired (Mt H ky) (xs ++ [(k, v)]) (ds ++ [c]) := by
    intro xs ds r
    induction r with
    | nil => exact .cons m .nil
    | cons a _ ih => exact .cons a ih
  exact app h
theorem pe_sortL {X : Cx} {e body : Expr} {p pos kp lp : Pos} {params : Arguments} {scope : Scope} {N : List Str} {te tb : TE} {nm : Str} {c P : Addr} {k : Nat} (caps : List Nat) (hc : X.calm = true) (hg : Gl X "sorted") (hm : X.mg "sorted" = none) (hcode : X.env.code = .ref c) (hC : codeHdIn X.K c P = true) (hB : BM X.mg X.base)
    (hr : Room (k + 3) X.A) (hN : N = [nm] ++ caps.map fun j => (X.N[j]?).getD (Str.ofString "")) (hok : blkOk X.env.scope X.N scope caps = true) (S : LamSc nm scope) (hdef : defaultsOf params X.env = ([], []))
    (hbind : ∀ (qual : Str) (cl : List (Str × Addr)) (pm cdv ct u : Value), bindArgs (kla_fn "<lambda>" qual params body scope cl pm cdv ct) ⟨[u], []⟩ = pure [(nm, u)]) (he : PE X e te)
    (hb : ∀ f cd cl s H, Room k (X.A.in1.in1.deeper (envX (X.env.qual ++ "<lambda>") scope s.heap.objs.size f cd cl)) → PE (cxLam X X.A.in1.in1 N (X.env.qual ++ "<lambda>") scope f cd cl s H) body tb) (hs : starEach [e] X.env = [(false, eval e X.env)]) :
    PE X (.Call (.Name "sorted" p) [e] [⟨some (Str.ofString "key"), .Lambda params body scope lp, kp⟩] pos) (tSortL P lp (X.env.qual ++ "<lambda>") caps te tb) := by
  intro pins s σ H Q I h
  have ok := blkOk_iff hok
  obtain ⟨cl, hclo, hcl1, hcl2'⟩ := clo_go X.env scope.names [] (fun y hy hk => I.ok.has y.1 (ok.free y hy hk)) (fun x c e => by simp at e)
  have hcl2 : ∀ x, (x, NameKind.free) ∈ scope.names → ∃ c, cl.lookup x = some c := fun x hx => hcl2' x (.inl hx)
  rw [← closureFor_eq] at hclo
  have hrA : Room (k + 1) X.A.in1.in1 := (Room.in1 (Room.in1 hr))
  have hdA : X.A.in1.in1.handled = none := hrA.hd
  refine wpAny_Call_Name_kw (ld_blt I hg hm b_sorted (callWith_kw ?_ (by rw [hs]; rfl) (by rw [hs]; rfl)))
  rw [hs]
  refine Calls.spliced_cons (thn (he pins s σ H _ I h) fun u s1 ⟨x, H1, I1, rx, q1⟩ => Calls.spliced_nil ?_)
  obtain ⟨d, kvs, cs, ky, rfl, ed, ek, hT, q2⟩ := q1
  cases rx
  refine kws_cons (lam_make (body := body) (scope := scope) (cl := cl) I1 hdef hclo hcode hC hB hT fun f c' ctv H2 s2 hgr hcd hf2 I2 hfl => kws_nil ?_)
  obtain ⟨hbody, hend⟩ := q2 H2 hgr
  show wpAny _ _ (call (.builtin "sorted") [.ref d] [(Str.ofString "key", .ref f)]) _ _ s2
  have hPd : d ≠ P := by
    obtain ⟨ps, e1, _⟩ := hT
    rintro rfl
    rw [ed] at e1; cases e1
  have ed2 : H2 d = some (.dT kvs) := hgr.1 d _ hPd ed
  obtain ⟨z, lo, ts, r, o, es, ep, g1, g2, g3, g4, g5⟩ := I2.hok d _ ed2
  have hl : es.size = ts.length := by rw [← Array.length_toList, g4, List.length_map]
  have hl2 : kvs.length = ts.length := Paired.length r
  refine call_function_entry_kw kind_sorted plain_sorted entry_sorted (ksk_s1 _ _) ?_
  unfold Builtin.«sorted»
  refine wpAny_bind (m := checkCount "sorted" 1 1 _) (wpAny_pure ?_)
  refine wpAny_bind (col_src (A := X.A.in1) (raw_src (es := es) (ep := ep) lo) (I2.ok.hd hc) ⟨o, g1, g2, g3⟩ (by omega) fun h' tk acc kk hsz hacc => ?_)
  have hlv : acc.toList.length = ts.length := by rw [Array.length_toList, hacc.1, hl]
  have ev : acc.toList = ts.map fun x => Value.ref x.2.1 := by
    refine List.ext_getElem? fun j => ?_
    rcases Nat.lt_or_ge j acc.toList.length with hj | hj
    · have e := List.getElem?_eq_getElem hj
      obtain ⟨u, hu, e2⟩ := hacc.2 j _ (by rw [← Array.getElem?_toList]; exact e)
      rw [← Array.getElem?_toList, g4, List.getElem?_map] at hu
      rw [e, List.getElem?_map]
      cases ht : ts[j]? with
      | none => rw [ht] at hu; cases hu
      | some t =>
        rw [ht] at hu
        cases hu
        rw [e2]; rfl
    · rw [List.getElem?_eq_none hj, List.getElem?_eq_none (by rw [List.length_map]; omega)]
  rw [ev]
  have hcs : Cs H2 (ts.map fun x => V.ref x.2.1) cs := cs_keys r ek
  have hvk := vals_keys ts
  have hlc : ts.length = cs.length := by have := Rs.len hcs; simpa using this
  generalize hits : (ts.map fun x => Value.ref x.2.1) = its at hvk
  have hli : its.length = cs.length := by rw [← hits, List.length_map]; exact hlc
  have hz' : its.length ≤ sizeLine := by omega
  have cellAt : ∀ (j : Nat) (v : Value), its[j]? = some v → ∃ q c, v = .ref q ∧ cs[j]? = some c ∧ H2 q = some (.tup c.v) := fun j v hv => by
    rw [← hits, List.getElem?_map] at hv
    cases ht : ts[j]? with
    | none => rw [ht] at hv; cases hv
    | some t =>
      rw [ht] at hv
      have hv : Value.ref t.2.1 = v := Option.some.inj hv
      obtain ⟨c, hc1, a, ha, hc2⟩ := hcs.get (i := j) (v := V.ref t.2.1) (by rw [List.getElem?_map, ht]; rfl)
      cases ha
      exact ⟨_, c, hv.symm, hc1, hc2⟩
  refine wpAny_bind (wpAny_newList ?_ hz')
  show wpAny _ _ _ _ _ { s2 with heap := h'.push (seqObj "list" its.toArray 0), toks := tk }
  have hoL : (h'.push (seqObj "list" its.toArray 0)).get? h'.objs.size = some (seqObj "list" its.toArray 0) := Heap.get?_push_size _ rfl
  refine wpAny_bind (wpAny_holding (wpAny_call_entry_kw slot_list_sort ⟨_, hoL, rfl⟩ entry_list_sort ?body (ksk_l1 _ _)))
  case body =>
  show wpAny (model X.prog X.w) X.A.in1.in1 (Builtin.«list.sort» ⟨[.ref h'.objs.size], [(Str.ofString "key", .ref f)]⟩) _ _ _
  rw [ksk_t1]
  generalize ha : h'.objs.size = a at *
  have hsa : s2.heap.objs.size ≤ a := hsz
  generalize hobj : kla_obj "<lambda>" (X.env.qual ++ "<lambda>") params body scope cl ((X.mg "__name__").getD .none) c' ctv = ob at I2
  have hsize : (h'.push (seqObj "list" its.toArray 0)).objs.size + 1 = a + 2 := by rw [size_push', ha]
  have fpa : FpOk X (pins ++ [(f, ob)]) H2 a := I2.fpOk hsa (I2.hok.fresh hsa)
  have fpk : FpOk X (pins ++ [(f, ob)]) H2 (a + 2) := I2.fpOk (by omega) (I2.hok.fresh (by omega))
  have pinned : ∀ {H' : Hp} {s' : Shared} {e1 e : Nat} {xs : Array Value}, Inv X (pins ++ [(f, ob)]) σ H' s' → H' a = none → H' (a + 2) = none → s'.heap.get? a = some (seqObj "list" #[] e1) → s'.heap.get? (a + 2) = some (seqObj "list" xs e) →
      Inv X ((pins ++ [(f, ob)]) ++ [(a, seqObj "list" #[] e1), (a + 2, seqObj "list" xs e)]) σ H' s' := fun {H' s' e1 e xs} I' n1 n2 o1 o2 => by
    refine I'.pins_of fun p hp => ?_
    rcases List.mem_append.mp hp with hp | hp
    · exact I'.pin p (List.mem_append_right _ hp)
    · rcases List.mem_cons.mp hp with rfl | hp
      · exact ⟨o1, n1, fpa.2.1, fpa.2.2.1, (fun _ z => nomatch z)⟩
      · rw [List.mem_singleton.mp hp]
        exact ⟨o2, n2, fpk.2.1, fpk.2.2.1, (fun _ z => nomatch z)⟩
  refine Tim.keyed_sort (lt := HT.lexLt) (s := { s2 with heap := h'.push (seqObj "list" its.toArray 0), toks := tk }) hoL hz'
    (fun e1 ks s' => ∃ H', Inv X (pins ++ [(f, ob)]) σ H' s' ∧ Same H2 H' ∧ H' a = none ∧ H' (a + 2) = none ∧ ks.length ≤ its.length ∧ Paired (Mt H' ky) (ks.zip (its.take ks.length)) (cs.take ks.length)) ?h0 ?turn ?fin
  case h0 =>
    intro e1 o1 o2
    refine ⟨H2, I2.kept fun b o e => ?_, Same.refl _, fpa.1, fpk.1, Nat.zero_le _, .nil⟩
    have hlt : b < s2.heap.objs.size := Heap.lt_size e
    have hne : b ≠ a := Nat.ne_of_lt (Nat.lt_of_lt_of_le hlt hsa)
    show (Tim.heldHeap (h'.push (seqObj "list" its.toArray 0)) a its).get? b = some o
    unfold Tim.heldHeap
    refine Heap.get?_push_of_some _ (Heap.get?_push_of_some _ ?_)
    rw [Heap.get?_update_ne _ _ _ _ hne]
    exact Heap.get?_push_of_some _ (kk b o e)
  case turn =>
    rintro e1 e v ks s' hv ⟨H', I', sm, n1, n2, hkl, hpr⟩ o1 o2
    have hsz2 : ({ s2 with heap := h'.push (seqObj "list" its.toArray 0), toks := tk } : Shared).heap.objs.size + 1 = a + 2 := hsize
    rw [hsz2] at o2 ⊢
    obtain ⟨q, c1, rfl, hc1, hq⟩ := cellAt _ _ hv
    have J := pinned I' n1 n2 o1 o2
    have hof : s'.heap.get? f = some (kla_obj "<lambda>" (X.env.qual ++ "<lambda>") params body scope cl ((X.mg "__name__").getD .none) c' ctv) := by
      rw [hobj]
      exact (I'.pin (f, ob) (List.mem_append_right _ (List.mem_append_right _ (List.mem_singleton.mpr rfl)))).1
    refine wpAny_mono (lam_call (v := .ref q) (caps := caps) (N := N) J S ok hN hdA I'.ok.frames hrA.depth hcl1 hcl2 hof (codeRec_at I' (sm _ _ hcd)) (hbind _ _ _ _ _ _) (hb _ _ _ _ _ (hrA.deeper _)) rfl (hbody H' q c1 sm (List.mem_of_getElem? hc1) (sm _ _ hq))) (fun kv s'' hk => ?_) fun _ _ z => z
    obtain ⟨kx, H4, J4, rk, sm4, pk, rfl, hpk⟩ := hk
    cases rk
    have pa := J4.pin (a, seqObj "list" #[] e1) (List.mem_append_right _ (List.mem_append_right _ (List.mem_cons_self ..)))
    have pk2 := J4.pin (a + 2, seqObj "list" ks.toArray e) (List.mem_append_right _ (List.mem_append_right _ (List.mem_cons_of_mem _ (List.mem_singleton.mpr rfl))))
    refine ⟨pa.1, pk2.1, H4, ?_, sm.trans sm4, pa.2.1, pk2.2.1, ?_, ?_⟩
    · exact (J4.unpinned).turned (t' := s''.toks) (it := a + 2) (fun b o hb e => (Heap.get?_update_ne _ _ _ _ hb).trans e) pk2.2.1 fpk.2.1 fpk.2.2.2.1 fpk.2.2.2.2.1 fpk.2.2.2.2.2
    · have := (List.getElem?_eq_some_iff.mp hv).1
      simp only [List.length_append, List.length_singleton]
      omega
    · refine paired_zip (Paired.mapP hpr fun x c m => ?_) hv hc1 ⟨pk, q, rfl, rfl, hpk, sm4 _ _ (sm _ _ hq)⟩
      obtain ⟨p1, q1, m1, m2, m3, m4⟩ := m
      exact ⟨p1, q1, m1, m2, sm4 _ _ m3, sm4 _ _ m4⟩
  case fin =>
    rintro e1 e ks s' hkl ⟨H', I', sm, n1, n2, _, hpr⟩ o1 o2
    have hsz2 : ({ s2 with heap := h'.push (seqObj "list" its.toArray 0), toks := tk } : Shared).heap.objs.size + 1 = a + 2 := hsize
    rw [hsz2] at o2 ⊢
    rw [List.take_of_length_le (by omega), List.take_of_length_le (by omega)] at hpr
    obtain ⟨hall, hmap⟩ := mt_all hpr
    refine ⟨fun x => keyL ky (mtOf H' ky x), fun x => ∃ c, Mt H' ky x c, tuples' (Value.type "int" != Value.type "tuple"), fun h2 => ⟨fun {Q' E'} hQ => ?_, ⟨lexO, fun x y hx hy {Q' E'} hQ => ?_⟩, hall⟩, fun out hpm hs => ?_⟩
    · obtain ⟨fs, kt, hfl, hfs⟩ := mt_firsts (ky := ky) I' hkl hpr
      refine kat_kind (T := .type "int") kt (by omega) (fun v hv => ?_) rfl hQ
      obtain ⟨i, t, rfl⟩ := hfs v hv
      exact Looks.of_pure rfl
    · obtain ⟨c1, m1⟩ := hx
      obtain ⟨c2, m2⟩ := hy
      rw [mtOf_eq m1, mtOf_eq m2] at hQ
      exact mt_lt I' (by have := hrA.units; omega) m1 m2 hQ
    · have hall' : ∀ x ∈ out, ∃ c, Mt H' ky x c := fun x hx => hall x (hpm.mem_iff.mp hx)
      obtain ⟨zs, hv, hr'⟩ := mt_back hall'
      have hol : out.length = its.length := by rw [hpm.length_eq, List.length_zip]; omega
      have hzl : zs.length ≤ sizeLine := by rw [hv.length, List.length_map]; omega
      have IA : Inv X (pins ++ [(f, ob)]) σ H' { s' with heap := s'.heap.update (a + 2) (Obj.mapSeq fun _ => #[]) } := I'.turned (t' := s'.toks) (it := a + 2) (fun b o hb e => (Heap.get?_update_ne _ _ _ _ hb).trans e) n2 fpk.2.1 fpk.2.2.2.1 fpk.2.2.2.2.1 fpk.2.2.2.2.2
      have o3 : (s'.heap.update (a + 2) (Obj.mapSeq fun _ => (#[] : Array Value))).get? a = some (seqObj "list" #[] e1) := (Heap.get?_update_ne _ _ _ _ (Nat.ne_of_lt (Nat.lt_add_of_pos_right (by decide)))).trans o1
      have IB : Inv X (pins ++ [(f, ob)]) σ (upd H' a (.lst zs)) { s' with heap := Tim.doneHeap s'.heap a (a + 2) (out.map (·.2)).toArray } := IA.adopt (t' := s'.toks) (it := a) (fun b o hb e => (Heap.get?_update_ne _ _ _ _ hb).trans e) ⟨n1, fpa.2⟩ ⟨hzl, _, _, hv, get?_update_seq o3 fun _ => (out.map (fun x : Keyed => x.2)).toArray⟩
      refine ⟨_, rfl, wpAny_pure ⟨_, rfl, .ref a, _, IB.unpinned, rfl, hend H' a zs (out.map (mtOf H' ky)) sm n1 ?_ ?_ (Rs.up (same_new n1) hr')⟩⟩
      · rw [← hmap]
        exact hpm.map _
      · exact List.pairwise_map.mpr hs
end L2
set_option Elab.async false
set_option linter.all false
set_option maxRecDepth 100000
set_option maxHeartbeats 4000000
namespace L2
open PySem PySem.W PySem.Spec PyProof.Rows Srt Pc
theorem qe_sortL {X : Cx} {e body : Expr} {p pos kp lp : Pos} {params : Arguments} {scope : Scope} {te tb : TE} {nm ql : Str} {c P : Addr} {k : Nat} (N : List Str) (caps : List Nat) (hc : X.calm = true) (hg : Gl X "sorted") (hm : X.mg "sorted" = none) (hcode : X.env.code = .ref c) (hC : codeHdIn X.K c P = true) (hB : BM X.mg X.base)
    (hr : Room (k + 3) X.A) (hN : N = [nm] ++ caps.map fun j => (X.N[j]?).getD (Str.ofString "")) (hok : blkOk X.env.scope X.N scope caps = true) (S : LamSc nm scope) (hdef : defaultsOf params X.env = ([], [])) (hq : X.env.qual ++ "<lambda>" = ql)
    (hbind : ∀ (qual : Str) (cl : List (Str × Addr)) (pm cdv ct u : Value), bindArgs (kla_fn "<lambda>" qual params body scope cl pm cdv ct) ⟨[u], []⟩ = pure [(nm, u)]) (he : QE X e te)
    (hb : ∀ f cd cl s H, Room k (X.A.in1.in1.deeper (envX ql scope s.heap.objs.size f cd cl)) → QE (cxLam X X.A.in1.in1 N ql scope f cd cl s H) body tb) (hs : starEach [e] X.env = [(false, eval e X.env)] := by rfl) :
    QE X (.Call (.Name "sorted" p) [e] [⟨some (Str.ofString "key"), .Lambda params body scope lp, kp⟩] pos) (tSortL P lp ql caps te tb) := by
  subst hq
  exact ⟨pe_sortL caps hc hg hm hcode hC hB hr hN hok S hdef hbind he.r (fun f cd cl s H hr => (hb f cd cl s H hr).r) hs⟩
theorem rd_sortL {P : Addr} {lp : Pos} {ql : Str} {caps : List Nat} {te tb : TE} {σ : St} {H : Hp} {Q : VK} (h : te σ H fun x H1 => ∃ (d : Addr) (kvs : List (List Key × V)) (cs : List C3) (ky : C3 → Int × Int), x = .ref d ∧ H1 d = some (.dT kvs) ∧ kvs.map (·.1) = cs.map keyC ∧ Tb P lp ql H1 ∧
  ∀ H2, Grows P lp ql H1 H2 → (∀ (H3 : Hp) (q : Addr) (c : C3), Same H2 H3 → c ∈ cs → H3 q = some (.tup c.v) → tb (lamSt (.ref q) caps σ) H3 fun k H4 => Same H3 H4 ∧ ∃ p, k = .ref p ∧ H4 p = some (.tup [.int (ky c).1, .int (ky c).2, .ref q])) ∧
    ∀ (H5 : Hp) (p : Addr) (zs : List V) (ds : List C3), Same H2 H5 → H5 p = none → ds.Perm cs → ds.Pairwise (fun c d => HT.lexLt (keyL ky d) (keyL ky c) = false) → Cs (upd H5 p (.lst zs)) zs ds → Q (.ref p) (upd H5 p (.lst zs))) : tSortL P lp ql caps te tb σ H Q := h
theorem Fun.okC {P : Program} {w : World} {K : PySem.W.Frag} {mg : Str → Option Value} {base : Heap} {x qual : Str} {st : Stmt} {f : Addr} {fd : FuncData} {N ps : List Str} {k : Nat} {sp : Sp} (F : Fun K x qual st f fd) (S : FnScope N ps (defScope st)) (len : ∀ vs H Q E, sp vs H Q E → vs.length = ps.length)
    (hbody : ∀ (A : Around) (outer : List Env) (s : Shared) (H : Hp) (vs : List V) (Q : VK) (E : XK), Room k (A.deeper (envOfC qual (defScope st) s.heap.objs.size f fd.code)) → sp vs H Q E →
      ∃ t, QSs (cxOf CX0 P w K mg base N qual (defScope st) f fd.code A outer s H E).nox (defBody st) t ∧ t { nx := fun _ H' => Q .non H', rt := Q } (start N vs) H) : FnOk P w K mg base CX0 (k + 1) f fd ps sp := by
  obtain ⟨oc, od, kV, doc, pm, an, cdv, ct, osl, rfl, lk, hcd⟩ := F.ex
  refine fn_of lk hcd S len fun A outer s H vs Q E hr hsp => ?_
  obtain ⟨t, h, q⟩ := hbody A outer s H vs Q E hr hsp
  exact ⟨t, h.r.nox, q⟩
def spLawT (K : PySem.W.Frag) (Pt : Addr) : Sp := fun vs H Q _ => ∃ (a : Addr) (ns : List Int), vs = [.ref a] ∧ SqL K H a (ns.map V.int) ∧ ns.length ≤ 63 ∧ H Pt = some (.tbl #[]) ∧ ∀ H', Q (.bl true) H'
theorem law_callT {P : Program} {w : World} {K : PySem.W.Frag} {mg mb : Str → Option Value} {k : Nat} {fa a c Pt : Addr} {fd : FuncData} {x : Str} {s₁ : Shared} {vs : List Value} {ns : List Int}
    (KX : K.In s₁.heap) (hns : s₁.heap.Ns mainGlobals mg) (hb : s₁.heap.Ns builtinsNs mb) (hbb : ∀ x : Str, x ≠ "__name__" → mb x = bootBuiltins x) (hlim : s₁.heap.NoLimit) (hg : s₁.gens = #[]) (hBM : BM mg s₁.heap)
    (ha : s₁.heap.get? a = some { cls := .type "list", data := .seq vs.toArray }) (hi : IntsAre vs ns) (hl : ns.length ≤ 63) (hr : Room k callerA) (hC : CodeHd s₁.heap c Pt) (hPt : s₁.heap.get? Pt = some (tabObj #[])) (hKP : K.lookup Pt = none)
    (F : ∀ base : Heap, K.In base → base.Ns mainGlobals mg → BM mg base → FnOk P w K mg base CX0 k fa fd [x] (spLawT K Pt)) (hbind : ∀ (s : Shared) (u : Value), BindsTo s fd ⟨[u], []⟩ [(x, u)]) :
    codeAny (model P w) callerA (.call (.ref fa) ⟨[.ref a], []⟩) (fun r s' => r = .ok (.ret (.bool true)) ∧ OldK s₁.heap s'.heap ∧ s'.os = s₁.os ∧ AllBare s'.gens) s₁ := by
  have rv := vals_ints hi
  have lenV := hi.length
  have hlz : ns.length ≤ sizeLine := Nat.le_trans hl (by decide)
  have aP : a ≠ Pt := by rintro rfl; rw [ha] at hPt; cases hPt
  have core : ∀ H : Hp, (∀ b, b ≠ a → b ≠ Pt → H b = none) → (H a = none ∨ ∃ o xs, H a = some (.frz o (.lst xs))) → H Pt = some (.tbl #[]) → SqL K H a (ns.map V.int) → HOk P w H s₁.heap → (H a ≠ none → K.lookup a = none) →
      codeAny (model P w) callerA (.call (.ref fa) ⟨[.ref a], []⟩) (fun r s' => r = .ok (.ret (.bool true)) ∧ OldK s₁.heap s'.heap ∧ s'.os = s₁.os ∧ AllBare s'.gens) s₁ := by
    intro H hO hA hT hS hok hK
    have base_of : ∀ {b : Addr} {o : Obj}, s₁.heap.get? b = some o → H b = none → (hidT s₁.heap H).get? b = some o := fun e n => hidT_get e n
    have noA : ∀ {b : Addr} {o : Obj}, s₁.heap.get? b = some o → (∀ xs n, o.data ≠ .seq xs n) → (∀ xs, o.data ≠ .fields xs) → H b = none := fun {b o} e d1 d2 => by
      refine hO b (fun z => ?_) fun z => ?_
      · rw [z, ha] at e; cases e; exact d1 _ _ rfl
      · rw [z, hPt] at e; cases e; exact d2 _ rfl
    have nsK : ∀ {b : Addr} {m : Str → Option Value}, s₁.heap.Ns b m → (hidT s₁.heap H).Ns b m := fun {b m} ⟨o, es, ep, e, d, r⟩ => ⟨o, es, ep, base_of e (noA e (fun _ _ z => by rw [d] at z; cases z) fun _ z => by rw [d] at z; cases z), d, r⟩
    have hKb : K.In (hidT s₁.heap H) := fun b o e => base_of (KX b o e) (by
      by_cases h1 : b = a
      · subst h1
        cases q : H b with
        | none => rfl
        | some u => rw [hK (by rw [q]; simp)] at e; cases e
      · by_cases h2 : b = Pt
        · subst h2; rw [hKP] at e; cases e
        · exact hO b h1 h2)
    have hM : Mod K mg (hidT s₁.heap H) := ⟨hKb, nsK hns, ⟨mb, nsK hb, hbb⟩, let ⟨mc, h1, h2⟩ := hlim; ⟨mc, nsK h1, h2⟩⟩
    have hBb : BM mg (hidT s₁.heap H) := by
      obtain ⟨bm, ob, b1, b2, b3, b4, b5, b6⟩ := hBM
      exact ⟨bm, ob, b1, b2, base_of b3 (noA b3 (fun _ _ z => by rw [b6] at z; cases z) fun _ z => by rw [b6] at z; cases z), b4, b5, b6⟩
    have e0 : Env0 P w K mg (hidT s₁.heap H) callerA [] s₁ H := ⟨rfl, hM, fun b o e => of_hidT e, Nat.le_of_eq (hidT_size _ _), trivial, fun b hb => absurd (show b ∈ ([] : List Addr) from hb) (by simp), hok, .of_eq hg⟩
    refine codeAny_mono ((F _ hKb (nsK hns) hBb).run callerA [] s₁ H ⟨[.ref a], []⟩ [.ref a] [.ref a] (fun v _ => v = .bl true) E0 hr e0 (hbind s₁ (.ref a)) (.cons rfl .nil) ⟨a, ns, rfl, hS, hl, hT, fun _ => rfl⟩) fun r s' h => ?_
    cases r with
    | error e => exact False.elim h
    | ok fl =>
      cases fl with
      | next => exact False.elim h
      | brk => exact False.elim h
      | cont => exact False.elim h
      | ret u =>
        obtain ⟨v, H', os, bare, un, hok', r', q⟩ := h
        have q' : v = .bl true := q
        subst q'
        obtain rfl : u = Value.bool true := r'
        obtain ⟨more, hmore⟩ := un.tbls Pt _ hT
        have hPt' : s'.heap.get? Pt = some (tabObj (#[] ++ more)) := hok' Pt _ hmore
        have keep : ∀ b o, b ≠ Pt → s₁.heap.get? b = some o → s'.heap.get? b = some o := fun b o hb e => by
          cases q : H b with
          | none => exact un.keep b o e q (by intro z; exact absurd (show b ∈ ([] : List Addr) from z) (by simp)) (by simp)
          | some u =>
            have hba : b = a := Classical.byContradiction fun z => by rw [hO b z hb] at q; cases q
            subst hba
            rcases hA with z | ⟨ob, xs, z⟩
            · rw [q] at z; cases z
            · have z2 := un.frzs b ob _ z
              obtain ⟨e1, _⟩ := hok b _ z
              obtain ⟨e2, _⟩ := hok' b _ z2
              rw [e] at e1; cases e1
              exact e2
        refine ⟨rfl, ⟨fun b o e => ?_, fun b o e => ?_⟩, os, bare⟩
        · by_cases hb : b = Pt
          · subst hb
            rw [hPt] at e
            cases e
            exact .inr (.inl ⟨(hC.tab hPt).isCodeTable, rfl, #[], more, rfl, hPt'⟩)
          · exact .inl (keep b o hb e)
        · by_cases hb : b = Pt
          · exact ⟨_, hb ▸ hPt'⟩
          · exact ⟨o, keep b o hb e⟩
  cases hk : K.lookup a with
  | some o =>
    have e := KX a o hk
    rw [ha] at e
    cases e
    refine core (fun b => if b = Pt then some (.tbl #[]) else none) (fun b _ h2 => if_neg h2) (.inl (if_neg aP)) (if_pos rfl) (.inr ⟨_, vs.toArray, _, hk, rfl, rfl, rfl, by rw [List.size_toArray, lenV]; exact hlz, by simpa using rv⟩) (fun b u z => ?_) fun z => absurd (if_neg aP) z
    by_cases hb : b = Pt
    · have z' := (if_pos hb).symm.trans z
      cases z'
      subst hb
      exact hPt
    · have z' := (if_neg hb).symm.trans z
      cases z'
  | none =>
    refine core (fun b => if b = a then some (.frz { cls := .type "list", data := .seq vs.toArray } (.lst (ns.map V.int))) else if b = Pt then some (.tbl #[]) else none) (fun b h1 h2 => by simp [h1, h2]) (.inr ⟨_, _, if_pos rfl⟩) (by simp [aP.symm]) (.inl (.inr ⟨{ cls := .type "list", data := .seq vs.toArray }, if_pos rfl⟩)) (fun b u z => ?_) fun _ => hk
    by_cases hb : b = a
    · have z' := (if_pos hb).symm.trans z
      cases z'
      subst hb
      exact ⟨ha, by rw [List.length_map]; exact hlz, vs, _, rv, ha⟩
    · have z := (if_neg hb).symm.trans z
      by_cases hb2 : b = Pt
      · have z' := (if_pos hb2).symm.trans z
        cases z'
        subst hb2
        exact hPt
      · have z' := (if_neg hb2).symm.trans z
        cases z'
end L2
namespace Pc
open PySem L2 Srt
theorem walkT {l : PySem.W.OpenLaw} {q : Program} {loose : List Str} {XP : (Str → Option Value) → Heap → Prop} {YP : World → Heap → Prop} {d : DefRec} {K : Params → PySem.W.Frag} {ts : List Addr} {k : Nat} (hk : k ≤ 40) (hn : l.most = some 63) (hdf : d.params.defaults = [])
    (hY : ∀ (w : World) (h : Heap), YP w h → (K w.params).In h ∧ ∀ P ∈ ts, h.get? P = some (PySem.W.tabObj #[]))
    (F : ∀ (T : List Addr), T = ts → ∀ (w : World) (mg : Str → Option Value) (fa : Addr) (h : Heap), (K w.params).In h → h.Ns mainGlobals mg → mg d.name = some (.ref fa) →
      ∃ (fd : FuncData) (c Pt : Addr), Pt ∈ T ∧ PySem.W.codeHdIn (K w.params) c Pt = true ∧ (K w.params).lookup Pt = none ∧ (∀ (s : Shared) (u : Value), BindsTo s fd ⟨[u], []⟩ [("_law_script", u)]) ∧ ∀ base : Heap, (K w.params).In base → base.Ns mainGlobals mg → BM mg base → FnOk l.prog w (K w.params) mg base CX0 k fa fd ["_law_script"] (spLawT (K w.params) Pt)) :
    PySem.W.WalkO q loose XP YP l.row.toRowW d [] (fun f vs => PySem.call f vs) := by
  refine Att.attach_call hn hdf fun w s₀ s₁ mg mb fa o pm cd doc a vs ns G Y ho hd hcd hmg hobj hints hlen hg => ?_
  obtain ⟨KX, hT⟩ := hY w _ Y
  obtain ⟨fd, c, Pt, hP, hC, hKP, hb, hF⟩ := F ts rfl w mg fa _ KX G.T.g hmg
  exact law_callT KX G.T.g G.T.b G.T.builtins G.T.nolimit hg G.T.bmain hobj hints hlen (Room.mono (k := 40) ⟨rfl, by decide, by decide⟩ hk) (PySem.W.codeHd_of_K KX hC) (hT Pt hP) hKP hF hb
end Pc
set_option Elab.async false
set_option linter.all false
set_option maxRecDepth 100000
set_option maxHeartbeats 4000000
namespace L2
open PySem PySem.W PySem.Spec PyProof.Rows Srt Pc
end L2
set_option Elab.async false
set_option linter.all false
set_option maxRecDepth 100000
set_option maxHeartbeats 4000000
namespace L2
open PySem PySem.W PySem.Spec PyProof.Rows Srt Pc
theorem Tb.up {P : Addr} {lp : Pos} {ql : Str} {H H' : Hp} (h : Tb P lp ql H) (s : Same H H') : Tb P lp ql H' := by
  obtain ⟨ps, e, t, c⟩ := h
  refine ⟨ps, s _ _ e, t, ?_⟩
  rcases c with c | ⟨c', c1, c2⟩
  · exact .inl c
  · exact .inr ⟨c', c1, s _ _ c2⟩
theorem Grows.keep {P : Addr} {lp : Pos} {ql : Str} {H H' : Hp} (g : Grows P lp ql H H') (t : Tb P lp ql H) {b : Addr} {o : HO} (e : H b = some o) (ho : ∀ ps, o ≠ .tbl ps) : H' b = some o := by
  refine g.1 b o (fun z => ?_) e
  obtain ⟨ps, e2, _⟩ := t
  rw [z, e2] at e
  exact ho ps (Option.some.inj e).symm
theorem Grows.free {P : Addr} {lp : Pos} {ql : Str} {H H' : Hp} (g : Grows P lp ql H H') {p : Addr} (e : H' p = none) : H p = none := by
  cases q : H p with
  | none => rfl
  | some o =>
    by_cases z : p = P
    · obtain ⟨ps, e2, _⟩ := g.2
      rw [z, e2] at e; cases e
    · rw [g.1 p o z q] at e; cases e
theorem Grows.cs {P : Addr} {lp : Pos} {ql : Str} {H H' : Hp} (g : Grows P lp ql H H') (t : Tb P lp ql H) {zs : List V} {cs : List C3} (h : Cs H zs cs) : Cs H' zs cs := Paired.mapP h fun _ _ ⟨a, e, q⟩ => ⟨a, e, g.keep t q (fun _ z => nomatch z)⟩
theorem Same.grows {P : Addr} {lp : Pos} {ql : Str} {H H' H2 : Hp} (s : Same H H') (g : Grows P lp ql H' H2) : Grows P lp ql H H2 := ⟨fun b o hb e => g.1 b o hb (s _ _ e), g.2⟩
theorem Grows.same {P : Addr} {lp : Pos} {ql : Str} {H H' H2 : Hp} (g : Grows P lp ql H H') (s : Same H' H2) : Grows P lp ql H H2 := ⟨fun b o hb e => s _ _ (g.1 b o hb e), g.2.up s⟩
theorem tb_none {P : Addr} {lp : Pos} {ql : Str} {H : Hp} (h : H P = some (.tbl #[])) : Tb P lp ql H := ⟨#[], h, trivial, .inl rfl⟩
end L2
namespace Pc
open PySem L2 Srt
def kyF (cs : List C3) (g : C3) (c : C3) : Int × Int := (lvl (PF cs g) c, c.z)
structure FOrd (cs : List C3) (g : C3) (ds : List C3) : Prop where
  perm : ds.Perm ((PF cs g).map (·.1))
  asc : ds.Pairwise (fun c d => HT.lexLt (keyL (kyF cs g) d) (keyL (kyF cs g) c) = false)
def spFilled (K : PySem.W.Frag) (P : Addr) (lp : Pos) (ql : Str) : Sp := fun vs H Q _ => ∃ (a g : Addr) (ys : List V) (cs : List C3) (gc : C3), vs = [.ref a, .ref g] ∧ SqL K H a ys ∧ Cs H ys cs ∧ cs.length ≤ 1000 ∧ H g = some (.tup gc.v) ∧ gc ∈ cs ∧ Tb P lp ql H ∧
  ∀ p zs ds H', Grows P lp ql H H' → H p = none → H' p = some (.lst zs) → Cs H' zs ds → FOrd cs gc ds → Q (.ref p) H'
end Pc
namespace Pc
open PySem L2 Srt
theorem fnC_mk {K : PySem.W.Frag} {h : Heap} {mg : Str → Option Value} {x : Str} {st : Stmt} {f c P : Addr} {oc kV dc pm ct : Value} {od an : Option Addr} {sl : Array (Option Value)} {ps : List Str} {od2 : Option Addr} {vs : Array Value} {sl2 : Array (Option Value)} (X : K.In h) (G : h.Ns mainGlobals mg)
    (a : PySem.W.nsIn K mainGlobals x = some (some (.ref f))) (l : K.lookup f = some ⟨oc, od, .func (PySem.W.fnOf x x (defArgs st) (defBody st) (defScope st) .none kV dc pm an (.ref c) ct), sl⟩) (cc : PySem.W.codeIn K (.ref c) x = true) (k : PySem.W.keepIn K (.ref f) = true)
    (b : ∀ (kV doc pm : Value) (an : Option Addr) (cdv ct : Value) (us : List Value), us.length = ps.length → bindArgs (PySem.W.fnOf x x (defArgs st) (defBody st) (defScope st) .none kV doc pm an cdv ct) ⟨us, []⟩ = pure (ps.zip us))
    (m : K.lookup c = some ⟨.type "code", od2, .fields vs, sl2⟩) (p : vs[11]? = some (.ref P)) (hh : PySem.W.codeHdIn K c P = true) (hn : K.lookup P = none) {T : List Addr} (hm : P ∈ T) : ∃ f fd c p, Fn K mg x st f fd ps ∧ (fd.code = .ref c ∧ PySem.W.codeHdIn K c p = true) ∧ K.lookup p = none ∧ p ∈ T :=
  ⟨f, _, c, P, ⟨fun_mk l cc k, (fun_mk l cc k).binds b, PySem.W.mg_of X G a, fun s us hl => .of_eq (b _ _ _ _ _ _ us hl)⟩, ⟨rfl, hh⟩, hn, hm⟩
end Pc
namespace Pc
open PySem L2 Srt
def tv (L : PL) (c : C3) : V := if c ∈ L.map (·.1) then .int (lvl L c) else .non
structure TD (lk : List (List Key × V)) (ts : List C3) (L : PL) : Prop where
  kd : KD lk ts
  val : ∀ c ∈ ts, valV lk (keyC c) = some (tv L c)
theorem TD.put {lk : List (List Key × V)} {ts : List C3} {L : PL} (h : TD lk ts L) (c : C3) : TD (putK lk (keyC c) (tv L c)) (addC ts c) L := by
  refine ⟨kd_addC h.kd, fun x hx => ?_⟩
  rw [valV_put]
  by_cases e : keyC x = keyC c
  · rw [if_pos e, keyC_inj e]
  · rw [if_neg e]
    rcases mem_addC.mp hx with z | z
    · exact h.val x z
    · exact absurd (by rw [z]) e
def M3 (H : Hp) (v : V) (x : Int × Int × C3) : Prop := ∃ a q, v = .ref a ∧ H a = some (.tup [.int x.1, .int x.2.1, .ref q]) ∧ H q = some (.tup x.2.2.v)
instance : Rep M3 := ⟨fun s ⟨a, b, e, q, r⟩ => ⟨a, b, e, s _ _ q, s _ _ r⟩, fun h' ⟨a, b, e, q, r⟩ => ⟨a, b, e, lk_kind h' (by intro z; cases z) q, lk_kind h' (by intro z; cases z) r⟩⟩
end Pc
namespace Pc
open PySem L2 Srt
theorem atI_last {α : Type} {xs : List α} (h : xs ≠ []) : atI xs (-1) = some (xs.getLast h) := by
  have hl : 0 < xs.length := List.length_pos_iff.mpr h
  have e : ixN xs.length (-1) = some (xs.length - 1) := by
    unfold ixN
    rw [if_neg (by omega), if_pos (by omega)]
    congr 1
    omega
  unfold atI
  rw [e]
  show xs[xs.length - 1]? = _
  rw [List.getLast_eq_getElem, List.getElem?_eq_getElem (by omega)]
theorem cs_last {H : Hp} {zs : List V} {cs : List C3} (h : Cs H zs cs) (hn : cs ≠ []) : ∃ q c, atI zs (-1) = some (.ref q) ∧ H q = some (.tup c.v) ∧ c ∈ cs := by
  have hl := h.len
  have hp : 0 < cs.length := List.length_pos_iff.mpr hn
  have hz : zs ≠ [] := fun z => by rw [z] at hl; simp at hl; omega
  have e : zs[zs.length - 1]? = some (zs.getLast hz) := by rw [List.getLast_eq_getElem, List.getElem?_eq_getElem (by omega)]
  obtain ⟨c, hc, q, hq, hh⟩ := h.get e
  exact ⟨q, c, by rw [atI_last hz, hq], hh, List.mem_of_getElem? hc⟩
end Pc
set_option Elab.async false
set_option linter.all false
set_option maxRecDepth 100000
set_option maxHeartbeats 4000000
namespace Pc
open PySem L2 Srt
def spAskedT (K : PySem.W.Frag) (P : Addr) (lp : Pos) (ql : Str) : Sp := fun vs H Q _ => ∃ (x : Addr) (ns : List Int), vs = [.ref x] ∧ SqL K H x (ns.map V.int) ∧ ns.length ≤ 200 ∧ Tb P lp ql H ∧ ∀ H', Q (.bl true) H'
def spHollowM (K : PySem.W.Frag) : Sp := fun vs H Q _ => ∃ (x : Addr) (ns : List Int), vs = [.ref x] ∧ SqL K H x (ns.map V.int) ∧ ns.length ≤ 200 ∧ ∀ p zs cs H', Same H H' → H p = none → H' p = some (.lst zs) → Cs H' zs cs → cs ≠ [] → cs.length ≤ 900 → Asc cs → cs.Nodup → Q (.ref p) H'
theorem cut_14 (ns : List Int) : (cutX ns (some 2) (some 14)).length ≤ 12 := by
  unfold cutX
  rw [List.length_take]
  have h1 : HT.sIx ns.length ns.length (some 14) ≤ 14 := by simp [HT.sIx]; omega
  have h2 : HT.sIx ns.length 0 (some 2) = min 2 ns.length := by simp [HT.sIx]
  have h3 : HT.sIx ns.length ns.length (some 14) ≤ ns.length := by simp [HT.sIx]; omega
  omega
section
variable {cs : List C3} {g : C3}
theorem lv_of {L : PL} (hn : (L.map (·.1)).Nodup) {c : C3} (h : c ∈ L.map (·.1)) : ∃ p ∈ L, p.1 = c ∧ lvl L c = p.2.1 := by
  obtain ⟨p, hp, e⟩ := List.mem_map.mp h
  exact ⟨p, hp, e, by rw [← e]; exact lvl_mem hn hp⟩
theorem pf_by (hg : g ∈ cs) {c d : C3} (hc : c ∈ (PF cs g).map (·.1)) (hd : d ∈ nbL c) (hdc : d ∈ cs) : d ∈ (PF cs g).map (·.1) ∧ lvl (PF cs g) d ≤ max (lvl (PF cs g) c) d.z := by
  obtain ⟨⟨m, pin⟩, relax⟩ := pf_end hg
  obtain ⟨p, hp, e, el⟩ := lv_of pin.nd hc
  obtain ⟨r, hr, er, hle⟩ := relax p hp d (by rw [e]; exact mem_nbL.mp hd) hdc
  refine ⟨List.mem_map.mpr ⟨r, hr, er⟩, ?_⟩
  rw [el, ← er, lvl_mem pin.nd hr, er]
  exact hle
theorem nbL_symm {c d : C3} (h : d ∈ nbL c) : c ∈ nbL d := mem_nbL.mpr (nb_symm (mem_nbL.mp h))
theorem pf_not (hg : g ∈ cs) {c d : C3} (hcc : c ∈ cs) (hc : c ∉ (PF cs g).map (·.1)) (hd : d ∈ nbL c) : d ∉ (PF cs g).map (·.1) := fun h => hc (pf_by hg h (nbL_symm hd) hcc).1
theorem pf_hi (hg : g ∈ cs) {c : C3} (hc : c ∈ (PF cs g).map (·.1)) : c.z ≤ lvl (PF cs g) c := by
  obtain ⟨⟨m, pin⟩, _⟩ := pf_end hg
  obtain ⟨p, hp, e, el⟩ := lv_of pin.nd hc
  obtain ⟨i, hi⟩ := List.getElem?_of_mem hp
  have := (pf_rung pin hg i p hi).1
  rw [el, ← e]
  exact this
theorem pf_low (hg : g ∈ cs) {c : C3} (hc : c ∈ (PF cs g).map (·.1)) (hne : c ≠ g) : ∃ d ∈ nbL c, d ∈ cs ∧ d ∈ (PF cs g).map (·.1) ∧ lvl (PF cs g) d ≤ lvl (PF cs g) c := by
  obtain ⟨⟨m, pin⟩, _⟩ := pf_end hg
  obtain ⟨p, hp, e, el⟩ := lv_of pin.nd hc
  obtain ⟨i, hi⟩ := List.getElem?_of_mem hp
  rcases pin.chn i p hi with z | ⟨j, q, _, h2, _, h4, h5⟩
  · exact absurd (by rw [← e, z]) hne
  · have hq := List.mem_of_getElem? h2
    refine ⟨q.1, mem_nbL.mpr (by rw [← e]; exact nb_symm h4), pin.sub q hq, List.mem_map.mpr ⟨q, hq, rfl⟩, ?_⟩
    rw [el, lvl_mem pin.nd hq, h5]
    omega
end
theorem filt_len {ts ds : List C3} {L : PL} (hn : ts.Nodup) (hd : ds.Nodup) (hm : ∀ c, c ∈ ds ↔ c ∈ L.map (·.1)) (hs : ∀ c ∈ L.map (·.1), c ∈ ts) : (ts.filter fun c => decide (c ∈ L.map (·.1))).length = ds.length := by
  refine List.Perm.length_eq ((List.perm_ext_iff_of_nodup (hn.filter _) hd).mpr fun c => ?_)
  rw [List.mem_filter, decide_eq_true_iff, hm]
  exact ⟨fun h => h.2, fun h => ⟨hs c h, h⟩⟩
theorem filt_nil {cs : List C3} {p : C3 → Bool} (h : ∀ c ∈ cs, p c = false) : cs.filter p = [] := List.filter_eq_nil_iff.mpr fun c hc => by rw [h c hc]; decide
end Pc
set_option Elab.async false
set_option linter.all false
set_option maxRecDepth 100000
set_option maxHeartbeats 4000000
local macro_rules | `(tactic| walk_at "lk") => `(tactic| first | assumption | exact L2.upd_same | ((apply L2.lk_old); (assumption); (walk_at "lk")) | ((apply L2.lk_same); (assumption); (walk_at "lk")) | ((apply L2.lk_ne); (assumption); (walk_at "lk")))
local macro_rules | `(tactic| walk_at "sq") => `(tactic| first | assumption | ((with_reducible apply L2.SqL.of); (walk_at "lk")) | ((with_reducible apply L2.SqT.of); (walk_at "lk")) | ((with_reducible apply L2.sqL_new); (assumption); (walk_at "sq")) | ((with_reducible apply L2.sqT_new); (assumption); (walk_at "sq")) | ((with_reducible apply L2.Same.seq); (assumption); (walk_at "sq")) | ((with_reducible apply L2.sqT_up); (assumption); (walk_at "sq")))
local macro_rules | `(tactic| walk_at "sz") => `(tactic| first | exact Pc.le0 | exact Pc.le1 | exact Pc.le2 | exact Pc.le3 | exact Pc.le4 | exact Pc.le5 | exact Pc.le6)
local macro_rules | `(tactic| walk_at "rd1") => `(tactic| first
  | with_reducible refine L2.rd_seq ?_
  | with_reducible refine L2.rd_asg ?_
  | with_reducible refine L2.rd_gname ?_
  | ((with_reducible apply L2.rd_var); (exact rfl))
  | with_reducible refine L2.rd_c ?_
  | with_reducible refine L2.rd_op ?_
  | with_reducible refine L2.rd_un ?_
  | with_reducible refine L2.rd_i0 ?_
  | ((with_reducible refine L2.rd_mod ?_ ?_); (first | decide | omega))
  | ((with_reducible refine L2.rd_fdiv ?_ ?_); (first | decide | (constructor <;> omega)))
  | ((with_reducible refine L2.rd_mulR ?_ ?_); (first | decide | (constructor <;> omega)))
  | ((with_reducible refine L2.rd_pow ?_ ?_); (decide))
  | with_reducible refine L2.rd_u ?_
  | with_reducible refine L2.rd_eqI ?_
  | with_reducible refine L2.rd_neI ?_
  | with_reducible refine L2.rd_test ?_
  | with_reducible refine L2.rd_tb ?_
  | with_reducible refine L2.rd_bl ?_
  | with_reducible refine L2.rd_ifs ?_
  | with_reducible refine L2.rd_and ?_
  | with_reducible refine L2.rd_or ?_
  | with_reducible refine L2.rd_not ?_
  | with_reducible refine L2.rd_next ?_
  | with_reducible refine L2.rd_ret ?_
  | with_reducible refine L2.rd_drop ?_
  | with_reducible refine L2.rd_nil ?_
  | with_reducible refine L2.rd_cons ?_
  | with_reducible refine L2.rd_tup ?_
  | with_reducible refine L2.rd_lst ?_
  | with_reducible refine L2.rd_call ?_
  | with_reducible refine L2.rd_cb ?_
  | with_reducible refine L2.rd_bm ?_
  | with_reducible refine L2.rd_bm0 ?_
  | with_reducible refine L2.rd_sl ?_
  | with_reducible refine L2.rd_nop ?_
  | with_reducible refine L2.rd_part ?_
  | with_reducible refine L2.rd_int ?_
  | ((with_reducible apply L2.rd_ixLn); (walk_at "sq"); (exact rfl))
  | ((with_reducible apply L2.rd_ixTn); (walk_at "sq"); (exact rfl))
  | with_reducible refine L2.rd_true ?_
  | with_reducible refine L2.rd_false ?_
  | with_reducible refine L2.rd_ntrue ?_
  | with_reducible refine L2.rd_nfalse ?_
  | with_reducible refine L2.rd_abs ?_
  | with_reducible refine L2.rd_max2 ?_
  | ((with_reducible apply L2.rd_lenL); (walk_at "sq"))
  | ((with_reducible apply L2.rd_listT); (walk_at "sq"))
  | ((with_reducible apply L2.rd_tupL); (walk_at "sq"))
  | ((with_reducible apply L2.rd_sll); (walk_at "sq"))
  | with_reducible refine L2.rd_for ?_
  | with_reducible refine L2.rd_comp ?_
  | with_reducible refine L2.rd_ilist ?_
  | ((with_reducible apply L2.rd_il); (walk_at "sq"))
  | with_reducible refine L2.rd_irng1 ?_
  | ((with_reducible refine L2.rd_ir1 ?_ ?_ ?_); (first | decide | omega); (first | decide | omega))
  | with_reducible refine L2.rd_dget ?_
  | with_reducible refine L2.rd_pnil ?_
  | with_reducible refine L2.rd_pcons ?_
  | with_reducible refine L2.rd_notNr ?_
  | with_reducible refine L2.rd_dput ?_
  | with_reducible refine L2.rd_din ?_
  | with_reducible refine L2.rd_dnotin ?_
  | with_reducible refine L2.rd_dnewT ?_
  | with_reducible refine L2.rd_gsub ?_
  | with_reducible refine L2.rd_truthx ?_
  | with_reducible refine L2.rd_compD ?_
  | with_reducible refine L2.rd_isNn ?_
  | with_reducible refine L2.rd_notNn ?_
  | with_reducible refine L2.rd_isNi ?_
  | with_reducible refine L2.rd_notNi ?_)
local macro_rules | `(tactic| walk_at "rd") => `(tactic| repeat walk_at "rd1")
local macro_rules | `(tactic| walk_at "rdE") => `(tactic| repeat (first
  | with_reducible refine L2.rd_asg ?_
  | with_reducible refine L2.rd_gname ?_
  | ((with_reducible apply L2.rd_var); (exact rfl))
  | with_reducible refine L2.rd_c ?_
  | with_reducible refine L2.rd_op ?_
  | with_reducible refine L2.rd_i0 ?_
  | ((with_reducible refine L2.rd_mod ?_ ?_); (first | decide | omega))
  | ((with_reducible refine L2.rd_fdiv ?_ ?_); (first | decide | (constructor <;> omega)))
  | with_reducible refine L2.rd_int ?_
  | with_reducible refine L2.rd_next ?_))
namespace P74
open PySem L2 Srt Pc
def top (i : Nat) : Stmt := PySem.Challenge.pw_pourhall_k74_whole_least_levels.main.body.getD i (.Pass ⟨0, 0, 0, 0⟩)
abbrev s_along : Stmt := top 3
abbrev s_placed : Stmt := top 4
abbrev s_next_cell : Stmt := top 5
abbrev s_neighbours : Stmt := top 6
abbrev s_marked : Stmt := top 8
abbrev s_followed : Stmt := top 10
abbrev s_taken_lowest : Stmt := top 12
abbrev s_poured : Stmt := top 13
abbrev s_level : Stmt := top 14
abbrev s_way_to : Stmt := top 15
abbrev s_filled : Stmt := top 16
abbrev s__law_cell_at : Stmt := top 18
abbrev s__law_mix : Stmt := top 19
abbrev s__law_bar : Stmt := top 20
abbrev s__law_body : Stmt := top 21
abbrev s__law_hollow : Stmt := top 22
abbrev s__law_beside : Stmt := top 23
abbrev s__law_asked_so : Stmt := top 24
abbrev s__law_wide : Stmt := top 25
abbrev s_law : Stmt := top 26
structure Ad where
  a_PLACES : Addr
  a_WAYS : Addr
  f_along : Addr
  d_along : FuncData
  f_placed : Addr
  d_placed : FuncData
  f_next_cell : Addr
  d_next_cell : FuncData
  f_neighbours : Addr
  d_neighbours : FuncData
  f_marked : Addr
  d_marked : FuncData
  f_followed : Addr
  d_followed : FuncData
  f_taken_lowest : Addr
  d_taken_lowest : FuncData
  f_poured : Addr
  d_poured : FuncData
  f_level : Addr
  d_level : FuncData
  f_way_to : Addr
  d_way_to : FuncData
  f_filled : Addr
  d_filled : FuncData
  c_filled : Addr
  p_filled : Addr
  f__law_cell_at : Addr
  d__law_cell_at : FuncData
  f__law_mix : Addr
  d__law_mix : FuncData
  f__law_bar : Addr
  d__law_bar : FuncData
  f__law_body : Addr
  d__law_body : FuncData
  f__law_hollow : Addr
  d__law_hollow : FuncData
  f__law_beside : Addr
  d__law_beside : FuncData
  f__law_asked_so : Addr
  d__law_asked_so : FuncData
  f__law_wide : Addr
  d__law_wide : FuncData
  f_law : Addr
  d_law : FuncData
structure All (K : PySem.W.Frag) (w : World) (mg : Str → Option Value) (ad : Ad) : Prop where
  m_PLACES : mg "PLACES" = some (.ref ad.a_PLACES)
  t_PLACES : TopD K w ad.a_PLACES plD
  m_WAYS : mg "WAYS" = some (.ref ad.a_WAYS)
  t_WAYS : ∀ H, SqT K H ad.a_WAYS (allW.map fun u => V.str u.s)
  n_abs : mg "abs" = none
  n_len : mg "len" = none
  n_list : mg "list" = none
  n_max : mg "max" = none
  n_min : mg "min" = none
  n_range : mg "range" = none
  n_reversed : mg "reversed" = none
  n_sorted : mg "sorted" = none
  n_tuple : mg "tuple" = none
  along : Fn K mg "along" s_along ad.f_along ad.d_along ["cell", "axis"]
  placed : Fn K mg "placed" s_placed ad.f_placed ad.d_placed ["cell", "axis", "number"]
  next_cell : Fn K mg "next_cell" s_next_cell ad.f_next_cell ad.d_next_cell ["cell", "way"]
  neighbours : Fn K mg "neighbours" s_neighbours ad.f_neighbours ad.d_neighbours ["cell"]
  marked : Fn K mg "marked" s_marked ad.f_marked ad.d_marked ["cells"]
  followed : Fn K mg "followed" s_followed ad.f_followed ad.d_followed ["leads", "start"]
  taken_lowest : Fn K mg "taken_lowest" s_taken_lowest ad.f_taken_lowest ad.d_taken_lowest ["waiting"]
  poured : Fn K mg "poured" s_poured ad.f_poured ad.d_poured ["hollow", "gate"]
  level : Fn K mg "level" s_level ad.f_level ad.d_level ["hollow", "gate", "cell"]
  way_to : Fn K mg "way_to" s_way_to ad.f_way_to ad.d_way_to ["hollow", "gate", "cell"]
  filled : Fn K mg "filled" s_filled ad.f_filled ad.d_filled ["hollow", "gate"]
  cd_filled : ad.d_filled.code = .ref ad.c_filled ∧ PySem.W.codeHdIn K ad.c_filled ad.p_filled = true
  _law_cell_at : Fn K mg "_law_cell_at" s__law_cell_at ad.f__law_cell_at ad.d__law_cell_at ["_law_script", "_law_k"]
  _law_mix : Fn K mg "_law_mix" s__law_mix ad.f__law_mix ad.d__law_mix ["_law_cell", "_law_factor"]
  _law_bar : Fn K mg "_law_bar" s__law_bar ad.f__law_bar ad.d__law_bar ["_law_base", "_law_number", "_law_flat"]
  _law_body : Fn K mg "_law_body" s__law_body ad.f__law_body ad.d__law_body ["_law_script", "_law_some"]
  _law_hollow : Fn K mg "_law_hollow" s__law_hollow ad.f__law_hollow ad.d__law_hollow ["_law_script"]
  _law_beside : Fn K mg "_law_beside" s__law_beside ad.f__law_beside ad.d__law_beside ["_law_cell"]
  _law_asked_so : Fn K mg "_law_asked_so" s__law_asked_so ad.f__law_asked_so ad.d__law_asked_so ["_law_script"]
  _law_wide : Fn K mg "_law_wide" s__law_wide ad.f__law_wide ad.d__law_wide ["_law_script"]
  law : Fn K mg "law" s_law ad.f_law ad.d_law ["_law_script"]
section
variable {P : Program} {w : World} {K : PySem.W.Frag} {mg : Str → Option Value} {base : Heap} {ad : Ad}
theorem sc_along : FnScope ["cell", "axis"] ["cell", "axis"] (defScope s_along) := ⟨rfl, rfl, rfl, by decide +kernel, rfl, by decide +kernel, by decide +kernel⟩
theorem sc_placed : FnScope ["cell", "axis", "number", "numbers"] ["cell", "axis", "number"] (defScope s_placed) := ⟨rfl, rfl, rfl, by decide +kernel, rfl, by decide +kernel, by decide +kernel⟩
theorem sc_next_cell : FnScope ["cell", "way", "axis", "step"] ["cell", "way"] (defScope s_next_cell) := ⟨rfl, rfl, rfl, by decide +kernel, rfl, by decide +kernel, by decide +kernel⟩
theorem sc_neighbours : FnScope ["cell"] ["cell"] (defScope s_neighbours) := ⟨rfl, rfl, rfl, by decide +kernel, rfl, by decide +kernel, by decide +kernel⟩
theorem sc_marked : FnScope ["cells", "marks", "cell"] ["cells"] (defScope s_marked) := ⟨rfl, rfl, rfl, by decide +kernel, rfl, by decide +kernel, by decide +kernel⟩
theorem sc_followed : FnScope ["leads", "start", "way", "here"] ["leads", "start"] (defScope s_followed) := ⟨rfl, rfl, rfl, by decide +kernel, rfl, by decide +kernel, by decide +kernel⟩
theorem sc_taken_lowest : FnScope ["waiting", "lowest", "cell"] ["waiting"] (defScope s_taken_lowest) := ⟨rfl, rfl, rfl, by decide +kernel, rfl, by decide +kernel, by decide +kernel⟩
theorem sc_poured : FnScope ["hollow", "gate", "marks", "levels", "leads", "waiting", "here", "cell"] ["hollow", "gate"] (defScope s_poured) := ⟨rfl, rfl, rfl, by decide +kernel, rfl, by decide +kernel, by decide +kernel⟩
theorem sc_level : FnScope ["hollow", "gate", "cell"] ["hollow", "gate", "cell"] (defScope s_level) := ⟨rfl, rfl, rfl, by decide +kernel, rfl, by decide +kernel, by decide +kernel⟩
theorem sc_way_to : FnScope ["hollow", "gate", "cell", "leads"] ["hollow", "gate", "cell"] (defScope s_way_to) := ⟨rfl, rfl, rfl, by decide +kernel, rfl, by decide +kernel, by decide +kernel⟩
theorem sc_filled : FnScope ["hollow", "gate", "levels"] ["hollow", "gate"] (defScope s_filled) := ⟨rfl, rfl, rfl, by decide +kernel, rfl, by decide +kernel, by decide +kernel⟩
theorem sc__law_cell_at : FnScope ["_law_script", "_law_k"] ["_law_script", "_law_k"] (defScope s__law_cell_at) := ⟨rfl, rfl, rfl, by decide +kernel, rfl, by decide +kernel, by decide +kernel⟩
theorem sc__law_mix : FnScope ["_law_cell", "_law_factor"] ["_law_cell", "_law_factor"] (defScope s__law_mix) := ⟨rfl, rfl, rfl, by decide +kernel, rfl, by decide +kernel, by decide +kernel⟩
theorem sc__law_bar : FnScope ["_law_base", "_law_number", "_law_flat", "_law_spot", "_law_along", "_law_cells", "_law_k"] ["_law_base", "_law_number", "_law_flat"] (defScope s__law_bar) := ⟨rfl, rfl, rfl, by decide +kernel, rfl, by decide +kernel, by decide +kernel⟩
theorem sc__law_body : FnScope ["_law_script", "_law_some", "_law_first", "_law_base", "_law_known", "_law_number", "_law_cell"] ["_law_script", "_law_some"] (defScope s__law_body) := ⟨rfl, rfl, rfl, by decide +kernel, rfl, by decide +kernel, by decide +kernel⟩
theorem sc__law_hollow : FnScope ["_law_script"] ["_law_script"] (defScope s__law_hollow) := ⟨rfl, rfl, rfl, by decide +kernel, rfl, by decide +kernel, by decide +kernel⟩
theorem sc__law_beside : FnScope ["_law_cell", "_law_found", "_law_at", "_law_step", "_law_one"] ["_law_cell"] (defScope s__law_beside) := ⟨rfl, rfl, rfl, by decide +kernel, rfl, by decide +kernel, by decide +kernel⟩
theorem sc__law_asked_so : FnScope ["_law_script", "_law_hollow_here", "_law_gate", "_law_told", "_law_cell", "_law_row", "_law_beside_here", "_law_dry", "_law_late", "_law_near"] ["_law_script"] (defScope s__law_asked_so) := ⟨rfl, rfl, rfl, by decide +kernel, rfl, by decide +kernel, by decide +kernel⟩
theorem sc__law_wide : FnScope ["_law_script", "_law_found", "_law_number"] ["_law_script"] (defScope s__law_wide) := ⟨rfl, rfl, rfl, by decide +kernel, rfl, by decide +kernel, by decide +kernel⟩
theorem sc_law : FnScope ["_law_script"] ["_law_script"] (defScope s_law) := ⟨rfl, rfl, rfl, by decide +kernel, rfl, by decide +kernel, by decide +kernel⟩
end
end P74
namespace P74
open PySem L2 Srt Pc
section
variable {P : Program} {w : World} {K : PySem.W.Frag} {mg : Str → Option Value} {base : Heap} {ad : Ad}
theorem ok_along (L : All K w mg ad) : FnOk P w K mg base CX0 1 ad.f_along ad.d_along ["cell", "axis"] (spAlong K) := by
  refine L.along.F.okQ sc_along (fun vs H Q E h => ?_) (fun cdv A outer s H vs Q E hr h => ?_)
  · obtain ⟨a, ax, c, rfl, _⟩ := h
    rfl
  obtain ⟨a, ax, c, rfl, hS, k⟩ := h
  refine ⟨_, (qss_one (qs_ret (qe_ix (qx_tup (K := K) rfl) (qv 0) (qe_ix (qx_top (K := K) (w := w) rfl rfl) (qe_glob (v := .ref ad.a_PLACES) rfl L.m_PLACES rfl) (qv 1) (fun _ _ => rfl)) (fun _ _ => rfl)))), ?_⟩
  exact ⟨_, rfl, _, rfl, _, _, _, _, rfl, rfl, L.t_PLACES, mem_ax ax, a, _, _, _, rfl, rfl, hS, at_ax ax c, k⟩
theorem ok_placed (L : All K w mg ad) : FnOk P w K mg base CX0 1 ad.f_placed ad.d_placed ["cell", "axis", "number"] (spPlaced K) := by
  refine L.placed.F.okQ sc_placed (fun vs H Q E h => ?_) (fun cdv A outer s H vs Q E hr h => ?_)
  · obtain ⟨a, ax, c, v, rfl, _⟩ := h
    rfl
  obtain ⟨a, ax, c, v, rfl, hS, k⟩ := h
  refine ⟨_, (qss_cons (qs_set (i := 3) sc_placed.nd rfl (Or.inl rfl) (qe_callTy (qc_list (K := K) rfl) rfl L.n_list b_list (qa_cons (qv 0) qa_nil)))
    (qss_cons (qs_asg (qv 2) (qg_sub (qv 3) (qe_ix (qx_top (K := K) (w := w) rfl rfl) (qe_glob (v := .ref ad.a_PLACES) rfl L.m_PLACES rfl) (qv 1) (fun _ _ => rfl))))
    (qss_one (qs_ret (qe_callTy (qc_tuple (K := K) rfl) rfl L.n_tuple b_tuple (qa_cons (qv 3) qa_nil)))))), ?_⟩
  obtain ⟨j, ej, hj⟩ := ix_ax ax c
  refine ⟨_, rfl, a, _, rfl, .inr hS, fun l hl => ?_⟩
  refine ⟨_, rfl, _, rfl, _, rfl, _, _, _, _, rfl, rfl, L.t_PLACES, mem_ax ax, l, _, _, _, rfl, rfl, upd_same, ej, ?_⟩
  refine ⟨_, rfl, l, _, rfl, .inl ⟨SqL.of upd_same, fun p hp => ?_⟩⟩
  rw [hj]
  rw [hj] at hp
  exact k p _ (same_nw (same_up (same_nw (Same.refl H) hl) hl) hp) upd_same
theorem ok_next_cell (L : All K w mg ad) : FnOk P w K mg base CX0 2 ad.f_next_cell ad.d_next_cell ["cell", "way"] (spNext K) := by
  refine L.next_cell.F.okQ sc_next_cell (fun vs H Q E h => ?_) (fun cdv A outer s H vs Q E hr h => ?_)
  · obtain ⟨a, u, c, rfl, _⟩ := h
    rfl
  obtain ⟨a, u, c, rfl, hS, k⟩ := h
  refine ⟨_, (qss_cons (qs_set (i := 2) sc_next_cell.nd rfl (Or.inl rfl) (qe_ix qx_str (qv 1) qe_int (fun _ _ => rfl)))
    (qss_cons (qs_set (i := 3) sc_next_cell.nd rfl (Or.inl rfl) (qe_ifExp (qt_cmpR qo_eq (qe_ix qx_str (qv 1) qe_int (fun _ _ => rfl)) qe_str (nomark _)) qe_int (qe_neg qe_int)))
    (qss_one (qs_ret (qe_call ((ok_placed L).mono (by decide)) hr rfl L.placed.m L.placed.F.kp L.placed.b .nil pass0 (qa_cons (qv 0) (qa_cons (qv 2) (qa_cons (qe_op qo_add (qe_call ((ok_along L).mono (by decide)) hr rfl L.along.m L.along.F.kp L.along.b .nil pass0 (qa_cons (qv 0) (qa_cons (qv 2) qa_nil))) (qv 3)) qa_nil)))))))), ?_⟩
  obtain ⟨c1, e1, q1⟩ := way_ax u
  obtain ⟨c0, e0, q0⟩ := way_sg u
  refine ⟨_, rfl, u.s, 1, c1, rfl, rfl, way_len u, e1, ?_⟩
  rw [q1]
  refine ⟨_, rfl, u.s, 0, c0, rfl, rfl, way_len u, e0, rfl, _, rfl, ?_⟩
  rw [q0]
  have nx : u.next c = u.ax.put (u.ax.at c + sg u.up) c := rfl
  cases hu : u.up
  · refine iteF ?_
    rw [hu] at nx
    rw [nx] at k
    exact ⟨1, rfl, _, rfl, _, rfl, _, rfl, _, rfl, a, u.ax, c, rfl, hS, _, rfl, _, _, rfl, rfl, a, u.ax, c, _, rfl, hS, k⟩
  · refine iteT ?_
    rw [hu] at nx
    rw [nx] at k
    exact ⟨_, rfl, _, rfl, _, rfl, _, rfl, a, u.ax, c, rfl, hS, _, rfl, _, _, rfl, rfl, a, u.ax, c, _, rfl, hS, k⟩
theorem ok_neighbours (L : All K w mg ad) : FnOk P w K mg base CX0 3 ad.f_neighbours ad.d_neighbours ["cell"] (spNb K) := by
  refine L.neighbours.F.okQ sc_neighbours (fun vs H Q E h => ?_) (fun cdv A outer s H vs Q E hr h => ?_)
  · obtain ⟨a, c, rfl, _⟩ := h
    rfl
  obtain ⟨a, c, rfl, hS, k⟩ := h
  refine ⟨_, (qss_one (qs_ret (qe_callB (qc_sortT (K := K) rfl) rfl L.n_sorted b_sorted (qa_cons (qe_comp (N := ["way", "cell"]) ["way"] [0] rfl rfl rfl rfl (qi_tup (K := K) rfl (qe_glob (v := .ref ad.a_WAYS) rfl L.m_WAYS rfl)) (fun _ _ _ _ => (qg_name (i := 0) (by show (["way", "cell"] : List Str).Nodup; decide +kernel) rfl (Or.inl rfl))) (fun _ _ _ _ => qf_nil) (fun _ _ _ _ => (qe_call ((ok_next_cell L).mono (by decide)) hr rfl L.next_cell.m L.next_cell.F.kp L.next_cell.b .nil pass0 (qa_cons (qv 1) (qa_cons (qv 0) qa_nil))))) qa_nil)))), ?_⟩
  refine ⟨_, rfl, ⟨_, L.t_WAYS _⟩, fun acc hacc => comp_turns (n := 6) (fun i σ' H' => (∃ o, σ' = [o, some (.ref a)]) ∧ Same H H' ∧ ∃ ps, Made H' acc ps ∧ ps.map (·.2) = (allW.take i).map fun u => (u.next c).l) ?_ ?_ ?_⟩
  · exact ⟨⟨none, rfl⟩, same_nw (Same.refl H) hacc, [], ⟨upd_same, fun q hq => nomatch hq⟩, rfl⟩
  · rintro σ' H' ⟨_, s1, ps, mk, e⟩
    have e6 : allW.take 6 = allW := rfl
    rw [e6] at e
    have hl : ps.length = 6 := by have := congrArg List.length e; simpa [allW] using this
    refine ⟨itt_stop (L.t_WAYS H'), acc, ps, 3, rfl, SqL.of mk.1, mk.tps, fun q hq => ?_, by decide, by omega, by omega, fun p qs hp hq hr => ?_⟩
    · have : q.2 ∈ ps.map (·.2) := List.mem_map.mpr ⟨q, hq, rfl⟩
      rw [e] at this
      obtain ⟨u, _, eu⟩ := List.mem_map.mp this
      rw [← eu]
      rfl
    · refine k p qs _ (same_nw s1 hp) ⟨upd_same, fun q hq' => ?_⟩ (s1.free hp) ?_
      · have m := mk.2 q (hq.mem_iff.mp hq')
        rw [upd_ne (ne_of_none m hp)]
        exact m
      · refine srt_one _ _ ?_ (List.pairwise_map.mpr hr) (nbs_rise c)
        have h1 := hq.map (·.2)
        rw [e] at h1
        exact h1.trans (nbs_perm c)
  · rintro i σ' H' hi ⟨⟨o, rfl⟩, s1, ps, mk, e⟩
    refine ⟨itt_go (L.t_WAYS H') hi, fun x H2 y => ?_⟩
    obtain ⟨rfl, ex⟩ := itt_yld (L.t_WAYS H') y
    rw [List.getElem?_map] at ex
    cases eu : allW[i]? with
    | none => rw [eu] at ex; cases ex
    | some u =>
      rw [eu] at ex
      obtain rfl : V.str u.s = x := Option.some.inj ex
      dsimp only [gName, tYes]
      refine iteT ?_
      refine ⟨_, rfl, _, rfl, a, u, c, rfl, same_tup s1 hS, fun p H3 s3 e3 => ?_⟩
      have hl : (refs ps).length < sizeLine := by
        have := congrArg List.length e
        rw [List.length_map] at this ⊢
        rw [this, List.length_map, List.length_take]
        exact small1000 (by omega)
      refine ⟨_, s3 _ _ mk.1, hl, ⟨_, rfl⟩, same_up (s1.trans s3) hacc, ps ++ [(p, (u.next c).l)], ⟨?_, fun q hq => ?_⟩, ?_⟩
      · rw [upd_same]; simp [refs]
      · rcases List.mem_append.mp hq with hq | hq
        · have m := s3 _ _ (mk.2 q hq)
          rw [upd_ne (ne_of m (s3 _ _ mk.1) (by intro z; cases z))]
          exact m
        · obtain rfl : q = (p, (u.next c).l) := by simpa using hq
          rw [upd_ne (ne_of e3 (s3 _ _ mk.1) (by intro z; cases z))]
          exact e3
      · rw [List.map_append, e, List.take_add_one, eu]
        simp
theorem ok_marked (L : All K w mg ad) : FnOk P w K mg base CX0 1 ad.f_marked ad.d_marked ["cells"] (spMarked K) := by
  refine L.marked.F.okQ sc_marked (fun vs H Q E h => ?_) (fun cdv A outer s H vs Q E hr h => ?_)
  · obtain ⟨a, ys, cs, rfl, _⟩ := h
    rfl
  obtain ⟨a, ys, cs, rfl, hS, hc, hl, k⟩ := h
  refine ⟨_, (qss_cons (qs_set (i := 1) sc_marked.nd rfl (Or.inl rfl) qe_dnewT)
    (qss_cons (qs_for PassesOwn.never rfl (qi_list (K := K) rfl (qv 0)) (qg_name (i := 2) sc_marked.nd rfl (Or.inl rfl))
      (qss_one (qs_dput (hu_of hr) (qv 1) (qv 2) qe_bl rfl)))
    (qss_one (qs_ret (qv 1))))), ?_⟩
  walk_at "rd"
  intro d hd
  walk_at "rd"
  refine for_feeds (R := IsC) (H0 := H) (fun i σ H' => (∃ o, σ = [some (.ref a), some (.ref d), o]) ∧ Same H H' ∧ Marks H' d ((cs.take i).foldl addC [])) (feeds_list hS hc) (fun _ _ _ q => q.2.1) ⟨⟨_, rfl⟩, same_new hd, upd_same⟩ ?_ ?_
  · rintro σ H' ⟨⟨o, rfl⟩, s1, e1⟩
    rw [List.take_of_length_le (Nat.le_refl _)] at e1
    walk_at "rd"
    exact k d H' s1 hd e1
  · rintro i c v σ H1 H' hi ex ⟨⟨o, rfl⟩, s1, e1⟩ s2 ⟨b, rfl, eb⟩
    walk_at "rd"
    have hl2 := fold_addC_len (cs.take i)
    rw [List.length_take] at hl2
    refine marks_put (s2 _ _ e1) eb (by omega) fun e3 => ⟨⟨_, rfl⟩, same_up (s1.trans s2) hd, ?_⟩
    rw [take_snoc ex, List.foldl_append]
    exact e3
theorem ok_taken_lowest (L : All K w mg ad) : FnOk P w K mg base CX0 1 ad.f_taken_lowest ad.d_taken_lowest ["waiting"] (spTake K) := by
  refine L.taken_lowest.F.okQ sc_taken_lowest (fun vs H Q E h => ?_) (fun cdv A outer s H vs Q E hr h => ?_)
  · obtain ⟨w', kw, W, rfl, _⟩ := h
    rfl
  obtain ⟨w', kw, W, rfl, ew, wd, hne, hnl, k⟩ := h
  refine ⟨_, (qss_cons (qs_set (i := 1) sc_taken_lowest.nd rfl (Or.inl rfl) (qe_callB (qc_minK rfl) rfl L.n_min b_min (qa_cons (qv 0) qa_nil)))
    (qss_cons (qs_set (i := 2) sc_taken_lowest.nd rfl (Or.inl rfl) (qe_bm0 (K := K) rfl PySem.F.plainAttrs_list PySem.F.slot_list_pop PySem.F.type_list_pop mt_pop (qe_dget (hu_of hr) (qv 0) (qv 1) (fun _ _ => rfl))))
    (qss_cons (qs_if (qt_not (qt_truth (K := K) (qe_dget (hu_of hr) (qv 0) (qv 1) (fun _ _ => rfl)) (fun _ => rfl) rfl)) (qss_one (qs_expr (qe_dpopK (qv 0) (qv 1) ⟨rfl, rfl, rfl, rfl⟩))) qss_nil)
    (qss_one (qs_ret (qv 2)))))), ?_⟩
  obtain ⟨hlow, hmin⟩ := lowW_mem hne
  walk_at "rd"
  refine ⟨w', kw, W.map (·.1), rfl, ew, by rw [wd.key, List.map_map]; rfl, by simpa using hne, fun M h1 h2 => ?_⟩
  have hM := lowW_eq h1 h2
  subst hM
  obtain ⟨a, zs, ea1, ea2, ea3, hmem⟩ := wd.get hlow
  have hpre := pop_pre wd.nd hnl hne
  rw [hpre] at ea3
  obtain ⟨zr, v, ezs, czr, g, rfl, eg⟩ := rs_snoc ea3
  have nwa : w' ≠ a := fun z => by subst z; rw [ew] at ea2; cases ea2
  walk_at "rd"
  refine ⟨w', .ref a, rfl, .inl ⟨kw, Sum.inl (lowW W), .inl ew, rfl, ea1.symm⟩, ?_⟩
  refine ⟨.inl ⟨rfl, _, SqL.of ea2⟩, ?_⟩
  refine ⟨a, zs, .ref g, rfl, rfl, ea2, by rw [ezs]; simp, ?_⟩
  rw [ezs, List.dropLast_concat]
  have ew1 : upd H a (.lst zr) w' = some (.dK kw) := lk_ne nwa ew
  have ea4 : upd H a (.lst zr) a = some (.lst zr) := upd_same
  have eg1 : upd H a (.lst zr) g = some (.tup (popC W).v) := lk_kind ea2 (by intro z; cases z) eg
  have wd1 : WD (upd H a (.lst zr)) kw (setW W (lowW W) (atW W (lowW W)).dropLast) := wd.set ea1 ea2 czr
  have kp : ∀ b o, b ≠ w' → ¬ InW kw b → H b = some o → upd H a (.lst zr) b = some o := fun b o hb hi e => lk_ne (fun z => hi ⟨_, z ▸ ea1⟩) e
  have wdd : WD (upd H a (.lst zr)) (dropK kw (Sum.inl (lowW W))) (W.filter fun p => decide (p.1 ≠ lowW W)) := (wd.drop (lowW W)).mono (fun j b ys e1 e2 => by
      rw [valK_drop] at e1
      split at e1
      · cases e1
      · rename_i hj
        exact lk_ne (fun z => hj (wd.inj _ _ _ (z ▸ e1) ea1)) e2) fun b xs e => lk_kind ea2 (by intro z; cases z) e
  generalize upd H a (.lst zr) = H1 at *
  have hlen := czr.len
  walk_at "rd"
  refine ⟨w', .ref a, rfl, .inl ⟨kw, Sum.inl (lowW W), .inl ew1, rfl, ea1.symm⟩, ?_⟩
  refine ⟨_, (SqL.of ea4).tru, ?_⟩
  by_cases hz : (atW W (lowW W)).dropLast = []
  · have hz' : zr = [] := List.eq_nil_of_length_eq_zero (by rw [hlen, hz]; rfl)
    rw [hz', show (!([] : List V).isEmpty) = false from rfl]
    walk_at "rd"
    refine rd_dpopK ?_
    walk_at "rd"
    refine ⟨w', rfl, .inl ⟨kw, .inl ew1⟩, ?_⟩
    walk_at "rd"
    refine ⟨kw, Sum.inl (lowW W), .ref a, ew1, rfl, ea1, ?_⟩
    walk_at "rd"
    have hpw : popW W = W.filter fun p => decide (p.1 ≠ lowW W) := by unfold popW; rw [if_pos hz]
    refine k g _ _ upd_same (by rw [hpw]; exact wdd.mono (fun j b ys e1 e2 => lk_kind ew1 (by intro z; cases z) e2) fun b xs e => lk_kind ew1 (by intro z; cases z) e) (lk_kind ew1 (by intro z; cases z) eg1) (fun b ⟨j, hj⟩ => by
      rw [valK_drop] at hj
      split at hj
      · cases hj
      · exact ⟨j, hj⟩) fun b o hb hi e => lk_ne hb (kp b o hb hi e)
  · have hz' : zr ≠ [] := fun z => hz (List.eq_nil_of_length_eq_zero (by rw [← hlen, z]; rfl))
    rw [show (!zr.isEmpty) = true from by cases zr with | nil => exact absurd rfl hz' | cons _ _ => rfl]
    walk_at "rd"
    have hpw : popW W = setW W (lowW W) (atW W (lowW W)).dropLast := by unfold popW; rw [if_neg hz]
    exact k g kw H1 ew1 (by rw [hpw]; exact wd1) eg1 (fun b hb => hb) kp
end
end P74
set_option Elab.async false
set_option linter.all false
set_option maxRecDepth 100000
set_option maxHeartbeats 4000000
namespace P74
open PySem L2 Srt Pc
section
variable {P : Program} {w : World} {K : PySem.W.Frag} {mg : Str → Option Value} {base : Heap} {ad : Ad}
theorem ok_poured (L : All K w mg ad) : FnOk P w K mg base CX0 4 ad.f_poured ad.d_poured ["hollow", "gate"] (spPoured K) := by
  refine L.poured.F.okQ sc_poured (fun vs H Q E h => ?_) (fun cdv A outer s H vs Q E hr h => ?_)
  · obtain ⟨a, g, ys, cs, gc, rfl, _⟩ := h
    rfl
  obtain ⟨a, g, ys, cs, gc, rfl, ha, hca, hcl, eg, hgc, k⟩ := h
  refine ⟨_, (qss_cons (qs_set (i := 2) sc_poured.nd rfl (Or.inl rfl) (qe_call ((ok_marked L).mono (by decide)) hr rfl L.marked.m L.marked.F.kp L.marked.b .nil pass0 (qa_cons (qv 0) qa_nil)))
    (qss_cons (qs_set (i := 3) sc_poured.nd rfl (Or.inl rfl) (qe_disp1 (hu0_of hr) (qv 1) (qe_call ((ok_along L).mono (by decide)) hr rfl L.along.m L.along.F.kp L.along.b .nil pass0 (qa_cons (qv 1) (qa_cons qe_str qa_nil)))))
    (qss_cons (qs_set (i := 4) sc_poured.nd rfl (Or.inl rfl) (qe_disp1 (hu0_of hr) (qv 1) qe_non))
    (qss_cons (qs_set (i := 5) sc_poured.nd rfl (Or.inl rfl) (qe_disp (qps_cons (qe_dget (hu_of hr) (qv 3) (qv 1) (fun _ _ => rfl)) (qe_lst (qa_cons (qv 1) qa_nil)) qps_nil) rfl rfl (by simp) (by decide)))
    (qss_cons (qs_while PassesOwn.never (qt_truth (K := K) (qv 5) (fun _ => rfl) rfl)
      (qss_cons (qs_set (i := 6) sc_poured.nd rfl (Or.inl rfl) (qe_call ((ok_taken_lowest L).mono (by decide)) hr rfl L.taken_lowest.m L.taken_lowest.F.kp L.taken_lowest.b .nil pass0 (qa_cons (qv 5) qa_nil)))
    (qss_one (qs_for PassesOwn.never rfl (qi_list (K := K) rfl (qe_call ((ok_neighbours L).mono (by decide)) hr rfl L.neighbours.m L.neighbours.F.kp L.neighbours.b .nil pass0 (qa_cons (qv 6) qa_nil))) (qg_name (i := 7) sc_poured.nd rfl (Or.inl rfl))
      (qss_one (qs_if (QW.t (qw_and (qt_din (hu_of hr) (qv 7) (qv 2) rfl) (qw_and1 (qt_dnotin (hu_of hr) (qv 7) (qv 3) rfl)))) (qss_cons (qs_dput (hu_of hr) (qv 3) (qv 7) (qe_callB (qc_max2 rfl) rfl L.n_max b_max (qa_cons (qe_dget (hu_of hr) (qv 3) (qv 6) (fun _ _ => rfl)) (qa_cons (qe_call ((ok_along L).mono (by decide)) hr rfl L.along.m L.along.F.kp L.along.b .nil pass0 (qa_cons (qv 7) (qa_cons qe_str qa_nil))) qa_nil))) rfl)
    (qss_cons (qs_dput (hu_of hr) (qv 4) (qv 7) (qv 6) rfl)
    (qss_one (qs_expr (qe_bm (K := K) rfl PySem.F.plainAttrs_list PySem.F.slot_list_append PySem.F.type_list_append mt_append (qe_dsetK (qv 5) (qe_dget (hu_of hr) (qv 3) (qv 7) (fun _ _ => rfl)) (qe_lst qa_nil) ⟨rfl, rfl, rfl, rfl⟩) (qa_cons (qv 7) qa_nil)))))) qss_nil))))))
    (qss_one (qs_ret (qe_tup (qa_cons (qv 3) (qa_cons (qv 4) qa_nil)))))))))), ?_⟩
  walk_at "rd"
  refine ⟨a, ys, cs, rfl, ha, hca, by omega, fun m H1 s1 nm mk => ?_⟩
  have eg1 := s1 _ _ eg
  walk_at "rd"
  refine rd_disp1 fun lv hlv => ?_
  have sv := same_new (o := .dT []) hlv
  walk_at "rd"
  refine ⟨g, .z, gc, rfl, SqT.of (sv _ _ eg1), ?_⟩
  refine ⟨upd_same, g, keyC gc, rfl, by rw [keyC_v]; exact sv _ _ eg1, ?_⟩
  have s2 : Same H1 (upd (upd H1 lv (.dT [])) lv (.dT [(keyC gc, .int (Ax.z.at gc))])) := same_up sv hlv
  have elv2 : upd (upd H1 lv (.dT [])) lv (.dT [(keyC gc, .int (Ax.z.at gc))]) lv = some (.dT [(keyC gc, .int gc.z)]) := upd_same
  generalize upd (upd H1 lv (.dT [])) lv (.dT [(keyC gc, .int (Ax.z.at gc))]) = H2 at *
  walk_at "rd"
  refine rd_disp1 fun ld hld => ?_
  have sd := same_new (o := .dT []) hld
  walk_at "rd"
  refine ⟨upd_same, g, keyC gc, rfl, by rw [keyC_v]; exact (s2.trans sd) _ _ eg1, ?_⟩
  have s3 : Same H2 (upd (upd H2 ld (.dT [])) ld (.dT [(keyC gc, .non)])) := same_up sd hld
  have eld3 : upd (upd H2 ld (.dT [])) ld (.dT [(keyC gc, .non)]) ld = some (.dT [(keyC gc, .non)]) := upd_same
  generalize upd (upd H2 ld (.dT [])) ld (.dT [(keyC gc, .non)]) = H3 at *
  have nvd : lv ≠ ld := ne_of_none elv2 hld
  have s13 := s2.trans s3
  have elv3 := s3 _ _ elv2
  walk_at "rd"
  refine rd_disp fun wt hwt => ?_
  have sw := same_new (o := .dK []) hwt
  have eg3 : H3 g = some (.tup ((keyC gc).map kV)) := by rw [keyC_v]; exact s13 _ _ eg1
  walk_at "rd"
  refine ⟨lv, .int gc.z, rfl, .inr ⟨_, keyC gc, g, .inl (sw _ _ elv3), rfl, sw _ _ eg3, by simp [valV]⟩, ?_⟩
  walk_at "rd"
  refine ⟨le1, fun w0 hw0 => ?_⟩
  have s0 := same_new (o := .lst [.ref g]) hw0
  walk_at "rd"
  have n0w : w0 ≠ wt := fun z => by subst z; rw [upd_same] at hw0; cases hw0
  refine ⟨s0 _ _ upd_same, [(Sum.inl gc.z, .ref w0)], rfl, by show 1 ≤ 15; decide, ?_⟩
  have hw0H3 : H3 w0 = none := sw.free hw0
  have s4 : Same H3 (upd (upd (upd H3 wt (.dK [])) w0 (.lst [.ref g])) wt (.dK (mergeK [] [(Sum.inl gc.z, .ref w0)]))) := same_up (same_up sw hw0H3) hwt
  have ewt4 : upd (upd (upd H3 wt (.dK [])) w0 (.lst [.ref g])) wt (.dK (mergeK [] [(Sum.inl gc.z, .ref w0)])) wt = some (.dK [(Sum.inl gc.z, .ref w0)]) := upd_same
  have ew04 : upd (upd (upd H3 wt (.dK [])) w0 (.lst [.ref g])) wt (.dK (mergeK [] [(Sum.inl gc.z, .ref w0)])) w0 = some (.lst [.ref g]) := lk_ne n0w upd_same
  generalize upd (upd (upd H3 wt (.dK [])) w0 (.lst [.ref g])) wt (.dK (mergeK [] [(Sum.inl gc.z, .ref w0)])) = H4 at *
  have s14 := s13.trans s4
  have hlvH : H lv = none := s1.free hlv
  have hldH : H ld = none := (s1.trans s2).free hld
  have hwtH : H wt = none := (s1.trans s13).free hwt
  have hw0H : H w0 = none := (s1.trans s13).free hw0H3
  have hlvH1 : H1 lv = none := hlv
  have hldH1 : H1 ld = none := s2.free hld
  have hwtH1 : H1 wt = none := s13.free hwt
  have hw0H1 : H1 w0 = none := s13.free hw0H3
  have nvw : lv ≠ wt := ne_of_none elv3 hwt
  have ndw : ld ≠ wt := ne_of_none eld3 hwt
  have wd4 : WD H4 [(Sum.inl gc.z, .ref w0)] [(gc.z, [gc])] := by
    refine ⟨rfl, by simp, fun i j b h1 h2 => ?_, fun p hp => ?_⟩
    · unfold valV at h1 h2
      rw [List.find?_cons] at h1 h2
      by_cases e1 : (Sum.inl gc.z : Key) = i
      · by_cases e2 : (Sum.inl gc.z : Key) = j
        · rw [← e1, ← e2]
        · rw [decide_eq_false e2] at h2
          simp at h2
      · rw [decide_eq_false e1] at h1
        simp at h1
    · rw [List.mem_singleton] at hp
      subst hp
      exact ⟨w0, [.ref g], by simp [valV], ew04, .cons ⟨g, rfl, s14 _ _ eg1⟩ .nil⟩
  have mkH : H1 m = some (.dT ((cs.foldl addC []).map mk1)) := mk
  walk_at "rd"
  refine rd_while (fun mm σ H' => ∃ (o6 o7 : Option V) (n : Nat) (L : PL) (W : WQ) (k1 k2 : List (List Key × V)) (kw : List (Key × V)), σ = [some (.ref a), some (.ref g), some (.ref m), some (.ref lv), some (.ref ld), some (.ref wt), o6, o7] ∧ Same H1 H' ∧ H' lv = some (.dT k1) ∧ LVL k1 L ∧ H' ld = some (.dT k2) ∧ KD k2 (List.map (fun p : C3 × Int × Option C3 => p.1) L) ∧ KL H' k2 (lds L) ∧ H' wt = some (.dK kw) ∧ WD H' kw W ∧ (∀ b, InW kw b → H1 b = none ∧ b ≠ lv ∧ b ≠ ld ∧ b ≠ wt) ∧ PInv cs gc n (L, W) ∧ prN cs n (prI gc) = (L, W) ∧ mm + n = cs.length) cs.length
    ⟨none, none, 0, [(gc, gc.z, none)], [(gc.z, [gc])], _, _, _, rfl, s14, s4 _ _ elv3, ⟨rfl, fun p hp => by rw [List.mem_singleton] at hp; subst hp; simp [valV]⟩, s4 _ _ eld3, rfl, (fun c o hc => by
      unfold lds at hc
      simp only [List.map_cons, List.map_nil, List.mem_singleton, Prod.mk.injEq] at hc
      obtain ⟨rfl, rfl⟩ := hc
      simp [valV]), ewt4, wd4, (fun b ⟨j, hj⟩ => by
      unfold valV at hj
      rw [List.find?_cons] at hj
      by_cases e1 : (Sum.inl gc.z : Key) = j
      · rw [decide_eq_true e1] at hj
        have : w0 = b := by simpa using hj
        subst this
        exact ⟨hw0H1, fun z => (by subst z; rw [elv3] at hw0H3; cases hw0H3), fun z => (by subst z; rw [eld3] at hw0H3; cases hw0H3), n0w⟩
      · rw [decide_eq_false e1] at hj
        simp at hj), PInv.init hgc, rfl, rfl⟩ ?_
  rintro mm σ H5 ⟨o6, o7, n, L', W, k1, k2, kw, rfl, s5, elv, hlvl, eld, hkd, hkl, ewt, wd, hin, pin, hpr, hm⟩
  have hLl := pin.len
  have hcnt : wc W + n = L'.length := pin.cnt
  have hLl : L'.length ≤ cs.length := hLl
  walk_at "rd"
  refine ⟨_, .inr (.inr ⟨kw, ewt, rfl⟩), ?_⟩
  have hkwl := wd.len
  by_cases hW : W = []
  · subst hW
    have hk0 : kw = [] := List.eq_nil_of_length_eq_zero hkwl
    rw [hk0, show (!([] : List (Key × V)).isEmpty) = false from rfl]
    walk_at "rd"
    refine ⟨le2, fun t ht => ?_⟩
    have st := same_new (o := .tup [.ref lv, .ref ld]) ht
    have hpf : PF cs gc = L' := PF_eq hpr (by omega)
    refine k t lv ld k1 k2 n _ (s1.trans (s5.trans st)) upd_same (st _ _ elv) (st _ _ eld) (by rw [hpf]; exact hlvl) (by rw [hpf]; exact hkd) (by rw [hpf]; exact hkl.up fun b d q => st _ _ q) (by rw [hpf]; exact pin)
  · have hk0 : kw ≠ [] := fun z => hW (List.eq_nil_of_length_eq_zero (by rw [← hkwl, z]; rfl))
    rw [show (!kw.isEmpty) = true from by cases kw with | nil => exact absurd rfl hk0 | cons _ _ => rfl]
    walk_at "rd"
    refine ⟨_, fun _ _ q => q, ?_⟩
    walk_at "rd"
    refine ⟨wt, kw, W, rfl, ewt, wd, hW, pin.wne, fun hb kw6 H6 ewt6 wd6 eh6 hsub hkeep => ?_⟩
    obtain ⟨pin6, hpL, _⟩ := pin.pop hW
    have nlv : ¬ InW kw lv := fun z => (hin lv z).2.1 rfl
    have nld : ¬ InW kw ld := fun z => (hin ld z).2.2.1 rfl
    have elv6 := hkeep lv _ nvw nlv elv
    have eld6 := hkeep ld _ ndw nld eld
    have s6 : Same H1 H6 := fun b o e => hkeep b o (fun z => by subst z; rw [hwtH1] at e; cases e) (fun z => by rw [(hin b z).1] at e; cases e) (s5 _ _ e)
    have tup6 : ∀ b xs, H5 b = some (.tup xs) → H6 b = some (.tup xs) := fun b xs e => hkeep b _ (fun z => by subst z; rw [ewt] at e; cases e) (fun z => by
      obtain ⟨zs', f⟩ := wd.lst z
      rw [f] at e
      cases e) e
    have hkl6 : KL H6 k2 (lds L') := hkl.up fun b d q => tup6 b _ q
    have hin6 : ∀ b, InW kw6 b → H1 b = none ∧ b ≠ lv ∧ b ≠ ld ∧ b ≠ wt := fun b z => hin b (hsub b z)
    generalize hhe : popC W = here at *
    obtain ⟨q, hq, hqh⟩ := List.mem_map.mp hpL
    have hlh : lvl L' here = q.2.1 := by rw [← hqh]; exact lvl_mem pin.nd hq
    have hp1 : pr1 cs (L', W) = (nb here).foldl (prC cs here (lvl L' here)) (L', popW W) := by
      show (if W = [] then _ else _) = _
      rw [if_neg hW, hhe]
    walk_at "rd"
    refine ⟨hb, here, rfl, SqT.of eh6, fun pn ps H7 s7 mk7 hpn eps => ?_⟩
    obtain ⟨epn, cpn⟩ := cs_made mk7 eps
    walk_at "rd"
    have hG : ∃ G : Hp, Same H1 G ∧ Same G H7 ∧ G lv = none ∧ G ld = none ∧ G wt = none ∧ (∀ b, InW kw6 b → G b = none) ∧ G pn = some (.lst (refs ps)) ∧ Cs G (refs ps) (nb here) ∧ G hb = some (.tup here.v) := by
      classical
      have keep7 : ∀ b o, H7 b = some o → b ≠ lv → b ≠ ld → b ≠ wt → ¬ InW kw6 b → (if b = lv ∨ b = ld ∨ b = wt ∨ InW kw6 b then none else H7 b) = some o := fun b o e h1 h2 h3 h4 => by
        rw [if_neg (by simp [h1, h2, h3, h4])]
        exact e
      have tupn : ∀ b xs, H7 b = some (.tup xs) → b ≠ lv ∧ b ≠ ld ∧ b ≠ wt ∧ ¬ InW kw6 b := fun b xs e => by
        refine ⟨fun z => ?_, fun z => ?_, fun z => ?_, fun z => ?_⟩
        · subst z; rw [s7 _ _ elv6] at e; cases e
        · subst z; rw [s7 _ _ eld6] at e; cases e
        · subst z; rw [s7 _ _ ewt6] at e; cases e
        · obtain ⟨zs', f⟩ := wd6.lst z
          rw [s7 _ _ f] at e
          cases e
      refine ⟨fun b => if b = lv ∨ b = ld ∨ b = wt ∨ InW kw6 b then none else H7 b, fun b o e => ?_, fun b o e => ?_, by simp, by simp, by simp, fun b z => by simp [z], ?_, ?_, ?_⟩
      · refine keep7 b o ((s6.trans s7) _ _ e) (fun z => ?_) (fun z => ?_) (fun z => ?_) (fun z => ?_)
        · subst z; rw [hlvH1] at e; cases e
        · subst z; rw [hldH1] at e; cases e
        · subst z; rw [hwtH1] at e; cases e
        · rw [(hin6 b z).1] at e; cases e
      · dsimp only at e
        split at e
        · cases e
        · exact e
      · refine keep7 pn _ epn (fun z => ?_) (fun z => ?_) (fun z => ?_) (fun z => ?_)
        · subst z; rw [elv6] at hpn; cases hpn
        · subst z; rw [eld6] at hpn; cases hpn
        · subst z; rw [ewt6] at hpn; cases hpn
        · obtain ⟨zs', f⟩ := wd6.lst z
          rw [f] at hpn
          cases hpn
      · refine Paired.mapP cpn fun _ c ⟨b, x1, x2⟩ => ⟨b, x1, ?_⟩
        obtain ⟨h1, h2, h3, h4⟩ := tupn b _ x2
        exact keep7 b _ x2 h1 h2 h3 h4
      · have x2 := s7 _ _ eh6
        obtain ⟨h1, h2, h3, h4⟩ := tupn hb _ x2
        exact keep7 hb _ x2 h1 h2 h3 h4
    obtain ⟨G, sHG, sG7, gLv, gLd, gWt, gIn, gPn, gCs, gHb⟩ := hG
    refine for_feeds (R := IsC) (H0 := G) (fun j σ H' => (∃ o7, σ = [some (.ref a), some (.ref g), some (.ref m), some (.ref lv), some (.ref ld), some (.ref wt), some (.ref hb), o7]) ∧ Same G H' ∧ ∃ (Lx : PL) (Wx : WQ) (k1 k2 : List (List Key × V)) (kw : List (Key × V)), H' lv = some (.dT k1) ∧ LVL k1 Lx ∧ H' ld = some (.dT k2) ∧ KD k2 (List.map (fun p : C3 × Int × Option C3 => p.1) Lx) ∧ KL H' k2 (lds Lx) ∧ H' wt = some (.dK kw) ∧ WD H' kw Wx ∧ (∀ b, InW kw b → G b = none ∧ b ≠ lv ∧ b ≠ ld ∧ b ≠ wt) ∧ PInv cs gc (n + 1) (Lx, Wx) ∧ q ∈ Lx ∧ ((nb here).take j).foldl (prC cs here (lvl L' here)) (L', popW W) = (Lx, Wx)) (feeds_list (SqL.of gPn) gCs) (fun _ _ _ q => q.2.1)
      ⟨⟨_, rfl⟩, sG7, L', popW W, k1, k2, kw6, s7 _ _ elv6, hlvl, s7 _ _ eld6, hkd, hkl6.up (fun b d q => s7 _ _ q), s7 _ _ ewt6, wd6.up s7, (fun b z => ⟨gIn b z, (hin6 b z).2⟩), pin6, hq, rfl⟩ ?_ ?_
    · rintro σ H8 ⟨⟨o7, rfl⟩, s8, Lx, Wx, k1, k2, kw, elv8, hlvl8, eld8, hkd8, hkl8, ewt8, wd8, hin8, pin8, _, hfo⟩
      rw [List.take_of_length_le (Nat.le_refl _), ← hp1] at hfo
      walk_at "rd"
      have hc8 : wc Wx + (n + 1) = Lx.length := pin8.cnt
      have hl8 : Lx.length ≤ cs.length := pin8.len
      exact ⟨mm - 1, by omega, _, _, n + 1, Lx, Wx, k1, k2, kw, rfl, sHG.trans s8, elv8, hlvl8, eld8, hkd8, hkl8, ewt8, wd8, (fun b z => ⟨sHG.free (hin8 b z).1, (hin8 b z).2⟩), pin8, (by show pr1 cs (prN cs n (prI gc)) = _; rw [hpr]; exact hfo), by omega⟩
    · rintro j c v σ H8 H9 hj ecx ⟨⟨o7, rfl⟩, s8, Lx, Wx, k1, k2, kw, elv8, hlvl8, eld8, hkd8, hkl8, ewt8, wd8, hin8, pin8, hqx, hfo⟩ s9 ⟨g9, rfl, eg9⟩
      have hcn : c ∈ nb here := List.mem_of_getElem? ecx
      have elv9 := s9 _ _ elv8
      have eld9 := s9 _ _ eld8
      have ewt9 := s9 _ _ ewt8
      have wd9 := wd8.up s9
      have hkl9 : KL H9 k2 (lds Lx) := hkl8.up fun b d q => s9 _ _ q
      have mk9 := (sHG.trans (s8.trans s9)) _ _ mkH
      have eh9 : H9 hb = some (.tup ((keyC here).map kV)) := by rw [keyC_v]; exact (s8.trans s9) _ _ gHb
      have eg' : H9 g9 = some (.tup ((keyC c).map kV)) := by rw [keyC_v]; exact eg9
      have hfs : ((nb here).take (j + 1)).foldl (prC cs here (lvl L' here)) (L', popW W) = prC cs here (lvl L' here) (Lx, Wx) c := by rw [take_snoc ecx, List.foldl_append, hfo]; rfl
      have skip : ¬ (c ∈ cs ∧ c ∉ Lx.map (·.1)) → ∃ (Lx : PL) (Wx : WQ) (k1 k2 : List (List Key × V)) (kw : List (Key × V)), H9 lv = some (.dT k1) ∧ LVL k1 Lx ∧ H9 ld = some (.dT k2) ∧ KD k2 (List.map (fun p : C3 × Int × Option C3 => p.1) Lx) ∧ KL H9 k2 (lds Lx) ∧ H9 wt = some (.dK kw) ∧ WD H9 kw Wx ∧ (∀ b, InW kw b → G b = none ∧ b ≠ lv ∧ b ≠ ld ∧ b ≠ wt) ∧ PInv cs gc (n + 1) (Lx, Wx) ∧ q ∈ Lx ∧ ((nb here).take (j + 1)).foldl (prC cs here (lvl L' here)) (L', popW W) = (Lx, Wx) := fun hx => ⟨Lx, Wx, k1, k2, kw, elv9, hlvl8, eld9, hkd8, hkl9, ewt9, wd9, hin8, pin8, hqx, by rw [hfs]; unfold prC; rw [if_neg hx]⟩
      walk_at "rd"
      refine ⟨m, _, rfl, .inr ⟨_, keyC c, g9, .inl mk9, rfl, eg', rfl⟩, ?_⟩
      rw [val_marks]
      by_cases hc : c ∈ cs
      · rw [decide_eq_true (by simpa [mem_adds] using hc)]
        walk_at "rd"
        refine ⟨lv, _, rfl, .inr ⟨k1, keyC c, g9, .inl elv9, rfl, eg', rfl⟩, ?_⟩
        rw [kd_some c hlvl8.1]
        by_cases hd' : c ∈ Lx.map (·.1)
        · rw [decide_eq_true hd']
          walk_at "rd"
          exact ⟨⟨_, rfl⟩, s8.trans s9, skip fun z => z.2 hd'⟩
        · rw [decide_eq_false hd']
          walk_at "rd"
          have hvq : valV k1 (keyC here) = some (.int q.2.1) := by rw [← hqh]; exact hlvl8.2 q hqx
          refine ⟨lv, .int q.2.1, rfl, .inr ⟨k1, keyC here, hb, .inl elv9, rfl, eh9, hvq.symm⟩, ?_⟩
          walk_at "rd"
          refine ⟨g9, .z, c, rfl, SqT.of eg9, ?_⟩
          walk_at "rd"
          have hlx : Lx.length ≤ cs.length := pin8.len
          have hkl1 : k1.length ≤ 1000 := by have := kd_len hlvl8.1; rw [List.length_map] at this; omega
          have hkl2 : k2.length ≤ 1000 := by have := kd_len hkd8; rw [List.length_map] at this; omega
          have hmx : (if Ax.z.at c > q.2.1 then Ax.z.at c else q.2.1) = max q.2.1 c.z := by show (if c.z > q.2.1 then c.z else q.2.1) = _; split <;> omega
          rw [hmx]
          refine ⟨lv, _, rfl, dput_c elv9 eg9 (smallM (by omega)), ?_⟩
          have hnbq : c ∈ nb q.1 := by rw [hqh]; exact hcn
          have pin9 := pin8.put hqx hc hd' hnbq
          have hpc : prC cs here (lvl L' here) (Lx, Wx) c = (Lx ++ [(c, max q.2.1 c.z, some q.1)], putW Wx (max q.2.1 c.z) c) := by
            unfold prC
            rw [if_pos ⟨hc, hd'⟩, hlh, hqh]
          have hlvl9 : LVL (putK k1 (keyC c) (.int (max q.2.1 c.z))) (Lx ++ [(c, max q.2.1 c.z, some q.1)]) := hlvl8.put hd'
          have hvc : valV (putK k1 (keyC c) (.int (max q.2.1 c.z))) (keyC c) = some (.int (max q.2.1 c.z)) := by rw [valV_put, if_pos rfl]
          have eldA : upd H9 lv (.dT (putK k1 (keyC c) (.int (max q.2.1 c.z)))) ld = some (.dT k2) := lk_ne nvd.symm eld9
          have ewtA : upd H9 lv (.dT (putK k1 (keyC c) (.int (max q.2.1 c.z)))) wt = some (.dK kw) := lk_ne nvw.symm ewt9
          have egA : upd H9 lv (.dT (putK k1 (keyC c) (.int (max q.2.1 c.z)))) g9 = some (.tup c.v) := lk_kind elv9 (by intro z; cases z) eg9
          have ehA : upd H9 lv (.dT (putK k1 (keyC c) (.int (max q.2.1 c.z)))) hb = some (.tup here.v) := lk_kind elv9 (by intro z; cases z) ((s8.trans s9) _ _ gHb)
          have wdA : WD (upd H9 lv (.dT (putK k1 (keyC c) (.int (max q.2.1 c.z))))) kw Wx := wd9.mono (fun j b ys e1 e2 => lk_kind elv9 (by intro z; cases z) e2) fun b xs e => lk_kind elv9 (by intro z; cases z) e
          have hklA : KL (upd H9 lv (.dT (putK k1 (keyC c) (.int (max q.2.1 c.z))))) k2 (lds Lx) := hkl9.up fun b d q => lk_kind elv9 (by intro z; cases z) q
          have sA : Same G (upd H9 lv (.dT (putK k1 (keyC c) (.int (max q.2.1 c.z))))) := same_up (s8.trans s9) gLv
          have elvA : upd H9 lv (.dT (putK k1 (keyC c) (.int (max q.2.1 c.z)))) lv = some (.dT (putK k1 (keyC c) (.int (max q.2.1 c.z)))) := upd_same
          generalize putK k1 (keyC c) (.int (max q.2.1 c.z)) = k1' at *
          generalize upd H9 lv (.dT k1') = HA at *
          walk_at "rd"
          refine ⟨ld, _, rfl, dput_c eldA egA (smallM (by omega)), ?_⟩
          have hcl' : c ∉ (lds Lx).map (·.1) := by rw [lds_fst]; exact hd'
          have hkdB : KD (putK k2 (keyC c) (.ref hb)) (List.map (fun p : C3 × Int × Option C3 => p.1) (Lx ++ [(c, max q.2.1 c.z, some q.1)])) := by rw [List.map_append]; exact kd_put hkd8 hd'
          have hklB : KL (upd HA ld (.dT (putK k2 (keyC c) (.ref hb)))) (putK k2 (keyC c) (.ref hb)) (lds (Lx ++ [(c, max q.2.1 c.z, some q.1)])) := by
            have := (hklA.put hcl' ehA).up (H' := upd HA ld (.dT (putK k2 (keyC c) (.ref hb)))) fun b d q => lk_kind eldA (by intro z; cases z) q
            unfold lds at this ⊢
            rw [List.map_append, hqh]
            exact this
          have elvB : upd HA ld (.dT (putK k2 (keyC c) (.ref hb))) lv = some (.dT k1') := lk_ne nvd elvA
          have ewtB : upd HA ld (.dT (putK k2 (keyC c) (.ref hb))) wt = some (.dK kw) := lk_ne ndw.symm ewtA
          have egB : upd HA ld (.dT (putK k2 (keyC c) (.ref hb))) g9 = some (.tup c.v) := lk_kind eldA (by intro z; cases z) egA
          have wdB : WD (upd HA ld (.dT (putK k2 (keyC c) (.ref hb)))) kw Wx := wdA.mono (fun j b ys e1 e2 => lk_kind eldA (by intro z; cases z) e2) fun b xs e => lk_kind eldA (by intro z; cases z) e
          have sB : Same G (upd HA ld (.dT (putK k2 (keyC c) (.ref hb)))) := same_up sA gLd
          have eldB : upd HA ld (.dT (putK k2 (keyC c) (.ref hb))) ld = some (.dT (putK k2 (keyC c) (.ref hb))) := upd_same
          generalize putK k2 (keyC c) (.ref hb) = k2' at *
          generalize upd HA ld (.dT k2') = HB at *
          have egB' : HB g9 = some (.tup ((keyC c).map kV)) := by rw [keyC_v]; exact egB
          walk_at "rd"
          refine rd_dsetK ?_
          walk_at "rd"
          refine ⟨wt, rfl, .inl ⟨kw, .inl ewtB⟩, ?_⟩
          walk_at "rd"
          refine ⟨lv, .int (max q.2.1 c.z), rfl, .inr ⟨k1', keyC c, g9, .inl elvB, rfl, egB', hvc.symm⟩, ?_⟩
          walk_at "rd"
          refine ⟨le0, fun qz hqz => ?_⟩
          have sz := same_new (o := .lst []) hqz
          have hqzG : G qz = none := sB.free hqz
          have wdC := wdB.up sz
          have ewtC := sz _ _ ewtB
          have elvC := sz _ _ elvB
          have eldC := sz _ _ eldB
          have egC := sz _ _ egB
          have sC := sB.trans sz
          have hklC : KL _ k2' (lds (Lx ++ [(c, max q.2.1 c.z, some q.1)])) := hklB.up fun b d q => sz _ _ q
          have eqzC : upd HB qz (.lst []) qz = some (.lst []) := upd_same
          have nqv : qz ≠ lv := fun z => by subst z; rw [elvB] at hqz; cases hqz
          have nqd : qz ≠ ld := fun z => by subst z; rw [eldB] at hqz; cases hqz
          have nqw : qz ≠ wt := fun z => by subst z; rw [ewtB] at hqz; cases hqz
          have nqi : ¬ InW kw qz := fun z => by
            obtain ⟨zs', f⟩ := wdB.lst z
            rw [f] at hqz
            cases hqz
          generalize upd HB qz (.lst []) = HC at *
          have hkwx := wdC.len
          have hwx : Wx.length ≤ 1000 := by
            have h1 : wc Wx + (n + 1) = Lx.length := pin8.cnt
            have h2 := wlen_wc pin8.wne
            have h3 : Wx.length ≤ wc Wx := h2
            omega
          refine ⟨kw, Sum.inl (max q.2.1 c.z), ewtC, rfl, small1000 (by omega), fun v hv => ?_, fun hv => ?_⟩
          · have hkm : max q.2.1 c.z ∈ Wx.map (·.1) := by
              by_cases hz : max q.2.1 c.z ∈ Wx.map (·.1)
              · exact hz
              · rw [wdC.none.mpr hz] at hv
                cases hv
            obtain ⟨a', zs', f1, f2, f3, _⟩ := wdC.get hkm
            rw [f1] at hv
            cases hv
            have hia : InW kw a' := ⟨_, f1⟩
            have hz1 : zs'.length ≤ 1000 := by
              have h1 : wc Wx + (n + 1) = Lx.length := pin8.cnt
              have h2 := atW_wc (k := max q.2.1 c.z) pin8.wnd hkm
              have h2 : (atW Wx (max q.2.1 c.z)).length ≤ wc Wx := h2
              have := f3.len
              omega
            refine ⟨.inl ⟨rfl, _, SqL.of f2⟩, ?_⟩
            walk_at "rd"
            refine ⟨a', zs', .ref g9, rfl, rfl, f2, small1000 (by omega), ?_⟩
            walk_at "rd"
            have wdD := wdC.set (zs' := zs' ++ [.ref g9]) (l := atW Wx (max q.2.1 c.z) ++ [c]) f1 f2 (Rs.app f3 (.cons ⟨g9, rfl, egC⟩ .nil))
            obtain ⟨ga, na1, na2, na3⟩ := hin8 a' hia
            refine ⟨⟨_, rfl⟩, same_up sC ga, _, _, k1', k2', kw, lk_ne na1.symm elvC, hlvl9, lk_ne na2.symm eldC, hkdB, hklC.up (fun b d q => lk_kind f2 (by intro z; cases z) q), lk_ne na3.symm ewtC, ?_, hin8, pin9, List.mem_append_left _ hqx, hfs.trans hpc⟩
            unfold putW
            rw [if_pos hkm]
            exact wdD
          · have hkm : max q.2.1 c.z ∉ Wx.map (·.1) := wdC.none.mp hv
            have eqzD : upd HC wt (.dK (putK kw (Sum.inl (max q.2.1 c.z)) (.ref qz))) qz = some (.lst []) := lk_ne nqw eqzC
            refine ⟨.inl ⟨rfl, _, SqL.of eqzD⟩, ?_⟩
            walk_at "rd"
            refine ⟨qz, [], .ref g9, rfl, rfl, eqzD, by decide, ?_⟩
            walk_at "rd"
            have egD : upd HC wt (.dK (putK kw (Sum.inl (max q.2.1 c.z)) (.ref qz))) g9 = some (.tup c.v) := lk_kind ewtC (by intro z; cases z) egC
            have wdE : WD (upd (upd HC wt (.dK (putK kw (Sum.inl (max q.2.1 c.z)) (.ref qz)))) qz (.lst ([] ++ [.ref g9]))) (putK kw (Sum.inl (max q.2.1 c.z)) (.ref qz)) (Wx ++ [(max q.2.1 c.z, [c])]) := by
              have w1 : WD (upd (upd HC wt (.dK (putK kw (Sum.inl (max q.2.1 c.z)) (.ref qz)))) qz (.lst ([] ++ [.ref g9]))) kw Wx := wdC.mono (fun j b ys e1 e2 => lk_ne (fun z => nqi ⟨j, z ▸ e1⟩) (lk_kind ewtC (by intro z; cases z) e2)) fun b xs e => lk_kind eqzD (by intro z; cases z) (lk_kind ewtC (by intro z; cases z) e)
              exact w1.new hkm (fun j z => nqi ⟨j, z⟩) upd_same (.cons ⟨g9, rfl, lk_kind eqzD (by intro z; cases z) egD⟩ .nil)
            refine ⟨⟨_, rfl⟩, same_up (same_up sC gWt) hqzG, _, _, k1', k2', _, lk_ne nqv.symm (lk_ne nvw elvC), hlvl9, lk_ne nqd.symm (lk_ne ndw eldC), hkdB, hklC.up (fun b d q => lk_kind eqzD (by intro z; cases z) (lk_kind ewtC (by intro z; cases z) q)), lk_ne nqw.symm upd_same, ?_, fun b ⟨j, hj⟩ => ?_, pin9, List.mem_append_left _ hqx, hfs.trans hpc⟩
            · unfold putW
              rw [if_neg hkm]
              exact wdE
            · rw [valV_put] at hj
              split at hj
              · have : qz = b := by simpa using hj
                subst this
                exact ⟨hqzG, nqv, nqd, nqw⟩
              · exact hin8 b ⟨j, hj⟩
      · rw [decide_eq_false (by simpa [mem_adds] using hc)]
        walk_at "rd"
        exact ⟨⟨_, rfl⟩, s8.trans s9, skip fun z => hc z.1⟩
theorem ok_level (L : All K w mg ad) : FnOk P w K mg base CX0 5 ad.f_level ad.d_level ["hollow", "gate", "cell"] (spLevel K) := by
  refine L.level.F.okQ sc_level (fun vs H Q E h => ?_) (fun cdv A outer s H vs Q E hr h => ?_)
  · obtain ⟨a, g, s, ys, cs, gc, c, rfl, _⟩ := h
    rfl
  obtain ⟨a, g, s', ys, cs, gc, c, rfl, ha, hca, hcl, eg, hgc, es, ky, kn⟩ := h
  refine ⟨_, (qss_one (qs_ret (qe_dget1 (hu_of hr) (qe_ix (qx_tup (K := K) rfl) (qe_call ((ok_poured L).mono (by decide)) hr rfl L.poured.m L.poured.F.kp L.poured.b .nil pass0 (qa_cons (qv 0) (qa_cons (qv 1) qa_nil))) qe_int (fun _ _ => rfl)) (qv 2) ⟨rfl, rfl, rfl, rfl⟩))), ?_⟩
  walk_at "rd"
  refine rd_dget1 ?_
  walk_at "rd"
  refine ⟨a, g, ys, cs, gc, rfl, ha, hca, hcl, eg, hgc, fun t lv ld k1 k2 n H1 s1 et elv eld hlvl hkd hkl pin => ?_⟩
  have es' : H1 s' = some (.tup ((keyC c).map kV)) := by rw [keyC_v]; exact s1 _ _ es
  walk_at "rd"
  refine ⟨lv, rfl, .inr ⟨k1, .inl elv⟩, ?_⟩
  walk_at "rd"
  refine ⟨_, .inr ⟨k1, keyC c, s', .inl elv, rfl, es', rfl⟩, ?_⟩
  by_cases hc : c ∈ (PF cs gc).map (·.1)
  · obtain ⟨p, hp, hpc⟩ := List.mem_map.mp hc
    rw [← hpc, hlvl.2 p hp]
    exact ky p n H1 hp hpc pin s1
  · have h0 : valV k1 (keyC c) = none := by
      have := kd_some c hlvl.1
      rw [decide_eq_false hc] at this
      cases e : valV k1 (keyC c) with
      | none => rfl
      | some _ => rw [e] at this; cases this
    rw [h0]
    exact kn n H1 hc pin s1
theorem ok_followed (L : All K w mg ad) : FnOk P w K mg base CX0 1 ad.f_followed ad.d_followed ["leads", "start"] (spFollowedD K) := by
  refine L.followed.F.okQ sc_followed (fun vs H Q E h => ?_) (fun cdv A outer s H vs Q E hr h => ?_)
  · obtain ⟨p, s, lk, ds, us, f, c, L', rfl, _⟩ := h
    rfl
  obtain ⟨p, s', lk, ds, us, f, c, L', rfl, ep, hkd, hnd, hld, hkl, hL, hdl, es, hc, k⟩ := h
  refine ⟨_, (qss_cons (qs_set (i := 2) sc_followed.nd rfl (Or.inl rfl) (qe_lst qa_nil))
    (qss_cons (qs_set (i := 3) sc_followed.nd rfl (Or.inl rfl) (qv 1))
    (qss_cons (qs_while PassesOwn.never (qt_cmpR qo_notN (qv 3) qe_non (nomark _))
      (qss_cons (qs_expr (qe_bm (K := K) rfl PySem.F.plainAttrs_list PySem.F.slot_list_append PySem.F.type_list_append mt_append (qv 2) (qa_cons (qv 3) qa_nil)))
    (qss_one (qs_set (i := 3) sc_followed.nd rfl (Or.inl rfl) (qe_dget (hu_of hr) (qv 0) (qv 3) (fun _ _ => rfl))))))
    (qss_one (qs_ret (qv 2)))))), ?_⟩
  walk_at "rd"
  refine ⟨le0, fun lw hlw => ?_⟩
  have npw : p ≠ lw := ne_of_none ep hlw
  have sw := same_new (o := .lst []) hlw
  obtain ⟨i0, hi0⟩ := List.getElem?_of_mem hc
  walk_at "rd"
  refine rd_while (fun m σ H' => ∃ v, σ = [some (.ref p), some (.ref s'), some (.ref lw), some v] ∧ Same H H' ∧ ∃ zs pa, H' lw = some (.lst zs) ∧ Cs H' zs pa ∧ ((v = .non ∧ m = 0 ∧ Way f us ds c pa ∧ Fol L' c pa) ∨ ∃ b here i, v = .ref b ∧ H' b = some (.tup here.v) ∧ m = i + 1 ∧ Wlk f ds c here i pa ∧ ∀ suf, Fol L' here suf → Fol L' c (pa ++ suf))) (i0 + 1)
    ⟨_, rfl, sw, [], [], upd_same, .nil, .inr ⟨s', c, i0, rfl, sw _ _ es, rfl, ⟨.nil, (fun _ h => nomatch h), (fun k a b h => by simp at h), hi0, .inl ⟨rfl, rfl⟩⟩, fun suf h => h⟩⟩ ?_
  rintro m σ H2 ⟨v, rfl, s2, zs, pa, ew, cw, h2⟩
  walk_at "rd"
  rcases h2 with ⟨rfl, rfl, hw, hfo⟩ | ⟨b, here, i, rfl, eb, rfl, wk, hsuf⟩
  · walk_at "rd"
    exact k lw zs pa H2 s2 hlw ew cw hw hfo
  · walk_at "rd"
    refine ⟨_, fun _ _ q => q, ?_⟩
    walk_at "rd"
    refine ⟨.inl ⟨rfl, _, SqL.of ew⟩, ?_⟩
    walk_at "rd"
    have hzl := cw.len
    have hpl : pa.length ≤ ds.length := nodup_lenC wk.nd fun x hx => let ⟨j, _, e⟩ := wk.sub x hx; List.mem_of_getElem? e
    refine ⟨lw, zs, .ref b, rfl, rfl, ew, smallM (by omega), ?_⟩
    have ep3 : upd H2 lw (.lst (zs ++ [.ref b])) p = some (.dT lk) := lk_ne npw (s2 _ _ ep)
    have eb3 : upd H2 lw (.lst (zs ++ [.ref b])) b = some (.tup here.v) := lk_kind ew (by intro z; cases z) eb
    have ew3 : upd H2 lw (.lst (zs ++ [.ref b])) lw = some (.lst (zs ++ [.ref b])) := upd_same
    have cw3 : Cs (upd H2 lw (.lst (zs ++ [.ref b]))) (zs ++ [.ref b]) (pa ++ [here]) := Rs.app (Rs.lst ew cw) (.cons ⟨b, rfl, eb3⟩ .nil)
    have s3 : Same H (upd H2 lw (.lst (zs ++ [.ref b]))) := same_up s2 hlw
    generalize upd H2 lw (.lst (zs ++ [.ref b])) = H3 at *
    walk_at "rd"
    obtain ⟨oo, hoo⟩ : ∃ oo, (here, oo) ∈ L' := by
      have : here ∈ L'.map (·.1) := by rw [hL]; exact List.mem_of_getElem? wk.at'
      obtain ⟨⟨a', o'⟩, h1, h2⟩ := List.mem_map.mp this
      cases h2
      exact ⟨o', h1⟩
    have hko := hkl here oo hoo
    rcases hld i here wk.at' with ⟨hv, hu⟩ | ⟨j, d, b', hj, hd, hv, hb, h5, h6⟩
    · refine ⟨p, .non, rfl, .inr ⟨lk, keyC here, b, .inl ep3, rfl, by rw [keyC_v]; exact eb3, hv.symm⟩, ?_⟩
      walk_at "rd"
      exact ⟨0, by omega, .non, rfl, s3, _, _, ew3, cw3, .inl ⟨rfl, rfl, wk.fin hnd hu, hsuf _ (.last (by
        cases oo with
        | none => exact hoo
        | some d' =>
          obtain ⟨b2, e1, _⟩ := hko
          rw [hv] at e1
          cases e1))⟩⟩
    · refine ⟨p, .ref b', rfl, .inr ⟨lk, keyC here, b, .inl ep3, rfl, by rw [keyC_v]; exact eb3, hv.symm⟩, ?_⟩
      walk_at "rd"
      exact ⟨j + 1, by omega, .ref b', rfl, s3, _, _, ew3, cw3, .inr ⟨b', d, j, rfl, s3 _ _ hb, rfl, wk.go hnd hj hd h5 h6, fun suf hs => by
        have hoo' : (here, some d) ∈ L' := by
          cases oo with
          | none =>
            have hko : valV lk (keyC here) = some .non := hko
            rw [hv] at hko
            cases hko
          | some d' =>
            obtain ⟨b2, e1, e2⟩ := hko
            rw [hv] at e1
            cases e1
            rw [hb] at e2
            have := v_inj (HO.tup.inj (Option.some.inj e2))
            subst this
            exact hoo
        have := hsuf _ (.step hoo' hs)
        rwa [List.append_cons] at this⟩⟩
theorem ok_way_to (L : All K w mg ad) : FnOk P w K mg base CX0 5 ad.f_way_to ad.d_way_to ["hollow", "gate", "cell"] (spWayTo K) := by
  refine L.way_to.F.okQ sc_way_to (fun vs H Q E h => ?_) (fun cdv A outer s H vs Q E hr h => ?_)
  · obtain ⟨a, g, s, ys, cs, gc, c, rfl, _⟩ := h
    rfl
  obtain ⟨a, g, s', ys, cs, gc, c, rfl, ha, hca, hcl, eg, hgc, es, kn, ky⟩ := h
  refine ⟨_, (qss_cons (qs_set (i := 3) sc_way_to.nd rfl (Or.inl rfl) (qe_ix (qx_tup (K := K) rfl) (qe_call ((ok_poured L).mono (by decide)) hr rfl L.poured.m L.poured.F.kp L.poured.b .nil pass0 (qa_cons (qv 0) (qa_cons (qv 1) qa_nil))) qe_int (fun _ _ => rfl)))
    (qss_cons (qs_if (qt_dnotin (hu_of hr) (qv 2) (qv 3) rfl) (qss_one (qs_ret qe_non)) qss_nil)
    (qss_one (qs_ret (qe_listV (K := K) rfl rfl rfl L.n_list rfl L.n_reversed b_list (qa_cons (qe_call ((ok_followed L).mono (by decide)) hr rfl L.followed.m L.followed.F.kp L.followed.b .nil pass0 (qa_cons (qv 3) (qa_cons (qv 2) qa_nil))) qa_nil)))))), ?_⟩
  walk_at "rd"
  refine ⟨a, g, ys, cs, gc, rfl, ha, hca, hcl, eg, hgc, fun t lv ld k1 k2 n H1 s1 et elv eld hlvl hkd hkl pin => ?_⟩
  have es1 := s1 _ _ es
  have es' : H1 s' = some (.tup ((keyC c).map kV)) := by rw [keyC_v]; exact es1
  have hll : (PF cs gc).length ≤ cs.length := pin.len
  walk_at "rd"
  refine ⟨ld, _, rfl, .inr ⟨k2, keyC c, s', .inl eld, rfl, es', rfl⟩, ?_⟩
  rw [kd_some c hkd]
  by_cases hc : c ∈ (PF cs gc).map (·.1)
  · rw [decide_eq_true hc]
    walk_at "rd"
    refine rd_listV ?_
    walk_at "rd"
    refine ⟨ld, s', k2, (PF cs gc).map (·.1), [gc], fun _ => 0, c, lds (PF cs gc), rfl, eld, hkd, pin.nd, pf_ld pin hkl, hkl, lds_fst _, by rw [List.length_map]; omega, es1, hc, fun q zs pa H2 s2 nq eq cq hw hfo => ?_⟩
    walk_at "rd"
    refine ⟨q, zs, rfl, SqL.of eq, fun l hl => ?_⟩
    have sl := same_new (o := .lst zs.reverse) hl
    have s12 := s1.trans s2
    exact ky l zs.reverse pa n _ hc pin (s12.trans sl) (s12.free hl) upd_same (rs_rev (Rs.up sl cq)) ⟨hw.ne, hw.hd, hw.nd, fun x hx => by
      obtain ⟨p, hp, rfl⟩ := List.mem_map.mp (hw.sub x hx)
      exact pin.sub p hp, hw.nxt, hw.lst⟩ hfo
  · rw [decide_eq_false hc]
    walk_at "rd"
    exact kn n H1 hc pin s1
end
end P74
set_option Elab.async false
set_option linter.all false
set_option maxRecDepth 100000
set_option maxHeartbeats 4000000
namespace P74
open PySem L2 Srt Pc
section
variable {P : Program} {w : World} {K : PySem.W.Frag} {mg : Str → Option Value} {base : Heap} {ad : Ad}
theorem ok_filled (L : All K w mg ad) (B : BM mg base) : FnOk P w K mg base CX0 5 ad.f_filled ad.d_filled ["hollow", "gate"] (spFilled K ad.p_filled ⟨59, 30, 59, 81⟩ "filled.<locals>.<lambda>") := by
  refine L.filled.F.okC sc_filled (fun vs H Q E h => ?_) (fun A outer s H vs Q E hr h => ?_)
  · obtain ⟨a, g, ys, cs, gc, rfl, _⟩ := h
    rfl
  obtain ⟨a, g, ys, cs, gc, rfl, ha, hca, hcl, eg, hgc, hT, k⟩ := h
  refine ⟨_, (qss_cons (qs_set (i := 2) sc_filled.nd rfl (Or.inr rfl) (qe_ix (qx_tup (K := K) rfl) (qe_call ((ok_poured L).mono (by decide)) hr rfl L.poured.m L.poured.F.kp L.poured.b .nil pass0 (qa_cons (qv 0) (qa_cons (qv 1) qa_nil))) qe_int (fun _ _ => rfl)))
    (qss_one (qs_ret (qe_sortL (c := ad.c_filled) (P := ad.p_filled) (ql := "filled.<locals>.<lambda>") (k := 1) ["cell", "levels"] [2] rfl rfl L.n_sorted L.cd_filled.1 L.cd_filled.2 B hr rfl rfl ⟨rfl, rfl, rfl, by decide +kernel, rfl⟩ rfl (by show (Str.ofString "filled" ++ Str.ofString ".<locals>.") ++ Str.ofString "<lambda>" = Str.ofString "filled.<locals>.<lambda>"; decide +kernel) (fun _ _ _ _ _ _ => rfl) (qv 2) (fun _ _ _ _ _ hr => (qe_tup (qa_cons (qe_dget (hu_of hr) (qv 1) (qv 0) (fun _ _ => rfl)) (qa_cons (qe_call ((ok_along L).mono (by decide)) hr rfl L.along.m L.along.F.kp L.along.b .nil pass0 (qa_cons (qv 0) (qa_cons qe_str qa_nil))) (qa_cons (qv 0) qa_nil))))))))), ?_⟩
  walk_at "rd"
  refine ⟨a, g, ys, cs, gc, rfl, ha, hca, hcl, eg, hgc, fun t lv ld k1 k2 n H1 s1 et elv eld hlvl hkd hkl pin => ?_⟩
  have hT1 := hT.up s1
  walk_at "rd"
  refine rd_sortL ?_
  walk_at "rd"
  refine ⟨lv, k1, List.map (fun p : C3 × Int × Option C3 => p.1) (PF cs gc), kyF cs gc, rfl, elv, hlvl.1, hT1, fun H2 g2 => ⟨fun H3 q c s3 hc eq => ?_, fun H5 p zs ds s5 hp hpm has hcs => ?_⟩⟩
  · have elv3 := s3 _ _ (g2.keep hT1 elv (fun _ z => nomatch z))
    have eq' : H3 q = some (.tup ((keyC c).map kV)) := by rw [keyC_v]; exact eq
    obtain ⟨r, hr1, hr2⟩ := List.mem_map.mp hc
    have hv : valV k1 (keyC c) = some (.int (lvl (PF cs gc) c)) := by rw [← hr2, lvl_mem pin.nd hr1]; exact hlvl.2 r hr1
    walk_at "rd"
    refine ⟨lv, .int (lvl (PF cs gc) c), rfl, .inr ⟨k1, keyC c, q, .inl elv3, rfl, eq', hv.symm⟩, ?_⟩
    walk_at "rd"
    refine ⟨q, .z, c, rfl, SqT.of eq, ?_⟩
    walk_at "rd"
    refine ⟨le3, fun tp htp => ?_⟩
    exact ⟨same_new htp, tp, rfl, upd_same⟩
  · have g5 : Grows ad.p_filled _ _ H (upd H5 p (.lst zs)) := (s1.grows g2).same (s5.trans (same_new hp))
    exact k p zs ds _ g5 ((s1.grows (g2.same s5)).free hp) upd_same hcs ⟨hpm, has⟩
theorem ok__law_cell_at (L : All K w mg ad) : FnOk P w K mg base CX0 1 ad.f__law_cell_at ad.d__law_cell_at ["_law_script", "_law_k"] (spCellAt K) := by
  refine L._law_cell_at.F.okQ sc__law_cell_at (fun vs H Q E h => ?_) (fun cdv A outer s H vs Q E hr h => ?_)
  · obtain ⟨a, ns, k, rfl, _⟩ := h
    rfl
  obtain ⟨a, ns, k, rfl, hS, h0, q⟩ := h
  refine ⟨_, (qss_cons (qs_if (qt_cmpR qo_lt (qv 1) (qe_callB (qc_len (K := K) rfl) rfl L.n_len b_len (qa_cons (qv 0) qa_nil)) (nomark _)) (qss_one (qs_ret (qe_ix (qx_list (K := K) rfl) (qv 0) (qv 1) (fun _ _ => rfl)))) qss_nil)
    (qss_one (qs_ret qe_int))), ?_⟩
  refine ⟨_, rfl, _, rfl, a, _, rfl, .inl hS, _, _, rfl, rfl, _, rfl, ?_⟩
  refine ite2 (fun c => ?_) (fun c => q 0)
  have c' := of_decide_eq_true c
  rw [List.length_map] at c'
  have hk : k.toNat < ns.length := by omega
  have e : atI (ns.map V.int) k = some (.int ns[k.toNat]) := by
    have q : atI (ns.map V.int) ((k.toNat : Nat) : Int) = some (.int ns[k.toNat]) := atI_nat (by rw [List.getElem?_map, List.getElem?_eq_getElem hk] <;> rfl)
    rwa [show ((k.toNat : Nat) : Int) = k by omega] at q
  exact ⟨_, rfl, _, rfl, a, _, _, _, rfl, rfl, hS, e, q _⟩
theorem ok__law_mix (L : All K w mg ad) : FnOk P w K mg base CX0 1 ad.f__law_mix ad.d__law_mix ["_law_cell", "_law_factor"] spMixG := by
  refine L._law_mix.F.okQ sc__law_mix (fun vs H Q E h => ?_) (fun cdv A outer s H vs Q E hr h => ?_)
  · obtain ⟨a, b, rfl, _⟩ := h
    rfl
  obtain ⟨a, b, rfl, b0, b1, k⟩ := h
  refine ⟨_, (qss_one (qs_ret (qe_op qo_mod (qe_op qo_mul (qe_op qo_add (qe_op qo_mod (qv 0) (qe_op qo_pow qe_int qe_int)) qe_int) (qv 1)) qe_int))), ?_⟩
  walk_at "rd"
  exact k _ (Int.emod_nonneg _ (by decide)) (Int.emod_lt_of_pos _ (by decide))
theorem ok__law_bar (L : All K w mg ad) : FnOk P w K mg base CX0 1 ad.f__law_bar ad.d__law_bar ["_law_base", "_law_number", "_law_flat"] (spBar K) := by
  refine L._law_bar.F.okQ sc__law_bar (fun vs H Q E h => ?_) (fun cdv A outer s H vs Q E hr h => ?_)
  · obtain ⟨a, x, y, z, n, f, rfl, _⟩ := h
    rfl
  obtain ⟨a, x, y, z, n, f, rfl, hS, ⟨x0, x1⟩, ⟨y0, y1⟩, ⟨z0, z1⟩, k⟩ := h
  refine ⟨_, (qss_cons (qs_set (i := 3) sc__law_bar.nd rfl (Or.inl rfl) (qe_lst (qa_cons (qe_op qo_add (qe_ix (qx_list (K := K) rfl) (qv 0) qe_int (fun _ _ => rfl)) (qe_op qo_mod (qv 1) qe_int)) (qa_cons (qe_op qo_add (qe_ix (qx_list (K := K) rfl) (qv 0) qe_int (fun _ _ => rfl)) (qe_op qo_mod (qe_op qo_fdiv (qv 1) qe_int) qe_int)) (qa_cons (qe_op qo_add (qe_ix (qx_list (K := K) rfl) (qv 0) qe_int (fun _ _ => rfl)) (qe_op qo_mod (qe_op qo_fdiv (qv 1) qe_int) qe_int)) qa_nil)))))
    (qss_cons (qs_if (qt_val (qv 2)) (qss_one (qs_asg (qe_ix (qx_list (K := K) rfl) (qv 0) qe_int (fun _ _ => rfl)) (qg_sub (qv 3) qe_int))) qss_nil)
    (qss_cons (qs_if (qt_cmpR qo_eq (qe_op qo_mod (qe_op qo_fdiv (qv 1) qe_int) qe_int) qe_int (nomark _)) (qss_one (qs_setU (i := 3) (N := ["_law_one"]) ["_law_one"] [] sc__law_bar.nd rfl (Or.inl rfl) rfl rfl rfl rfl (qi_list (K := K) rfl (qv 3)) (fun _ _ _ _ => (qg_name (i := 0) (by show (["_law_one"] : List Str).Nodup; decide +kernel) rfl (Or.inl rfl))) (fun _ _ _ _ => qf_nil) (fun _ _ _ _ => (qe_op qo_sub qe_int (qv 0))))) qss_nil)
    (qss_cons (qs_set (i := 4) sc__law_bar.nd rfl (Or.inl rfl) (qe_op qo_mod (qe_op qo_fdiv (qv 1) qe_int) qe_int))
    (qss_cons (qs_set (i := 5) sc__law_bar.nd rfl (Or.inl rfl) (qe_lst qa_nil))
    (qss_cons (qs_for PassesOwn.never rfl (qi_range1 rfl L.n_range (qa_cons (qe_op qo_add qe_int (qe_op qo_mod (qe_op qo_fdiv (qv 1) qe_int) qe_int)) qa_nil)) (qg_name (i := 6) sc__law_bar.nd rfl (Or.inl rfl))
      (qss_cons (qs_expr (qe_bm (K := K) rfl PySem.F.plainAttrs_list PySem.F.slot_list_append PySem.F.type_list_append mt_append (qv 5) (qa_cons (qe_callTy (qc_tuple (K := K) rfl) rfl L.n_tuple b_tuple (qa_cons (qv 3) qa_nil)) qa_nil)))
    (qss_one (qs_asg (qe_op qo_add (qe_ix (qx_list (K := K) rfl) (qv 3) (qv 4) (fun _ _ => rfl)) qe_int) (qg_sub (qv 3) (qv 4))))))
    (qss_one (qs_ret (qv 5))))))))), ?_⟩
  have r5 := Int.emod_nonneg n (show (5 : Int) ≠ 0 by decide)
  have r5' := Int.emod_lt_of_pos n (show (0 : Int) < 5 by decide)
  have r6 := Int.emod_nonneg (n / 5) (show (5 : Int) ≠ 0 by decide)
  have r6' := Int.emod_lt_of_pos (n / 5) (show (0 : Int) < 5 by decide)
  have r7 := Int.emod_nonneg (n / 25) (show (7 : Int) ≠ 0 by decide)
  have r7' := Int.emod_lt_of_pos (n / 25) (show (0 : Int) < 7 by decide)
  have r3 := Int.emod_nonneg (n / 175) (show (3 : Int) ≠ 0 by decide)
  have r3' := Int.emod_lt_of_pos (n / 175) (show (0 : Int) < 3 by decide)
  have r4 := Int.emod_nonneg (n / 525) (show (4 : Int) ≠ 0 by decide)
  have r4' := Int.emod_lt_of_pos (n / 525) (show (0 : Int) < 4 by decide)
  walk_at "rd"
  refine ⟨le3, fun sp hsp => ?_⟩
  with_reducible refine rd_gname ?_
  with_reducible refine rd_seqK fun N hN => ?_
  have mid : ∀ (p q r : Int) (H1 : Hp), Same H H1 → H1 sp = some (.lst [.int p, .int q, .int r]) → (-57 ≤ p ∧ p ≤ 57) → (-57 ≤ q ∧ q ≤ 57) → (-57 ≤ r ∧ r ≤ 57) → N [some (.ref a), some (.int n), some (.bl f), some (.ref sp), none, none, none] H1 := by
    intro p q r H1 s1 e1 bp bq br
    apply hN
    with_reducible refine rd_seqK fun N2 hN2 => ?_
    have last : ∀ (sp : Addr) (p q r : Int) (H1 : Hp), H sp = none → Same H H1 → H1 sp = some (.lst [.int p, .int q, .int r]) → (-57 ≤ p ∧ p ≤ 57) → (-57 ≤ q ∧ q ≤ 57) → (-57 ≤ r ∧ r ≤ 57) → N2 [some (.ref a), some (.int n), some (.bl f), some (.ref sp), none, none, none] H1 := by
      intro sp p q r H1 hsp s1 e1 bp bq br
      apply hN2
      walk_at "rd"
      refine ⟨le0, fun l hl => ?_⟩
      walk_at "rd"
      have nl : sp ≠ l := ne_of_none e1 hl
      have hlH := s1.free hl
      refine for_feeds (R := IsI) (H0 := H) (fun i σ H' => (∃ o, σ = [some (.ref a), some (.int n), some (.bl f), some (.ref sp), some (.int (n / 175 % 3)), some (.ref l), o]) ∧ Same H H' ∧ (∃ p q r : Int, H' sp = some (.lst [.int p, .int q, .int r]) ∧ (-57 ≤ p ∧ p ≤ 57 + i) ∧ (-57 ≤ q ∧ q ≤ 57 + i) ∧ (-57 ≤ r ∧ r ≤ 57 + i)) ∧
          ∃ ys cs, H' l = some (.lst ys) ∧ Cs H' ys cs ∧ cs.length = i ∧ ∀ c ∈ cs, c.within 60) feeds_range (fun _ _ _ q => q.2.1)
        ⟨⟨_, rfl⟩, s1.trans (same_new hl), ⟨p, q, r, lk_old hl e1, by omega, by omega, by omega⟩, [], [], upd_same, .nil, rfl, fun _ h => nomatch h⟩ ?_ ?_
      · rintro σ H' ⟨⟨o, rfl⟩, s2, _, ys, cs, e2, c2, hlen, hw⟩
        have hlen2 : ((List.range (1 + n / 525 % 4).toNat).map fun i : Nat => (0 : Int) + (i : Int)).length = (1 + n / 525 % 4).toNat := by simp
        rw [hlen2] at hlen
        walk_at "rd"
        refine k l ys cs H' s2 hlH e2 c2 (fun e => ?_) (by omega) hw
        rw [e] at hlen
        simp at hlen
        omega
      · rintro i m v σ H1' H' hi ex ⟨⟨o, rfl⟩, s2, ⟨p, q, r, e3, bp, bq, br⟩, ys, cs, e2, c2, hlen, hw⟩ s3 rfl
        have hi4 : i < 4 := by
          have : i < (1 + n / 525 % 4).toNat := by simpa using hi
          omega
        have e2' := s3 _ _ e2
        have e3' := s3 _ _ e3
        walk_at "rd"
        refine ⟨.inl ⟨rfl, _, SqL.of e2'⟩, ?_⟩
        walk_at "rd"
        intro t ht
        walk_at "rd"
        have e2t := lk_old (o := .tup [.int p, .int q, .int r]) ht e2'
        have e3t := lk_old (o := .tup [.int p, .int q, .int r]) ht e3'
        refine ⟨l, ys, _, rfl, rfl, e2t, small1000 (by have := c2.len; omega), ?_⟩
        walk_at "rd"
        have e3u := lk_ne (o := .lst (ys ++ [.ref t])) nl e3t
        obtain ⟨j, ej, old, eo, p', q', r', es, b1, b2, b3⟩ := set3 p q r _ r3 r3'
        refine rd_ixL (SqL.of e3u) eo ?_
        walk_at "rd"
        refine rd_setL e3u ej ?_
        rw [es]
        have nt : t ≠ sp := fun e => by subst e; rw [e3'] at ht; cases ht
        have ct : Cs (upd (upd H' t (.tup [.int p, .int q, .int r])) l (.lst (ys ++ [.ref t]))) (ys ++ [.ref t]) (cs ++ [⟨p, q, r⟩]) := Rs.lst e2t (Rs.app (Rs.up (s3.trans (same_new ht)) c2) (.cons ⟨t, rfl, upd_same⟩ .nil))
        refine ⟨⟨_, rfl⟩, same_up (same_up (s2.trans (s3.trans (same_new ht))) hlH) hsp, ⟨p', q', r', upd_same, by omega, by omega, by omega⟩, _, cs ++ [⟨p, q, r⟩], lk_ne nl.symm upd_same, Rs.lst e3u ct, by simp [hlen], fun c hc => ?_⟩
        rcases List.mem_append.mp hc with z | z
        · exact hw c z
        · rw [List.mem_singleton] at z
          subst z
          refine ⟨?_, ?_, ?_⟩ <;> constructor <;> dsimp only <;> omega
    walk_at "rd"
    by_cases h5 : n / 10000 % 13 = 5
    · rw [decide_eq_true h5]
      walk_at "rd"
      intro acc hacc
      refine comp_map (S := IsI) (fun i : Int => 0 - i) 1 [] (feeds_list (SqL.of e1) (Rs.ints [p, q, r])) (by show 3 ≤ 16000000; decide) hacc ?_ ?_
      · rintro os v i H' R1 ho s2 _ rfl kk
        obtain ⟨o, rfl⟩ := List.length_eq_one_iff.mp ho
        walk_at "rd"
        exact kk [_] _ _ rfl (Same.refl _) rfl
      · intro zs H' s2 e2 r2
        walk_at "rd"
        have ez := ints_eq r2
        rw [ez] at e2
        exact last acc (0 - p) (0 - q) (0 - r) H' (s1.free hacc) (s1.trans s2) e2 (by omega) (by omega) (by omega)
    · rw [decide_eq_false h5]
      walk_at "rd"
      exact last sp p q r H1 hsp s1 e1 bp bq br
  have es : upd H sp (.lst [.int (x + n % 5), .int (y + n / 5 % 5), .int (z + n / 25 % 7)]) sp = some (.lst [.int (x + n % 5), .int (y + n / 5 % 5), .int (z + n / 25 % 7)]) := upd_same
  walk_at "rd"
  cases f
  · walk_at "rd"
    exact mid _ _ _ _ (same_new hsp) es (by omega) (by omega) (by omega)
  · walk_at "rd"
    refine rd_setL es rfl ?_
    exact mid _ _ _ _ (same_up (same_new hsp) hsp) upd_same (by omega) (by omega) (by omega)
theorem ok__law_body (L : All K w mg ad) : FnOk P w K mg base CX0 2 ad.f__law_body ad.d__law_body ["_law_script", "_law_some"] (spBodyB K) := by
  refine L._law_body.F.okQ sc__law_body (fun vs H Q E h => ?_) (fun cdv A outer s H vs Q E hr h => ?_)
  · obtain ⟨a, b, ns, ms, rfl, _⟩ := h
    rfl
  obtain ⟨a, b, ns, ms, rfl, ha, hb, hm, k⟩ := h
  refine ⟨_, (qss_cons (qs_set (i := 2) sc__law_body.nd rfl (Or.inl rfl) (qe_call ((ok__law_cell_at L).mono (by decide)) hr rfl L._law_cell_at.m L._law_cell_at.F.kp L._law_cell_at.b .nil pass0 (qa_cons (qv 0) (qa_cons qe_int qa_nil))))
    (qss_cons (qs_set (i := 3) sc__law_body.nd rfl (Or.inl rfl) (qe_lst (qa_cons (qe_op qo_sub (qe_op qo_mod (qe_call ((ok__law_mix L).mono (by decide)) hr rfl L._law_mix.m L._law_mix.F.kp L._law_mix.b .nil pass0 (qa_cons (qv 2) (qa_cons qe_int qa_nil))) qe_int) qe_int) (qa_cons (qe_op qo_sub (qe_op qo_mod (qe_call ((ok__law_mix L).mono (by decide)) hr rfl L._law_mix.m L._law_mix.F.kp L._law_mix.b .nil pass0 (qa_cons (qv 2) (qa_cons qe_int qa_nil))) qe_int) qe_int) (qa_cons (qe_op qo_sub (qe_op qo_mod (qe_call ((ok__law_mix L).mono (by decide)) hr rfl L._law_mix.m L._law_mix.F.kp L._law_mix.b .nil pass0 (qa_cons (qv 2) (qa_cons qe_int qa_nil))) qe_int) qe_int) qa_nil)))))
    (qss_cons (qs_set (i := 4) sc__law_body.nd rfl (Or.inl rfl) qe_dnewT)
    (qss_cons (qs_for PassesOwn.never rfl (qi_list (K := K) rfl (qv 1)) (qg_name (i := 5) sc__law_body.nd rfl (Or.inl rfl))
      (qss_one (qs_for PassesOwn.never rfl (qi_list (K := K) rfl (qe_call ((ok__law_bar L).mono (by decide)) hr rfl L._law_bar.m L._law_bar.F.kp L._law_bar.b .nil pass0 (qa_cons (qv 3) (qa_cons (qe_call ((ok__law_mix L).mono (by decide)) hr rfl L._law_mix.m L._law_mix.F.kp L._law_mix.b .nil pass0 (qa_cons (qv 5) (qa_cons qe_int qa_nil))) (qa_cons (qe_cmpR qo_eq (qe_op qo_mod (qv 2) qe_int) qe_int (nomark _)) qa_nil))))) (qg_name (i := 6) sc__law_body.nd rfl (Or.inl rfl))
      (qss_one (qs_dput (hu_of hr) (qv 4) (qv 6) qe_bl rfl)))))
    (qss_one (qs_ret (qe_callB (qc_sortD (K := K) rfl rfl) rfl L.n_sorted b_sorted (qa_cons (qv 4) qa_nil)))))))), ?_⟩
  walk_at "rd"
  refine ⟨a, ns, 0, rfl, ha, by decide, fun m => ?_⟩
  walk_at "rd"
  refine ⟨m, 48271, rfl, by decide, by decide, fun n1 n10 n11 => ?_⟩
  walk_at "rd"
  refine ⟨m, 69621, rfl, by decide, by decide, fun n2 n20 n21 => ?_⟩
  walk_at "rd"
  refine ⟨m, 40692, rfl, by decide, by decide, fun n3 n30 n31 => ?_⟩
  walk_at "rd"
  refine ⟨le3, fun lb hlb => ?_⟩
  walk_at "rd"
  intro d hd
  walk_at "rd"
  have q1 := Int.emod_nonneg n1 (show (109 : Int) ≠ 0 by decide)
  have q1' := Int.emod_lt_of_pos n1 (show (0 : Int) < 109 by decide)
  have q2 := Int.emod_nonneg n2 (show (109 : Int) ≠ 0 by decide)
  have q2' := Int.emod_lt_of_pos n2 (show (0 : Int) < 109 by decide)
  have q3 := Int.emod_nonneg n3 (show (109 : Int) ≠ 0 by decide)
  have q3' := Int.emod_lt_of_pos n3 (show (0 : Int) < 109 by decide)
  have hdH : H d = none := (same_new hlb).free hd
  refine for_feeds (R := IsI) (H0 := H) (fun i σ H' => (∃ o o', σ = [some (.ref a), some (.ref b), some (.int m), some (.ref lb), some (.ref d), o, o']) ∧ Same H H' ∧ H' lb = some (.lst [.int (n1 % 109 - 57), .int (n2 % 109 - 57), .int (n3 % 109 - 57)]) ∧
      ∃ cs, Marks H' d cs ∧ cs.Nodup ∧ (∀ c ∈ cs, c.within 60) ∧ cs.length ≤ 4 * i ∧ (0 < i → cs ≠ [])) (feeds_list hb (Rs.ints ms)) (fun _ _ _ q => q.2.1)
    ⟨⟨_, _, rfl⟩, (same_new hlb).trans (same_new hd), lk_old hd upd_same, [], upd_same, List.nodup_nil, (fun _ h => nomatch h), Nat.zero_le _, fun h => absurd h (Nat.lt_irrefl _)⟩ ?_ ?_
  · rintro σ H' ⟨⟨o, o', rfl⟩, s1, e1, cs, e2, nd, wi, hl, hne⟩
    walk_at "rd"
    refine rd_sortD e2 fun p zs hp hc => ?_
    walk_at "rd"
    refine k p zs (srtC cs) _ (s1.trans (same_new hp)) (s1.free hp) upd_same hc (srtC_asc cs) (srtC_nodup nd) (fun c h => wi c ((srtC_perm cs).mem_iff.mp h)) (by rw [(srtC_perm cs).length_eq]; omega) fun hms e => ?_
    refine hne (List.length_pos_iff.mpr hms) ?_
    have := (srtC_perm cs).length_eq
    rw [e] at this
    exact List.length_eq_zero_iff.mp this.symm
  · rintro i n v σ H1 H' hi ex ⟨⟨o, o', rfl⟩, s1, e1, cs, e2, nd, wi, hl, hne⟩ s2 rfl
    have e1' := s2 _ _ e1
    walk_at "rd"
    refine ⟨n, 16807, rfl, by decide, by decide, fun m2 m20 m21 => ?_⟩
    walk_at "rd"
    refine ⟨lb, _, _, _, m2, _, rfl, SqL.of e1', by omega, by omega, by omega, fun p ys bs H2 s3 np ep cp bne bl bw => ?_⟩
    walk_at "rd"
    have e2' := (s2.trans s3) _ _ e2
    have npd : p ≠ d := fun e => by subst e; rw [s2 _ _ e2] at np; cases np
    have nlb : lb ≠ d := ne_of_none upd_same hd
    have sh := same_hid (p := d) (s1.trans (s2.trans s3)) hdH
    refine for_feeds (R := IsC) (H0 := hid H2 d) (fun j σ H3 => (∃ o', σ = [some (.ref a), some (.ref b), some (.int m), some (.ref lb), some (.ref d), some (.int n), o']) ∧ Same (hid H2 d) H3 ∧
        ∃ cs', Marks H3 d cs' ∧ cs'.Nodup ∧ (∀ c ∈ cs', c.within 60) ∧ cs'.length ≤ cs.length + j ∧ (0 < j → cs' ≠ [])) (feeds_list (SqL.of (hid_at npd ep)) (cs_hid e2' cp)) (fun _ _ _ q => q.2.1)
      ⟨⟨_, rfl⟩, hid_same, cs, e2', nd, wi, Nat.le_refl _, fun h => absurd h (Nat.lt_irrefl _)⟩ ?_ ?_
    · rintro σ H3 ⟨⟨o', rfl⟩, s4, cs', e3, nd', wi', hl', hne'⟩
      exact ⟨⟨_, _, rfl⟩, sh.trans s4, s4 _ _ (hid_at nlb (s3 _ _ e1')), cs', e3, nd', wi', by omega, fun _ => hne' (List.length_pos_iff.mpr bne)⟩
    · rintro j c v σ H3 H4 hj exc ⟨⟨o', rfl⟩, s4, cs', e3, nd', wi', hl', hne'⟩ s5 ⟨q, rfl, eq⟩
      walk_at "rd"
      refine marks_put (s5 _ _ e3) eq (by omega) fun e4 => ⟨⟨_, rfl⟩, same_up (s4.trans s5) hid_none, _, e4, nodup_addC nd', fun c' hc' => ?_, ?_, fun _ e => ?_⟩
      · rcases mem_addC.mp hc' with z | z
        · exact wi' c' z
        · subst z
          exact bw _ (List.mem_of_getElem? exc)
      · have := @len_addC cs' c
        omega
      · have hm : c ∈ addC cs' c := mem_addC.mpr (.inr rfl)
        rw [e] at hm
        cases hm
theorem ok__law_hollow (L : All K w mg ad) : FnOk P w K mg base CX0 3 ad.f__law_hollow ad.d__law_hollow ["_law_script"] (spHollowM K) := by
  refine L._law_hollow.F.okQ sc__law_hollow (fun vs H Q E h => ?_) (fun cdv A outer s H vs Q E hr h => ?_)
  · obtain ⟨x, ns, rfl, _⟩ := h
    rfl
  obtain ⟨x, ns, rfl, hS, hl, k⟩ := h
  refine ⟨_, (qss_one (qs_ret (qe_call ((ok__law_body L).mono (by decide)) hr rfl L._law_body.m L._law_body.F.kp L._law_body.b .nil pass0 (qa_cons (qv 0) (qa_cons (qe_op qo_cat (qe_lst (qa_cons (qe_call ((ok__law_cell_at L).mono (by decide)) hr rfl L._law_cell_at.m L._law_cell_at.F.kp L._law_cell_at.b .nil pass0 (qa_cons (qv 0) (qa_cons qe_int qa_nil))) qa_nil)) (qe_slL (K := K) rfl (qv 0) (qo_some qe_int) (qo_some qe_int))) qa_nil))))), ?_⟩
  walk_at "rd"
  refine ⟨x, ns, 1, rfl, hS, by decide, fun m1 => ?_⟩
  walk_at "rd"
  refine ⟨le1, fun l1 hl1 => ?_⟩
  have s1 := same_new (o := .lst [.int m1]) hl1
  have hS1 := s1.seq hS
  walk_at "rd"
  intro l2 hl2
  have s2 := same_new (o := .lst (cutV (ns.map V.int) (some 2) (some 14))) hl2
  have cl := cut_14 ns
  refine rd_catL (lk_old hl2 upd_same) upd_same (by rw [cut_ints, List.length_map]; exact Nat.le_of_lt (small1000 (by simp only [List.length_cons, List.length_nil]; omega))) fun lc hlc => ?_
  walk_at "rd"
  have s3 := same_new (o := .lst ([.int m1] ++ cutV (ns.map V.int) (some 2) (some 14))) hlc
  have sA := s1.trans (s2.trans s3)
  refine ⟨x, lc, ns, m1 :: cutX ns (some 2) (some 14), rfl, sA.seq hS, SqL.of (by rw [List.map_cons, ← cut_ints]; exact upd_same), by simp only [List.length_cons]; omega, fun p ys cs H' s4 hp e4 c4 hasc hnd _ hlen hne => ?_⟩
  exact k p ys cs H' (sA.trans s4) (sA.free hp) e4 c4 (hne (by simp)) (by omega) hasc hnd
theorem ok__law_beside (L : All K w mg ad) : FnOk P w K mg base CX0 1 ad.f__law_beside ad.d__law_beside ["_law_cell"] (spBesideL K) := by
  refine L._law_beside.F.okQ sc__law_beside (fun vs H Q E h => ?_) (fun cdv A outer s H vs Q E hr h => ?_)
  · obtain ⟨a, c, rfl, _⟩ := h
    rfl
  obtain ⟨a, c, rfl, hS, k⟩ := h
  refine ⟨_, (qss_cons (qs_set (i := 1) sc__law_beside.nd rfl (Or.inl rfl) (qe_lst qa_nil))
    (qss_cons (qs_for PassesOwn.never rfl (qi_range1 rfl L.n_range (qa_cons qe_int qa_nil)) (qg_name (i := 2) sc__law_beside.nd rfl (Or.inl rfl))
      (qss_one (qs_for PassesOwn.never rfl (qi_list (K := K) rfl (qe_lst (qa_cons (qe_neg qe_int) (qa_cons qe_int qa_nil)))) (qg_name (i := 3) sc__law_beside.nd rfl (Or.inl rfl))
      (qss_cons (qs_set (i := 4) sc__law_beside.nd rfl (Or.inl rfl) (qe_callTy (qc_list (K := K) rfl) rfl L.n_list b_list (qa_cons (qv 0) qa_nil)))
    (qss_cons (qs_asg (qe_op qo_add (qe_ix (qx_list (K := K) rfl) (qv 4) (qv 2) (fun _ _ => rfl)) (qv 3)) (qg_sub (qv 4) (qv 2)))
    (qss_one (qs_expr (qe_bm (K := K) rfl PySem.F.plainAttrs_list PySem.F.slot_list_append PySem.F.type_list_append mt_append (qv 1) (qa_cons (qe_callTy (qc_tuple (K := K) rfl) rfl L.n_tuple b_tuple (qa_cons (qv 4) qa_nil)) qa_nil)))))))))
    (qss_one (qs_ret (qv 1))))), ?_⟩
  walk_at "rd"
  refine ⟨le0, fun lf hlf => ?_⟩
  walk_at "rd"
  have hlr : ((List.range (Int.toNat 3)).map fun i : Nat => (0 : Int) + (i : Int)).length = 3 := by decide
  refine for_feeds (R := IsI) (H0 := H) (fun i σ H' => (∃ o1 o2 o3, σ = [some (.ref a), some (.ref lf), o1, o2, o3]) ∧ Same H H' ∧ ∃ zs, H' lf = some (.lst zs) ∧ Cs H' zs ((nbL c).take (2 * i))) feeds_range (fun _ _ _ q => q.2.1) ⟨⟨_, _, _, rfl⟩, same_new hlf, [], upd_same, .nil⟩ ?_ ?_
  · rintro σ H1 ⟨⟨o1, o2, o3, rfl⟩, s1, zs, e1, c1⟩
    rw [hlr] at c1
    walk_at "rd"
    exact k lf zs H1 s1 hlf e1 c1
  · rintro i n v σ H1 H2 hi ex ⟨⟨o1, o2, o3, rfl⟩, s1, zs, e1, c1⟩ s2 rfl
    rw [hlr] at hi
    have hn : n = (i : Int) := by
      rw [List.getElem?_map, List.getElem?_range (by omega)] at ex
      have : (0 : Int) + (i : Int) = n := Option.some.inj ex
      omega
    subst hn
    have s12 := s1.trans s2
    have e2 := s2 _ _ e1
    walk_at "rd"
    refine ⟨le2, fun l2 hl2 => ?_⟩
    have sl := same_new (o := .lst [.int (-1), .int 1]) hl2
    have nl2 : l2 ≠ lf := fun z => by subst z; rw [e2] at hl2; cases hl2
    walk_at "rd"
    refine for_feeds (R := IsI) (H0 := hid (upd H2 l2 (.lst [.int (-1), .int 1])) lf) (fun j σ H' => (∃ o2 o3, σ = [some (.ref a), some (.ref lf), some (.int (i : Int)), o2, o3]) ∧ Same (hid (upd H2 l2 (.lst [.int (-1), .int 1])) lf) H' ∧ ∃ zs, H' lf = some (.lst zs) ∧ Cs H' zs ((nbL c).take (2 * i + j))) (feeds_list (SqL.of (hid_at nl2 upd_same)) (Rs.ints [-1, 1])) (fun _ _ _ q => q.2.1) ⟨⟨_, _, rfl⟩, hid_same, zs, sl _ _ e2, Rs.up (s2.trans sl) c1⟩ ?_ ?_
    · rintro σ H3 ⟨⟨o2, o3, rfl⟩, s3, zs3, e3, c3⟩
      walk_at "rd"
      exact ⟨⟨_, _, _, rfl⟩, (same_hid (s12.trans sl) hlf).trans s3, zs3, e3, c3⟩
    · rintro j st v σ H3 H4 hj exj ⟨⟨o2, o3, rfl⟩, s3, zs3, e3, c3⟩ s4 rfl
      obtain ⟨dd, nn, st', ed, est, eat, eset⟩ := beside_at c hi (show j < 2 from hj)
      have est' : st' = st := by
        rw [est] at exj
        exact Option.some.inj exj
      subst est'
      have sA := ((same_hid (s12.trans sl) hlf).trans (s3.trans s4))
      have hS4 := same_tup sA hS
      have e4 := s4 _ _ e3
      walk_at "rd"
      intro l hl
      walk_at "rd"
      refine rd_ixL (SqL.of upd_same) eat ?_
      walk_at "rd"
      refine rd_setL upd_same (ix_i (show i < 3 from hi)) ?_
      rw [eset]
      have sl4 := same_new (o := .lst c.v) hl
      have nlf : l ≠ lf := fun z => by subst z; rw [e4] at hl; cases hl
      have hlG : hid (upd H2 l2 (.lst [.int (-1), .int 1])) lf l = none := (s3.trans s4).free hl
      have s5 : Same (hid (upd H2 l2 (.lst [.int (-1), .int 1])) lf) (upd (upd H4 l (.lst c.v)) l (.lst dd.v)) := same_up (same_up (s3.trans s4) hlG) hlG
      have e5 : upd (upd H4 l (.lst c.v)) l (.lst dd.v) lf = some (.lst zs3) := lk_ne nlf.symm (sl4 _ _ e4)
      have c5 : Cs (upd (upd H4 l (.lst c.v)) l (.lst dd.v)) zs3 ((nbL c).take (2 * i + j)) := Rs.lst upd_same (Rs.up (s4.trans sl4) c3)
      have el5 : upd (upd H4 l (.lst c.v)) l (.lst dd.v) l = some (.lst dd.v) := upd_same
      generalize upd (upd H4 l (.lst c.v)) l (.lst dd.v) = H5 at *
      walk_at "rd"
      refine ⟨.inl ⟨rfl, _, SqL.of e5⟩, ?_⟩
      walk_at "rd"
      intro q hq
      have sq := same_new (o := .tup dd.v) hq
      have e6 := sq _ _ e5
      have hzl : zs3.length ≤ 6 := by
        have := c5.len
        rw [List.length_take] at this
        have h6 : (nbL c).length = 6 := rfl
        omega
      walk_at "rd"
      refine ⟨lf, zs3, .ref q, rfl, rfl, e6, small1000 (by omega), ?_⟩
      walk_at "rd"
      refine ⟨⟨_, _, rfl⟩, same_up (s5.trans sq) hid_none, _, upd_same, ?_⟩
      rw [show 2 * i + (j + 1) = 2 * i + j + 1 by omega, take_snoc ed]
      exact Rs.app (Rs.lst e6 (Rs.up sq c5)) (.cons ⟨q, rfl, lk_kind e6 (by intro z; cases z) upd_same⟩ .nil)
theorem ok__law_wide (L : All K w mg ad) : FnOk P w K mg base CX0 1 ad.f__law_wide ad.d__law_wide ["_law_script"] (spWide K) := by
  refine L._law_wide.F.okQ sc__law_wide (fun vs H Q E h => ?_) (fun cdv A outer s H vs Q E hr h => ?_)
  · obtain ⟨a, ns, rfl, _⟩ := h
    rfl
  obtain ⟨a, ns, rfl, hS, hl, k⟩ := h
  refine ⟨_, (qss_cons (qs_if (QW.t (qw_or (qt_cmpR qo_lt (qe_callB (qc_len (K := K) rfl) rfl L.n_len b_len (qa_cons (qv 0) qa_nil)) qe_int (nomark _)) (qw_or1 (qt_cmpR qo_lt (qe_callB qc_abs rfl L.n_abs b_abs (qa_cons (qe_ix (qx_list (K := K) rfl) (qv 0) qe_int (fun _ _ => rfl)) qa_nil)) (qe_op qo_pow qe_int qe_int) (nomark _))))) (qss_one (qs_ret (qv 0))) qss_nil)
    (qss_cons (qs_set (i := 1) sc__law_wide.nd rfl (Or.inl rfl) (qe_lst qa_nil))
    (qss_cons (qs_set (i := 2) sc__law_wide.nd rfl (Or.inl rfl) (qe_callB qc_abs rfl L.n_abs b_abs (qa_cons (qe_ix (qx_list (K := K) rfl) (qv 0) qe_int (fun _ _ => rfl)) qa_nil)))
    (qss_cons (qs_while PassesOwn.never (QW.t (qw_and (qt_cmpR qo_gt (qv 2) qe_int (nomark _)) (qw_and1 (qt_cmpR qo_lt (qe_callB (qc_len (K := K) rfl) rfl L.n_len b_len (qa_cons (qv 1) qa_nil)) qe_int (nomark _)))))
      (qss_cons (qs_expr (qe_bm (K := K) rfl PySem.F.plainAttrs_list PySem.F.slot_list_append PySem.F.type_list_append mt_append (qv 1) (qa_cons (qe_op qo_mod (qv 2) (qe_op qo_pow qe_int qe_int)) qa_nil)))
    (qss_one (qs_set (i := 2) sc__law_wide.nd rfl (Or.inl rfl) (qe_op qo_fdiv (qv 2) (qe_op qo_pow qe_int qe_int))))))
    (qss_one (qs_ret (qe_op qo_cat (qv 1) (qe_slL (K := K) rfl (qv 0) (qo_some qe_int) qo_none)))))))), ?_⟩
  walk_at "rd"
  rw [List.length_map]
  by_cases h2 : (ns.length : Int) < 2
  · rw [decide_eq_true h2]
    walk_at "rd"
    exact k a ns H (Same.refl _) hS (by omega)
  rw [decide_eq_false h2]
  have hn : 1 < ns.length := by omega
  have e1 : atI (ns.map V.int) 1 = some (.int ns[1]) := by
    have q : atI (ns.map V.int) ((1 : Nat) : Int) = some (.int ns[1]) := atI_nat (by rw [List.getElem?_map, List.getElem?_eq_getElem hn] <;> rfl)
    exact q
  walk_at "rd"
  refine rd_ixL hS e1 ?_
  walk_at "rd"
  cases hd : decide ((if ns[1] < 0 then -ns[1] else ns[1]) < 10 ^ (18 : Int).toNat)
  · walk_at "rd"
    refine ⟨le0, fun l hl0 => ?_⟩
    have hS1 := sqL_new (o := .lst []) hl0 hS
    walk_at "rd"
    refine rd_ixL hS1 e1 ?_
    walk_at "rd"
    refine rd_while (fun m σ H' => ∃ (n : Int) (ms : List Int), σ = [some (.ref a), some (.ref l), some (.int n)] ∧ Same H H' ∧ H' l = some (.lst (ms.map V.int)) ∧ 0 ≤ n ∧ ms.length ≤ 63 ∧ m = 63 - ms.length) 63 ⟨_, [], rfl, same_new hl0, upd_same, by split <;> omega, by simp, rfl⟩ ?_
    rintro m σ H' ⟨n, ms, rfl, s1, e2, hn0, hm, rfl⟩
    have fin : ∀ H2 : Hp, Same H H2 → H2 l = some (.lst (ms.map V.int)) → tRet (tOp rCat (tVar 1) (tSl (rSlL K) (tVar 0) (tPart (tC (.int 2))) tNoPart)) { nx := fun _ H' => Q .non H', rt := Q } [some (.ref a), some (.ref l), some (.int n)] H2 := by
      intro H2 s2 e3
      have hS2 := s2.seq hS
      walk_at "rd"
      intro q hq
      have cl := cutX_len ns (some 2) none
      refine rd_catL (lk_old hq e3) upd_same (by rw [cut_ints, List.length_map, List.length_map]; exact Nat.le_of_lt (small1000 (by omega))) fun p hp => ?_
      refine k p (ms ++ cutX ns (some 2) none) _ (s2.trans ((same_new hq).trans (same_new hp))) (SqL.of ?_) (by rw [List.length_append]; omega)
      rw [upd_same, cut_ints, List.map_append]
    walk_at "rd"
    by_cases hp : 0 < n
    · rw [decide_eq_true hp]
      walk_at "rd"
      rw [List.length_map]
      by_cases h63 : (ms.length : Int) < 63
      · rw [decide_eq_true h63]
        refine iteT ?_
        refine ⟨fun σ' H'' => ∃ (n' : Int) (ms' : List Int), σ' = [some (.ref a), some (.ref l), some (.int n')] ∧ Same H H'' ∧ H'' l = some (.lst (ms'.map V.int)) ∧ 0 ≤ n' ∧ ms'.length = ms.length + 1, fun σ' H'' ⟨n', ms', e, s, el, h0, h1⟩ => ⟨63 - ms'.length, by omega, n', ms', e, s, el, h0, by omega, rfl⟩, ?_⟩
        walk_at "rd"
        refine ⟨.inl ⟨rfl, _, SqL.of e2⟩, ?_⟩
        walk_at "rd"
        refine ⟨l, _, _, rfl, rfl, e2, small1000 (by rw [List.length_map]; omega), ?_⟩
        walk_at "rd"
        exact ⟨_, ms ++ [n % 10 ^ (6 : Int).toNat], rfl, same_up s1 hl0, by rw [upd_same, List.map_append]; rfl, Int.ediv_nonneg hn0 (by decide), by simp⟩
      · rw [decide_eq_false h63]
        refine iteF ?_
        exact fin H' s1 e2
    · rw [decide_eq_false hp]
      refine iteF ?_
      exact fin H' s1 e2
  · walk_at "rd"
    exact k a ns H (Same.refl _) hS (by omega)
end
end P74
set_option Elab.async false
set_option linter.all false
set_option maxRecDepth 100000
set_option maxHeartbeats 4000000
namespace P74
open PySem L2 Srt Pc
section
variable {P : Program} {w : World} {K : PySem.W.Frag} {mg : Str → Option Value} {base : Heap} {ad : Ad}
theorem ok__law_asked_so (L : All K w mg ad) (B : BM mg base) : FnOk P w K mg base CX0 6 ad.f__law_asked_so ad.d__law_asked_so ["_law_script"] (spAskedT K ad.p_filled ⟨59, 30, 59, 81⟩ "filled.<locals>.<lambda>") := by
  refine L._law_asked_so.F.okQ sc__law_asked_so (fun vs H Q E h => ?_) (fun cdv A outer s H vs Q E hr h => ?_)
  · obtain ⟨x, ns, rfl, _⟩ := h
    rfl
  obtain ⟨x, ns, rfl, hS, hl, hT, k⟩ := h
  refine ⟨_, (qss_cons (qs_set (i := 1) sc__law_asked_so.nd rfl (Or.inl rfl) (qe_call ((ok__law_hollow L).mono (by decide)) hr rfl L._law_hollow.m L._law_hollow.F.kp L._law_hollow.b .nil pass0 (qa_cons (qv 0) qa_nil)))
    (qss_cons (qs_set (i := 2) sc__law_asked_so.nd rfl (Or.inl rfl) (qe_ix (qx_list (K := K) rfl) (qv 1) (qe_op qo_mod (qe_call ((ok__law_mix L).mono (by decide)) hr rfl L._law_mix.m L._law_mix.F.kp L._law_mix.b .nil pass0 (qa_cons (qe_call ((ok__law_cell_at L).mono (by decide)) hr rfl L._law_cell_at.m L._law_cell_at.F.kp L._law_cell_at.b .nil pass0 (qa_cons (qv 0) (qa_cons qe_int qa_nil))) (qa_cons qe_int qa_nil))) (qe_callB (qc_len (K := K) rfl) rfl L.n_len b_len (qa_cons (qv 1) qa_nil))) (fun _ _ => rfl)))
    (qss_cons (qs_set (i := 3) sc__law_asked_so.nd rfl (Or.inr rfl) qe_dnewT)
    (qss_cons (qs_for PassesOwn.never rfl (qi_list (K := K) rfl (qv 1)) (qg_name (i := 4) sc__law_asked_so.nd rfl (Or.inr rfl))
      (qss_one (qs_dput (hu_of hr) (qv 3) (qv 4) (qe_call ((ok_level L).mono (by decide)) hr rfl L.level.m L.level.F.kp L.level.b .nil pass0 (qa_cons (qv 1) (qa_cons (qv 2) (qa_cons (qv 4) qa_nil)))) rfl)))
    (qss_cons (qs_set (i := 5) sc__law_asked_so.nd rfl (Or.inl rfl) (qe_call ((ok_filled L B).mono (by decide)) hr rfl L.filled.m L.filled.F.kp L.filled.b .nil pass0 (qa_cons (qv 1) (qa_cons (qv 2) qa_nil))))
    (qss_cons (qs_if (QW.t (qw_or (qt_cmpR qo_ne (qe_dget (hu_of hr) (qv 3) (qv 2) (fun _ _ => rfl)) (qe_ix (qx_tup (K := K) rfl) (qv 2) qe_int (fun _ _ => rfl)) (nomark _)) (qw_or1 (qt_cmpR qo_ne (qe_callB (qc_len (K := K) rfl) rfl L.n_len b_len (qa_cons (qv 5) qa_nil)) (qe_callB (qc_len (K := K) rfl) rfl L.n_len b_len (qa_cons (qe_compD (N := ["_law_cell", "_law_told"]) ["_law_cell"] [3] rfl rfl rfl rfl (qv 3) (fun _ _ _ _ => (qg_name (i := 0) (by show (["_law_cell", "_law_told"] : List Str).Nodup; decide +kernel) rfl (Or.inl rfl))) (fun _ _ _ _ => (qf_one (qt_cmpR qo_notN (qe_dget (hu_of hr) (qv 1) (qv 0) (fun _ _ => rfl)) qe_non (nomark _)))) (fun _ _ _ _ => (qv 0))) qa_nil)) (nomark _))))) (qss_one (qs_ret qe_bl)) qss_nil)
    (qss_cons (qs_for PassesOwn.never rfl (qi_list (K := K) rfl (qv 1)) (qg_name (i := 4) sc__law_asked_so.nd rfl (Or.inr rfl))
      (qss_cons (qs_setU (i := 6) (N := ["_law_one", "_law_told"]) ["_law_one"] [3] sc__law_asked_so.nd rfl (Or.inl rfl) rfl rfl rfl rfl (qi_list (K := K) rfl (qe_call ((ok__law_beside L).mono (by decide)) hr rfl L._law_beside.m L._law_beside.F.kp L._law_beside.b .nil pass0 (qa_cons (qv 4) qa_nil))) (fun _ _ _ _ => (qg_name (i := 0) (by show (["_law_one", "_law_told"] : List Str).Nodup; decide +kernel) rfl (Or.inl rfl))) (fun _ _ _ _ => (qf_one (qt_din (hu_of hr) (qv 0) (qv 1) rfl))) (fun _ _ _ _ => (qv 0)))
    (qss_one (qs_if (qt_cmpR qo_isN (qe_dget (hu_of hr) (qv 3) (qv 4) (fun _ _ => rfl)) qe_non (nomark _)) (qss_one (qs_if (qt_cmpR (qo_neR (K := K) rfl hr.units) (qe_comp (N := ["_law_one", "_law_told"]) ["_law_one"] [3] rfl rfl rfl rfl (qi_list (K := K) rfl (qv 6)) (fun _ _ _ _ => (qg_name (i := 0) (by show (["_law_one", "_law_told"] : List Str).Nodup; decide +kernel) rfl (Or.inl rfl))) (fun _ _ _ _ => (qf_one (qt_cmpR qo_notN (qe_dget (hu_of hr) (qv 1) (qv 0) (fun _ _ => rfl)) qe_non (nomark _)))) (fun _ _ _ _ => (qv 0))) (qe_lst qa_nil) (nomark _)) (qss_one (qs_ret qe_bl)) qss_nil)) (qss_cons (qs_setU (i := 7) (N := ["_law_one", "_law_told"]) ["_law_one"] [3] sc__law_asked_so.nd rfl (Or.inl rfl) rfl rfl rfl rfl (qi_list (K := K) rfl (qv 6)) (fun _ _ _ _ => (qg_name (i := 0) (by show (["_law_one", "_law_told"] : List Str).Nodup; decide +kernel) rfl (Or.inl rfl))) (fun _ _ _ _ => (qf_one (qt_cmpR qo_isN (qe_dget (hu_of hr) (qv 1) (qv 0) (fun _ _ => rfl)) qe_non (nomark _)))) (fun _ _ _ _ => (qv 0)))
    (qss_cons (qs_if (QW.t (qw_or (qt_cmpR qo_lt (qe_dget (hu_of hr) (qv 3) (qv 4) (fun _ _ => rfl)) (qe_ix (qx_tup (K := K) rfl) (qv 4) qe_int (fun _ _ => rfl)) (nomark _)) (qw_or1 (qt_cmpR (qo_neR (K := K) rfl hr.units) (qv 7) (qe_lst qa_nil) (nomark _))))) (qss_one (qs_ret qe_bl)) qss_nil)
    (qss_cons (qs_setU (i := 8) (N := ["_law_one", "_law_told", "_law_cell"]) ["_law_one"] [3, 4] sc__law_asked_so.nd rfl (Or.inl rfl) rfl rfl rfl rfl (qi_list (K := K) rfl (qv 6)) (fun _ _ _ _ => (qg_name (i := 0) (by show (["_law_one", "_law_told", "_law_cell"] : List Str).Nodup; decide +kernel) rfl (Or.inl rfl))) (fun _ _ _ _ => (qf_one (qt_cmpR qo_gt (qe_dget (hu_of hr) (qv 1) (qv 0) (fun _ _ => rfl)) (qe_callB (qc_max2 rfl) rfl L.n_max b_max (qa_cons (qe_dget (hu_of hr) (qv 1) (qv 2) (fun _ _ => rfl)) (qa_cons (qe_ix (qx_tup (K := K) rfl) (qv 0) qe_int (fun _ _ => rfl)) qa_nil))) (nomark _)))) (fun _ _ _ _ => (qv 0)))
    (qss_cons (qs_setU (i := 9) (N := ["_law_one", "_law_told", "_law_cell"]) ["_law_one"] [3, 4] sc__law_asked_so.nd rfl (Or.inl rfl) rfl rfl rfl rfl (qi_list (K := K) rfl (qv 6)) (fun _ _ _ _ => (qg_name (i := 0) (by show (["_law_one", "_law_told", "_law_cell"] : List Str).Nodup; decide +kernel) rfl (Or.inl rfl))) (fun _ _ _ _ => (qf_one (qt_cmpR qo_le (qe_dget (hu_of hr) (qv 1) (qv 0) (fun _ _ => rfl)) (qe_dget (hu_of hr) (qv 1) (qv 2) (fun _ _ => rfl)) (nomark _)))) (fun _ _ _ _ => (qv 0)))
    (qss_one (qs_if (QW.t (qw_or (qt_cmpR (qo_neR (K := K) rfl hr.units) (qv 8) (qe_lst qa_nil) (nomark _)) (qw_or1 (QW.t (qw_and (qt_cmpR (qo_neT (K := K) rfl hr.units) (qv 4) (qv 2) (nomark _)) (qw_and1 (qt_cmpR (qo_eqR (K := K) rfl hr.units) (qv 9) (qe_lst qa_nil) (nomark _)))))))) (qss_one (qs_ret qe_bl)) qss_nil))))))))))
    (qss_one (qs_ret (qe_cmpR qo_eq (qe_callB (qc_maxL (K := K) rfl rfl) rfl L.n_max b_max (qa_cons (qe_comp (N := ["_law_one"]) ["_law_one"] [] rfl rfl rfl rfl (qi_list (K := K) rfl (qe_call ((ok_way_to L).mono (by decide)) hr rfl L.way_to.m L.way_to.F.kp L.way_to.b .nil pass0 (qa_cons (qv 1) (qa_cons (qv 2) (qa_cons (qe_ix (qx_list (K := K) rfl) (qv 5) (qe_neg qe_int) (fun _ _ => rfl)) qa_nil))))) (fun _ _ _ _ => (qg_name (i := 0) (by show (["_law_one"] : List Str).Nodup; decide +kernel) rfl (Or.inl rfl))) (fun _ _ _ _ => qf_nil) (fun _ _ _ _ => (qe_ix (qx_tup (K := K) rfl) (qv 0) qe_int (fun _ _ => rfl)))) qa_nil)) (qe_dget (hu_of hr) (qv 3) (qe_ix (qx_list (K := K) rfl) (qv 5) (qe_neg qe_int) (fun _ _ => rfl)) (fun _ _ => rfl)) (nomark _))))))))))), ?_⟩
  walk_at "rd"
  refine ⟨x, ns, rfl, hS, by omega, fun ph zh cs H1 s1 nph eh ch hne hcl hasc hnd => ?_⟩
  have hzl := ch.len
  have hcp : 0 < cs.length := List.length_pos_iff.mpr hne
  have hS1 := s1.seq hS
  have hT1 := hT.up s1
  walk_at "rd"
  refine ⟨x, ns, 0, rfl, hS1, by decide, fun m0 => ?_⟩
  walk_at "rd"
  refine ⟨m0, 630360016, rfl, by decide, by decide, fun r0 r00 r01 => ?_⟩
  walk_at "rd"
  obtain ⟨g, gc, eatA, eg, hgc⟩ := cs_pick ch (i := r0 % (zh.length : Int)) (Int.emod_nonneg _ (by omega)) (Int.emod_lt_of_pos _ (by omega))
  refine rd_ixL (SqL.of eh) eatA ?_
  walk_at "rd"
  obtain ⟨⟨mm, pin⟩, _⟩ := pf_end hgc
  have ndP : ((PF cs gc).map (·.1)).Nodup := pin.nd
  have hsub : ∀ c ∈ (PF cs gc).map (·.1), c ∈ cs := fun c hc => by
    obtain ⟨p, hp, rfl⟩ := List.mem_map.mp hc
    exact pin.sub p hp
  intro th hth
  have sth := same_new (o := .dT []) hth
  walk_at "rd"
  refine for_feeds (R := IsC) (H0 := H1) (fun i σ H' => (∃ o4, σ = [some (.ref x), some (.ref ph), some (.ref g), some (.ref th), o4, none, none, none, none, none]) ∧ Same H1 H' ∧ ∃ lk ts, H' th = some (.dT lk) ∧ TD lk ts (PF cs gc) ∧ ts.length ≤ i ∧ ts.Nodup ∧ ∀ c, c ∈ ts ↔ c ∈ cs.take i) (feeds_list (SqL.of eh) ch) (fun _ _ _ q => q.2.1)
    ⟨⟨_, rfl⟩, sth, [], [], upd_same, ⟨rfl, fun _ z => nomatch z⟩, Nat.le_refl _, .nil, fun c => by simp⟩ ?_ ?_
  rotate_left
  · rintro i c v σ H4 H5 hi ex ⟨⟨o4, rfl⟩, s4, lk, ts, et, htd, hdl', hnt, hds⟩ s5 ⟨b, rfl, eb⟩
    have et5 := s5 _ _ et
    have s35 := s4.trans s5
    have put : ∀ H6, Same H5 H6 → H6 th = some (.dT lk) ∧ H6 b = some (.tup c.v) := fun H6 s6 => ⟨s6 _ _ et5, s6 _ _ eb⟩
    have fin : ∀ H6, Same H5 H6 → (∃ o4, ([some (.ref x), some (.ref ph), some (.ref g), some (.ref th), some (.ref b), none, none, none, none, none] : St) = [some (.ref x), some (.ref ph), some (.ref g), some (.ref th), o4, none, none, none, none, none]) ∧ Same H1 (upd H6 th (.dT (putK lk (keyC c) (tv (PF cs gc) c)))) ∧ ∃ lk2 ts2, upd H6 th (.dT (putK lk (keyC c) (tv (PF cs gc) c))) th = some (.dT lk2) ∧ TD lk2 ts2 (PF cs gc) ∧ ts2.length ≤ i + 1 ∧ ts2.Nodup ∧ ∀ y, y ∈ ts2 ↔ y ∈ cs.take (i + 1) := fun H6 s6 =>
      ⟨⟨_, rfl⟩, same_up (s35.trans s6) hth, _, addC ts c, upd_same, htd.put c, by have := @len_addC ts c; omega, nodup_addC hnt, fun y => by rw [mem_addC, hds, take_snoc ex, List.mem_append, List.mem_singleton]⟩
    walk_at "rd"
    refine ⟨ph, g, b, zh, cs, gc, c, rfl, SqL.of (s35 _ _ eh), Rs.up s35 ch, by omega, s35 _ _ eg, hgc, eb, fun p n6 H6 hp hpc pin6 s6 => ?_, fun n6 H6 hno pin6 s6 => ?_⟩
    · obtain ⟨et6, eb6⟩ := put H6 s6
      have hm : c ∈ (PF cs gc).map (·.1) := by rw [← hpc]; exact List.mem_map.mpr ⟨p, hp, rfl⟩
      have ev : V.int p.2.1 = tv (PF cs gc) c := by unfold tv; rw [if_pos hm, ← hpc, lvl_mem pin.nd hp]
      walk_at "rd"
      refine ⟨th, _, rfl, dput_c et6 eb6 (smallM (by have := kd_len htd.kd; omega)), ?_⟩
      rw [ev]
      exact fin H6 s6
    · obtain ⟨et6, eb6⟩ := put H6 s6
      have ev : V.non = tv (PF cs gc) c := by unfold tv; rw [if_neg hno]
      walk_at "rd"
      refine ⟨th, _, rfl, dput_c et6 eb6 (smallM (by have := kd_len htd.kd; omega)), ?_⟩
      rw [ev]
      exact fin H6 s6
  rintro σ H4 ⟨⟨o4, rfl⟩, s4, lk, ts, et, htd, htl, hnt, hts⟩
  rw [List.take_of_length_le (Nat.le_refl _)] at hts
  have eh4 := s4 _ _ eh
  have ch4 : Cs H4 zh cs := Rs.up s4 ch
  have eg4 := s4 _ _ eg
  have hT4 := hT1.up s4
  walk_at "rd"
  refine ⟨ph, g, zh, cs, gc, rfl, SqL.of eh4, ch4, by omega, eg4, hgc, hT4, fun pf zf ds H5 g5 npf epf cpf fo => ?_⟩
  have nt : ∀ {xs : List V} (ps : Array Value), HO.lst xs ≠ .tbl ps := fun _ z => nomatch z
  have ntt : ∀ {xs : List V} (ps : Array Value), HO.tup xs ≠ .tbl ps := fun _ z => nomatch z
  have ntd : ∀ {xs : List (List Key × V)} (ps : Array Value), HO.dT xs ≠ .tbl ps := fun _ z => nomatch z
  have eh5 := g5.keep hT4 eh4 nt
  have ch5 := g5.cs hT4 ch4
  have eg5 : H5 g = some (.tup [.int gc.x, .int gc.y, .int gc.z]) := g5.keep hT4 eg4 ntt
  have et5 := g5.keep hT4 et ntd
  have hT5 := g5.2
  have hdn : ds.Nodup := fo.perm.nodup_iff.mpr ndP
  have hgd : gc ∈ ds := fo.perm.mem_iff.mpr (List.mem_map.mpr ⟨_, pin.gm, rfl⟩)
  have hpl : (PF cs gc).length ≤ cs.length := pin.len
  have hdl : ds.length ≤ cs.length := by rw [fo.perm.length_eq, List.length_map]; exact hpl
  have hzf := cpf.len
  have hgl : lvl (PF cs gc) gc = gc.z := lvl_mem pin.nd pin.gm
  have hgv : valV lk (keyC gc) = some (.int gc.z) := by
    rw [htd.val gc ((hts gc).mpr hgc)]
    unfold tv
    rw [if_pos (List.mem_map.mpr ⟨_, pin.gm, rfl⟩), hgl]
  walk_at "rd"
  refine ⟨th, _, rfl, .inr ⟨lk, keyC gc, g, .inl et5, rfl, (by rw [keyC_v]; exact eg5), hgv.symm⟩, ?_⟩
  walk_at "rd"
  rw [decide_eq_true rfl]
  walk_at "rd"
  refine ⟨th, lk, rfl, et5, fun ob acc hacc => ?_⟩
  have hF : upd H5 th (.frz ob (.dT lk)) th = some (.frz ob (.dT lk)) := upd_same
  refine comp_fm (S := IsC) (fun kv => decide (ckey kv.1 ∈ (PF cs gc).map (·.1))) (fun kv => ckey kv.1) 1 [some (.ref th)] (feeds_keys hF) (by have := kd_len htd.kd; omega) hacc ?_ ?_
  · rintro os v kv H6 R1 R0 ho s6 hkv ⟨b, rfl, eb⟩ k1 k0
    obtain ⟨o, rfl⟩ := List.length_eq_one_iff.mp ho
    obtain ⟨c, hc, ekc⟩ := kd_mem htd.kd hkv
    rw [ekc, ckey_key] at k1 k0
    have eb' : H6 b = some (.tup c.v) := by rw [← keyC_v, ← ekc]; exact eb
    have hv := htd.val c hc
    walk_at "rd"
    refine ⟨th, _, rfl, .inr ⟨lk, keyC c, b, .inr ⟨ob, s6 _ _ hF⟩, rfl, (by rw [keyC_v]; exact eb'), hv.symm⟩, ?_⟩
    unfold tv
    by_cases hm : c ∈ (PF cs gc).map (·.1)
    · rw [if_pos hm]
      walk_at "rd"
      exact k1 [_] _ _ rfl (Same.refl _) (decide_eq_true hm) ⟨b, rfl, eb'⟩
    · rw [if_neg hm]
      walk_at "rd"
      exact k0 [_] _ rfl (Same.refl _) (decide_eq_false hm)
  intro za H6 s6 ea ra
  refine ⟨⟨ob, s6 _ _ hF⟩, ?_⟩
  have s7 := same_frz et5 s6
  have nda : acc ≠ th := fun e => by subst e; rw [hF] at hacc; cases hacc
  have e7 : upd H6 th (.dT lk) acc = some (.lst za) := lk_ne nda ea
  have et7 : upd H6 th (.dT lk) th = some (.dT lk) := upd_same
  have hla := ra.len
  rw [kd_keys (fun c => decide (c ∈ (PF cs gc).map (·.1))) htd.kd, filt_len hnt hdn (fun c => fo.perm.mem_iff) (fun c hc => (hts c).mpr (hsub c hc))] at hla
  generalize upd H6 th (.dT lk) = H7 at *
  have eh7 := s7 _ _ eh5
  have ch7 : Cs H7 zh cs := Rs.up s7 ch5
  have eg7 := s7 _ _ eg5
  have epf7 := s7 _ _ epf
  have cpf7 : Cs H7 zf ds := Rs.up s7 cpf
  walk_at "rd"
  rw [decide_eq_true (by omega)]
  walk_at "rd"
  refine for_feeds (R := IsC) (H0 := H7) (fun i σ H' => (∃ o4 o6 o7 o8 o9, σ = [some (.ref x), some (.ref ph), some (.ref g), some (.ref th), o4, some (.ref pf), o6, o7, o8, o9]) ∧ Same H7 H') (feeds_list (SqL.of eh7) ch7) (fun _ _ _ q => q.2) ⟨⟨_, _, _, _, _, rfl⟩, Same.refl _⟩ ?_ ?_
  rotate_left
  · rintro i c v σ H8 H9 hi ex ⟨⟨o4, o6, o7, o8, o9, rfl⟩, s8⟩ s9 ⟨b, rfl, eb⟩
    have hcc : c ∈ cs := List.mem_of_getElem? ex
    have s79 := s8.trans s9
    walk_at "rd"
    refine ⟨b, c, rfl, SqT.of eb, fun pn zn H10 s10 npn epn cpn => ?_⟩
    have s710 := s79.trans s10
    walk_at "rd"
    intro ab hab
    refine comp_fm (S := IsC) (fun d => decide (d ∈ cs)) (fun c : C3 => c) 1 [some (.ref th)] (feeds_list (SqL.of epn) cpn) (by show 6 ≤ 16000000; decide) hab ?_ ?_
    · rintro os v d H11 R1 R0 ho s11 _ ⟨bd, rfl, ebd⟩ k1 k0
      obtain ⟨o, rfl⟩ := List.length_eq_one_iff.mp ho
      walk_at "rd"
      refine ⟨th, _, rfl, .inr ⟨lk, keyC d, bd, .inl ((s710.trans s11) _ _ et7), rfl, (by rw [keyC_v]; exact ebd), rfl⟩, ?_⟩
      rw [kd_some d htd.kd]
      by_cases hd : d ∈ cs
      · rw [decide_eq_true ((hts d).mpr hd)]
        walk_at "rd"
        exact k1 [_] _ _ rfl (Same.refl _) (decide_eq_true hd) ⟨bd, rfl, ebd⟩
      · rw [decide_eq_false fun z => hd ((hts d).mp z)]
        walk_at "rd"
        exact k0 [_] _ rfl (Same.refl _) (decide_eq_false hd)
    intro zb H11 s11 eab rab
    rw [List.map_id'] at rab
    have hbs : ∀ d ∈ (nbL c).filter (fun d => decide (d ∈ cs)), d ∈ nbL c ∧ d ∈ cs := fun d hd => ⟨(List.mem_filter.mp hd).1, of_decide_eq_true (List.mem_filter.mp hd).2⟩
    have hbl : ((nbL c).filter (fun d => decide (d ∈ cs))).length ≤ 6 := List.length_filter_le _ _
    have hbi : ∀ d, d ∈ nbL c → d ∈ cs → d ∈ (nbL c).filter (fun d => decide (d ∈ cs)) := fun d h1 h2 => List.mem_filter.mpr ⟨h1, decide_eq_true h2⟩
    generalize (nbL c).filter (fun d => decide (d ∈ cs)) = bs at *
    have s711 := s710.trans s11
    have eb11 := (s10.trans s11) _ _ eb
    have et11 := s711 _ _ et7
    have hv := htd.val c ((hts c).mpr hcc)
    walk_at "rd"
    refine ⟨th, _, rfl, .inr ⟨lk, keyC c, b, .inl et11, rfl, (by rw [keyC_v]; exact eb11), hv.symm⟩, ?_⟩
    unfold tv
    by_cases hc : c ∈ (PF cs gc).map (·.1)
    · rw [if_pos hc]
      walk_at "rd"
      have eb11' : H11 b = some (.tup [.int c.x, .int c.y, .int c.z]) := eb11
      have hvc : valV lk (keyC c) = some (.int (lvl (PF cs gc) c)) := by rw [hv]; unfold tv; rw [if_pos hc]
      have hvd : ∀ d ∈ bs, valV lk (keyC d) = some (.int (lvl (PF cs gc) d)) := fun d hd => by
        rw [htd.val d ((hts d).mpr (hbs d hd).2)]
        unfold tv
        rw [if_pos (pf_by hgc hc (hbs d hd).1 (hbs d hd).2).1]
      intro a1 ha1
      refine comp_fm (S := IsC) (fun _ => false) (fun c : C3 => c) 1 [some (.ref th)] (feeds_list (SqL.of eab) rab) (by omega) ha1 ?_ ?_
      · rintro os v d H12 R1 R0 ho s12 hdm ⟨bd, rfl, ebd⟩ k1 k0
        obtain ⟨o, rfl⟩ := List.length_eq_one_iff.mp ho
        walk_at "rd"
        refine ⟨th, _, rfl, .inr ⟨lk, keyC d, bd, .inl ((s711.trans s12) _ _ et7), rfl, (by rw [keyC_v]; exact ebd), (hvd d hdm).symm⟩, ?_⟩
        walk_at "rd"
        exact k0 [_] _ rfl (Same.refl _) rfl
      intro z1 H12 s12 e1 r1
      rw [List.map_id', filt_nil fun _ _ => rfl] at r1
      have s712 := s711.trans s12
      have eb12 : H12 b = some (.tup [.int c.x, .int c.y, .int c.z]) := s12 _ _ eb11'
      walk_at "rd"
      refine ⟨th, _, rfl, .inr ⟨lk, keyC c, b, .inl (s712 _ _ et7), rfl, (by rw [keyC_v]; exact eb12), hvc.symm⟩, ?_⟩
      walk_at "rd"
      rw [decide_eq_false (by have := pf_hi hgc hc; omega)]
      walk_at "rd"
      refine ⟨le0, fun l0 hl0 => ?_⟩
      have sl0 := same_new (o := .lst []) hl0
      refine rd_neR (SqL.of (sl0 _ _ e1)) (Rs.up sl0 r1) (SqL.of upd_same) .nil ?_
      rw [decide_eq_true rfl]
      have s713 := s712.trans sl0
      have eab13 := (s12.trans sl0) _ _ eab
      have rab13 : Cs _ zb bs := Rs.up (s12.trans sl0) rab
      have eb13 := sl0 _ _ eb12
      generalize upd H12 l0 (.lst []) = H13 at *
      walk_at "rd"
      intro a3 ha3
      refine comp_fm (S := IsC) (fun _ => false) (fun c : C3 => c) 1 [some (.ref th), some (.ref b)] (feeds_list (SqL.of eab13) rab13) (by omega) ha3 ?_ ?_
      · rintro os v d H14 R1 R0 ho s14 hdm ⟨bd, rfl, ebd⟩ k1 k0
        obtain ⟨o, rfl⟩ := List.length_eq_one_iff.mp ho
        have ebd' : H14 bd = some (.tup [.int d.x, .int d.y, .int d.z]) := ebd
        have et14 := (s713.trans s14) _ _ et7
        walk_at "rd"
        refine ⟨th, _, rfl, .inr ⟨lk, keyC d, bd, .inl et14, rfl, (by rw [keyC_v]; exact ebd), (hvd d hdm).symm⟩, ?_⟩
        walk_at "rd"
        refine ⟨th, _, rfl, .inr ⟨lk, keyC c, b, .inl et14, rfl, (by rw [keyC_v]; exact s14 _ _ eb13), hvc.symm⟩, ?_⟩
        walk_at "rd"
        have hmx := (pf_by hgc hc (hbs d hdm).1 (hbs d hdm).2).2
        rw [decide_eq_false (by split <;> omega)]
        walk_at "rd"
        exact k0 [_] _ rfl (Same.refl _) rfl
      intro z3 H14 s14 e3 r3
      rw [List.map_id', filt_nil fun _ _ => rfl] at r3
      have s714 := s713.trans s14
      have eab14 := s14 _ _ eab13
      have rab14 : Cs H14 zb bs := Rs.up s14 rab13
      have eb14 := s14 _ _ eb13
      walk_at "rd"
      intro a4 ha4
      refine comp_fm (S := IsC) (fun d => decide (lvl (PF cs gc) d ≤ lvl (PF cs gc) c)) (fun c : C3 => c) 1 [some (.ref th), some (.ref b)] (feeds_list (SqL.of eab14) rab14) (by omega) ha4 ?_ ?_
      · rintro os v d H15 R1 R0 ho s15 hdm ⟨bd, rfl, ebd⟩ k1 k0
        obtain ⟨o, rfl⟩ := List.length_eq_one_iff.mp ho
        have et15 := (s714.trans s15) _ _ et7
        walk_at "rd"
        refine ⟨th, _, rfl, .inr ⟨lk, keyC d, bd, .inl et15, rfl, (by rw [keyC_v]; exact ebd), (hvd d hdm).symm⟩, ?_⟩
        walk_at "rd"
        refine ⟨th, _, rfl, .inr ⟨lk, keyC c, b, .inl et15, rfl, (by rw [keyC_v]; exact s15 _ _ eb14), hvc.symm⟩, ?_⟩
        walk_at "rd"
        by_cases hle : lvl (PF cs gc) d ≤ lvl (PF cs gc) c
        · rw [decide_eq_true hle]
          walk_at "rd"
          exact k1 [_] _ _ rfl (Same.refl _) (decide_eq_true hle) ⟨bd, rfl, ebd⟩
        · rw [decide_eq_false hle]
          walk_at "rd"
          exact k0 [_] _ rfl (Same.refl _) (decide_eq_false hle)
      intro z4 H15 s15 e4 r4
      rw [List.map_id'] at r4
      have s715 := s714.trans s15
      have e3' := s15 _ _ e3
      have r3' : Cs H15 z3 [] := Rs.up s15 r3
      have eb15 := s15 _ _ eb14
      have eg15 : H15 g = some (.tup [.int gc.x, .int gc.y, .int gc.z]) := s715 _ _ eg7
      walk_at "rd"
      refine ⟨le0, fun l1 hl1 => ?_⟩
      have sl1 := same_new (o := .lst []) hl1
      refine rd_neR (SqL.of (sl1 _ _ e3')) (Rs.up sl1 r3') (SqL.of upd_same) .nil ?_
      rw [decide_eq_true rfl]
      have s7l := s715.trans sl1
      have e4l := sl1 _ _ e4
      have r4l : Cs _ z4 _ := Rs.up sl1 r4
      have eb16 := sl1 _ _ eb15
      have eg16 := sl1 _ _ eg15
      generalize upd H15 l1 (.lst []) = H16 at *
      walk_at "rd"
      refine rd_neT (ns := c.l) (ms := gc.l) (SqT.of eb16) (SqT.of eg16) ?_
      by_cases hcg : c = gc
      · rw [decide_eq_true (by rw [hcg])]
        walk_at "rd"
        exact ⟨⟨_, _, _, _, _, rfl⟩, s7l⟩
      · rw [decide_eq_false fun z => hcg (C3.inj.mp z)]
        obtain ⟨d, d1, d2, d3, d4⟩ := pf_low hgc hc hcg
        have hmd : d ∈ bs.filter (fun d => decide (lvl (PF cs gc) d ≤ lvl (PF cs gc) c)) := List.mem_filter.mpr ⟨hbi d d1 d2, decide_eq_true d4⟩
        walk_at "rd"
        refine ⟨le0, fun l2 hl2 => ?_⟩
        have sl2 := same_new (o := .lst []) hl2
        refine rd_eqR (SqL.of (sl2 _ _ e4l)) (Rs.up sl2 r4l) (SqL.of upd_same) .nil ?_
        rw [decide_eq_false fun z => by rw [z] at hmd; cases hmd]
        walk_at "rd"
        exact ⟨⟨_, _, _, _, _, rfl⟩, s7l.trans sl2⟩
    · rw [if_neg hc]
      walk_at "rd"
      intro a2 ha2
      refine comp_fm (S := IsC) (fun d => decide (d ∈ (PF cs gc).map (·.1))) (fun c : C3 => c) 1 [some (.ref th)] (feeds_list (SqL.of eab) rab) (by omega) ha2 ?_ ?_
      · rintro os v d H12 R1 R0 ho s12 hdm ⟨bd, rfl, ebd⟩ k1 k0
        obtain ⟨o, rfl⟩ := List.length_eq_one_iff.mp ho
        have hvd := htd.val d ((hts d).mpr (hbs d hdm).2)
        walk_at "rd"
        refine ⟨th, _, rfl, .inr ⟨lk, keyC d, bd, .inl ((s711.trans s12) _ _ et7), rfl, (by rw [keyC_v]; exact ebd), hvd.symm⟩, ?_⟩
        unfold tv
        by_cases hm : d ∈ (PF cs gc).map (·.1)
        · rw [if_pos hm]
          walk_at "rd"
          exact k1 [_] _ _ rfl (Same.refl _) (decide_eq_true hm) ⟨bd, rfl, ebd⟩
        · rw [if_neg hm]
          walk_at "rd"
          exact k0 [_] _ rfl (Same.refl _) (decide_eq_false hm)
      intro z2 H12 s12 e2 r2
      rw [List.map_id', filt_nil fun d hd => decide_eq_false (pf_not hgc hcc hc (hbs d hd).1)] at r2
      walk_at "rd"
      refine ⟨le0, fun l0 hl0 => ?_⟩
      have sl0 := same_new (o := .lst []) hl0
      walk_at "rd"
      refine rd_neR (SqL.of (sl0 _ _ e2)) (Rs.up sl0 r2) (SqL.of upd_same) .nil ?_
      rw [decide_eq_true rfl]
      walk_at "rd"
      exact ⟨⟨_, _, _, _, _, rfl⟩, s711.trans (s12.trans sl0)⟩
  rintro σ H8 ⟨⟨o4, o6, o7, o8, o9, rfl⟩, s8⟩
  have epf8 := s8 _ _ epf7
  have cpf8 : Cs H8 zf ds := Rs.up s8 cpf7
  have eh8 := s8 _ _ eh7
  have ch8 : Cs H8 zh cs := Rs.up s8 ch7
  have eg8 := s8 _ _ eg7
  have et8 := s8 _ _ et7
  have hdne : ds ≠ [] := fun z => by rw [z] at hgd; cases hgd
  obtain ⟨gl, lc, eatl, egl, hlc⟩ := cs_last cpf8 hdne
  have hlm : lc ∈ (PF cs gc).map (·.1) := fo.perm.mem_iff.mp hlc
  have hlv : valV lk (keyC lc) = some (.int (lvl (PF cs gc) lc)) := by
    rw [htd.val lc ((hts lc).mpr (hsub lc hlm))]
    unfold tv
    rw [if_pos hlm]
  walk_at "rd"
  refine rd_ixL (SqL.of epf8) eatl ?_
  walk_at "rd"
  refine ⟨ph, g, gl, zh, cs, gc, lc, rfl, SqL.of eh8, ch8, by omega, eg8, hgc, egl, fun n9 H9 hno pin9 s9 => absurd hlm hno, fun q zq pa n9 H9 _ pin9 s9 nq eq cq hw hfo => ?_⟩
  have hpn : pa ≠ [] := hw.ne
  walk_at "rd"
  intro aw haw
  refine comp_map (S := IsI) (fun c => c.z) 1 [] (feeds_list (SqL.of eq) cq) ?_ haw ?_ ?_
  · rw [List.length_reverse]
    have := nodup_lenC hw.nd hw.sub
    omega
  · rintro os v d H10 R1 ho s10 hdm ⟨bd, rfl, ebd⟩ k1
    obtain ⟨o, rfl⟩ := List.length_eq_one_iff.mp ho
    have ebd' : H10 bd = some (.tup [.int d.x, .int d.y, .int d.z]) := ebd
    walk_at "rd"
    exact k1 [_] _ _ rfl (Same.refl _) rfl
  intro zw H10 s10 ew rw'
  have ezw := ints_eq rw'
  subst ezw
  walk_at "rd"
  refine rd_maxL (SqL.of ew) (by simpa using hpn) fun M hM hMm => ?_
  walk_at "rd"
  refine rd_ixL (SqL.of ((s9.trans s10) _ _ epf8)) eatl ?_
  walk_at "rd"
  refine ⟨th, _, rfl, .inr ⟨lk, keyC lc, gl, .inl ((s9.trans s10) _ _ et8), rfl, (by rw [keyC_v]; exact (s9.trans s10) _ _ egl), hlv.symm⟩, ?_⟩
  obtain ⟨p, hp, e, el⟩ := lv_of pin.nd hlm
  obtain ⟨mx1, y, hy, mx2⟩ := pf_max pin hfo p hp e
  walk_at "rd"
  have hMe : M = lvl (PF cs gc) lc := by
    rw [el]
    obtain ⟨u, hu, eu⟩ := List.mem_map.mp hM
    have h1 := mx1 u (List.mem_reverse.mp hu)
    have h2 := hMm y.z (List.mem_map.mpr ⟨y, List.mem_reverse.mpr hy, rfl⟩)
    omega
  rw [decide_eq_true hMe]
  exact k _
theorem ok_law (L : All K w mg ad) (B : BM mg base) : FnOk P w K mg base CX0 7 ad.f_law ad.d_law ["_law_script"] (spLawT K ad.p_filled) := by
  refine L.law.F.okQ sc_law (fun vs H Q E h => ?_) (fun cdv A outer s H vs Q E hr h => ?_)
  · obtain ⟨x, ns, rfl, _⟩ := h
    rfl
  obtain ⟨x, ns, rfl, hS, hl, hP, k⟩ := h
  refine ⟨_, (qss_one (qs_ret (qe_call ((ok__law_asked_so L B).mono (by decide)) hr rfl L._law_asked_so.m L._law_asked_so.F.kp L._law_asked_so.b .nil pass0 (qa_cons (qe_call ((ok__law_wide L).mono (by decide)) hr rfl L._law_wide.m L._law_wide.F.kp L._law_wide.b .nil pass0 (qa_cons (qv 0) qa_nil)) qa_nil)))), ?_⟩
  walk_at "rd"
  refine ⟨x, ns, rfl, hS, hl, fun p ms H1 s1 h1 hm => ?_⟩
  walk_at "rd"
  exact ⟨p, ms, rfl, h1, hm, (tb_none hP).up s1, k⟩
end
end P74
set_option Elab.async false
namespace Pc
theorem args1 {us : List PySem.Value} (h : us.length = 1) : ∃ a0, us = [a0] := by
  cases us with
  | nil => cases h
  | cons a0 us =>
  replace h := Nat.succ.inj h
  cases us with
  | nil => exact ⟨a0, rfl⟩
  | cons _ _ => cases h
theorem args2 {us : List PySem.Value} (h : us.length = 2) : ∃ a0 a1, us = [a0, a1] := by
  cases us with
  | nil => cases h
  | cons a0 us =>
  replace h := Nat.succ.inj h
  cases us with
  | nil => cases h
  | cons a1 us =>
  replace h := Nat.succ.inj h
  cases us with
  | nil => exact ⟨a0, a1, rfl⟩
  | cons _ _ => cases h
theorem args3 {us : List PySem.Value} (h : us.length = 3) : ∃ a0 a1 a2, us = [a0, a1, a2] := by
  cases us with
  | nil => cases h
  | cons a0 us =>
  replace h := Nat.succ.inj h
  cases us with
  | nil => cases h
  | cons a1 us =>
  replace h := Nat.succ.inj h
  cases us with
  | nil => cases h
  | cons a2 us =>
  replace h := Nat.succ.inj h
  cases us with
  | nil => exact ⟨a0, a1, a2, rfl⟩
  | cons _ _ => cases h
end Pc
open PySem PySem.W PyProof.Rows
set_option maxRecDepth 100000 in
set_option maxHeartbeats 0 in
theorem PySem.Challenge.cw_pourhall_k74_whole_least_levels_holds : PySem.Challenge.rw_pourhall_k74_whole_least_levels.Holds := by
  w_on; o_law; k_head; (case hw => w_witness2)
  k_fill
  refine Pc.walkT (l := PySem.Challenge.rw_pourhall_k74_whole_least_levels) (k := 7) (by decide) rfl rfl (fun w h Y => ⟨PySem.W.km_in_of Y, PySem.W.km_tabs_of Y⟩) ?F
  case F =>
    intro T hTs w mg fa h KX G hmg
    have t_PLACES : ∃ a, mg "PLACES" = some (.ref a) ∧ L2.TopD (L2.KOf KX) w a Pc.plD := by
      dsimp only [L2.KOf]
      refine' Pc.place_mk KX G ?m ?l ?k ?x0 ?x1 ?x2
      (case m => k_is); (case l => k_is); (case k => k_keys); (case x0 => k_is); (case x1 => k_is); (case x2 => k_is)
    obtain ⟨a_PLACES, m_PLACES, t_PLACES⟩ := t_PLACES
    have t_WAYS : ∃ a, mg "WAYS" = some (.ref a) ∧ ∀ H, L2.SqT (L2.KOf KX) H a (Pc.allW.map fun u => L2.V.str u.s) := by
      dsimp only [L2.KOf]
      refine' Pc.tup_mk KX G ?m ?l ?r ?z
      (case m => k_is); (case l => k_is)
      (case r => exact .cons ⟨_, rfl⟩ (.cons ⟨_, rfl⟩ (.cons ⟨_, rfl⟩ (.cons ⟨_, rfl⟩ (.cons ⟨_, rfl⟩ (.cons ⟨_, rfl⟩ .nil))))))
      (case z => exact Pc.le6)
    obtain ⟨a_WAYS, m_WAYS, t_WAYS⟩ := t_WAYS
    have n_abs : mg "abs" = none := by refine' PySem.W.mg_none_of KX G ?e; (case e => k_is)
    have n_len : mg "len" = none := by refine' PySem.W.mg_none_of KX G ?e; (case e => k_is)
    have n_list : mg "list" = none := by refine' PySem.W.mg_none_of KX G ?e; (case e => k_is)
    have n_max : mg "max" = none := by refine' PySem.W.mg_none_of KX G ?e; (case e => k_is)
    have n_min : mg "min" = none := by refine' PySem.W.mg_none_of KX G ?e; (case e => k_is)
    have n_range : mg "range" = none := by refine' PySem.W.mg_none_of KX G ?e; (case e => k_is)
    have n_reversed : mg "reversed" = none := by refine' PySem.W.mg_none_of KX G ?e; (case e => k_is)
    have n_sorted : mg "sorted" = none := by refine' PySem.W.mg_none_of KX G ?e; (case e => k_is)
    have n_tuple : mg "tuple" = none := by refine' PySem.W.mg_none_of KX G ?e; (case e => k_is)
    have h_along : ∃ f fd, Pc.Fn (L2.KOf KX) mg "along" P74.s_along f fd ["cell", "axis"] := by
      dsimp only [L2.KOf]
      refine' Pc.fn_mk KX G ?a ?l ?c ?k ?b
      (case a => k_is); (case l => k_is); (case c => k_is); (case k => k_is); (case b => exact fun _ _ _ _ _ _ us hl => by obtain ⟨_, _, rfl⟩ := Pc.args2 hl; rfl)
    obtain ⟨f_along, d_along, h_along⟩ := h_along
    have h_placed : ∃ f fd, Pc.Fn (L2.KOf KX) mg "placed" P74.s_placed f fd ["cell", "axis", "number"] := by
      dsimp only [L2.KOf]
      refine' Pc.fn_mk KX G ?a ?l ?c ?k ?b
      (case a => k_is); (case l => k_is); (case c => k_is); (case k => k_is); (case b => exact fun _ _ _ _ _ _ us hl => by obtain ⟨_, _, _, rfl⟩ := Pc.args3 hl; rfl)
    obtain ⟨f_placed, d_placed, h_placed⟩ := h_placed
    have h_next_cell : ∃ f fd, Pc.Fn (L2.KOf KX) mg "next_cell" P74.s_next_cell f fd ["cell", "way"] := by
      dsimp only [L2.KOf]
      refine' Pc.fn_mk KX G ?a ?l ?c ?k ?b
      (case a => k_is); (case l => k_is); (case c => k_is); (case k => k_is); (case b => exact fun _ _ _ _ _ _ us hl => by obtain ⟨_, _, rfl⟩ := Pc.args2 hl; rfl)
    obtain ⟨f_next_cell, d_next_cell, h_next_cell⟩ := h_next_cell
    have h_neighbours : ∃ f fd, Pc.Fn (L2.KOf KX) mg "neighbours" P74.s_neighbours f fd ["cell"] := by
      dsimp only [L2.KOf]
      refine' Pc.fn_mk KX G ?a ?l ?c ?k ?b
      (case a => k_is); (case l => k_is); (case c => k_is); (case k => k_is); (case b => exact fun _ _ _ _ _ _ us hl => by obtain ⟨_, rfl⟩ := Pc.args1 hl; rfl)
    obtain ⟨f_neighbours, d_neighbours, h_neighbours⟩ := h_neighbours
    have h_marked : ∃ f fd, Pc.Fn (L2.KOf KX) mg "marked" P74.s_marked f fd ["cells"] := by
      dsimp only [L2.KOf]
      refine' Pc.fn_mk KX G ?a ?l ?c ?k ?b
      (case a => k_is); (case l => k_is); (case c => k_is); (case k => k_is); (case b => exact fun _ _ _ _ _ _ us hl => by obtain ⟨_, rfl⟩ := Pc.args1 hl; rfl)
    obtain ⟨f_marked, d_marked, h_marked⟩ := h_marked
    have h_followed : ∃ f fd, Pc.Fn (L2.KOf KX) mg "followed" P74.s_followed f fd ["leads", "start"] := by
      dsimp only [L2.KOf]
      refine' Pc.fn_mk KX G ?a ?l ?c ?k ?b
      (case a => k_is); (case l => k_is); (case c => k_is); (case k => k_is); (case b => exact fun _ _ _ _ _ _ us hl => by obtain ⟨_, _, rfl⟩ := Pc.args2 hl; rfl)
    obtain ⟨f_followed, d_followed, h_followed⟩ := h_followed
    have h_taken_lowest : ∃ f fd, Pc.Fn (L2.KOf KX) mg "taken_lowest" P74.s_taken_lowest f fd ["waiting"] := by
      dsimp only [L2.KOf]
      refine' Pc.fn_mk KX G ?a ?l ?c ?k ?b
      (case a => k_is); (case l => k_is); (case c => k_is); (case k => k_is); (case b => exact fun _ _ _ _ _ _ us hl => by obtain ⟨_, rfl⟩ := Pc.args1 hl; rfl)
    obtain ⟨f_taken_lowest, d_taken_lowest, h_taken_lowest⟩ := h_taken_lowest
    have h_poured : ∃ f fd, Pc.Fn (L2.KOf KX) mg "poured" P74.s_poured f fd ["hollow", "gate"] := by
      dsimp only [L2.KOf]
      refine' Pc.fn_mk KX G ?a ?l ?c ?k ?b
      (case a => k_is); (case l => k_is); (case c => k_is); (case k => k_is); (case b => exact fun _ _ _ _ _ _ us hl => by obtain ⟨_, _, rfl⟩ := Pc.args2 hl; rfl)
    obtain ⟨f_poured, d_poured, h_poured⟩ := h_poured
    have h_level : ∃ f fd, Pc.Fn (L2.KOf KX) mg "level" P74.s_level f fd ["hollow", "gate", "cell"] := by
      dsimp only [L2.KOf]
      refine' Pc.fn_mk KX G ?a ?l ?c ?k ?b
      (case a => k_is); (case l => k_is); (case c => k_is); (case k => k_is); (case b => exact fun _ _ _ _ _ _ us hl => by obtain ⟨_, _, _, rfl⟩ := Pc.args3 hl; rfl)
    obtain ⟨f_level, d_level, h_level⟩ := h_level
    have h_way_to : ∃ f fd, Pc.Fn (L2.KOf KX) mg "way_to" P74.s_way_to f fd ["hollow", "gate", "cell"] := by
      dsimp only [L2.KOf]
      refine' Pc.fn_mk KX G ?a ?l ?c ?k ?b
      (case a => k_is); (case l => k_is); (case c => k_is); (case k => k_is); (case b => exact fun _ _ _ _ _ _ us hl => by obtain ⟨_, _, _, rfl⟩ := Pc.args3 hl; rfl)
    obtain ⟨f_way_to, d_way_to, h_way_to⟩ := h_way_to
    have h_filled : ∃ f fd c p, Pc.Fn (L2.KOf KX) mg "filled" P74.s_filled f fd ["hollow", "gate"] ∧ (fd.code = .ref c ∧ PySem.W.codeHdIn (L2.KOf KX) c p = true) ∧ (L2.KOf KX).lookup p = none ∧ p ∈ T := by
      dsimp only [L2.KOf]
      refine' Pc.fnC_mk KX G ?a ?l ?c ?k ?b ?m9 ?p9 ?h9 ?n9 ?t9
      (case a => k_is); (case l => k_is); (case c => k_is); (case k => k_is); (case b => exact fun _ _ _ _ _ _ us hl => by obtain ⟨_, _, rfl⟩ := Pc.args2 hl; rfl); (case m9 => k_is); (case p9 => rfl); (case h9 => kernel_rfl); (case n9 => kernel_rfl); (case t9 => rw [hTs]; decide)
    obtain ⟨f_filled, d_filled, c_filled, p_filled, h_filled, cd_filled, np_filled, tp_filled⟩ := h_filled
    have h__law_cell_at : ∃ f fd, Pc.Fn (L2.KOf KX) mg "_law_cell_at" P74.s__law_cell_at f fd ["_law_script", "_law_k"] := by
      dsimp only [L2.KOf]
      refine' Pc.fn_mk KX G ?a ?l ?c ?k ?b
      (case a => k_is); (case l => k_is); (case c => k_is); (case k => k_is); (case b => exact fun _ _ _ _ _ _ us hl => by obtain ⟨_, _, rfl⟩ := Pc.args2 hl; rfl)
    obtain ⟨f__law_cell_at, d__law_cell_at, h__law_cell_at⟩ := h__law_cell_at
    have h__law_mix : ∃ f fd, Pc.Fn (L2.KOf KX) mg "_law_mix" P74.s__law_mix f fd ["_law_cell", "_law_factor"] := by
      dsimp only [L2.KOf]
      refine' Pc.fn_mk KX G ?a ?l ?c ?k ?b
      (case a => k_is); (case l => k_is); (case c => k_is); (case k => k_is); (case b => exact fun _ _ _ _ _ _ us hl => by obtain ⟨_, _, rfl⟩ := Pc.args2 hl; rfl)
    obtain ⟨f__law_mix, d__law_mix, h__law_mix⟩ := h__law_mix
    have h__law_bar : ∃ f fd, Pc.Fn (L2.KOf KX) mg "_law_bar" P74.s__law_bar f fd ["_law_base", "_law_number", "_law_flat"] := by
      dsimp only [L2.KOf]
      refine' Pc.fn_mk KX G ?a ?l ?c ?k ?b
      (case a => k_is); (case l => k_is); (case c => k_is); (case k => k_is); (case b => exact fun _ _ _ _ _ _ us hl => by obtain ⟨_, _, _, rfl⟩ := Pc.args3 hl; rfl)
    obtain ⟨f__law_bar, d__law_bar, h__law_bar⟩ := h__law_bar
    have h__law_body : ∃ f fd, Pc.Fn (L2.KOf KX) mg "_law_body" P74.s__law_body f fd ["_law_script", "_law_some"] := by
      dsimp only [L2.KOf]
      refine' Pc.fn_mk KX G ?a ?l ?c ?k ?b
      (case a => k_is); (case l => k_is); (case c => k_is); (case k => k_is); (case b => exact fun _ _ _ _ _ _ us hl => by obtain ⟨_, _, rfl⟩ := Pc.args2 hl; rfl)
    obtain ⟨f__law_body, d__law_body, h__law_body⟩ := h__law_body
    have h__law_hollow : ∃ f fd, Pc.Fn (L2.KOf KX) mg "_law_hollow" P74.s__law_hollow f fd ["_law_script"] := by
      dsimp only [L2.KOf]
      refine' Pc.fn_mk KX G ?a ?l ?c ?k ?b
      (case a => k_is); (case l => k_is); (case c => k_is); (case k => k_is); (case b => exact fun _ _ _ _ _ _ us hl => by obtain ⟨_, rfl⟩ := Pc.args1 hl; rfl)
    obtain ⟨f__law_hollow, d__law_hollow, h__law_hollow⟩ := h__law_hollow
    have h__law_beside : ∃ f fd, Pc.Fn (L2.KOf KX) mg "_law_beside" P74.s__law_beside f fd ["_law_cell"] := by
      dsimp only [L2.KOf]
      refine' Pc.fn_mk KX G ?a ?l ?c ?k ?b
      (case a => k_is); (case l => k_is); (case c => k_is); (case k => k_is); (case b => exact fun _ _ _ _ _ _ us hl => by obtain ⟨_, rfl⟩ := Pc.args1 hl; rfl)
    obtain ⟨f__law_beside, d__law_beside, h__law_beside⟩ := h__law_beside
    have h__law_asked_so : ∃ f fd, Pc.Fn (L2.KOf KX) mg "_law_asked_so" P74.s__law_asked_so f fd ["_law_script"] := by
      dsimp only [L2.KOf]
      refine' Pc.fn_mk KX G ?a ?l ?c ?k ?b
      (case a => k_is); (case l => k_is); (case c => k_is); (case k => k_is); (case b => exact fun _ _ _ _ _ _ us hl => by obtain ⟨_, rfl⟩ := Pc.args1 hl; rfl)
    obtain ⟨f__law_asked_so, d__law_asked_so, h__law_asked_so⟩ := h__law_asked_so
    have h__law_wide : ∃ f fd, Pc.Fn (L2.KOf KX) mg "_law_wide" P74.s__law_wide f fd ["_law_script"] := by
      dsimp only [L2.KOf]
      refine' Pc.fn_mk KX G ?a ?l ?c ?k ?b
      (case a => k_is); (case l => k_is); (case c => k_is); (case k => k_is); (case b => exact fun _ _ _ _ _ _ us hl => by obtain ⟨_, rfl⟩ := Pc.args1 hl; rfl)
    obtain ⟨f__law_wide, d__law_wide, h__law_wide⟩ := h__law_wide
    have h_law : ∃ f fd, Pc.Fn (L2.KOf KX) mg "law" P74.s_law f fd ["_law_script"] := by
      dsimp only [L2.KOf]
      refine' Pc.fn_mk KX G ?a ?l ?c ?k ?b
      (case a => k_is); (case l => k_is); (case c => k_is); (case k => k_is); (case b => exact fun _ _ _ _ _ _ us hl => by obtain ⟨_, rfl⟩ := Pc.args1 hl; rfl)
    obtain ⟨f_law, d_law, h_law⟩ := h_law
    have L : P74.All (L2.KOf KX) w mg ⟨a_PLACES, a_WAYS, f_along, d_along, f_placed, d_placed, f_next_cell, d_next_cell, f_neighbours, d_neighbours, f_marked, d_marked, f_followed, d_followed, f_taken_lowest, d_taken_lowest, f_poured, d_poured, f_level, d_level, f_way_to, d_way_to, f_filled, d_filled, c_filled, p_filled, f__law_cell_at, d__law_cell_at, f__law_mix, d__law_mix, f__law_bar, d__law_bar, f__law_body, d__law_body, f__law_hollow, d__law_hollow, f__law_beside, d__law_beside, f__law_asked_so, d__law_asked_so, f__law_wide, d__law_wide, f_law, d_law⟩ := ⟨m_PLACES, t_PLACES, m_WAYS, t_WAYS, n_abs, n_len, n_list, n_max, n_min, n_range, n_reversed, n_sorted, n_tuple, h_along, h_placed, h_next_cell, h_neighbours, h_marked, h_followed, h_taken_lowest, h_poured, h_level, h_way_to, h_filled, cd_filled, h__law_cell_at, h__law_mix, h__law_bar, h__law_body, h__law_hollow, h__law_beside, h__law_asked_so, h__law_wide, h_law⟩
    have q0 := hmg.symm.trans h_law.m
    cases q0
    exact ⟨d_law, c_filled, p_filled, tp_filled, cd_filled.2, np_filled, fun s u => h_law.bt s [u] rfl, fun base _ _ B => P74.ok_law L B⟩
