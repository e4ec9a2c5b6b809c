import PyProof.Rows.All
import Wide.All
import OpenK.AllK
import Wide.FinOn
import Lean
import PyProof.EqAt
import PyProof.EqKinds
import PyProof.TupleCall
import KE.KEqDeep
import PyProof.Rows.SortRuns
import KE.KRevIter
import PySem.Challenge.RW_pourhall_k97_whole_away_in_order
set_option Elab.async false
set_option linter.all false
set_option maxRecDepth 100000
namespace L2
open PySem PySem.Spec PyProof.Rows
abbrev Key := Sum Int Str
def keyIs : Key → Value → Bool
  | .inl k, v => Value.isInt k v
  | .inr x, v => Value.isStrOf x v
def keyH (w : World) : Key → Int
  | .inl k => hashInt k
  | .inr x => hashStr w x
theorem keyIs_shape : ∀ {k : Key} {v : Value}, keyIs k v = true → (∃ i t, k = Sum.inl i ∧ v = Value.int i t) ∨ (∃ x t, k = Sum.inr x ∧ v = Value.str x t)
  | .inl i, v, h => by
    obtain ⟨t, e⟩ := Value.isInt_shape (k := i) (v := v) h
    exact .inl ⟨i, t, rfl, e⟩
  | .inr x, v, h => by
    obtain ⟨t, e⟩ := Value.isStrOf_shape (x := x) (v := v) h
    exact .inr ⟨x, t, rfl, e⟩
theorem keyIs_int (i : Int) (t : Tok) : keyIs (.inl i) (.int i t) = true := by simp [keyIs, Value.isInt]
theorem keyIs_str (x : Str) (t : Tok) : keyIs (.inr x) (.str x t) = true := by simp [keyIs, Value.isStrOf]
theorem key_ll (a b : Int) : decide ((Sum.inl a : Key) = Sum.inl b) = (a == b) := by
  by_cases e : a = b
  · subst e; simp
  · have h : ¬ (Sum.inl a : Key) = Sum.inl b := fun q => e (Sum.inl.inj q)
    rw [decide_eq_false h]
    exact (beq_eq_false_iff_ne.mpr e).symm
theorem key_rr (a b : Str) : decide ((Sum.inr a : Key) = Sum.inr b) = decide (a = b) := by
  by_cases e : a = b
  · subst e; simp
  · have h : ¬ (Sum.inr a : Key) = Sum.inr b := fun q => e (Sum.inr.inj q)
    rw [decide_eq_false h, decide_eq_false e]
theorem key_lr (a : Int) (b : Str) : decide ((Sum.inl a : Key) = Sum.inr b) = false := decide_eq_false (fun q => nomatch q)
theorem key_rl (a : Str) (b : Int) : decide ((Sum.inr a : Key) = Sum.inl b) = false := decide_eq_false (fun q => nomatch q)
def mixKind (prog : Program) (w : World) : PySem.KeyKind prog w Key where
  is := keyIs
  hash := keyH w
  inj := fun v a b ha hb => by
    rcases keyIs_shape ha with ⟨i, t, rfl, rfl⟩ | ⟨x, t, rfl, rfl⟩
    · rcases keyIs_shape hb with ⟨j, u, rfl, e⟩ | ⟨y, u, rfl, e⟩
      · injection e with e1 _; rw [e1]
      · exact nomatch e
    · rcases keyIs_shape hb with ⟨j, u, rfl, e⟩ | ⟨y, u, rfl, e⟩
      · exact nomatch e
      · injection e with e1 _; rw [e1]
  byValue := fun k v h => by
    rcases keyIs_shape h with ⟨i, t, rfl, rfl⟩ | ⟨x, t, rfl, rfl⟩ <;> rfl
  pyHash := fun hv h => by
    rcases keyIs_shape hv with ⟨i, t, rfl, rfl⟩ | ⟨x, t, rfl, rfl⟩
    · exact wpAny_pyHash_int h
    · exact wpAny_pyHash_str h
  eqBool := fun hu hv h => by
    rcases keyIs_shape hu with ⟨i, t, rfl, rfl⟩ | ⟨x, t, rfl, rfl⟩
    · rcases keyIs_shape hv with ⟨j, u, rfl, rfl⟩ | ⟨y, u, rfl, rfl⟩
      · rw [key_ll] at h; exact wpAny_eqBool_int h
      · rw [key_lr] at h; exact SeqAt.EqAt.int_str i t y u _ _ _ _ h
    · rcases keyIs_shape hv with ⟨j, u, rfl, rfl⟩ | ⟨y, u, rfl, rfl⟩
      · rw [key_rl] at h; exact SeqAt.EqAt.str_int x t j u _ _ _ _ h
      · rw [key_rr] at h; exact wpAny_eqBool_str h
  «strs» := fun k x t v h => by
    rcases keyIs_shape h with ⟨i, u, rfl, e⟩ | ⟨y, u, rfl, e⟩
    · exact nomatch e
    · injection e with e1 _
      subst e1
      cases v <;> rfl
theorem mixKind_int (prog : Program) (w : World) (i : Int) (t : Tok) : (mixKind prog w).is (.inl i) (.int i t) = true := keyIs_int i t
theorem mixKind_str (prog : Program) (w : World) (x : Str) (t : Tok) : (mixKind prog w).is (.inr x) (.str x t) = true := keyIs_str x t
end L2
namespace L2
open PySem PySem.Spec PyProof.Rows
inductive V where
  | non | bl (b : Bool) | int (i : Int) | str (x : Str) | byt (b : Array UInt8) | flt (b : UInt64) | ref (a : Addr) | ty (n : String)
  deriving DecidableEq
def RelV : V → Value → Prop
  | .non, u => u = Value.none
  | .bl b, u => u = Value.bool b
  | .int i, u => ∃ t, u = Value.int i t
  | .str x, u => ∃ t, u = Value.str x t
  | .byt b, u => ∃ t, u = Value.bytes b t
  | .flt b, u => ∃ t, u = Value.float b t
  | .ref a, u => u = Value.ref a
  | .ty n, u => u = Value.type n
abbrev Vals : List V → List Value → Prop := Paired RelV
theorem Vals.length {xs : List V} {us : List Value} (r : Vals xs us) : xs.length = us.length := Paired.length r
theorem Vals.get : ∀ {xs : List V} {us : List Value} {i : Nat} {x : V}, Vals xs us → xs[i]? = some x → ∃ u, us[i]? = some u ∧ RelV x u
  | _, _, _, _, .nil, e => by simp at e
  | _, _, 0, _, .cons r _, e => by simp at e; subst e; exact ⟨_, rfl, r⟩
  | _, _, i + 1, x, .cons _ t, e => by
    obtain ⟨u, h1, h2⟩ := Vals.get (i := i) (x := x) t (by simpa using e)
    exact ⟨u, by simpa using h1, h2⟩
theorem Vals.set {x : V} {u : Value} (r : RelV x u) : ∀ {xs : List V} {us : List Value} (i : Nat), Vals xs us → Vals (xs.set i x) (us.set i u)
  | _, _, _, .nil => .nil
  | _, _, 0, .cons _ t => .cons r t
  | _, _, i + 1, .cons q t => .cons q (Vals.set r i t)
theorem Vals.append : ∀ {xs ys : List V} {us ws : List Value}, Vals xs us → Vals ys ws → Vals (xs ++ ys) (us ++ ws)
  | _, _, _, _, .nil, s => s
  | _, _, _, _, .cons r t, s => .cons r (Vals.append t s)
theorem Vals.take : ∀ {xs : List V} {us : List Value} (n : Nat), Vals xs us → Vals (xs.take n) (us.take n)
  | _, _, 0, _ => .nil
  | _, _, _ + 1, .nil => .nil
  | _, _, n + 1, .cons r t => .cons r (Vals.take n t)
theorem Vals.drop : ∀ {xs : List V} {us : List Value} (n : Nat), Vals xs us → Vals (xs.drop n) (us.drop n)
  | _, _, 0, r => r
  | _, _, _ + 1, .nil => .nil
  | _, _, n + 1, .cons _ t => Vals.drop n t
def RelO : Option V → Option Value → Prop
  | some v, some u => RelV v u
  | none, none => True
  | _, _ => False
def KV {κ : Type} : List (κ × V) → List (κ × Value) → Prop := Paired fun (p : κ × V) (q : κ × Value) => p.1 = q.1 ∧ RelV p.2 q.2
def kV : Key → V
  | .inl i => .int i
  | .inr x => .str x
inductive HO where
  | lst (xs : List V)
  | tup (xs : List V)
  | dK (kvs : List (Key × V)) | dT (kvs : List (List Key × V))
  | set (S : Int → Bool) (n : Nat)
  | ins (C dx : Addr) (fs : List (Str × V))
  | own (x : Addr)
  | xd (fs : List (Str × V))
  | met (f x : Addr)
  | rng (lo hi : Int)
  | frz (o : Obj) (u : HO)
  | tbl (ps : Array Value)
  | ext (φ : Heap → Prop)
abbrev Hp := Addr → Option HO
def upd (H : Hp) (a : Addr) (o : HO) : Hp := fun b => if b = a then some o else H b
theorem upd_same {H : Hp} {a : Addr} {o : HO} : upd H a o a = some o := by unfold upd; rw [if_pos rfl]
theorem upd_ne {H : Hp} {a b : Addr} {o : HO} (h : b ≠ a) : upd H a o b = H b := by unfold upd; rw [if_neg h]
theorem ne_of {H : Hp} {a b : Addr} {o u : HO} (h : H a = some o) (h' : H b = some u) (d : o ≠ u) : a ≠ b := by
  intro e; subst e; rw [h] at h'; exact d (Option.some.inj h')
theorem ne_of_none {H : Hp} {a b : Addr} {o : HO} (h : H a = some o) (h' : H b = none) : a ≠ b := by
  intro e; subst e; rw [h] at h'; cases h'
section
variable (P : Program) (w : World)
def ObjOk (H : Hp) (h : Heap) (a : Addr) : HO → Prop
  | .lst xs => xs.length ≤ sizeLine ∧ ∃ (its : List Value) (n : Nat), Vals xs its ∧ h.get? a = some { cls := .type "list", data := .seq its.toArray n }
  | .tup xs => xs.length ≤ sizeLine ∧ ∃ its : List Value, Vals xs its ∧ IsTup h a its.toArray
  | .dK kvs => kvs.length ≤ sizeLine ∧ (a == sysModules) = false ∧ ∃ vs, KV kvs vs ∧ h.DictOf (mixKind P w) a vs
  | .dT kvs => kvs.length ≤ sizeLine ∧ (a == sysModules) = false ∧ ∃ xs : List (List Key × Addr × Value),
      Paired (fun (p : List Key × V) (q : List Key × Addr × Value) => p.1 = q.1 ∧ H q.2.1 = some (.tup (p.1.map kV)) ∧ RelV p.2 q.2.2) kvs xs ∧
      ∃ o es ep, h.get? a = some o ∧ o.ExactDict ∧ o.data = .dict es ep ∧ es.toList = xs.map (entryOfKey (tupleKind (mixKind P w))) ∧ (xs.map (·.1)).Nodup
  | .set S n => h.SetOf (intKind P w) a S n
  | .ins C dx fs => H dx = some (.own a) ∧ fs.length ≤ 1000 ∧ dx ≠ a ∧ h.get? a = some (PySem.W.instObj C dx) ∧
      ∃ mA, h.Ns1 dx mA ∧ (∀ f, RelO (fs.lookup f) (mA f)) ∧ PySem.Within mA (fs.map (·.1))
  | .own _ => ∃ o, h.get? a = some o
  | .xd fs => ∃ mA, h.Ns1 a mA ∧ ∀ f, RelO (fs.lookup f) (mA f)
  | .rng lo hi => ∃ t u v, h.get? a = some { cls := .type "range", data := .fields #[.int lo t, .int hi u, .int 1 v] }
  | .frz o u => h.get? a = some o ∧ ObjOk H h a u
  | .tbl ps => h.get? a = some { cls := .none, data := .fields ps }
  | .met f x => h.get? a = some (PySem.W.methodObj (.ref f) (.ref x))
  | .ext φ => φ h ∧ (∃ o, h.get? a = some o) ∧ ∀ h1 h2 : Heap, φ h1 → (∀ o, h1.get? a = some o → h2.get? a = some o) → φ h2
def HOk (H : Hp) (h : Heap) : Prop := ∀ a o, H a = some o → ObjOk P w H h a o
end
section
variable {P : Program} {w : World} {H H' : Hp} {h h' : Heap} {a : Addr} {o : HO}
theorem ObjOk.lt (x : ObjOk P w H h a o) : a < h.objs.size := by
  cases o with
  | lst xs => obtain ⟨_, _, _, _, e⟩ := x; exact Heap.lt_size e
  | tup xs => obtain ⟨_, _, _, p⟩ := x; exact p.lt
  | dK kvs => obtain ⟨_, _, _, _, o, _, _, e, _⟩ := x; exact Heap.lt_size e
  | dT kvs => obtain ⟨_, _, _, _, o, _, _, e, _⟩ := x; exact Heap.lt_size e
  | set S n => obtain ⟨o, _, _, _, e, _⟩ := x; exact Heap.lt_size e
  | ins C dx fs => obtain ⟨_, _, _, e, _⟩ := x; exact Heap.lt_size e
  | own y => obtain ⟨_, e⟩ := x; exact Heap.lt_size e
  | xd fs => obtain ⟨_, ⟨_, _, _, e, _⟩, _⟩ := x; exact Heap.lt_size e
  | rng lo hi => obtain ⟨_, _, _, e⟩ := x; exact Heap.lt_size e
  | frz ob u => obtain ⟨e, _⟩ := x; exact Heap.lt_size e
  | tbl ps => exact Heap.lt_size (show h.get? a = some _ from x)
  | met f y => exact Heap.lt_size (show h.get? a = some _ from x)
  | ext φ => obtain ⟨_, ⟨_, e⟩, _⟩ := x; exact Heap.lt_size e
theorem Paired.mapP {α β : Type} {F G : α → β → Prop} : ∀ {l₁ : List α} {l₂ : List β}, Paired F l₁ l₂ → (∀ a b, F a b → G a b) → Paired G l₁ l₂
  | _, _, .nil, _ => .nil
  | _, _, .cons r t, f => .cons (f _ _ r) (Paired.mapP t f)
theorem ObjOk.stay (x : ObjOk P w H h a o) (k : ∀ b u, (b = a ∨ H b = some (.own a)) → h.get? b = some u → h'.get? b = some u)
    (ho : ∀ b, H b = some (.own a) → H' b = some (.own a)) (ht : ∀ b xs, H b = some (.tup xs) → H' b = some (.tup xs)) : ObjOk P w H' h' a o := by
  induction o with
  | lst xs => obtain ⟨z, its, n, r, e⟩ := x; exact ⟨z, its, n, r, k _ _ (.inl rfl) e⟩
  | tup xs => obtain ⟨z, its, r, ob, e, c⟩ := x; exact ⟨z, its, r, ob, k _ _ (.inl rfl) e, c⟩
  | dK kvs => obtain ⟨z, y, vs, r, ob, es, ep, e, c⟩ := x; exact ⟨z, y, vs, r, ob, es, ep, k _ _ (.inl rfl) e, c⟩
  | dT kvs =>
    obtain ⟨z, y, xs, r, ob, es, ep, e, c⟩ := x
    exact ⟨z, y, xs, Paired.mapP r fun p q z => ⟨z.1, ht _ _ z.2.1, z.2.2⟩, ob, es, ep, k _ _ (.inl rfl) e, c⟩
  | set S n => obtain ⟨ob, es, ep, t, e, c⟩ := x; exact ⟨ob, es, ep, t, k _ _ (.inl rfl) e, c⟩
  | ins C dx fs =>
    obtain ⟨d, z, ne, e, mA, ⟨od, es, ep, e2, c⟩, r⟩ := x
    exact ⟨ho _ d, z, ne, k _ _ (.inl rfl) e, mA, ⟨od, es, ep, k _ _ (.inr d) e2, c⟩, r⟩
  | own y => obtain ⟨ob, e⟩ := x; exact ⟨ob, k _ _ (.inl rfl) e⟩
  | xd fs => obtain ⟨mA, ⟨od, es, ep, e, c⟩, r⟩ := x; exact ⟨mA, ⟨od, es, ep, k _ _ (.inl rfl) e, c⟩, r⟩
  | rng lo hi => obtain ⟨t, u, v, e⟩ := x; exact ⟨t, u, v, k _ _ (.inl rfl) e⟩
  | frz ob u ih => obtain ⟨e, q⟩ := x; exact ⟨k _ _ (.inl rfl) e, ih q⟩
  | tbl ps =>
    have e : h.get? a = some { cls := .none, data := .fields ps } := x
    show h'.get? a = some { cls := .none, data := .fields ps }
    exact k a _ (.inl rfl) e
  | met f y =>
    have e : h.get? a = some (PySem.W.methodObj (.ref f) (.ref y)) := x
    show h'.get? a = some (PySem.W.methodObj (.ref f) (.ref y))
    exact k a _ (.inl rfl) e
  | ext φ => obtain ⟨p, ⟨o, e⟩, st⟩ := x; exact ⟨st _ _ p fun o q => k _ _ (.inl rfl) q, ⟨o, k _ _ (.inl rfl) e⟩, st⟩
theorem HOk.lt (x : HOk P w H h) (e : H a = some o) : a < h.objs.size := (x a o e).lt
theorem HOk.fresh (x : HOk P w H h) (e : h.objs.size ≤ a) : H a = none := by
  cases q : H a with
  | none => rfl
  | some u => exact absurd (Nat.lt_of_lt_of_le (x.lt q) e) (Nat.lt_irrefl _)
theorem HOk.kept (x : HOk P w H h) (k : ∀ b u, h.get? b = some u → h'.get? b = some u) : HOk P w H h' := fun a o e =>
  (x a o e).stay (fun b u _ q => k b u q) (fun _ q => q) fun _ _ q => q
theorem HOk.laid (x : HOk P w H h) (k : ∀ b u, h.get? b = some u → h'.get? b = some u) (hp : h.objs.size ≤ a) (new : ObjOk P w (upd H a o) h' a o) : HOk P w (upd H a o) h' := fun b u e => by
  have hn := x.fresh hp
  by_cases hb : b = a
  · subst hb; rw [upd_same] at e; cases e; exact new
  · rw [upd_ne hb] at e
    exact (x b u e).stay (fun c v _ q => k c v q) (fun c q => by rw [upd_ne (ne_of_none q hn)]; exact q) fun c xs q => by rw [upd_ne (ne_of_none q hn)]; exact q
end
def Rd (H : Hp) (a : Addr) (u : HO) : Prop := H a = some u ∨ ∃ o, H a = some (.frz o u)
theorem Rd.ok {P : Program} {w : World} {H : Hp} {h : Heap} {a : Addr} {u : HO} (r : Rd H a u) (x : HOk P w H h) : ObjOk P w H h a u := by
  rcases r with r | ⟨o, r⟩
  · exact x a u r
  · obtain ⟨_, q⟩ := x a _ r
    exact q
def Mut : Option HO → Prop
  | some (.lst _) => True
  | some (.dK _) => True
  | some (.dT _) => True
  | some (.set _ _) => True
  | some (.ins _ _ _) => True
  | some (.ext _) => True
  | _ => False
section
variable {P : Program} {w : World} {H : Hp} {h h' : Heap} {x e : Addr} {o' : HO}
theorem HOk.write (ok : HOk P w H h) (mu : Mut (H x)) (he : e = x ∨ H e = some (.own x)) (k : ∀ b u, b ≠ e → h.get? b = some u → h'.get? b = some u) (heo : ∃ u, h'.get? e = some u)
    (new : ObjOk P w (upd H x o') h' x o') : HOk P w (upd H x o') h' := fun b u q => by
  have nown : ∀ c y, H c = some (.own y) → c ≠ x := fun c y r z => by subst z; rw [r] at mu; exact mu
  have ntup : ∀ c xs, H c = some (.tup xs) → c ≠ x := fun c xs r z => by subst z; rw [r] at mu; exact mu
  by_cases hb : b = x
  · subst hb; rw [upd_same] at q; cases q; exact new
  · rw [upd_ne hb] at q
    by_cases hbe : b = e
    · have q' : H b = some (.own x) := by
        rcases he with z | z
        · exact absurd (hbe.trans z) hb
        · rw [hbe]; exact z
      rw [q] at q'; cases q'
      obtain ⟨v, hv⟩ := heo
      exact ⟨v, by rw [hbe]; exact hv⟩
    · refine (ok b u q).stay (fun c v hc r => k c v ?_ r) (fun c r => by rw [upd_ne (nown c b r)]; exact r) fun c xs r => by rw [upd_ne (ntup c xs r)]; exact r
      rcases hc with rfl | hc
      · exact hbe
      · rintro rfl
        rcases he with z | z
        · exact nown c b hc z
        · rw [hc] at z; cases z; exact hb rfl
end
structure Un (fs ex : List Addr) (H H' : Hp) (h h' : Heap) : Prop where
  keep : ∀ b o, h.get? b = some o → H b = none → b ∉ fs → b ∉ ex → h'.get? b = some o
  slot : ∀ b o, h.get? b = some o → H b = none → b ∈ fs → b ∉ ex → ∃ sl, h'.get? b = some { o with slots := sl }
  free : ∀ b o, h.get? b = some o → H b = none → b ∉ ex → H' b = none
  there : ∀ b o, h.get? b = some o → b ∉ ex → ∃ o', h'.get? b = some o'
  tups : ∀ b xs, H b = some (.tup xs) → H' b = some (.tup xs)
  frzs : ∀ b o u, H b = some (.frz o u) → H' b = some (.frz o u)
  tbls : ∀ b ps, H b = some (.tbl ps) → ∃ more, H' b = some (.tbl (ps ++ more))
section
variable {fs fs' ex ex' : List Addr} {H H1 H2 : Hp} {h h1 h2 h' : Heap} {a x e : Addr} {o : HO}
theorem Un.any (u : Un fs ex H H1 h h1) {b : Addr} {ob : Obj} (q : h.get? b = some ob) (n : H b = none) (hx : b ∉ ex) : ∃ sl, h1.get? b = some { ob with slots := sl } := by
  by_cases hb : b ∈ fs
  · exact u.slot b ob q n hb hx
  · exact ⟨ob.slots, u.keep b ob q n hb hx⟩
theorem Un.kept (k : ∀ b u, h.get? b = some u → h'.get? b = some u) : Un fs ex H H h h' :=
  ⟨fun b ob q _ _ _ => k b ob q, fun b ob q _ _ _ => ⟨ob.slots, k b ob q⟩, fun _ _ _ n _ => n, fun b ob q _ => ⟨ob, k b ob q⟩, fun _ _ q => q, fun _ _ _ q => q, fun _ ps q => ⟨#[], by rw [q]; simp⟩⟩
theorem Un.refl : Un fs ex H H h h := Un.kept fun _ _ q => q
theorem Un.laid (k : ∀ b u, h.get? b = some u → h'.get? b = some u) (hp : h.objs.size ≤ a) (hn : H a = none) : Un fs ex H (upd H a o) h h' where
  keep := fun b u q _ _ _ => k b u q
  slot := fun b u q _ _ _ => ⟨u.slots, k b u q⟩
  free := fun b u q n _ => by rw [upd_ne (Nat.ne_of_lt (Nat.lt_of_lt_of_le (Heap.lt_size q) hp))]; exact n
  there := fun b u q _ => ⟨u, k b u q⟩
  tups := fun b xs q => by rw [upd_ne (ne_of_none q hn)]; exact q
  frzs := fun b u xs q => by rw [upd_ne (ne_of_none q hn)]; exact q
  tbls := fun b ps q => ⟨#[], by rw [upd_ne (ne_of_none q hn), q]; simp⟩
theorem Un.write (mu : Mut (H x)) (he : e = x ∨ H e = some (.own x)) (k : ∀ b u, b ≠ e → h.get? b = some u → h'.get? b = some u) (heo : ∃ u, h'.get? e = some u) : Un fs ex H (upd H x o) h h' := by
  have hx : ∀ b, H b = none → b ≠ x := fun b n z => by subst z; rw [n] at mu; exact mu
  have hb : ∀ b, H b = none → b ≠ e := fun b n z => by
    subst z
    rcases he with r | r
    · exact hx b n r
    · rw [n] at r; cases r
  have hm : ∀ b u, H b = some u → ¬ Mut (some u) → b ≠ x := fun b u q nm z => by subst z; rw [q] at mu; exact nm mu
  refine ⟨fun b u q n _ _ => k b u (hb b n) q, fun b u q n _ _ => ⟨u.slots, k b u (hb b n) q⟩, fun b u q n _ => by rw [upd_ne (hx b n)]; exact n, fun b u q _ => ?_,
    fun b xs q => by rw [upd_ne (hm b _ q fun z => z)]; exact q, fun b u xs q => by rw [upd_ne (hm b _ q fun z => z)]; exact q, fun b ps q => ⟨#[], by rw [upd_ne (hm b _ q fun z => z), q]; simp⟩⟩
  by_cases hbe : b = e
  · subst hbe; exact heo
  · exact ⟨u, k b u hbe q⟩
end
def trk (h : Heap) (H : Hp) : List Addr := (List.range h.objs.size).filter fun a => (H a).isSome
def hidT (h : Heap) (H : Hp) : Heap := PySem.W.hideAll h (trk h H)
theorem hidT_size (h : Heap) (H : Hp) : (hidT h H).objs.size = h.objs.size := PySem.W.hideAll_size _ _
theorem hidT_get {h : Heap} {H : Hp} {b : Addr} {o : Obj} (e : h.get? b = some o) (n : H b = none) : (hidT h H).get? b = some o :=
  PySem.W.hideAll_get _ e fun hm => by
    have q : (H b).isSome = true := (List.mem_filter.mp hm).2
    rw [n] at q; simp at q
theorem of_hidT {h : Heap} {H : Hp} {b : Addr} {o : Obj} (e : (hidT h H).get? b = some o) : h.get? b = some o ∧ H b = none := by
  have e' : h.get? b = some o := PySem.W.of_hideAll (trk h H) e
  refine ⟨e', ?_⟩
  cases q : H b with
  | none => rfl
  | some x =>
    have hm : b ∈ trk h H := List.mem_filter.mpr ⟨List.mem_range.mpr (Heap.lt_size e'), by simp [q]⟩
    have z : (hidT h H).get? b = none := PySem.W.hideAll_none (trk h H) hm
    rw [z] at e; cases e
def allNews (g h : Heap) (L : Addr) : List (Addr × Obj) := (List.range h.objs.size).filterMap fun a => if a = L ∨ (g.get? a).isSome = true then none else (h.get? a).map fun o => (a, o)
def rest (g h : Heap) (L d : Addr) : List (Addr × Obj) := (allNews g h L).filter fun p => decide (p.1 ≠ d)
end L2
namespace L2
open PySem PySem.Spec PyProof.Rows
structure Mod (K : PySem.W.Frag) (mg : Str → Option Value) (base : Heap) : Prop where
  kin : K.In base
  glob : base.Ns mainGlobals mg
  blt : ∃ mb, base.Ns builtinsNs mb ∧ ∀ x : Str, x ≠ "__name__" → mb x = bootBuiltins x
  nolimit : base.NoLimit
structure Cx where
  prog : Program
  w : World
  K : PySem.W.Frag
  mg : Str → Option Value
  base : Heap
  A : Around
  N : List Str
  s₀ : Shared
  H₀ : Hp
  env : Env
  outer : List Env
  stack : List Env
  ex : List Addr
  fn : Str → Bool
  calm : Bool
  pn : List (Addr × Obj)
  xe : Value → Shared → Prop
def frs (l : List Env) : List Addr := l.filterMap (·.frame)
abbrev Cx.fs (X : Cx) : List Addr := frs X.outer
def Vis (sc : Scope) (x : Str) : Prop := sc.names.lookup x = some .local ∨ sc.names.lookup x = some .cell ∨ sc.names.lookup x = some .free
def Loc (sc : Scope) (x : Str) : Prop := sc.names.lookup x = some .local ∨ sc.names.lookup x = some .cell
def Look (env : Env) (h : Heap) (m : Str → Option Value) (x : Str) (u : Value) : Prop :=
  (env.kindOf x = some .local ∧ m x = some u) ∨ ((env.kindOf x = some .cell ∨ env.kindOf x = some .free) ∧ ∃ c, env.cells.lookup x = some c ∧ h.IsCell c (some u))
structure Cx.Ok (X : Cx) : Prop where
  mod : Mod X.K X.mg X.base
  kind : X.env.scope.kind = .function
  glob : X.env.globals = mainGlobals
  blt : X.env.builtins = builtinsNs
  above : X.s₀.heap.objs.size ≤ X.env.locals
  inj : ∀ x y c, X.env.cells.lookup x = some c → X.env.cells.lookup y = some c → x = y
  has : ∀ x, (X.env.kindOf x = some .cell ∨ X.env.kindOf x = some .free) → ∃ c, X.env.cells.lookup x = some c
  cab : ∀ x c, X.fn x = true → X.env.cells.lookup x = some c → X.s₀.heap.objs.size ≤ c
  hd : X.calm = true → X.A.handled = none
  frames : X.A.frames = some X.stack
  stk : X.stack = X.outer ∨ (X.stack = X.env :: X.outer ∧ X.env.frame = some X.env.locals)
  exf : ∀ b ∈ X.ex, b ≠ X.env.locals ∧ ∀ x c, X.env.cells.lookup x = some c → c ≠ b
  bs : ∀ b o, X.base.get? b = some o → X.s₀.heap.get? b = some o ∧ X.H₀ b = none
  bsz : X.base.objs.size ≤ X.s₀.heap.objs.size
  noex : ∀ b o, X.base.get? b = some o → b ∉ X.ex
  exfs : ∀ b ∈ X.ex, b ∉ X.fs
  funs : X.s₀.heap.FunFrames X.base X.outer
  frf : ∀ b ∈ X.fs, X.H₀ b = none
structure Inv (X : Cx) (pins : List (Addr × Obj)) (σ : List (Option V)) (H : Hp) (s : Shared) : Prop where
  ok : X.Ok
  os : s.os = X.s₀.os
  bare : AllBare s.gens
  base : Un X.fs X.ex X.H₀ H X.s₀.heap s.heap
  loc : ∃ m, s.heap.Ns X.env.locals m ∧ ∀ (i : Nat) (x : Str) (v : V), X.N[i]? = some x → σ[i]? = some (some v) → Vis X.env.scope x → ∃ u, RelV v u ∧ Look X.env s.heap m x u
  cell : ∀ x c, X.env.cells.lookup x = some c → ∃ v, s.heap.IsCell c v
  free : H X.env.locals = none
  freeC : ∀ x c, X.env.cells.lookup x = some c → H c = none
  pin : ∀ p ∈ X.pn ++ pins, s.heap.get? p.1 = some p.2 ∧ H p.1 = none ∧ p.1 ≠ X.env.locals ∧ p.1 ∉ X.fs ∧ ∀ v, p.2.data ≠ .cell v
  hok : HOk X.prog X.w H s.heap
  len : σ.length = X.N.length
section
variable {X : Cx} {pins : List (Addr × Obj)} {σ : List (Option V)} {H H' : Hp} {s : Shared} {h' : Heap}
theorem Cx.Ok.nofr (ok : X.Ok) {b : Addr} {o : Obj} (e : X.base.get? b = some o) : b ∉ X.fs := fun hb => by
  have := (ok.funs.mem hb).1
  rw [e] at this; cases this
theorem Inv.bs (I : Inv X pins σ H s) : ∀ b o, X.base.get? b = some o → s.heap.get? b = some o ∧ H b = none := fun b o e =>
  ⟨I.base.keep b o (I.ok.bs b o e).1 (I.ok.bs b o e).2 (I.ok.nofr e) (I.ok.noex b o e), I.base.free b o (I.ok.bs b o e).1 (I.ok.bs b o e).2 (I.ok.noex b o e)⟩
theorem Inv.bk (I : Inv X pins σ H s) : ∀ b o, X.base.get? b = some o → s.heap.get? b = some o := fun b o e => (I.bs b o e).1
theorem Inv.mod (I : Inv X pins σ H s) : Mod X.K X.mg X.base := I.ok.mod
theorem Inv.kIn (I : Inv X pins σ H s) : X.K.In s.heap := I.ok.mod.kin.keeps I.bk
theorem Inv.fr (I : Inv X pins σ H s) : ∃ m, Fr X.base X.env.locals s.heap m :=
  let ⟨m, hn, _⟩ := I.loc
  ⟨m, hn, I.bk, Nat.le_trans I.ok.bsz I.ok.above⟩
theorem Inv.lt (I : Inv X pins σ H s) : X.env.locals < s.heap.objs.size := let ⟨_, hn, _⟩ := I.loc; hn.lt
theorem Inv.sz (I : Inv X pins σ H s) : X.s₀.heap.objs.size ≤ s.heap.objs.size := Nat.le_trans I.ok.above (Nat.le_of_lt I.lt)
theorem Inv.nofs (I : Inv X pins σ H s) {a : Addr} (h : s.heap.objs.size ≤ a) : a ∉ X.fs := fun hb => by
  obtain ⟨_, o, ho, _⟩ := I.ok.funs.mem hb
  exact absurd (Nat.lt_of_lt_of_le (Heap.lt_size ho) (Nat.le_trans I.sz h)) (Nat.lt_irrefl _)
theorem Inv.cne (I : Inv X pins σ H s) : ∀ x c, X.env.cells.lookup x = some c → c ≠ X.env.locals := fun x c e z => by
  obtain ⟨v, o, ho, hd⟩ := I.cell x c e
  obtain ⟨m, ⟨o', es, ep, ho', hd', _⟩, _⟩ := I.loc
  rw [z, ho'] at ho; cases ho; rw [hd'] at hd; cases hd
theorem Inv.funs (I : Inv X pins σ H s) : s.heap.FunFrames X.base X.outer := by
  have all : ∀ (l : List Env), (∀ b ∈ frs l, b ∈ X.fs) → X.s₀.heap.FunFrames X.base l → s.heap.FunFrames X.base l := by
    intro l
    induction l with
    | nil => intro _ _; trivial
    | cons env r ih =>
      intro hs hl
      obtain ⟨hk, ⟨L, o, hf, hn, ho, hd⟩, hr⟩ := hl
      have hL : L ∈ X.fs := hs L (by unfold frs; rw [List.filterMap_cons, hf]; exact List.mem_cons_self)
      obtain ⟨sl, e⟩ := I.base.slot L o ho (I.ok.frf L hL) hL fun z => I.ok.exfs L z hL
      exact ⟨hk, ⟨L, _, hf, hn, e, hd⟩, ih (fun b hb => hs b (by unfold frs; rw [List.filterMap_cons, hf]; exact List.mem_cons_of_mem _ hb)) hr⟩
  exact all X.outer (fun _ hb => hb) I.ok.funs
theorem Inv.stack (I : Inv X pins σ H s) : s.heap.FunFrames X.base X.stack := by
  rcases I.ok.stk with e | ⟨e, hf⟩
  · rw [e]; exact I.funs
  · rw [e]
    obtain ⟨m, hn, _⟩ := I.loc
    refine .cons (by rw [I.ok.kind]; decide) hf hn ?_ I.funs
    exact Heap.get?_none_of_le (Nat.le_trans I.ok.bsz I.ok.above)
theorem Inv.stkSub (I : Inv X pins σ H s) : ∀ b ∈ frs X.stack, b ∈ X.env.locals :: X.fs := fun b hb => by
  rcases I.ok.stk with e | ⟨e, hf⟩
  · rw [e] at hb; exact List.mem_cons_of_mem _ hb
  · rw [e] at hb
    unfold frs at hb
    rw [List.filterMap_cons, hf] at hb
    exact hb
theorem Inv.stkFree (I : Inv X pins σ H s) : ∀ b ∈ frs X.stack, H b = none := fun b hb => by
  rcases List.mem_cons.mp (I.stkSub b hb) with e | hb
  · rw [e]; exact I.free
  · obtain ⟨_, o, ho, _⟩ := I.ok.funs.mem hb
    exact I.base.free b o ho (I.ok.frf b hb) fun z => I.ok.exfs b z hb
theorem Inv.step {g' : Array GenState} {t' : Nat} {d' : Drawn} {ch : List Addr} (I : Inv X pins σ H s)
    (hch : ∀ b ∈ ch, (b ∈ X.ex ∨ X.s₀.heap.objs.size ≤ b) ∧ b ≠ X.env.locals ∧ (∀ x c, X.env.cells.lookup x = some c → c ≠ b) ∧ ∀ p ∈ X.pn ++ pins, p.1 ≠ b)
    (keep : ∀ b o, b ≠ X.env.locals → b ∉ X.fs → b ∉ ch → s.heap.get? b = some o → H b = none → h'.get? b = some o)
    (slot : ∀ b o, b ≠ X.env.locals → b ∈ X.fs → b ∉ ch → s.heap.get? b = some o → H b = none → ∃ sl, h'.get? b = some { o with slots := sl }) (free : ∀ b o, b ∉ ch → s.heap.get? b = some o → H b = none → H' b = none)
    (there : ∀ b o, b ∉ ch → s.heap.get? b = some o → ∃ o', h'.get? b = some o')
    (tups : ∀ b xs, H b = some (.tup xs) → H' b = some (.tup xs)) (frzs : ∀ b o u, H b = some (.frz o u) → H' b = some (.frz o u)) (tbls : ∀ b ps, H b = some (.tbl ps) → ∃ more, H' b = some (.tbl (ps ++ more)))
    (ns : ∀ m, s.heap.Ns X.env.locals m → h'.Ns X.env.locals m) (hok : HOk X.prog X.w H' h') (hg : AllBare g') :
    Inv X pins σ H' { s with heap := h', gens := g', drawn := d', toks := t' } := by
  have neL : ∀ b o, X.s₀.heap.get? b = some o → b ≠ X.env.locals := fun b o e => Nat.ne_of_lt (Nat.lt_of_lt_of_le (Heap.lt_size e) I.ok.above)
  have neC : ∀ b o, X.s₀.heap.get? b = some o → b ∉ X.ex → b ∉ ch := fun b o e hx hb => by
    rcases (hch b hb).1 with z | z
    · exact hx z
    · exact absurd (Nat.lt_of_lt_of_le (Heap.lt_size e) z) (Nat.lt_irrefl _)
  have cellK : ∀ x c, X.env.cells.lookup x = some c → ∀ v, s.heap.IsCell c v → h'.IsCell c v := fun x c e v ⟨o, ho, hd⟩ => by
    have nch : c ∉ ch := fun z => (hch c z).2.2.1 x c e rfl
    by_cases hc : c ∈ X.fs
    · obtain ⟨sl, q⟩ := slot c o (I.cne x c e) hc nch ho (I.freeC x c e)
      exact ⟨_, q, hd⟩
    · exact ⟨o, keep c o (I.cne x c e) hc nch ho (I.freeC x c e), hd⟩
  refine ⟨I.ok, I.os, hg, ⟨fun b o e n hb hx => ?_, fun b o e n hb hx => ?_, fun b o e n hx => ?_, fun b o e hx => ?_, fun b xs e => tups b xs (I.base.tups b xs e), fun b o xs e => frzs b o xs (I.base.frzs b o xs e), fun b ps e => ?_⟩, ?_, fun x c e => ?_, ?_, fun x c e => ?_, fun p hp => ?_, hok, I.len⟩
  · exact keep b o (neL b o e) hb (neC b o e hx) (I.base.keep b o e n hb hx) (I.base.free b o e n hx)
  · obtain ⟨sl, e1⟩ := I.base.slot b o e n hb hx
    obtain ⟨sl', e2⟩ := slot b _ (neL b o e) hb (neC b o e hx) e1 (I.base.free b o e n hx)
    exact ⟨sl', e2⟩
  · obtain ⟨o', e1⟩ := I.base.there b o e hx
    exact free b o' (neC b o e hx) e1 (I.base.free b o e n hx)
  · obtain ⟨o', e1⟩ := I.base.there b o e hx
    exact there b o' (neC b o e hx) e1
  · obtain ⟨m1, e1⟩ := I.base.tbls b ps e
    obtain ⟨m2, e2⟩ := tbls b _ e1
    exact ⟨m1 ++ m2, by rw [e2, Array.append_assoc]⟩
  · obtain ⟨m, hn, hl⟩ := I.loc
    refine ⟨m, ns m hn, fun i x v e1 e2 e3 => ?_⟩
    obtain ⟨u, r, l⟩ := hl i x v e1 e2 e3
    refine ⟨u, r, ?_⟩
    rcases l with l | ⟨k, c, e, z⟩
    · exact .inl l
    · exact .inr ⟨k, c, e, cellK x c e _ z⟩
  · obtain ⟨v, z⟩ := I.cell x c e
    exact ⟨v, cellK x c e v z⟩
  · obtain ⟨m, ⟨o, _, _, ho, _⟩, _⟩ := I.loc
    exact free _ o (fun z => (hch _ z).2.1 rfl) ho I.free
  · obtain ⟨v, o, ho, hd⟩ := I.cell x c e
    exact free c o (fun z => (hch c z).2.2.1 x c e rfl) ho (I.freeC x c e)
  · obtain ⟨e, n, ne, nf, d⟩ := I.pin p hp
    have nch : p.1 ∉ ch := fun z => (hch p.1 z).2.2.2 p hp rfl
    exact ⟨keep p.1 p.2 ne nf nch e n, free p.1 p.2 nch e n, ne, nf, d⟩
theorem Inv.un {t' : Nat} (I : Inv X pins σ H s) (u : Un X.fs [] H H' s.heap h') (hok : HOk X.prog X.w H' h') : Inv X pins σ H' { s with heap := h', toks := t' } := by
  obtain ⟨m, ⟨o, es, ep, ho, r⟩, _⟩ := id I.loc
  obtain ⟨sl, hL⟩ := u.any ho I.free (by simp)
  exact I.step (g' := s.gens) (d' := s.drawn) (ch := []) (fun _ z => nomatch z) (fun b o _ hb _ e n => u.keep b o e n hb (by simp)) (fun b o _ hb _ e n => u.slot b o e n hb (by simp)) (fun b o _ e n => u.free b o e n (by simp)) (fun b o _ e => u.there b o e (by simp)) u.tups u.frzs u.tbls (fun m' hm => by
    obtain ⟨o', es', ep', ho', r'⟩ := hm
    rw [ho] at ho'; cases ho'
    exact ⟨_, es', ep', hL, r'⟩) hok I.bare
theorem Inv.call {g' : Array GenState} {t' : Nat} {d' : Drawn} {ch : List Addr} (I : Inv X pins σ H s) (u : Un (frs X.stack) ch H H' s.heap h') (hok : HOk X.prog X.w H' h') (hg : AllBare g')
    (hch : ∀ b ∈ ch, (b ∈ X.ex ∨ X.s₀.heap.objs.size ≤ b) ∧ b ≠ X.env.locals ∧ (∀ x c, X.env.cells.lookup x = some c → c ≠ b) ∧ ∀ p ∈ X.pn ++ pins, p.1 ≠ b) :
    Inv X pins σ H' { s with heap := h', gens := g', drawn := d', toks := t' } := by
  obtain ⟨m, ⟨o, es, ep, ho, r⟩, _⟩ := id I.loc
  obtain ⟨sl, hL⟩ := u.any ho I.free fun z => (hch _ z).2.1 rfl
  exact I.step (ch := ch) hch (fun b o hL hb hc e n => u.keep b o e n (fun z => (List.mem_cons.mp (I.stkSub b z)).elim hL hb) hc) (fun b o _ _ hc e n => u.any e n hc) (fun b o hc e n => u.free b o e n hc) (fun b o hc e => u.there b o e hc) u.tups u.frzs u.tbls (fun m' hm => by
    obtain ⟨o', es', ep', ho', r'⟩ := hm
    rw [ho] at ho'; cases ho'
    exact ⟨_, es', ep', hL, r'⟩) hok hg
theorem Inv.turned {t' : Nat} {it : Addr} (I : Inv X pins σ H s) (k : ∀ b o, b ≠ it → s.heap.get? b = some o → h'.get? b = some o) (hn : H it = none) (hL : it ≠ X.env.locals)
    (h1 : it ∈ X.ex ∨ X.s₀.heap.objs.size ≤ it) (h2 : ∀ x c, X.env.cells.lookup x = some c → c ≠ it) (h3 : ∀ p ∈ X.pn ++ pins, p.1 ≠ it) : Inv X pins σ H { s with heap := h', toks := t' } := by
  have nit : ∀ b u, H b = some u → b ≠ it := fun b u e z => by rw [z, hn] at e; cases e
  refine I.step (g' := s.gens) (d' := s.drawn) (ch := [it]) (fun b hb => ?_) (fun b o _ _ hc e _ => k b o (fun z => hc (by simp [z])) e) (fun b o _ _ hc e _ => ⟨o.slots, k b o (fun z => hc (by simp [z])) e⟩) (fun _ _ _ _ n => n)
    (fun b o hc e => ⟨o, k b o (fun z => hc (by simp [z])) e⟩) (fun _ _ e => e) (fun _ _ _ e => e) (fun b ps e => ⟨#[], by rw [e]; simp⟩) (fun m hm => ?_) (fun b u e => ?_) I.bare
  · have e : b = it := by simpa using hb
    subst e
    exact ⟨h1, hL, h2, h3⟩
  · obtain ⟨o, es, ep, ho, r⟩ := hm
    exact ⟨o, es, ep, k _ o (Ne.symm hL) ho, r⟩
  · refine (I.hok b u e).stay (fun c v hc q => k c v ?_ q) (fun _ q => q) fun _ _ q => q
    rcases hc with z | z
    · rw [z]; exact nit b u e
    · exact nit c _ z
theorem Inv.tok (I : Inv X pins σ H s) (t : Nat) : Inv X pins σ H { s with toks := t } := I.un (h' := s.heap) (t' := t) Un.refl I.hok
theorem Inv.kept {t' : Nat} (I : Inv X pins σ H s) (k : ∀ b u, s.heap.get? b = some u → h'.get? b = some u) : Inv X pins σ H { s with heap := h', toks := t' } := I.un (Un.kept k) (I.hok.kept k)
theorem Inv.laid {a : Addr} {o : HO} {t' : Nat} (I : Inv X pins σ H s) (k : ∀ b u, s.heap.get? b = some u → h'.get? b = some u) (hp : s.heap.objs.size ≤ a) (new : ObjOk X.prog X.w (upd H a o) h' a o) :
    Inv X pins σ (upd H a o) { s with heap := h', toks := t' } := I.un (Un.laid k hp (I.hok.fresh hp)) (I.hok.laid k hp new)
theorem Inv.write {x e : Addr} {o : HO} {t' : Nat} (I : Inv X pins σ H s) (mu : Mut (H x)) (he : e = x ∨ H e = some (.own x)) (k : ∀ b u, b ≠ e → s.heap.get? b = some u → h'.get? b = some u) (heo : ∃ u, h'.get? e = some u)
    (new : ObjOk X.prog X.w (upd H x o) h' x o) : Inv X pins σ (upd H x o) { s with heap := h', toks := t' } := I.un (Un.write mu he k heo) (I.hok.write mu he k heo new)
theorem Inv.pins_of {pins' : List (Addr × Obj)} (I : Inv X pins σ H s) (h : ∀ p ∈ pins', s.heap.get? p.1 = some p.2 ∧ H p.1 = none ∧ p.1 ≠ X.env.locals ∧ p.1 ∉ X.fs ∧ ∀ v, p.2.data ≠ .cell v) : Inv X pins' σ H s :=
  ⟨I.ok, I.os, I.bare, I.base, I.loc, I.cell, I.free, I.freeC, fun p hp => (List.mem_append.mp hp).elim (fun z => I.pin p (List.mem_append_left _ z)) (h p), I.hok, I.len⟩
theorem nodup_ix {N : List Str} (hN : N.Nodup) {i j : Nat} {x : Str} (a : N[i]? = some x) (b : N[j]? = some x) : i = j := by
  obtain ⟨h1, e1⟩ := List.getElem?_eq_some_iff.mp a
  obtain ⟨h2, e2⟩ := List.getElem?_eq_some_iff.mp b
  exact (List.getElem_inj hN).mp (e1.trans e2.symm)
theorem store_ok2 {M : Model} {A : Around} {E : Value → Shared → Prop} {i : Nat} {x : Str} {v : V} {u : Value} {Q : Unit → Shared → Prop} (I : Inv X pins σ H s) (hN : X.N.Nodup) (hi : X.N[i]? = some x) (hx : Loc X.env.scope x) (r : RelV v u)
    (h : ∀ s', Inv X pins (σ.set i (some v)) H s' → (∃ a, Heap.SameBut a s.heap s'.heap ∧ (a = X.env.locals ∨ X.env.cells.lookup x = some a)) → Q () s') (hf : X.fn x = true ∨ X.env.scope.names.lookup x = some .local := by first | exact .inl rfl | exact .inr rfl | assumption) : wpAny M A (storeName X.env x u) Q E s := by
  obtain ⟨m, hn, hl⟩ := id I.loc
  have hcls : (X.env.scope.kind == .class || (X.env.scope.kind == .module && X.env.locals != X.env.globals)) = false := by rw [I.ok.kind]; rfl
  have hiσ : i < σ.length := by rw [I.len]; exact (List.getElem?_eq_some_iff.mp hi).1
  have cne := I.cne
  have tracked : ∀ {a : Addr} {h' : Heap}, (∃ o, s.heap.get? a = some o ∧ H a = none) → Heap.SameBut a s.heap h' → HOk X.prog X.w H h' := fun {a h'} ha hs b ob e => by
    obtain ⟨_, _, hfree⟩ := ha
    refine (I.hok b ob e).stay (fun c w' hc q => (hs.2 c ?_).trans q) (fun _ q => q) fun _ _ q => q
    rintro rfl
    rcases hc with rfl | hc
    · rw [hfree] at e; cases e
    · rw [hfree] at hc; cases hc
  rcases hx with hk | hk
  · refine wpAny_storeName_local hk hn (fun h' hn' hs => ?_) hcls
    obtain ⟨oL, _, _, hoL, _⟩ := id hn
    refine h _ ⟨I.ok, I.os, I.bare, ⟨fun b o e n hb hx => ?_, fun b o e n hb hx => ?_, I.base.free, fun b o e hx => ?_, I.base.tups, I.base.frzs, I.base.tbls⟩, ⟨_, hn', fun j y v' e1 e2 e3 => ?_⟩, fun y c e => ?_, I.free, I.freeC, fun p hp => ?_, tracked ⟨oL, hoL, I.free⟩ hs, by simpa using I.len⟩ ⟨_, hs, .inl rfl⟩
    · exact (hs.2 b (Nat.ne_of_lt (Nat.lt_of_lt_of_le (Heap.lt_size e) I.ok.above))).trans (I.base.keep b o e n hb hx)
    · obtain ⟨sl, e1⟩ := I.base.slot b o e n hb hx
      exact ⟨sl, (hs.2 b (Nat.ne_of_lt (Nat.lt_of_lt_of_le (Heap.lt_size e) I.ok.above))).trans e1⟩
    · obtain ⟨o', e1⟩ := I.base.there b o e hx
      exact ⟨o', (hs.2 b (Nat.ne_of_lt (Nat.lt_of_lt_of_le (Heap.lt_size e) I.ok.above))).trans e1⟩
    · by_cases hj : j = i
      · subst hj
        rw [hi] at e1; cases e1
        rw [List.getElem?_set_self hiσ] at e2
        cases e2
        exact ⟨u, r, .inl ⟨hk, by simp⟩⟩
      · rw [List.getElem?_set_ne (Ne.symm hj)] at e2
        obtain ⟨u', r', q⟩ := hl j y v' e1 e2 e3
        refine ⟨u', r', ?_⟩
        rcases q with ⟨k, e⟩ | ⟨k, c, e, z⟩
        · refine .inl ⟨k, ?_⟩
          have : y ≠ x := fun e => hj (nodup_ix hN e1 (e ▸ hi))
          simp [this, e]
        · exact .inr ⟨k, c, e, z.sameBut hs (cne y c e)⟩
    · obtain ⟨w', z⟩ := I.cell y c e
      exact ⟨w', z.sameBut hs (cne y c e)⟩
    · obtain ⟨e, n, ne, nf, d⟩ := I.pin p hp
      exact ⟨(hs.2 p.1 ne).trans e, n, ne, nf, d⟩
  · have hfn : X.fn x = true := by
      rcases hf with z | z
      · exact z
      · rw [z] at hk; cases hk
    obtain ⟨c, hc⟩ := I.ok.has x (.inl hk)
    obtain ⟨w', z⟩ := I.cell x c hc
    refine wpAny_storeName_cell I.ok.kind hk hc z (fun h' hc' hs => ?_)
    obtain ⟨oc, hoc, hocd⟩ := id z
    refine h { s with heap := h' } ⟨I.ok, I.os, I.bare, ⟨fun b o e n hb hx => ?_, fun b o e n hb hx => ?_, I.base.free, fun b o e hx => ?_, I.base.tups, I.base.frzs, I.base.tbls⟩, ⟨m, hn.sameBut hs (Ne.symm (cne x c hc)), fun j y v' e1 e2 e3 => ?_⟩, fun y c' e => ?_, I.free, I.freeC, fun p hp => ?_, tracked ⟨oc, hoc, I.freeC x c hc⟩ hs, by simpa using I.len⟩ ⟨c, hs, .inr hc⟩
    · exact (hs.2 b (Nat.ne_of_lt (Nat.lt_of_lt_of_le (Heap.lt_size e) (I.ok.cab x c hfn hc)))).trans (I.base.keep b o e n hb hx)
    · obtain ⟨sl, e1⟩ := I.base.slot b o e n hb hx
      exact ⟨sl, (hs.2 b (Nat.ne_of_lt (Nat.lt_of_lt_of_le (Heap.lt_size e) (I.ok.cab x c hfn hc)))).trans e1⟩
    · obtain ⟨o', e1⟩ := I.base.there b o e hx
      exact ⟨o', (hs.2 b (Nat.ne_of_lt (Nat.lt_of_lt_of_le (Heap.lt_size e) (I.ok.cab x c hfn hc)))).trans e1⟩
    · by_cases hj : j = i
      · subst hj
        rw [hi] at e1; cases e1
        rw [List.getElem?_set_self hiσ] at e2
        cases e2
        exact ⟨u, r, .inr ⟨.inl hk, c, hc, hc'⟩⟩
      · rw [List.getElem?_set_ne (Ne.symm hj)] at e2
        obtain ⟨u', r', q⟩ := hl j y v' e1 e2 e3
        refine ⟨u', r', ?_⟩
        rcases q with q | ⟨k, c', e, z'⟩
        · exact .inl q
        · refine .inr ⟨k, c', e, z'.sameBut hs ?_⟩
          rintro rfl
          exact hj (nodup_ix hN e1 (I.ok.inj _ _ _ e hc ▸ hi))
    · by_cases hcc : c' = c
      · subst hcc; exact ⟨_, hc'⟩
      · obtain ⟨w2, z2⟩ := I.cell y c' e
        exact ⟨w2, z2.sameBut hs hcc⟩
    · obtain ⟨e, n, ne, nf, d⟩ := I.pin p hp
      refine ⟨(hs.2 p.1 ?_).trans e, n, ne, nf, d⟩
      intro q
      rw [q, hoc] at e
      have q' : oc = p.2 := Option.some.inj e
      exact d w' (by rw [← q']; exact hocd)
theorem store_ok {M : Model} {A : Around} {E : Value → Shared → Prop} {i : Nat} {x : Str} {v : V} {u : Value} {Q : Unit → Shared → Prop} (I : Inv X pins σ H s) (hN : X.N.Nodup) (hi : X.N[i]? = some x) (hx : Loc X.env.scope x) (r : RelV v u)
    (h : ∀ s', Inv X pins (σ.set i (some v)) H s' → Q () s') (hf : X.fn x = true ∨ X.env.scope.names.lookup x = some .local := by first | exact .inl rfl | exact .inr rfl | assumption) : wpAny M A (storeName X.env x u) Q E s :=
  store_ok2 I hN hi hx r (fun s' I' _ => h s' I') hf
theorem Inv.call' {s' : Shared} {ch : List Addr} (I : Inv X pins σ H s) (ho : s'.os = s.os) (u : Un (frs X.stack) ch H H' s.heap s'.heap) (hok : HOk X.prog X.w H' s'.heap) (hg : AllBare s'.gens)
    (hch : ∀ b ∈ ch, (b ∈ X.ex ∨ X.s₀.heap.objs.size ≤ b) ∧ b ≠ X.env.locals ∧ (∀ x c, X.env.cells.lookup x = some c → c ≠ b) ∧ ∀ p ∈ X.pn ++ pins, p.1 ≠ b) : Inv X pins σ H' s' := by
  obtain ⟨h', g', d', t', o'⟩ := s'
  have e : o' = s.os := ho
  subst e
  exact I.call (g' := g') (t' := t') (d' := d') u hok hg hch
end
abbrev XK := Value → Option Addr → Hp → Prop
abbrev St := List (Option V)
abbrev VK := V → Hp → Prop
abbrev TE := St → Hp → VK → Prop
abbrev TT := St → Hp → (Bool → Hp → Prop) → Prop
abbrev TA := St → Hp → (List V → Hp → Prop) → Prop
structure Ends where
  nx : St → Hp → Prop
  rt : VK
  bk : St → Hp → Prop := fun _ _ => False
  ct : St → Hp → Prop := fun _ _ => False
abbrev TS := Ends → St → Hp → Prop
def EP (X : Cx) (pins : List (Addr × Obj)) (σ : St) (Q : VK) (u : Value) (s' : Shared) : Prop := ∃ v H', Inv X pins σ H' s' ∧ RelV v u ∧ Q v H'
def TP (X : Cx) (pins : List (Addr × Obj)) (σ : St) (Q : Bool → Hp → Prop) (b : Bool) (s' : Shared) : Prop := ∃ H', Inv X pins σ H' s' ∧ Q b H'
def AP (X : Cx) (pins : List (Addr × Obj)) (σ : St) (Q : List V → Hp → Prop) (us : List Value) (s' : Shared) : Prop := ∃ vs H', Inv X pins σ H' s' ∧ Vals vs us ∧ Q vs H'
def SP (X : Cx) (pins : List (Addr × Obj)) (D : Ends) (f : Flow) (s' : Shared) : Prop :=
  match f with
  | .next => ∃ σ' H', Inv X pins σ' H' s' ∧ D.nx σ' H'
  | .brk => ∃ σ' H', Inv X pins σ' H' s' ∧ D.bk σ' H'
  | .cont => ∃ σ' H', Inv X pins σ' H' s' ∧ D.ct σ' H'
  | .ret u => ∃ v σ' H', Inv X pins σ' H' s' ∧ RelV v u ∧ D.rt v H'
def PE (X : Cx) (e : Expr) (t : TE) : Prop :=
  ∀ (pins : List (Addr × Obj)) (s : Shared) (σ : St) (H : Hp) (Q : VK), Inv X pins σ H s → t σ H Q → wpAny (model X.prog X.w) X.A (eval e X.env) (EP X pins σ Q) X.xe s
def PT (X : Cx) (e : Expr) (t : TT) : Prop :=
  ∀ (pins : List (Addr × Obj)) (s : Shared) (σ : St) (H : Hp) (Q : Bool → Hp → Prop), Inv X pins σ H s → t σ H Q → wpAny (model X.prog X.w) X.A (isTrue e X.env (eval e X.env)) (TP X pins σ Q) X.xe s
def PW (X : Cx) (e : Expr) (t : TT) : Prop :=
  ∀ (whole : Sem Value) (pins : List (Addr × Obj)) (s : Shared) (σ : St) (H : Hp) (Q : Bool → Hp → Prop), Inv X pins σ H s → t σ H Q → wpAny (model X.prog X.w) X.A (isTrue e X.env whole) (TP X pins σ Q) X.xe s
theorem PW.pt {X : Cx} {e : Expr} {t : TT} (h : PW X e t) : PT X e t := h _
def PA (X : Cx) (es : List Expr) (t : TA) : Prop :=
  ∀ (pos : Pos) (pins : List (Addr × Obj)) (s : Shared) (σ : St) (H : Hp) (Q : List V → Hp → Prop), Inv X pins σ H s → t σ H Q → wpAny (model X.prog X.w) X.A (spliced (backTo pos (starEach es X.env))) (AP X pins σ Q) X.xe s
def PS (X : Cx) (st : Stmt) (t : TS) : Prop :=
  ∀ (pins : List (Addr × Obj)) (s : Shared) (σ : St) (H : Hp) (D : Ends), Inv X pins σ H s → t D σ H → wpAny (model X.prog X.w) X.A (exec st X.env) (SP X pins D) X.xe s
def PSs (X : Cx) (st : List Stmt) (t : TS) : Prop :=
  ∀ (pins : List (Addr × Obj)) (s : Shared) (σ : St) (H : Hp) (D : Ends), Inv X pins σ H s → t D σ H → wpAny (model X.prog X.w) X.A (execs st X.env) (SP X pins D) X.xe s
theorem thn {α : Type} {t : Sem α} {Q Q' : α → Shared → Prop} {M : Model} {A : Around} {E : Value → Shared → Prop} {s : Shared} (h : wpAny M A t Q E s) (hQ : ∀ a s, Q a s → Q' a s) : wpAny M A t Q' E s := wpAny_mono h hQ fun _ _ x => x
end L2
namespace L2
open PySem PySem.Spec PyProof.Rows
section
variable {X : Cx}
def tVar (i : Nat) : TE := fun σ H Q => ∃ v, σ[i]? = some (some v) ∧ Q v H
def tC (v : V) : TE := fun _ H Q => Q v H
theorem pe_var {i : Nat} {x : Str} {pos : Pos} (hN : X.N[i]? = some x) (hv : Vis X.env.scope x) (hd : (x == ("__debug__" : Str)) = false := by decide) (hcd : (x == ("__classdict__" : Str)) = false := by decide) : PE X (.Name x pos) (tVar i) := by
  intro pins s σ H Q I h
  obtain ⟨v, e, h⟩ := h
  obtain ⟨m, hn, hl⟩ := I.loc
  obtain ⟨u, r, l⟩ := hl i x v hN e hv
  have fin : EP X pins σ Q u s := ⟨v, H, I, r, h⟩
  rcases l with ⟨hk, hm⟩ | ⟨hk, c, hc, hcell⟩
  · exact wpAny_Name (wpAny_loadName_local I.ok.kind hk hn hm fin) hd
  · rcases hk with hk | hk
    · exact wpAny_Name (wpAny_loadName_cell I.ok.kind hk hc hcell fin) hd
    · exact wpAny_Name (wpAny_loadName_free I.ok.kind hk hc hcell fin hcd) hd
theorem pe_int {i j pos} : PE X (.Constant (.int i) j pos) (tC (.int i)) := fun _ _ _ H _ I h => wpAny_Constant_int ⟨.int i, H, I.tok _, ⟨_, rfl⟩, h⟩
theorem pe_bl {b j pos} : PE X (.Constant (.bool b) j pos) (tC (.bl b)) := fun _ _ _ H _ I h => Constant_bool ⟨.bl b, H, I, rfl, h⟩
theorem pe_non {j pos} : PE X (.Constant .none j pos) (tC .non) := fun _ _ _ H _ I h => Constant_none ⟨.non, H, I, rfl, h⟩
theorem pe_str {x j pos} : PE X (.Constant (.str x) j pos) (tC (.str x)) := fun _ _ _ H _ I h => Calls.Constant_str ⟨.str x, H, I.tok _, ⟨_, rfl⟩, h⟩
def Gl (X : Cx) (x : Str) : Prop := X.env.kindOf x = some .globalImplicit
theorem ld_glob {E : Value → Shared → Prop} {pins : List (Addr × Obj)} {s : Shared} {σ : St} {H : Hp} {x : Str} {u : Value} {pos : Pos} {Q : Value → Shared → Prop} (I : Inv X pins σ H s) (hg : Gl X x) (hm : X.mg x = some u) (h : Q u s)
    (hd : (x == ("__debug__" : Str)) = false := by decide) : wpAny (model X.prog X.w) X.A (eval (.Name x pos) X.env) Q E s :=
  Calls.Name_function_global I.ok.kind hg (Calls.loadGlobal_global (by rw [I.ok.glob]; exact I.mod.glob.keeps I.bk) hm h) hd
theorem ld_blt {E : Value → Shared → Prop} {pins : List (Addr × Obj)} {s : Shared} {σ : St} {H : Hp} {x : Str} {u : Value} {pos : Pos} {Q : Value → Shared → Prop} (I : Inv X pins σ H s) (hg : Gl X x) (hm : X.mg x = none) (hv : bootBuiltins x = some u) (h : Q u s)
    (hn : x ≠ "__name__" := by decide) (hd : (x == ("__debug__" : Str)) = false := by decide) : wpAny (model X.prog X.w) X.A (eval (.Name x pos) X.env) Q E s := by
  obtain ⟨mb, h1, h2⟩ := I.mod.blt
  exact Calls.Name_function_global I.ok.kind hg (Calls.loadGlobal_builtin (by rw [I.ok.glob]; exact I.mod.glob.keeps I.bk) hm (by rw [I.ok.blt]; exact h1.keeps I.bk) ((h2 x hn).trans hv) h) hd
theorem pe_glob {x : Str} {v : V} {u : Value} {pos : Pos} (hg : Gl X x) (hm : X.mg x = some u) (r : RelV v u) (hd : (x == ("__debug__" : Str)) = false := by decide) : PE X (.Name x pos) (tC v) :=
  fun _ _ _ H _ I h => ld_glob I hg hm ⟨v, H, I, r, h⟩ hd
theorem pe_bltn {x : Str} {v : V} {u : Value} {pos : Pos} (hg : Gl X x) (hm : X.mg x = none) (hv : bootBuiltins x = some u) (r : RelV v u) (hn : x ≠ "__name__" := by decide) (hd : (x == ("__debug__" : Str)) = false := by decide) : PE X (.Name x pos) (tC v) :=
  fun _ _ _ H _ I h => ld_blt I hg hm hv ⟨v, H, I, r, h⟩ hn hd
variable {a b : Expr} {ta tb : TE} {pos : Pos}
def PC (X : Cx) (op : CmpOp) (a b : Expr) (t : TE) : Prop :=
  ∀ (pins : List (Addr × Obj)) (s : Shared) (σ : St) (H : Hp) (Q : VK), Inv X pins σ H s → t σ H Q →
    wpAny (model X.prog X.w) X.A (eval a X.env) (fun v s₁ => wpAny (model X.prog X.w) X.A (eval b X.env) (fun u s₂ => wpAny (model X.prog X.w) X.A (compareOp op v u) (EP X pins σ Q) X.xe s₂) X.xe s₁) X.xe s
def tB (t : TE) : TT := fun σ H Q => t σ H fun x H1 => ∃ c, x = .bl c ∧ Q c H1
theorem pt_cmp {op : CmpOp} {t : TE} (h : PC X op a b t) (h1 : behindInMarks op b = false := by first | exact nobehind _ (by decide) (by decide) | rfl) : PT X (.Compare a [op] [b] pos) (tB t) := by
  intro pins s σ H Q I hw
  refine wpAny_isTrue_Compare1 (thn (h pins s σ H _ I hw) fun v s1 h1 => thn h1 fun u s2 h2 => thn h2 fun c s3 ⟨x, H1, I1, r1, q1⟩ => ?_) h1
  obtain ⟨d, rfl, q⟩ := q1
  cases r1
  exact wpAny_truthy_bool ⟨H1, I1, q⟩
theorem pt_val {e : Expr} {t : TE} (h : PE X e t) (he : ∀ whole, isTrue e X.env whole = (do let v ← whole; standAt e.pos; holding [v] (truthy v)) := by intro _; rfl) : PT X e (tB t) := by
  intro pins s σ H Q I hw
  refine isTrue_plain (thn (h pins s σ H _ I hw) fun v s1 ⟨x, H1, I1, r1, q1⟩ => ?_) (he _)
  obtain ⟨d, rfl, q⟩ := q1
  cases r1
  exact wpAny_truthy_bool ⟨H1, I1, q⟩
variable {tA tB' : TT} {rest : List Expr}
def tAnd (t u : TT) : TT := fun σ H Q => t σ H fun c H1 => if c = true then u σ H1 Q else Q false H1
def tOr (t u : TT) : TT := fun σ H Q => t σ H fun c H1 => if c = true then Q true H1 else u σ H1 Q
def tNot (t : TT) : TT := fun σ H Q => t σ H fun c H1 => Q (!c) H1
theorem pw_and1 (ha : PT X a tA) : PW X (.BoolOp .And [a] pos) tA := by
  intro wh pins s σ H Q I h
  refine isTrue_and (thn (ha pins s σ H Q I h) fun c s1 e => ?_)
  cases c with
  | true => exact isTrue_and_nil e
  | false => exact e
theorem pw_or1 (ha : PT X a tA) : PW X (.BoolOp .Or [a] pos) tA := by
  intro wh pins s σ H Q I h
  refine isTrue_or (thn (ha pins s σ H Q I h) fun c s1 e => ?_)
  cases c with
  | false => exact isTrue_or_nil e
  | true => exact e
theorem pw_and (ha : PT X a tA) (hb : PW X (.BoolOp .And (b :: rest) pos) tB') : PW X (.BoolOp .And (a :: b :: rest) pos) (tAnd tA tB') := by
  intro wh pins s σ H Q I h
  refine isTrue_and (thn (ha pins s σ H _ I h) fun c s1 ⟨H1, I1, q1⟩ => ?_)
  cases c with
  | true => exact hb wh pins s1 σ H1 Q I1 q1
  | false => exact ⟨H1, I1, q1⟩
theorem pw_or (ha : PT X a tA) (hb : PW X (.BoolOp .Or (b :: rest) pos) tB') : PW X (.BoolOp .Or (a :: b :: rest) pos) (tOr tA tB') := by
  intro wh pins s σ H Q I h
  refine isTrue_or (thn (ha pins s σ H _ I h) fun c s1 ⟨H1, I1, q1⟩ => ?_)
  cases c with
  | true => exact ⟨H1, I1, q1⟩
  | false => exact hb wh pins s1 σ H1 Q I1 q1
theorem pt_not (ha : PT X a tA) : PT X (.UnaryOp .Not a pos) (tNot tA) := by
  intro pins s σ H Q I h
  exact isTrue_not (ha pins s σ H (fun c H1 => Q (!c) H1) I h)
def tAndV (ta tb : TE) : TE := fun σ H Q => ta σ H fun x H1 => ∃ c, x = .bl c ∧ if c = true then tb σ H1 Q else Q (.bl false) H1
theorem pe_one {op} {t : TE} (h : PE X a t) : PE X (.BoolOp op [a] pos) t := fun pins s σ H Q I hw => BoolOp_one (h pins s σ H Q I hw)
theorem pe_and (ha : PE X a ta) (hb : PE X (.BoolOp .And (b :: rest) pos) tb) : PE X (.BoolOp .And (a :: b :: rest) pos) (tAndV ta tb) := by
  intro pins s σ H Q I h
  refine BoolOp_and (thn (ha pins s σ H _ I h) fun v s1 ⟨x, H1, I1, r1, q1⟩ => ?_)
  obtain ⟨c, rfl, q1⟩ := q1
  cases r1
  refine wpAny_truthy_bool ?_
  cases c with
  | true => exact hb pins s1 σ H1 Q I1 q1
  | false => exact ⟨.bl false, H1, I1, rfl, q1⟩
def tIf (t : TT) (ta tb : TE) : TE := fun σ H Q => t σ H fun c H1 => if c = true then ta σ H1 Q else tb σ H1 Q
theorem pe_ifExp {c : Expr} (hc : PT X c tA) (ha : PE X a ta) (hb : PE X b tb) : PE X (.IfExp c a b pos) (tIf tA ta tb) := by
  intro pins s σ H Q I h
  refine wpAny_IfExp (thn (hc pins s σ H _ I h) fun d s1 ⟨H1, I1, q1⟩ => ?_)
  cases d with
  | true => exact ha pins s1 σ H1 Q I1 q1
  | false => exact hb pins s1 σ H1 Q I1 q1
end
end L2
namespace L2
open PySem PySem.Spec PyProof.Rows
def SqL (K : PySem.W.Frag) (H : Hp) (a : Addr) (xs : List V) : Prop :=
  Rd H a (.lst xs) ∨
    ∃ (o : Obj) (its : Array Value) (n : Nat), K.lookup a = some o ∧ o.cls = .type "list" ∧ o.dict = none ∧ o.data = .seq its n ∧ its.size ≤ sizeLine ∧ Vals xs its.toList
def SqT (K : PySem.W.Frag) (H : Hp) (a : Addr) (xs : List V) : Prop :=
  Rd H a (.tup xs) ∨
    ∃ (o : Obj) (its : Array Value) (n : Nat), K.lookup a = some o ∧ o.cls = .type "tuple" ∧ o.data = .seq its n ∧ its.size ≤ sizeLine ∧ Vals xs its.toList
def absV : Value → Option V
  | .none => some .non
  | .bool b => some (.bl b)
  | .int i _ => some (.int i)
  | .str x _ => some (.str x)
  | .bytes b _ => some (.byt b)
  | .float b _ => some (.flt b)
  | .ref a => some (.ref a)
  | .type n => some (.ty n)
  | _ => none
theorem RelV.abs {x : V} {u : Value} (r : RelV x u) : absV u = some x := by
  cases x with
  | non => cases r; rfl
  | bl _ => cases r; rfl
  | int _ => obtain ⟨t, rfl⟩ := r; rfl
  | str _ => obtain ⟨t, rfl⟩ := r; rfl
  | byt _ => obtain ⟨t, rfl⟩ := r; rfl
  | flt _ => obtain ⟨t, rfl⟩ := r; rfl
  | ref _ => cases r; rfl
  | ty _ => cases r; rfl
theorem RelV.inj {x y : V} {u : Value} (r : RelV x u) (q : RelV y u) : x = y := Option.some.inj (r.abs.symm.trans q.abs)
theorem Vals.inj : ∀ {xs ys : List V} {us : List Value}, Vals xs us → Vals ys us → xs = ys
  | _, _, _, .nil, .nil => rfl
  | _, _, _, .cons r t, .cons r' t' => by rw [r.inj r', Vals.inj t t']
section
variable {X : Cx} {pins : List (Addr × Obj)} {σ : St} {H : Hp} {s : Shared} {a : Addr} {xs ys : List V}
theorem SqL.of {K : PySem.W.Frag} (h : H a = some (.lst xs)) : SqL K H a xs := .inl (.inl h)
theorem SqT.of {K : PySem.W.Frag} (h : H a = some (.tup xs)) : SqT K H a xs := .inl (.inl h)
theorem Inv.list (I : Inv X pins σ H s) (h : SqL X.K H a xs) : ∃ its : List Value, Vals xs its ∧ PlainL s.heap a its.toArray ∧ xs.length ≤ sizeLine := by
  rcases h with h | ⟨o, its, n, hk, hc, hd, hs, hz, r⟩
  · obtain ⟨z, its, n, r, e⟩ := h.ok I.hok
    exact ⟨its, r, ⟨_, n, e, rfl, rfl, rfl⟩, z⟩
  · refine ⟨its.toList, r, ⟨o, n, I.kIn a o hk, hc, hd, by simpa using hs⟩, ?_⟩
    have e := r.length
    simp only [Array.length_toList] at e
    omega
theorem Inv.tuple (I : Inv X pins σ H s) (h : SqT X.K H a xs) : ∃ its : List Value, Vals xs its ∧ IsTup s.heap a its.toArray ∧ xs.length ≤ sizeLine := by
  rcases h with h | ⟨o, its, n, hk, hc, hs, hz, r⟩
  · obtain ⟨z, its, r, p⟩ := h.ok I.hok
    exact ⟨its, r, p, z⟩
  · refine ⟨its.toList, r, ⟨o, I.kIn a o hk, hc, n, by simpa using hs⟩, ?_⟩
    have e := r.length
    simp only [Array.length_toList] at e
    omega
theorem Inv.list_inj (I : Inv X pins σ H s) (h : SqL X.K H a xs) (h' : SqL X.K H a ys) : xs = ys := by
  obtain ⟨its, r, ⟨o, n, e, _, _, d⟩, _⟩ := I.list h
  obtain ⟨its', r', ⟨o', n', e', _, _, d'⟩, _⟩ := I.list h'
  rw [e] at e'; cases e'
  rw [d] at d'
  injection d' with d1 _
  have : its = its' := by simpa using congrArg Array.toList d1
  subst this
  exact r.inj r'
theorem Inv.tuple_inj (I : Inv X pins σ H s) (h : SqT X.K H a xs) (h' : SqT X.K H a ys) : xs = ys := by
  obtain ⟨its, r, ⟨o, e, _, n, d⟩, _⟩ := I.tuple h
  obtain ⟨its', r', ⟨o', e', _, n', d'⟩, _⟩ := I.tuple h'
  rw [e] at e'; cases e'
  rw [d] at d'
  injection d' with d1 _
  have : its = its' := by simpa using congrArg Array.toList d1
  subst this
  exact r.inj r'
end
abbrev Cx.wish (X : Cx) (E : Value → Shared → Prop) : Cx := { X with xe := E }
abbrev Cx.nox (X : Cx) : Cx := X.wish fun _ _ => False
theorem Cx.Ok.wish {X : Cx} (ok : X.Ok) (E : Value → Shared → Prop) : (X.wish E).Ok :=
  ⟨ok.mod, ok.kind, ok.glob, ok.blt, ok.above, ok.inj, ok.has, ok.cab, ok.hd, ok.frames, ok.stk, ok.exf, ok.bs, ok.bsz, ok.noex, ok.exfs, ok.funs, ok.frf⟩
theorem Cx.Ok.unwish {X : Cx} {E : Value → Shared → Prop} (ok : (X.wish E).Ok) : X.Ok :=
  ⟨ok.mod, ok.kind, ok.glob, ok.blt, ok.above, ok.inj, ok.has, ok.cab, ok.hd, ok.frames, ok.stk, ok.exf, ok.bs, ok.bsz, ok.noex, ok.exfs, ok.funs, ok.frf⟩
section
variable {X : Cx} {pins : List (Addr × Obj)} {σ : St} {H : Hp} {s : Shared} {E : Value → Shared → Prop}
theorem Inv.wish (I : Inv X pins σ H s) (E : Value → Shared → Prop) : Inv (X.wish E) pins σ H s := ⟨I.ok.wish E, I.os, I.bare, I.base, I.loc, I.cell, I.free, I.freeC, I.pin, I.hok, I.len⟩
theorem Inv.unwish (I : Inv (X.wish E) pins σ H s) : Inv X pins σ H s := ⟨I.ok.unwish, I.os, I.bare, I.base, I.loc, I.cell, I.free, I.freeC, I.pin, I.hok, I.len⟩
theorem SP.unwish {D : Ends} {f : Flow} {s' : Shared} (h : SP (X.wish E) pins D f s') : SP X pins D f s' := by
  cases f with
  | next => obtain ⟨σ', H', I, q⟩ := h; exact ⟨σ', H', I.unwish, q⟩
  | brk => obtain ⟨σ', H', I, q⟩ := h; exact ⟨σ', H', I.unwish, q⟩
  | cont => obtain ⟨σ', H', I, q⟩ := h; exact ⟨σ', H', I.unwish, q⟩
  | ret u => obtain ⟨v, σ', H', I, r, q⟩ := h; exact ⟨v, σ', H', I.unwish, r, q⟩
theorem PSs.nox {st : List Stmt} {t : TS} (h : PSs X.nox st t) : PSs X st t := fun pins s σ H D I hw =>
  wpAny_mono (h pins s σ H D (I.wish _) hw) (fun _ _ q => q.unwish) fun _ _ z => False.elim z
end
section
variable {X : Cx} {st : Stmt} {rest : List Stmt} {t u : TS} {e : Expr} {te : TE} {pos : Pos}
def tNext : TS := fun D σ H => D.nx σ H
def tSeq (t u : TS) : TS := fun D σ H => t { D with nx := u D } σ H
theorem pss_nil : PSs X [] tNext := fun _ _ σ H _ I h => wpAny_execs_nil ⟨σ, H, I, h⟩
theorem pss_cons (h1 : PS X st t) (h2 : PSs X rest u) : PSs X (st :: rest) (tSeq t u) := by
  intro pins s σ H D I h
  refine wpAny_execs_cons (thn (h1 pins s σ H { D with nx := u D } I h) fun f s1 q => ?_)
  cases f with
  | next =>
    obtain ⟨σ', H', I', q⟩ := q
    exact h2 pins s1 σ' H' D I' q
  | ret v => exact q
  | brk => exact q
  | cont => exact q
theorem pss_one (h1 : PS X st t) : PSs X [st] t := by
  intro pins s σ H D I h
  refine wpAny_execs_cons (thn (h1 pins s σ H D I h) fun f s1 q => ?_)
  cases f with
  | next => exact wpAny_execs_nil q
  | ret v => exact q
  | brk => exact q
  | cont => exact q
theorem Inv.quiet {pins : List (Addr × Obj)} {σ : St} {H : Hp} {s : Shared} (I : Inv X pins σ H s) : interactive X.env = false := by simp [interactive, I.ok.kind]
def tDrop (te : TE) : TS := fun D σ H => te σ H fun _ H1 => D.nx σ H1
theorem ps_expr (he : PE X e te) (hs : swapsWith e none pos.line X.env = pure false := by rfl) : PS X (.Expr e pos) (tDrop te) := by
  intro pins s σ H D I h
  exact wpAny_Expr_any (thn (he pins s σ H _ I h) fun v s1 ⟨x, H1, I1, r1, q1⟩ => ⟨σ, H1, I1, q1⟩) I.quiet hs
def tRet (te : TE) : TS := fun D σ H => te σ H D.rt
theorem ps_ret (he : PE X e te) : PS X (.Return (some e) pos) (tRet te) := by
  intro pins s σ H D I h
  exact wpAny_Return_some (thn (he pins s σ H _ I h) fun v s1 ⟨x, H1, I1, r1, q1⟩ => ⟨x, σ, H1, I1, r1, q1⟩)
def tIfS (c : TT) (t u : TS) : TS := fun D σ H => c σ H fun b H1 => if b = true then t D σ H1 else u D σ H1
theorem ps_if {c : Expr} {a b : List Stmt} {tc : TT} (hc : PT X c tc) (ha : PSs X a t) (hb : PSs X b u) : PS X (.If c a b pos) (tIfS tc t u) := by
  intro pins s σ H D I h
  refine wpAny_If (thn (hc pins s σ H _ I h) fun d s1 ⟨H1, I1, q1⟩ => ?_)
  cases d with
  | true => exact ha pins s1 σ H1 D I1 q1
  | false => exact hb pins s1 σ H1 D I1 q1
end
abbrev TG := V → St → Hp → (St → Hp → Prop) → Prop
abbrev TGs := List V → St → Hp → (St → Hp → Prop) → Prop
def PG (X : Cx) (target : Expr) (t : TG) : Prop :=
  ∀ (pins : List (Addr × Obj)) (s : Shared) (σ : St) (H : Hp) (v : V) (u : Value) (Q : St → Hp → Prop), Inv X pins σ H s → RelV v u → t v σ H Q →
    wpAny (model X.prog X.w) X.A (assign target X.env u) (fun _ s' => ∃ σ' H', Inv X pins σ' H' s' ∧ Q σ' H') X.xe s
def PGs (X : Cx) (ts : List Expr) (t : TGs) : Prop :=
  ∀ (pins : List (Addr × Obj)) (s : Shared) (σ : St) (H : Hp) (vs : List V) (us : List Value) (Q : St → Hp → Prop), Inv X pins σ H s → Vals vs us → t vs σ H Q →
    wpAny (model X.prog X.w) X.A (assignInOrder ((assignEach ts X.env).map (·.2)) us) (fun _ s' => ∃ σ' H', Inv X pins σ' H' s' ∧ Q σ' H') X.xe s
abbrev TSet := V → V → V → Hp → (Hp → Prop) → Prop
def PSet (X : Cx) (t : TSet) : Prop :=
  ∀ (pins : List (Addr × Obj)) (s : Shared) (σ : St) (H : Hp) (o i v : V) (ov iv u : Value) (Q : Hp → Prop), Inv X pins σ H s → RelV o ov → RelV i iv → RelV v u → t o i v H Q →
    wpAny (model X.prog X.w) X.A (setItem ov iv u) (fun _ s' => ∃ H', Inv X pins σ H' s' ∧ Q H') X.xe s
section
variable {X : Cx} {pos : Pos}
def gName (i : Nat) : TG := fun v σ H Q => Q (σ.set i (some v)) H
theorem pg_name {i : Nat} {x : Str} (hN : X.N.Nodup) (hi : X.N[i]? = some x) (hx : Loc X.env.scope x) (hf : X.fn x = true ∨ X.env.scope.names.lookup x = some .local := by first | exact .inl rfl | exact .inr rfl | assumption) : PG X (.Name x pos) (gName i) := by
  intro pins s σ H v u Q I r h
  exact wpAny_assign_Name (store_ok I hN hi hx r (fun s' I' => ⟨_, H, I', h⟩) hf)
def gNil : TGs := fun vs σ H Q => vs = [] ∧ Q σ H
def gCons (t : TG) (u : TGs) : TGs := fun vs σ H Q => ∃ v r, vs = v :: r ∧ t v σ H fun σ' H' => u r σ' H' Q
theorem pgs_nil : PGs X [] gNil := by
  intro pins s σ H vs us Q I r h
  obtain ⟨e, h⟩ := h
  subst e
  cases r
  exact assignInOrder_nil ⟨σ, H, I, h⟩
theorem pgs_cons {e : Expr} {es : List Expr} {t : TG} {u : TGs} (h1 : PG X e t) (h2 : PGs X es u)
    (hs : (assignEach (e :: es) X.env).map (·.2) = assign e X.env :: (assignEach es X.env).map (·.2) := by rfl) : PGs X (e :: es) (gCons t u) := by
  intro pins s σ H vs us Q I r h
  obtain ⟨v, vr, e1, h⟩ := h
  subst e1
  cases r with
  | cons r rr =>
    rw [hs]
    refine assignInOrder_cons (thn (h1 pins s σ H _ _ _ I r h) fun _ s1 ⟨σ1, H1, I1, q1⟩ => ?_)
    exact h2 pins s1 σ1 H1 _ _ Q I1 rr q1
def gTup (K : PySem.W.Frag) (n : Nat) (t : TGs) : TG := fun v σ H Q => ∃ a xs, v = .ref a ∧ SqT K H a xs ∧ xs.length = n ∧ t xs σ H Q
theorem pg_tup {es : List Expr} {k : Nat} {t : TGs} {n : Nat} (hc : X.calm = true) (h : PGs X es t)
    (hn : (assignEach es X.env).length = n := by rfl) (hst : (assignEach es X.env).findIdx? (·.1) = none := by rfl) : PG X (.Tuple es k pos) (gTup X.K n t) := by
  intro pins s σ H v u Q I r hw
  obtain ⟨a, xs, e1, hq, hl, hw⟩ := hw
  subst e1
  cases r
  obtain ⟨its, rv, ht, hz⟩ := I.tuple hq
  refine assign_Tuple_tuple (I.ok.hd hc) ht (by simp [hn, ← hl, rv.length]) hst fun h' hx => ?_
  have I1 : Inv X pins σ H { s with heap := h' } := I.kept (t' := s.toks) fun b o e => hx b o (Nat.ne_of_lt (Heap.lt_size e)) e
  exact h pins _ σ H xs _ Q I1 (by simpa using rv) hw
def gSub (to ti : TE) (t : TSet) : TG := fun v σ H Q => to σ H fun o H1 => ti σ H1 fun i H2 => t o i v H2 fun H3 => Q σ H3
theorem pg_sub {o i : Expr} {to ti : TE} {t : TSet} (ho : PE X o to) (hi : PE X i ti) (hs : PSet X t)
    (ha : ∀ v, assign (.Subscript o i pos) X.env v = (do
      let ov ← holding [v] (eval o X.env)
      let iv ← holding [v, ov] (eval i X.env)
      standAt pos
      holding [v, ov, iv] (setItem ov iv v)
      release [v, ov, iv] []) := by intro _; rfl) : PG X (.Subscript o i pos) (gSub to ti t) := by
  intro pins s σ H v u Q I r h
  rw [ha]
  refine wpAny_bind (wpAny_holding (thn (ho pins s σ H _ I h) fun ov s1 ⟨x, H1, I1, r1, q1⟩ => ?_))
  refine wpAny_bind (wpAny_holding (thn (hi pins s1 σ H1 _ I1 q1) fun iv s2 ⟨y, H2, I2, r2, q2⟩ => ?_))
  refine wpAny_bind (wpAny_standAt (wpAny_bind (wpAny_holding (thn (hs pins s2 σ H2 x y v ov iv u _ I2 r1 r2 r q2) fun _ s3 ⟨H3, I3, q3⟩ => ?_))))
  exact wpAny_release ⟨σ, H3, I3, q3⟩
def tAsg (te : TE) (g : TG) : TS := fun D σ H => te σ H fun x H1 => g x σ H1 D.nx
theorem ps_asg {tg e : Expr} {te : TE} {g : TG} (he : PE X e te) (hg : PG X tg g) (hs : swapsWithSole [tg] e pos.line X.env = pure false := by rfl) (hw : swappedStores [tg] e X.env = pure none := by rfl)
    (h1 : (assignEach [tg] X.env).map (·.2) = [assign tg X.env] := by rfl) : PS X (.Assign [tg] e pos) (tAsg te g) := by
  intro pins s σ H D I h
  refine wpAny_Assign_stores (thn (he pins s σ H _ I h) fun v s1 ⟨x, H1, I1, r1, q1⟩ => ?_) hs hw
  rw [h1]
  exact thn (hg pins s1 σ H1 x v _ I1 r1 q1) fun _ s2 q => q
theorem ps_set {i : Nat} {x : Str} {e : Expr} {te : TE} {pos' : Pos} (hN : X.N.Nodup) (hi : X.N[i]? = some x) (hx : Loc X.env.scope x) (he : PE X e te) (hs : swapsWith e (some (.Name x pos')) pos.line X.env = pure false := by rfl) (hf : X.fn x = true ∨ X.env.scope.names.lookup x = some .local := by first | exact .inl rfl | exact .inr rfl | assumption) :
    PS X (.Assign [.Name x pos'] e pos) (tAsg te (gName i)) := by
  intro pins s σ H D I h
  refine wpAny_Assign_Name (thn (he pins s σ H _ I h) fun v s1 ⟨y, H1, I1, r1, q1⟩ => ?_) hs
  exact store_ok I1 hN hi hx r1 (fun s2 I2 => ⟨_, H1, I2, q1⟩) hf
end
section
variable {X : Cx} {pos : Pos}
def tWhile (c : TT) (tb : TS) : TS := fun D σ H => ∃ W : Nat → St → Hp → Prop, (∃ m, W m σ H) ∧ ∀ m σ H, W m σ H →
  c σ H fun b H1 => if b = true then ∃ N : St → Hp → Prop, (∀ σ' H', N σ' H' → ∃ m', m' < m ∧ W m' σ' H') ∧ tb { D with nx := N, ct := N, bk := D.nx } σ H1 else D.nx σ H1
theorem ps_while {c : Expr} {body : List Stmt} {tc : TT} {tb : TS} (hp : PassesOwn (model X.prog X.w) X.A X.env X.xe) (hc : PT X c tc) (hb : PSs X body tb) : PS X (.While c body [] pos) (tWhile tc tb) := by
  intro pins s σ H D I h
  obtain ⟨W, ⟨m0, w0⟩, turn⟩ := h
  refine wpAny_While (codeAny_whileLoop (fun n s' => ∃ σ' H', Inv X pins σ' H' s' ∧ W n σ' H') ?_ m0 ⟨σ, H, I, w0⟩)
  rintro n s1 ⟨σ1, H1, I1, w1⟩
  refine wpAny_passesOwn hp (thn (hc pins s1 σ1 H1 _ I1 (turn n σ1 H1 w1)) fun b s2 ⟨H2, I2, q2⟩ => ?_)
  cases b with
  | true =>
    obtain ⟨N, hN, q2⟩ := q2
    rw [if_pos rfl]
    refine wpAny_passesOwn hp (thn (hb pins s2 σ1 H2 _ I2 q2) fun f s3 q3 => ?_)
    cases f with
    | next =>
      obtain ⟨σ3, H3, I3, n3⟩ := q3
      obtain ⟨m', hm, w3⟩ := hN σ3 H3 n3
      exact ⟨m', hm, σ3, H3, I3, w3⟩
    | cont =>
      obtain ⟨σ3, H3, I3, n3⟩ := q3
      obtain ⟨m', hm, w3⟩ := hN σ3 H3 n3
      exact ⟨m', hm, σ3, H3, I3, w3⟩
    | brk => exact q3
    | ret v => exact q3
  | false =>
    rw [if_neg Bool.false_ne_true]
    exact wpAny_execs_nil ⟨σ1, H2, I2, q2⟩
end
structure It where
  go : Nat → Hp → Prop
  yld : Nat → Hp → V → Hp → Prop
  stop : Nat → Hp → Prop
def FpOk (X : Cx) (pins : List (Addr × Obj)) (H : Hp) (b : Addr) : Prop :=
  H b = none ∧ b ≠ X.env.locals ∧ b ∉ X.fs ∧ (b ∈ X.ex ∨ X.s₀.heap.objs.size ≤ b) ∧ (∀ x c, X.env.cells.lookup x = some c → c ≠ b) ∧ ∀ p ∈ X.pn ++ pins, p.1 ≠ b
theorem Inv.fpOk {X : Cx} {pins : List (Addr × Obj)} {σ : St} {H H' : Hp} {s : Shared} {b : Addr} (I : Inv X pins σ H s) (hb : s.heap.objs.size ≤ b) (hn : H' b = none) : FpOk X pins H' b := by
  refine ⟨hn, Nat.ne_of_gt (Nat.lt_of_lt_of_le I.lt hb), I.nofs hb, .inr (Nat.le_trans I.sz hb), fun x c e z => ?_, fun p hp z => ?_⟩
  · obtain ⟨v, q⟩ := I.cell x c e
    exact absurd (Nat.lt_of_lt_of_le q.lt (by rw [z]; exact hb)) (Nat.lt_irrefl _)
  · exact absurd (Nat.lt_of_lt_of_le (Heap.lt_size (I.pin p hp).1) (by rw [z]; exact hb)) (Nat.lt_irrefl _)
structure Turn (P : Program) (w : World) (K : PySem.W.Frag) (tg : Expr) (J : It) (fp : List Addr) (it : Addr) (tn : Nat → Heap → Prop) : Prop where
  mem : it ∈ fp
  obj : ∀ i h, tn i h → ∀ b ∈ fp, ∃ o, h.get? b = some o ∧ ∀ v, o.data ≠ .cell v
  keep : ∀ i h h', tn i h → (∀ b ∈ fp, ∀ o, h.get? b = some o → h'.get? b = some o) → tn i h'
  item : ∀ (X : Cx), X.prog = P → X.w = w → X.K = K → X.calm = true → ∀ (i : Nat) (pins : List (Addr × Obj)) (s : Shared) (σ : St) (H : Hp) (E : Value → Shared → Prop), Inv X pins σ H s → (∀ b ∈ fp, FpOk X pins H b) → tn i s.heap → J.go i H →
    wpAny (model P w) X.A (pyNext (.ref it)) (fun r s1 => ∃ u, r = some u ∧
      wpAny (model P w) X.A (letOwnedTupleGo tg (.ref it) u) (fun _ s2 => ∃ x H', Inv X pins σ H' s2 ∧ RelV x u ∧ J.yld i H x H' ∧ tn (i + 1) s2.heap ∧ ∀ b ∈ fp, H' b = none) E s1) E s
  done : ∀ (X : Cx), X.prog = P → X.w = w → X.K = K → X.calm = true → ∀ (i : Nat) (pins : List (Addr × Obj)) (s : Shared) (σ : St) (H : Hp) (E : Value → Shared → Prop), Inv X pins σ H s → (∀ b ∈ fp, FpOk X pins H b) → tn i s.heap → J.stop i H →
    wpAny (model P w) X.A (pyNext (.ref it)) (fun r s1 => r = none ∧ Inv X pins σ H s1) E s
  self : ∀ (A : Around) (i : Nat) (s : Shared) (Q : Value → Shared → Prop) (E : Value → Shared → Prop), tn i s.heap → Q (.ref it) s → wpAny (model P w) A (pyIter (.ref it)) Q E s
abbrev TI := St → Hp → (It → Hp → Prop) → Prop
def PIE (X : Cx) (pins : List (Addr × Obj)) (σ : St) (tg : Expr) (R : It → Hp → Prop) (itv : Value) (s2 : Shared) : Prop :=
  ∃ (it : Addr) (fp : List Addr) (tn : Nat → Heap → Prop) (J : It) (H' : Hp), itv = .ref it ∧ Inv X pins σ H' s2 ∧ Turn X.prog X.w X.K tg J fp it tn ∧ tn 0 s2.heap ∧ (∀ b ∈ fp, FpOk X pins H' b) ∧ R J H'
def PI (X : Cx) (tg iter : Expr) (wi : TI) : Prop :=
  ∀ (pins : List (Addr × Obj)) (s : Shared) (σ : St) (H : Hp) (R : It → Hp → Prop), Inv X pins σ H s → wi σ H R →
    wpAny (model X.prog X.w) X.A (eval iter X.env) (fun v s1 => wpAny (model X.prog X.w) X.A (pyIter v) (PIE X pins σ tg R) X.xe s1) X.xe s
theorem go_of {M : Model} {A : Around} {E : Value → Shared → Prop} {s : Shared} {tg : Expr} {it : Addr} {u : Value} {o : Obj} {n : String} {vs : Array Value} {Q : Unit → Shared → Prop} (ho : s.heap.get? it = some o) (hc : o.cls = .type n) (hd : o.data = .fields vs)
    (hn : ["enumerate", "zip", "dict_itemiterator", "dict_reverseitemiterator", "odict_iterator", "itertools.zip_longest", "itertools.pairwise"].contains n = false) (hQ : Q () s) : wpAny M A (letOwnedTupleGo tg (.ref it) u) Q E s := by
  unfold letOwnedTupleGo
  cases tg <;> first
    | exact wpAny_pure hQ
    | (cases u <;> first
        | exact wpAny_pure hQ
        | (refine wpAny_bind (wpAny_load ho ?_)
           rw [hc, hd]
           show wpAny M A (if (["enumerate", "zip", "dict_itemiterator", "dict_reverseitemiterator", "odict_iterator", "itertools.zip_longest", "itertools.pairwise"].contains n && vs[0]? == some (rawInt _)) = true then _ else _) Q E s
           rw [if_neg (by intro h; rw [hn, Bool.false_and] at h; cases h)]
           exact wpAny_pure hQ))
def Itl (K : PySem.W.Frag) (a : Addr) : It :=
  ⟨fun i H => ∃ xs x, SqL K H a xs ∧ xs[i]? = some x, fun i H x H' => H' = H ∧ ∀ xs, SqL K H a xs → xs[i]? = some x, fun i H => ∃ xs, SqL K H a xs ∧ xs.length ≤ i⟩
def Itt (K : PySem.W.Frag) (a : Addr) : It :=
  ⟨fun i H => ∃ xs x, SqT K H a xs ∧ xs[i]? = some x, fun i H x H' => H' = H ∧ ∀ xs, SqT K H a xs → xs[i]? = some x, fun i H => ∃ xs, SqT K H a xs ∧ xs.length ≤ i⟩
def Itr (lo : Int) (n : Nat) : It := ⟨fun i _ => i < n, fun i H x H' => H' = H ∧ x = .int (lo + i), fun i _ => n ≤ i⟩
theorem turn_list {P : Program} {w : World} {K : PySem.W.Frag} {tg : Expr} (a it : Addr) : Turn P w K tg (Itl K a) [it] it (fun i h => h.IsListIter it a i) where
  mem := by simp
  obj := fun i h st b hb => by
    have e : b = it := by simpa using hb
    subst e
    obtain ⟨o, e, c, d⟩ := st
    exact ⟨o, e, fun v z => by rw [d] at z; cases z⟩
  keep := fun i h h' st k => st.at fun o e => k it (by simp) o e
  item := by
    intro X hP hw hK hc i pins s σ H E I hf st hg
    subst hP hw hK
    obtain ⟨xs, x, hq, hx⟩ := hg
    obtain ⟨its, rv, p, hz⟩ := I.list hq
    obtain ⟨u, hu, ru⟩ := rv.get hx
    obtain ⟨f0, f1, f2, f3, f4, f5⟩ := hf it (by simp)
    refine wpAny_pyNext_list_item st p.isList (x := u) (by simpa using hu) fun h' st' sb => ?_
    have I1 : Inv X pins σ H { s with heap := h' } := I.turned (t' := s.toks) (fun b o hb e => (sb.2 b hb).trans e) f0 f1 f3 f4 f5
    obtain ⟨o, e, c, d⟩ := id st'
    exact ⟨u, rfl, go_of (s := { s with heap := h' }) e c d (by decide) ⟨x, H, I1, ru, ⟨rfl, fun ys hy => by rw [I.list_inj hy hq]; exact hx⟩, st', fun b hb => (hf b hb).1⟩⟩
  done := by
    intro X hP hw hK hc i pins s σ H E I hf st hg
    subst hP hw hK
    obtain ⟨xs, hq, hx⟩ := hg
    obtain ⟨its, rv, p, hz⟩ := I.list hq
    obtain ⟨f0, f1, f2, f3, f4, f5⟩ := hf it (by simp)
    have hl := rv.length
    exact wpAny_pyNext_list_end (I.ok.hd hc) st p.isList (by simp; omega) fun h' eb => ⟨rfl, I.turned (t' := s.toks) (fun b o hb e => eb b o hb e) f0 f1 f3 f4 f5⟩
  self := fun _ _ _ _ _ st h => wpAny_pyIter_listiter st h
theorem turn_tuple {P : Program} {w : World} {K : PySem.W.Frag} {tg : Expr} (a it : Addr) : Turn P w K tg (Itt K a) [it] it (fun i h => h.IsTupleIter it a i) where
  mem := by simp
  obj := fun i h st b hb => by
    have e : b = it := by simpa using hb
    subst e
    obtain ⟨o, e, c, d⟩ := st
    exact ⟨o, e, fun v z => by rw [d] at z; cases z⟩
  keep := fun i h h' st k => st.at fun o e => k it (by simp) o e
  item := by
    intro X hP hw hK hc i pins s σ H E I hf st hg
    subst hP hw hK
    obtain ⟨xs, x, hq, hx⟩ := hg
    obtain ⟨its, rv, p, hz⟩ := I.tuple hq
    obtain ⟨u, hu, ru⟩ := rv.get hx
    obtain ⟨f0, f1, f2, f3, f4, f5⟩ := hf it (by simp)
    refine wpAny_pyNext_tuple_item st (show s.heap.IsTuple a its.toArray from p) (x := u) (by simpa using hu) fun h' st' sb => ?_
    have I1 : Inv X pins σ H { s with heap := h' } := I.turned (t' := s.toks) (fun b o hb e => (sb.2 b hb).trans e) f0 f1 f3 f4 f5
    obtain ⟨o, e, c, d⟩ := id st'
    exact ⟨u, rfl, go_of (s := { s with heap := h' }) e c d (by decide) ⟨x, H, I1, ru, ⟨rfl, fun ys hy => by rw [I.tuple_inj hy hq]; exact hx⟩, st', fun b hb => (hf b hb).1⟩⟩
  done := by
    intro X hP hw hK hc i pins s σ H E I hf st hg
    subst hP hw hK
    obtain ⟨xs, hq, hx⟩ := hg
    obtain ⟨its, rv, p, hz⟩ := I.tuple hq
    obtain ⟨f0, f1, f2, f3, f4, f5⟩ := hf it (by simp)
    have hl := rv.length
    exact wpAny_pyNext_tuple_end (I.ok.hd hc) st (show s.heap.IsTuple a its.toArray from p) (by simp; omega) fun h' eb => ⟨rfl, I.turned (t' := s.toks) (fun b o hb e => eb b o hb e) f0 f1 f3 f4 f5⟩
  self := fun _ _ _ _ _ st h => wpAny_pyIter_tupleiter st h
theorem turn_range {P : Program} {w : World} {K : PySem.W.Frag} {tg : Expr} (it : Addr) (lo : Int) (n : Nat) : Turn P w K tg (Itr lo n) [it] it (fun i h => IsRangeIter h it (lo + (i : Nat) * 1) ((n : Int) - (i : Nat)) 1) where
  mem := by simp
  obj := fun i h st b hb => by
    have e : b = it := by simpa using hb
    subst e
    exact ⟨_, st, fun v z => by
      have z' : Data.fields _ = Data.cell v := z
      cases z'⟩
  keep := fun i h h' st k => k it (by simp) _ st
  item := by
    intro X hP hw hK hc i pins s σ H E I hf st hg
    subst hP hw hK
    obtain ⟨f0, f1, f2, f3, f4, f5⟩ := hf it (by simp)
    have W := Walks.range (prog := X.prog) (w := X.w) (I.ok.hd hc) it lo 1 n
    refine W.item i s _ _ hg st fun v h' tk hv st' kk => ?_
    obtain ⟨t, rfl⟩ := hv
    have I1 : Inv X pins σ H { s with heap := h', toks := tk } := I.turned (fun b o hb e => kk b o (by simpa using hb) e) f0 f1 f3 f4 f5
    refine ⟨_, rfl, go_of (s := { s with heap := h', toks := tk }) (n := "range_iterator") st' rfl rfl (by decide) ⟨.int (lo + i), H, I1, ⟨t, ?_⟩, ⟨rfl, rfl⟩, st', fun b hb => (hf b hb).1⟩⟩
    rw [Int.mul_one]
  done := by
    intro X hP hw hK hc i pins s σ H E I hf st hg
    subst hP hw hK
    obtain ⟨f0, f1, f2, f3, f4, f5⟩ := hf it (by simp)
    exact wpAny_pyNext_range_end (I.ok.hd hc) st (by have : n ≤ i := hg; omega) fun h' eb => ⟨rfl, I.turned (t' := s.toks) (fun b o hb e => eb b o hb e) f0 f1 f3 f4 f5⟩
  self := fun _ _ _ _ _ st h => wpAny_pyIter_rangeiter st h
end L2
namespace L2
open PySem PySem.Spec PyProof.Rows
section
variable {X : Cx} {tg : Expr}
def iList (K : PySem.W.Frag) (tl : TE) : TI := fun σ H R => tl σ H fun x H1 => ∃ a, x = .ref a ∧ (∃ xs, SqL K H1 a xs) ∧ R (Itl K a) H1
def iTup (K : PySem.W.Frag) (tl : TE) : TI := fun σ H R => tl σ H fun x H1 => ∃ a, x = .ref a ∧ (∃ xs, SqT K H1 a xs) ∧ R (Itt K a) H1
theorem pi_list {l : Expr} {tl : TE} (hl : PE X l tl) : PI X tg l (iList X.K tl) := by
  intro pins s σ H R I h
  refine thn (hl pins s σ H _ I h) fun v s1 ⟨x, H1, I1, r1, q1⟩ => ?_
  obtain ⟨a, e, ⟨xs, hq⟩, q⟩ := q1
  subst e
  cases r1
  obtain ⟨its, rv, p, hz⟩ := I1.list hq
  refine wpAny_pyIter_list p.isList ?_
  refine ⟨s1.heap.objs.size, [s1.heap.objs.size], _, _, H1, rfl, I1.kept (t' := s1.toks) fun b o e => Heap.get?_push_of_some _ e, turn_list a _, ⟨_, Heap.get?_push_size _ rfl, rfl, rfl⟩, fun b hb => ?_, q⟩
  have e : b = s1.heap.objs.size := by simpa using hb
  subst e
  exact I1.fpOk (Nat.le_refl _) (I1.hok.fresh (Nat.le_refl _))
theorem pi_tup {l : Expr} {tl : TE} (hl : PE X l tl) : PI X tg l (iTup X.K tl) := by
  intro pins s σ H R I h
  refine thn (hl pins s σ H _ I h) fun v s1 ⟨x, H1, I1, r1, q1⟩ => ?_
  obtain ⟨a, e, ⟨xs, hq⟩, q⟩ := q1
  subst e
  cases r1
  obtain ⟨its, rv, p, hz⟩ := I1.tuple hq
  refine wpAny_pyIter_tuple (show s1.heap.IsTuple a its.toArray from p) ?_
  refine ⟨s1.heap.objs.size, [s1.heap.objs.size], _, _, H1, rfl, I1.kept (t' := s1.toks) fun b o e => Heap.get?_push_of_some _ e, turn_tuple a _, ⟨_, Heap.get?_push_size _ rfl, rfl, rfl⟩, fun b hb => ?_, q⟩
  have e : b = s1.heap.objs.size := by simpa using hb
  subst e
  exact I1.fpOk (Nat.le_refl _) (I1.hok.fresh (Nat.le_refl _))
theorem range_it {pins : List (Addr × Obj)} {σ : St} {H : Hp} {s : Shared} {R : It → Hp → Prop} {E : Value → Shared → Prop} {lo hi : Int} {t u v : Tok} {tk : Nat} (I : Inv X pins σ H s) (h1 : -(2 ^ 62) ≤ lo) (h2 : lo < 2 ^ 62) (h3 : -(2 ^ 62) ≤ hi) (h4 : hi < 2 ^ 62)
    (q : R (Itr lo (hi - lo).toNat) H) : wpAny (model X.prog X.w) X.A (pyIter (.ref s.heap.objs.size)) (PIE X pins σ tg R) E { s with heap := s.heap.push { cls := .type "range", data := .fields #[.int lo t, .int hi u, .int 1 v] }, toks := tk } := by
  refine wpAny_pyIter_range (IsRange.new ..) (small_one h1 h2 h3 h4) ?_
  have I1 : Inv X pins σ H { s with heap := s.heap.push { cls := .type "range", data := .fields #[.int lo t, .int hi u, .int 1 v] }, toks := tk } := I.kept fun b o e => Heap.get?_push_of_some _ e
  refine ⟨(s.heap.push { cls := .type "range", data := .fields #[.int lo t, .int hi u, .int 1 v] }).objs.size, [(s.heap.push { cls := .type "range", data := .fields #[.int lo t, .int hi u, .int 1 v] }).objs.size], _, _, H, rfl,
    I1.kept (t' := tk) fun b o e => Heap.get?_push_of_some _ e, turn_range _ lo (hi - lo).toNat, ?_, fun b hb => ?_, q⟩
  · have e1 : lo + ((0 : Nat) : Int) * 1 = lo := by simp
    have e2 : (((hi - lo).toNat : Nat) : Int) - ((0 : Nat) : Int) = Builtin.Range.rangeSize lo hi 1 := by rw [rangeSize_one]; split <;> omega
    show IsRangeIter _ _ (lo + ((0 : Nat) : Int) * 1) ((((hi - lo).toNat : Nat) : Int) - ((0 : Nat) : Int)) 1
    rw [e1, e2]
    exact Heap.get?_push_size _ rfl
  · have e : b = (s.heap.push { cls := .type "range", data := .fields #[.int lo t, .int hi u, .int 1 v] }).objs.size := by simpa using hb
    subst e
    exact I1.fpOk (Nat.le_refl _) (I1.hok.fresh (Nat.le_refl _))
def iRng1 (ta : TA) : TI := fun σ H R => ta σ H fun vs H1 => ∃ j : Int, vs = [.int j] ∧ -(2 ^ 62) ≤ j ∧ j < 2 ^ 62 ∧ R (Itr 0 j.toNat) H1
theorem pi_range1 {a : Expr} {ta : TA} {p pos : Pos} (hg : Gl X "range") (hm : X.mg "range" = none) (ha : PA X [a] ta) (hs : starEach [a] X.env = [(false, eval a X.env)] := by rfl) : PI X tg (.Call (.Name "range" p) [a] [] pos) (iRng1 ta) := by
  intro pins s σ H R I h
  refine Call_ (ld_blt I hg hm boot_range (PyProof.Rows.callWith_type1 (thn (ha pos pins s σ H _ I h) fun us s1 ⟨vs, H1, I1, r1, q1⟩ => ?_) hs rfl))
  obtain ⟨j, e, q1, q2, q⟩ := q1
  subst e
  cases r1 with
  | cons r rr =>
    cases rr
    obtain ⟨t, rfl⟩ := r
    exact call_range_1 (range_it I1 (by omega) (by omega) q1 q2 (by simpa using q))
def tFor (wi : TI) (g : TG) (tb : TS) : TS := fun D σ H => wi σ H fun J H1 => ∃ W : Nat → Nat → St → Hp → Prop, (∃ m, W 0 m σ H1) ∧ ∀ i m σ H, W i m σ H →
  (J.stop i H ∧ D.nx σ H) ∨ (J.go i H ∧ ∃ N : St → Hp → Prop, (∀ σ' H', N σ' H' → ∃ m', m' < m ∧ W (i + 1) m' σ' H') ∧ ∀ x H', J.yld i H x H' → g x σ H' fun σ2 H2 => tb { D with nx := N, ct := N, bk := D.nx } σ2 H2)
def pinsAt (fp : List Addr) (h : Heap) : List (Addr × Obj) := fp.filterMap fun b => (h.get? b).map fun o => (b, o)
theorem mem_pinsAt {fp : List Addr} {h : Heap} {b : Addr} {o : Obj} (hb : b ∈ fp) (e : h.get? b = some o) : (b, o) ∈ pinsAt fp h := List.mem_filterMap.mpr ⟨b, hb, by rw [e]; rfl⟩
theorem of_pinsAt {fp : List Addr} {h : Heap} {p : Addr × Obj} (hp : p ∈ pinsAt fp h) : p.1 ∈ fp ∧ h.get? p.1 = some p.2 := by
  obtain ⟨b, hb, e⟩ := List.mem_filterMap.mp hp
  cases q : h.get? b with
  | none => rw [q] at e; cases e
  | some o =>
    rw [q] at e
    have e' : (b, o) = p := Option.some.inj e
    subst e'
    exact ⟨hb, q⟩
theorem Inv.pinned {pins : List (Addr × Obj)} {σ : St} {H : Hp} {s : Shared} {fp : List Addr} (I : Inv X pins σ H s) (hf : ∀ b ∈ fp, FpOk X pins H b) (ho : ∀ b ∈ fp, ∃ o, s.heap.get? b = some o ∧ ∀ v, o.data ≠ .cell v) : Inv X (pins ++ pinsAt fp s.heap) σ H s :=
  I.pins_of fun p hp => (List.mem_append.mp hp).elim (fun z => I.pin p (List.mem_append_right _ z)) fun z => by
    obtain ⟨hb, e⟩ := of_pinsAt z
    obtain ⟨f0, f1, f2, _⟩ := hf p.1 hb
    obtain ⟨o, e', d⟩ := ho p.1 hb
    rw [e] at e'; cases e'
    exact ⟨e, f0, f1, f2, d⟩
theorem Inv.unpinned {pins pl : List (Addr × Obj)} {σ : St} {H : Hp} {s : Shared} (I : Inv X (pins ++ pl) σ H s) : Inv X pins σ H s := I.pins_of fun p hp => I.pin p (List.mem_append_right _ (List.mem_append_left _ hp))
theorem ps_for {iter : Expr} {body : List Stmt} {wi : TI} {g : TG} {tb : TS} {pos : Pos} (hp : PassesOwn (model X.prog X.w) X.A X.env X.xe) (hc : X.calm = true) (hi : PI X tg iter wi) (hg : PG X tg g) (hb : PSs X body tb)
    (hs : ∀ x, foldedSetIterable iter X.env x = pure x := by intro _; rfl) : PS X (.For tg iter body [] pos) (tFor wi g tb) := by
  intro pins s σ H D I h
  refine wpAny_For (thn (hi pins s σ H _ I h) fun v s1 h1 => thn h1 fun itv s2 h2 => ?_) hs
  obtain ⟨it, fp, tn, J, H2, e, I2, T, st2, f2, W, ⟨m0, w0⟩, turn⟩ := h2
  subst e
  have stat : ∀ {H' : Hp}, (∀ b ∈ fp, H' b = none) → ∀ b ∈ fp, FpOk X pins H' b := fun hn b hb => ⟨hn b hb, (f2 b hb).2⟩
  refine codeAny_forLoop_any (fun n s' => ∃ i σ' H', Inv X pins σ' H' s' ∧ tn i s'.heap ∧ (∀ b ∈ fp, H' b = none) ∧ W i n σ' H') ?_ m0 ⟨0, σ, H2, I2, st2, fun b hb => (f2 b hb).1, w0⟩
  rintro n s3 ⟨i, σ3, H3, I3, st3, fr3, w3⟩
  rcases turn i n σ3 H3 w3 with ⟨stop, qn⟩ | ⟨go, N, hN, step⟩
  · refine wpAny_passesOwn hp (thn (T.done X rfl rfl rfl hc i pins s3 σ3 H3 X.xe I3 (stat fr3) st3 stop) fun r s4 ⟨hr, I4⟩ => ?_)
    subst hr
    exact wpAny_execs_nil ⟨σ3, H3, I4, qn⟩
  · refine wpAny_passesOwn hp (thn (T.item X rfl rfl rfl hc i pins s3 σ3 H3 X.xe I3 (stat fr3) st3 go) fun r s4 ⟨u, hr, h4⟩ => ?_)
    subst hr
    refine wpAny_passesOwn hp (thn h4 fun _ s5 ⟨x, H5, I5, r5, y5, st5, fr5⟩ => ?_)
    have I5' := I5.pinned (stat fr5) (T.obj _ _ st5)
    refine wpAny_passesOwn hp (thn (hg _ s5 σ3 H5 x u _ I5' r5 (step x H5 y5)) fun _ s6 ⟨σ6, H6, I6, q6⟩ => ?_)
    refine wpAny_passesOwn hp (thn (hb _ s6 σ6 H6 _ I6 q6) fun f s7 q7 => ?_)
    have again : ∀ {σ7 : St} {H7 : Hp}, Inv X (pins ++ pinsAt fp s5.heap) σ7 H7 s7 → N σ7 H7 → ∃ m, m < n ∧ ∃ i σ' H', Inv X pins σ' H' s7 ∧ tn i s7.heap ∧ (∀ b ∈ fp, H' b = none) ∧ W i m σ' H' := fun {σ7 H7} I7 n7 => by
      obtain ⟨m', hm, w7⟩ := hN σ7 H7 n7
      refine ⟨m', hm, i + 1, σ7, H7, I7.unpinned, T.keep _ _ _ st5 fun b hb o e => (I7.pin (b, o) (List.mem_append_right _ (List.mem_append_right _ (mem_pinsAt hb e)))).1, fun b hb => ?_, w7⟩
      obtain ⟨o, e, d⟩ := T.obj _ _ st5 b hb
      exact (I7.pin (b, o) (List.mem_append_right _ (List.mem_append_right _ (mem_pinsAt hb e)))).2.1
    cases f with
    | next => obtain ⟨σ7, H7, I7, n7⟩ := q7; exact again I7 n7
    | cont => obtain ⟨σ7, H7, I7, n7⟩ := q7; exact again I7 n7
    | brk => obtain ⟨σ7, H7, I7, q7⟩ := q7; exact ⟨σ7, H7, I7.unpinned, q7⟩
    | ret v => obtain ⟨x7, σ7, H7, I7, r7, q7⟩ := q7; exact ⟨x7, σ7, H7, I7.unpinned, r7, q7⟩
end
end L2
namespace L2
open PySem PySem.Spec PyProof.Rows
abbrev R2 := V → V → Hp → VK → Prop
def OpR (X : Cx) (f : Value → Value → Sem Value) (r : R2) : Prop :=
  ∀ (pins : List (Addr × Obj)) (s : Shared) (σ : St) (H : Hp) (x y : V) (v u : Value) (Q : VK), Inv X pins σ H s → RelV x v → RelV y u → r x y H Q →
    wpAny (model X.prog X.w) X.A (f v u) (EP X pins σ Q) X.xe s
def UnR (X : Cx) (f : Value → Sem Value) (r : V → Hp → VK → Prop) : Prop :=
  ∀ (pins : List (Addr × Obj)) (s : Shared) (σ : St) (H : Hp) (x : V) (v : Value) (Q : VK), Inv X pins σ H s → RelV x v → r x H Q →
    wpAny (model X.prog X.w) X.A (f v) (EP X pins σ Q) X.xe s
def CallR (X : Cx) (f : Value) (r : List V → Hp → VK → Prop) : Prop :=
  ∀ (pins : List (Addr × Obj)) (s : Shared) (σ : St) (H : Hp) (xs : List V) (us : List Value) (Q : VK), Inv X pins σ H s → Vals xs us → r xs H Q →
    wpAny (model X.prog X.w) X.A (call f us) (EP X pins σ Q) X.xe s
def TruR (X : Cx) (r : V → Hp → (Bool → Hp → Prop) → Prop) : Prop :=
  ∀ (pins : List (Addr × Obj)) (s : Shared) (σ : St) (H : Hp) (x : V) (v : Value) (Q : Bool → Hp → Prop), Inv X pins σ H s → RelV x v → r x H Q →
    wpAny (model X.prog X.w) X.A (truthy v) (TP X pins σ Q) X.xe s
def tOp (r : R2) (ta tb : TE) : TE := fun σ H Q => ta σ H fun x H1 => tb σ H1 fun y H2 => r x y H2 Q
def tUn (r : V → Hp → VK → Prop) (ta : TE) : TE := fun σ H Q => ta σ H fun x H1 => r x H1 Q
def rI (C : Int → Int → Prop) (g : Int → Int → V) : R2 := fun x y H Q => ∃ i j, x = .int i ∧ y = .int j ∧ C i j ∧ Q (g i j) H
def rI0 (g : Int → Int → V) : R2 := fun x y H Q => ∃ i j, x = .int i ∧ y = .int j ∧ Q (g i j) H
def rU (g : Int → V) : V → Hp → VK → Prop := fun x H Q => ∃ i, x = .int i ∧ Q (g i) H
section
variable {X : Cx} {a b c : Expr} {ta tb tc : TE} {pos : Pos}
theorem binT (ha : PE X a ta) (hb : PE X b tb) {pins : List (Addr × Obj)} {s : Shared} {σ : St} {H : Hp} {R : V → V → Hp → Prop} (I : Inv X pins σ H s)
    (h : ta σ H fun x H1 => tb σ H1 fun y H2 => R x y H2) {Q : Value → Shared → Prop} {f : Value → Value → Sem Value}
    (hf : ∀ v u s2 x y H2, Inv X pins σ H2 s2 → RelV x v → RelV y u → R x y H2 → wpAny (model X.prog X.w) X.A (f v u) Q X.xe s2) :
    wpAny (model X.prog X.w) X.A (eval a X.env) (fun v s₁ => wpAny (model X.prog X.w) X.A (eval b X.env) (fun u s₂ => wpAny (model X.prog X.w) X.A (f v u) Q X.xe s₂) X.xe s₁) X.xe s := by
  refine thn (ha pins s σ H _ I h) fun v s1 ⟨x, H1, I1, r1, q1⟩ => ?_
  refine thn (hb pins s1 σ H1 _ I1 q1) fun u s2 ⟨y, H2, I2, r2, q2⟩ => ?_
  exact hf v u s2 x y H2 I2 r1 r2 q2
theorem pe_op {op : Operator} {r : R2} (ho : OpR X (binaryOp op) r) (ha : PE X a ta) (hb : PE X b tb) : PE X (.BinOp a op b pos) (tOp r ta tb) := by
  intro pins s σ H Q I h
  exact wpAny_BinOp (binT ha hb I h fun v u s2 x y H2 I2 rx ry q => ho pins s2 σ H2 x y v u Q I2 rx ry q)
theorem pe_un {op : UnaryOp} {r : V → Hp → VK → Prop} (ho : UnR X (unaryOp op) r) (ha : PE X a ta) : PE X (.UnaryOp op a pos) (tUn r ta) := by
  intro pins s σ H Q I h
  exact UnaryOp_ (thn (ha pins s σ H _ I h) fun v s1 ⟨x, H1, I1, r1, q1⟩ => ho pins s1 σ H1 x v Q I1 r1 q1)
theorem opI {f : Value → Value → Sem Value} {C : Int → Int → Prop} {g : Int → Int → Int}
    (rule : ∀ (i j : Int) (t u : Tok) (s : Shared) (Q : Value → Shared → Prop) (E : Value → Shared → Prop), C i j → Q (.int (g i j) s.toks) { s with toks := s.toks + 1 } → wpAny (model X.prog X.w) X.A (f (.int i t) (.int j u)) Q E s) :
    OpR X f (rI C fun i j => .int (g i j)) := by
  intro pins s σ H x y v u Q I rx ry h
  obtain ⟨i, j, rfl, rfl, hc, q⟩ := h
  obtain ⟨t, rfl⟩ := rx
  obtain ⟨t', rfl⟩ := ry
  exact rule i j t t' s _ _ hc ⟨.int (g i j), H, I.tok _, ⟨_, rfl⟩, q⟩
theorem opI0 {f : Value → Value → Sem Value} {g : Int → Int → Int}
    (rule : ∀ (i j : Int) (t u : Tok) (s : Shared) (Q : Value → Shared → Prop) (E : Value → Shared → Prop), Q (.int (g i j) s.toks) { s with toks := s.toks + 1 } → wpAny (model X.prog X.w) X.A (f (.int i t) (.int j u)) Q E s) :
    OpR X f (rI0 fun i j => .int (g i j)) := by
  intro pins s σ H x y v u Q I rx ry h
  obtain ⟨i, j, rfl, rfl, q⟩ := h
  obtain ⟨t, rfl⟩ := rx
  obtain ⟨t', rfl⟩ := ry
  exact rule i j t t' s _ _ ⟨.int (g i j), H, I.tok _, ⟨_, rfl⟩, q⟩
theorem opB0 {f : Value → Value → Sem Value} {g : Int → Int → Bool}
    (rule : ∀ (i j : Int) (t u : Tok) (s : Shared) (Q : Value → Shared → Prop) (E : Value → Shared → Prop), Q (.bool (g i j)) s → wpAny (model X.prog X.w) X.A (f (.int i t) (.int j u)) Q E s) :
    OpR X f (rI0 fun i j => .bl (g i j)) := by
  intro pins s σ H x y v u Q I rx ry h
  obtain ⟨i, j, rfl, rfl, q⟩ := h
  obtain ⟨t, rfl⟩ := rx
  obtain ⟨t', rfl⟩ := ry
  exact rule i j t t' s _ _ ⟨.bl (g i j), H, I, rfl, q⟩
def CDiv (i j : Int) : Prop := 0 < j ∧ j < 1073741824
def CPow (i j : Int) : Prop := 0 ≤ j ∧ j ≤ 1000000 ∧ i.natAbs < 2 ^ 64
def CMul (i j : Int) : Prop := (-(2 ^ 64) < i ∧ i < 2 ^ 64) ∨ (-(2 ^ 64) < j ∧ j < 2 ^ 64)
theorem CMul.ok {i j : Int} (h : CMul i j) : IntMulOk i j := by
  rcases h with ⟨h1, h2⟩ | ⟨h1, h2⟩
  · exact .of_left (intBits_le_64 h1 h2)
  · exact .of_right (intBits_le_64 h1 h2)
theorem op_add : OpR X (binaryOp .Add) (rI0 fun i j => .int (i + j)) := opI0 fun _ _ _ _ _ _ _ q => add_int q
theorem op_sub : OpR X (binaryOp .Sub) (rI0 fun i j => .int (i - j)) := opI0 fun _ _ _ _ _ _ _ q => sub_int q
theorem op_mul : OpR X (binaryOp .Mult) (rI CMul fun i j => .int (i * j)) := opI fun _ _ _ _ _ _ _ hc q => mul_int q hc.ok
theorem op_fdiv : OpR X (binaryOp .FloorDiv) (rI CDiv fun i j => .int (i / j)) := opI fun i j _ _ _ _ _ hc q => by
  have h1 : (0 : Int) < j := hc.1
  have h2 : j < 1073741824 := hc.2
  exact floordiv_int (by omega) (by rw [Int.fdiv_eq_ediv_of_nonneg i (by omega)]; exact q) (.inl (PyProof.noPylong_small (by omega)))
theorem op_mod : OpR X (binaryOp .Mod) (rI (fun _ j => 0 < j) fun i j => .int (i % j)) := opI fun i j _ _ _ _ _ hc q => by
  have h1 : (0 : Int) < j := hc
  exact mod_int' (by omega) (by rw [Int.fmod_eq_emod_of_nonneg i (by omega)]; exact q)
theorem op_pow : OpR X (binaryOp .Pow) (rI CPow fun i j => .int (i ^ j.toNat)) := opI fun _ _ _ _ _ _ _ hc q => pow_int_small hc.1 hc.2.1 hc.2.2 q
theorem unI {f : Value → Sem Value} {g : Int → Int}
    (rule : ∀ (i : Int) (t : Tok) (s : Shared) (Q : Value → Shared → Prop) (E : Value → Shared → Prop), Q (.int (g i) s.toks) { s with toks := s.toks + 1 } → wpAny (model X.prog X.w) X.A (f (.int i t)) Q E s) :
    UnR X f (rU fun i => .int (g i)) := by
  intro pins s σ H x v Q I rx h
  obtain ⟨i, rfl, q⟩ := h
  obtain ⟨t, rfl⟩ := rx
  exact rule i t s _ _ ⟨.int (g i), H, I.tok _, ⟨_, rfl⟩, q⟩
theorem un_neg : UnR X (unaryOp .USub) (rU fun i => .int (-i)) := unI fun _ _ _ _ _ q => neg_int q
end
def scal : V → V → Bool
  | .non, .non => true | .non, .int _ => true | .int _, .non => true | .non, .bl _ => true | .bl _, .non => true | .non, .str _ => true | .str _, .non => true
  | .int _, .int _ => true | .bl _, .bl _ => true | .str _, .str _ => true | .byt _, .byt _ => true
  | .int _, .str _ => true | .str _, .int _ => true | .bl _, .str _ => true | .str _, .bl _ => true
  | _, _ => false
def rEq : R2 := fun x y H Q => scal x y = true ∧ Q (.bl (decide (x = y))) H
def rNe : R2 := fun x y H Q => scal x y = true ∧ Q (.bl (!decide (x = y))) H
theorem dec_int {i j : Int} : decide (V.int i = V.int j) = (i == j) := by
  rw [Bool.eq_iff_iff]
  simp
theorem dec_bl {i j : Bool} : decide (V.bl i = V.bl j) = (i == j) := by
  rw [Bool.eq_iff_iff]
  simp
theorem dec_str {i j : Str} : decide (V.str i = V.str j) = (i == j) := by
  rw [Bool.eq_iff_iff]
  simp
theorem dec_byt {i j : Array UInt8} : decide (V.byt i = V.byt j) = (i.toList == j.toList) := by
  rw [Bool.eq_iff_iff]
  cases i
  cases j
  simp
section
variable {X : Cx} {a b c : Expr} {ta tb tc : TE} {pos : Pos}
theorem fin_bl {pins : List (Addr × Obj)} {σ : St} {H : Hp} {s : Shared} {Q : VK} {k k' : Bool} (I : Inv X pins σ H s) (q : Q (.bl k) H) (e : k = k') : EP X pins σ Q (.bool k') s := by
  subst e
  exact ⟨.bl k, H, I, rfl, q⟩
theorem op_eq : OpR X (compareOp .Eq) rEq := by
  intro pins s σ H x y v u Q I rx ry h
  obtain ⟨hs, q⟩ := h
  cases x with
  | non =>
    cases rx
    cases y with
    | non => cases ry; exact PySem.EqNone.eq_none_none (fin_bl I q (by simp))
    | bl j => cases ry; exact PySem.EqNone.eq_none_bool (fin_bl I q (by simp))
    | int j => obtain ⟨t', rfl⟩ := ry; exact PySem.EqNone.eq_none_int (fin_bl I q (by simp))
    | str j => obtain ⟨t', rfl⟩ := ry; exact PySem.EqNone.eq_none_str (fin_bl I q (by simp))
    | _ => exact absurd (show false = true from hs) Bool.false_ne_true
  | bl i =>
    cases rx
    cases y with
    | non => cases ry; exact PySem.EqNone.eq_bool_none (fin_bl I q (by simp))
    | bl j => cases ry; exact eq_bool (fin_bl I q dec_bl)
    | str j => obtain ⟨t', rfl⟩ := ry; exact PySem.EqMixed.eq_bool_str (fin_bl I q (by simp))
    | _ => exact absurd (show false = true from hs) Bool.false_ne_true
  | int i =>
    obtain ⟨t, rfl⟩ := rx
    cases y with
    | non => cases ry; exact PySem.EqNone.eq_int_none (fin_bl I q (by simp))
    | int j => obtain ⟨t', rfl⟩ := ry; exact eq_int (fin_bl I q dec_int)
    | str j => obtain ⟨t', rfl⟩ := ry; exact PySem.EqMixed.eq_int_str (fin_bl I q (by simp))
    | _ => exact absurd (show false = true from hs) Bool.false_ne_true
  | str i =>
    obtain ⟨t, rfl⟩ := rx
    cases y with
    | non => cases ry; exact PySem.EqNone.eq_str_none (fin_bl I q (by simp))
    | bl j => cases ry; exact PySem.EqMixed.eq_str_bool (fin_bl I q (by simp))
    | int j => obtain ⟨t', rfl⟩ := ry; exact PySem.EqMixed.eq_str_int (fin_bl I q (by simp))
    | str j => obtain ⟨t', rfl⟩ := ry; exact eq_str (fin_bl I q dec_str)
    | _ => exact absurd (show false = true from hs) Bool.false_ne_true
  | byt i =>
    obtain ⟨t, rfl⟩ := rx
    cases y with
    | byt j => obtain ⟨t', rfl⟩ := ry; exact PySem.W.eq_bytes (fin_bl I q dec_byt)
    | _ => exact absurd (show false = true from hs) Bool.false_ne_true
  | _ => cases y <;> exact absurd (show false = true from hs) Bool.false_ne_true
theorem op_ne : OpR X (compareOp .NotEq) rNe := by
  intro pins s σ H x y v u Q I rx ry h
  obtain ⟨hs, q⟩ := h
  cases x with
  | non =>
    cases rx
    cases y with
    | non => cases ry; exact PySem.EqNone.ne_none_none (fin_bl I q (by simp))
    | bl j => cases ry; exact PySem.EqNone.ne_none_bool (fin_bl I q (by simp))
    | int j => obtain ⟨t', rfl⟩ := ry; exact PySem.EqNone.ne_none_int (fin_bl I q (by simp))
    | str j => obtain ⟨t', rfl⟩ := ry; exact PySem.EqNone.ne_none_str (fin_bl I q (by simp))
    | _ => exact absurd (show false = true from hs) Bool.false_ne_true
  | bl i =>
    cases rx
    cases y with
    | non => cases ry; exact PySem.EqNone.ne_bool_none (fin_bl I q (by simp))
    | bl j => cases ry; exact ne_bool (fin_bl I q (congrArg not dec_bl))
    | str j => obtain ⟨t', rfl⟩ := ry; exact PySem.EqMixed.ne_bool_str (fin_bl I q (by simp))
    | _ => exact absurd (show false = true from hs) Bool.false_ne_true
  | int i =>
    obtain ⟨t, rfl⟩ := rx
    cases y with
    | non => cases ry; exact PySem.EqNone.ne_int_none (fin_bl I q (by simp))
    | int j => obtain ⟨t', rfl⟩ := ry; exact ne_int (fin_bl I q (congrArg not dec_int))
    | str j => obtain ⟨t', rfl⟩ := ry; exact PySem.EqMixed.ne_int_str (fin_bl I q (by simp))
    | _ => exact absurd (show false = true from hs) Bool.false_ne_true
  | str i =>
    obtain ⟨t, rfl⟩ := rx
    cases y with
    | non => cases ry; exact PySem.EqNone.ne_str_none (fin_bl I q (by simp))
    | bl j => cases ry; exact PySem.EqMixed.ne_str_bool (fin_bl I q (by simp))
    | int j => obtain ⟨t', rfl⟩ := ry; exact PySem.EqMixed.ne_str_int (fin_bl I q (by simp))
    | str j => obtain ⟨t', rfl⟩ := ry; exact ne_str (fin_bl I q (congrArg not dec_str))
    | _ => exact absurd (show false = true from hs) Bool.false_ne_true
  | byt i =>
    obtain ⟨t, rfl⟩ := rx
    cases y with
    | byt j => obtain ⟨t', rfl⟩ := ry; exact PySem.W.ne_bytes (fin_bl I q (congrArg not dec_byt))
    | _ => exact absurd (show false = true from hs) Bool.false_ne_true
  | _ => cases y <;> exact absurd (show false = true from hs) Bool.false_ne_true
theorem op_lt : OpR X (compareOp .Lt) (rI0 fun i j => .bl (decide (i < j))) := opB0 fun _ _ _ _ _ _ _ q => lt_int q
theorem op_gt : OpR X (compareOp .Gt) (rI0 fun i j => .bl (decide (j < i))) := opB0 fun _ _ _ _ _ _ _ q => gt_int q
theorem op_isN : OpR X (compareOp .Is) (fun x y H Q => y = .non ∧ Q (.bl (decide (x = .non))) H) := by
  intro pins s σ H x y v u Q I rx ry h
  obtain ⟨rfl, q⟩ := h
  cases ry
  refine is_none_gen (fin_bl I q ?_)
  cases x <;> first
    | (cases rx; rfl)
    | (obtain ⟨t, rfl⟩ := rx; rfl)
theorem op_notN : OpR X (compareOp .IsNot) (fun x y H Q => y = .non ∧ Q (.bl (!decide (x = .non))) H) := by
  intro pins s σ H x y v u Q I rx ry h
  obtain ⟨rfl, q⟩ := h
  cases ry
  refine isnot_none_gen (fin_bl I q ?_)
  cases x <;> first
    | (cases rx; rfl)
    | (obtain ⟨t, rfl⟩ := rx; rfl)
theorem nomark (b : Expr) {op : CmpOp} (h : op ≠ .In := by decide) (h2 : op ≠ .NotIn := by decide) : behindInMarks op b = false := by
  have e1 : (op == CmpOp.In) = false := by cases op <;> first | rfl | exact absurd rfl h
  have e2 : (op == CmpOp.NotIn) = false := by cases op <;> first | rfl | exact absurd rfl h2
  cases b <;> simp [behindInMarks, e1, e2]
theorem pe_cmpR {op : CmpOp} {r : R2} (ho : OpR X (compareOp op) r) (ha : PE X a ta) (hb : PE X b tb) (hm : behindInMarks op b = false) : PE X (.Compare a [op] [b] pos) (tOp r ta tb) := by
  intro pins s σ H Q I h
  exact wpAny_Compare1 (binT ha hb I h fun v u s2 x y H2 I2 rx ry q => ho pins s2 σ H2 x y v u Q I2 rx ry q) hm
def tTest (t : TE) : TT := fun σ H Q => t σ H fun x H' => ∃ k, x = .bl k ∧ Q k H'
theorem pt_cmpR {op : CmpOp} {r : R2} (ho : OpR X (compareOp op) r) (ha : PE X a ta) (hb : PE X b tb) (hm : behindInMarks op b = false) : PT X (.Compare a [op] [b] pos) (tTest (tOp r ta tb)) := by
  intro pins s σ H Q I h
  refine wpAny_isTrue_Compare1 (thn (ha pins s σ H _ I h) fun v s1 ⟨x, H1, I1, r1, q1⟩ => thn (hb pins s1 σ H1 _ I1 q1) fun u s2 ⟨y, H2, I2, r2, q2⟩ =>
    thn (ho pins s2 σ H2 x y v u _ I2 r1 r2 q2) fun c s3 ⟨z, H3, I3, r3, k, e, q3⟩ => ?_) hm
  subst e
  cases r3
  exact wpAny_truthy_bool ⟨H3, I3, q3⟩
def TruV (K : PySem.W.Frag) (x : V) (H : Hp) (k : Bool) : Prop :=
  match x with
  | .non => k = false
  | .bl b => k = b
  | .int i => k = (i != 0)
  | .str y => y.length ≤ sizeLine ∧ k = ((y.length : Int) != 0)
  | .byt y => y.size ≤ sizeLine ∧ k = ((y.size : Int) != 0)
  | .ref p => (∃ xs, SqL K H p xs ∧ k = !xs.isEmpty) ∨ (∃ xs, SqT K H p xs ∧ k = !xs.isEmpty) ∨ ∃ kvs, H p = some (.dK kvs) ∧ k = !kvs.isEmpty
  | _ => False
theorem isEmpty_kv {κ : Type} {kvs : List (κ × V)} {vs : List (κ × Value)} (r : KV kvs vs) : (!vs.isEmpty) = !kvs.isEmpty := by
  cases r <;> rfl
theorem isEmpty_of {xs : List V} {its : List Value} (r : Vals xs its) : (!its.toArray.isEmpty) = !xs.isEmpty := by
  cases r <;> simp
theorem line63 : (sizeLine : Nat) < 2 ^ 63 := by rw [sizeLine_eq]; decide
theorem tru_ok : TruR X (fun x H Q => ∃ k, TruV X.K x H k ∧ Q k H) := by
  intro pins s σ H x v Q I rx h
  obtain ⟨k, e, q⟩ := h
  have hl := line63
  have hs : sizeLine = 16777216 := sizeLine_eq
  cases x with
  | non =>
    cases rx
    have e' : k = false := e
    subst e'
    exact truthy_none ⟨H, I, q⟩
  | bl b =>
    cases rx
    have e' : k = b := e
    subst e'
    exact wpAny_truthy_bool ⟨H, I, q⟩
  | int i =>
    obtain ⟨t, rfl⟩ := rx
    have e' : k = (i != 0) := e
    subst e'
    exact PySem.P.truthy_int ⟨H, I, q⟩
  | str y =>
    obtain ⟨t, rfl⟩ := rx
    obtain ⟨hy, e'⟩ : y.length ≤ sizeLine ∧ k = ((y.length : Int) != 0) := e
    subst e'
    exact PySem.P.truthy_str (by omega) ⟨H, I.tok _, q⟩
  | byt y =>
    obtain ⟨t, rfl⟩ := rx
    obtain ⟨hy, e'⟩ : y.size ≤ sizeLine ∧ k = ((y.size : Int) != 0) := e
    subst e'
    exact PySem.W.truthy_bytes (by omega) ⟨H, I.tok _, q⟩
  | ref p =>
    cases rx
    have e' : (∃ xs, SqL X.K H p xs ∧ k = !xs.isEmpty) ∨ (∃ xs, SqT X.K H p xs ∧ k = !xs.isEmpty) ∨ ∃ kvs, H p = some (.dK kvs) ∧ k = !kvs.isEmpty := e
    rcases e' with ⟨xs, hx, e'⟩ | ⟨xs, hx, e'⟩ | ⟨kvs, hx, e'⟩
    · subst e'
      obtain ⟨its, r, pl, hz⟩ := I.list hx
      have hlen := r.length
      exact wpAny_truthy_list pl.isList (by simp only [List.size_toArray]; omega) ⟨H, I.tok _, by rw [isEmpty_of r]; exact q⟩
    · subst e'
      obtain ⟨its, r, pl, hz⟩ := I.tuple hx
      have hlen := r.length
      exact truthy_tuple pl (by simp only [List.size_toArray]; omega) ⟨H, I.tok _, by rw [isEmpty_of r]; exact q⟩
    · subst e'
      obtain ⟨hz, hS, vs, r, m⟩ : kvs.length ≤ sizeLine ∧ (p == sysModules) = false ∧ ∃ vs, KV kvs vs ∧ s.heap.DictOf (mixKind X.prog X.w) p vs := I.hok p _ hx
      have hlen : kvs.length = vs.length := Paired.length r
      exact wpAny_truthy_dict hS m (by omega) ⟨H, I.tok _, by rw [isEmpty_kv r]; exact q⟩
  | _ => exact (show False from e).elim
theorem pt_truth (ha : PE X a ta) (he : ∀ whole, isTrue a X.env whole = (do let v ← whole; standAt a.pos; holding [v] (truthy v))) :
    PT X a (fun σ H Q => ta σ H fun x H' => ∃ k, TruV X.K x H' k ∧ Q k H') := by
  intro pins s σ H Q I h
  exact isTrue_plain (thn (ha pins s σ H _ I h) fun v s1 ⟨x, H1, I1, r1, q1⟩ => tru_ok pins s1 σ H1 x v Q I1 r1 q1) (he _)
theorem vals1 {x : V} {us : List Value} (r : Vals [x] us) : ∃ u, us = [u] ∧ RelV x u := by
  cases r with
  | cons r1 r2 => cases r2; exact ⟨_, rfl, r1⟩
theorem vals2 {x y : V} {us : List Value} (r : Vals [x, y] us) : ∃ u w', us = [u, w'] ∧ RelV x u ∧ RelV y w' := by
  cases r with
  | cons r1 r2 =>
    cases r2 with
    | cons r3 r4 => cases r4; exact ⟨_, _, rfl, r1, r3⟩
theorem call_abs : CallR X (.builtin "abs") (fun xs H Q => ∃ i, xs = [.int i] ∧ Q (.int (if i < 0 then -i else i)) H) := by
  intro pins s σ H xs us Q I r h
  obtain ⟨i, rfl, q⟩ := h
  obtain ⟨u, rfl, t, rfl⟩ := vals1 r
  exact call_abs_int fun u tk => ⟨.int (if i < 0 then -i else i), H, I.tok _, ⟨_, rfl⟩, q⟩
theorem call_int1 : CallR X (.type "int") (fun xs H Q => (∃ i, xs = [.int i] ∧ Q (.int i) H) ∨ ∃ k, xs = [.bl k] ∧ Q (.int (if k then 1 else 0)) H) := by
  intro pins s σ H xs us Q I r h
  rcases h with ⟨i, rfl, q⟩ | ⟨k, rfl, q⟩
  · obtain ⟨u, rfl, t, rfl⟩ := vals1 r
    exact call_int_int ⟨.int i, H, I, ⟨_, rfl⟩, q⟩
  · obtain ⟨u, rfl, r1⟩ := vals1 r
    cases r1
    exact call_int_bool ⟨.int (if k then 1 else 0), H, I.tok _, ⟨_, rfl⟩, q⟩
end
end L2
namespace L2
open PySem PySem.Spec PyProof.Rows
structure ObjM (h : Heap) (x dx C : Addr) (mA : Str → Option Value) : Prop where
  obj : h.get? x = some (PySem.W.instObj C dx)
  ns : h.Ns1 dx mA
  ne : dx ≠ x
theorem lookIn_ns {h : Heap} {dx : Addr} {mA : Str → Option Value} (n : h.Ns1 dx mA) : ∃ od, h.get? dx = some od ∧ ∀ name, PySem.W.lookIn name od = some (mA name) := by
  obtain ⟨o, es, ep, ho, hd, hk, _, hm⟩ := n
  refine ⟨o, ho, fun name => ?_⟩
  have e := hm name
  unfold nsFind findBy at e
  rw [← Array.find?_toList] at e
  unfold PySem.W.lookIn
  rw [hd]
  dsimp only
  split
  · rename_i y q
    rw [q] at e
    exact congrArg some e
  · rename_i q
    rw [q] at e
    have a : es.toList.any (·.refKey) = false := by
      rw [List.any_eq_false]
      intro y hy
      obtain ⟨z, t, hkey⟩ := hk y (Array.mem_toList_iff.mp hy)
      simp [DictEntry.refKey, hkey]
    have a' : ¬ es.toList.any (·.refKey) = true := by rw [a]; exact Bool.false_ne_true
    rw [if_neg a']
    exact congrArg some e
theorem ObjM.look {h : Heap} {x dx C : Addr} {mA : Str → Option Value} (I : ObjM h x dx C mA) : ∃ od, PySem.W.InstAt h x (PySem.W.instObj C dx) C (some od) ∧ ∀ name, PySem.W.lookIn name od = some (mA name) :=
  let ⟨od, ho, hl⟩ := lookIn_ns I.ns
  ⟨od, ⟨I.obj, rfl, rfl, ho⟩, hl⟩
section
variable {prog : Program} {w : World} {A : Around} {E : Value → Shared → Prop} {s : Shared} {K : PySem.W.Frag} {x dx C f : Addr} {mA : Str → Option Value} {name : Str} {v : Value}
end
section
variable {P : Program} {w : World} {H H' : Hp} {h h' : Heap} {a C dx : Addr} {fs fs' : List (Str × V)}
theorem ins_get (hok : HOk P w H h) (e : H a = some (.ins C dx fs)) : ∃ mA, ObjM h a dx C mA ∧ (∀ f, RelO (fs.lookup f) (mA f)) ∧ PySem.Within mA (fs.map (·.1)) ∧ fs.length ≤ 1000 ∧ H dx = some (.own a) := by
  obtain ⟨d, z, ne, ob, mA, n, r, q⟩ := (show ObjOk P w H h a (.ins C dx fs) from hok a _ e)
  exact ⟨mA, ⟨ob, n, ne⟩, r, q, z, d⟩
end
structure Cls (K : PySem.W.Frag) (C : Addr) : Prop where
  pg : PySem.W.plainGet K C Str.empty = true
  hd : PySem.W.hasDictIn K C = true
  po : PySem.W.plainOver K C = true
  sa : PySem.W.findIn K (.ref C) "__setattr__" = some (some (.builtin "object.__setattr__"))
theorem Cls.get {K : PySem.W.Frag} {C : Addr} (c : Cls K C) (f : Str) : PySem.W.plainGet K C f = true := c.pg
structure Con (K : PySem.W.Frag) (C : Addr) (f : Str) (v : V) (u : Value) : Prop where
  at_ : PySem.W.findIn K (.ref C) f = some (some u)
  rel : RelV v u
  get : PySem.W.specialIn K u "__get__" = some none
  cp : PySem.W.copiedNames.contains f = false
structure Meth (K : PySem.W.Frag) (C : Addr) (m : Str) (f : Addr) : Prop where
  at_ : PySem.W.findIn K (.ref C) m = some (some (.ref f))
  fn : PySem.W.isFn K (.ref f) = true
  kp : PySem.W.keepIn K (.ref f) = true
section
variable {X : Cx} {pins : List (Addr × Obj)} {σ : St} {H : Hp} {s : Shared} {a C dx : Addr} {fs : List (Str × V)} {f : Str} {v : V} {A : Around} {E : Value → Shared → Prop}
end
section
variable {X : Cx} {o e value : Expr} {f : Str} {pos pos' tpos : Pos} {ta tv : TE}
end
section
variable {X : Cx} {pins : List (Addr × Obj)} {σ : St} {H : Hp} {s : Shared} {A : Around} {E : Value → Shared → Prop} {Q : Value → Shared → Prop} {c : Value} {b : Bool}
inductive TyOf (K : PySem.W.Frag) (H : Hp) : V → Value → Prop where
  | non : TyOf K H .non (.type "NoneType")
  | bl (x : Bool) : TyOf K H (.bl x) (.type "bool")
  | int (i : Int) : TyOf K H (.int i) (.type "int")
  | str (x : Str) : TyOf K H (.str x) (.type "str")
  | flt (x : UInt64) : TyOf K H (.flt x) (.type "float")
  | lst {a : Addr} {xs : List V} (e : H a = some (.lst xs)) : TyOf K H (.ref a) (.type "list")
  | frz {a : Addr} {o : Obj} {xs : List V} (e : H a = some (.frz o (.lst xs))) : TyOf K H (.ref a) (.type "list")
  | tup {a : Addr} {xs : List V} (e : H a = some (.tup xs)) : TyOf K H (.ref a) (.type "tuple")
  | dK {a : Addr} {kvs : List (Key × V)} (e : H a = some (.dK kvs)) : TyOf K H (.ref a) (.type "dict")
  | dT {a : Addr} {kvs : List (List Key × V)} (e : H a = some (.dT kvs)) : TyOf K H (.ref a) (.type "dict")
  | ins {a C dx : Addr} {fs : List (Str × V)} (e : H a = some (.ins C dx fs)) (cl : Cls K C) (ha : PySem.W.findIn K (.ref C) "__class__" = some (some (.builtin "object.__class__")))
      (hn : PySem.W.specialIn K (.builtin "object.__class__") "__get__" = some (some (.builtin "getset_descriptor.__get__"))) (htk : PySem.W.takesIn K (.builtin "object.__class__") = some true)
      (hm : PySem.W.mroIn K C (.type "object") = some true) : TyOf K H (.ref a) (.ref C)
theorem isinst_ok {x : V} {u t : Value} (I : Inv X pins σ H s) (rx : RelV x u) (ty : TyOf X.K H x t) (e : PySem.W.kitOne X.K t c = some b) (h : ∀ tk, Q (.bool b) { s with toks := tk }) :
    wpAny (model X.prog X.w) A (call (.builtin "isinstance") [u, c]) Q E s := by
  cases ty with
  | non => cases (show u = Value.none from rx); exact PySem.W.kia_one PySem.W.kitx_none I.kIn True.intro e (fun z => nomatch z) h
  | bl y => cases (show u = Value.bool y from rx); exact PySem.W.kia_one PySem.W.kitx_bool I.kIn True.intro e (fun z => nomatch z) h
  | int i => obtain ⟨t, q⟩ := (show ∃ t, u = Value.int i t from rx); cases q; exact PySem.W.kia_one PySem.W.kitx_int I.kIn True.intro e (fun z => nomatch z) h
  | str y => obtain ⟨t, q⟩ := (show ∃ t, u = Value.str y t from rx); cases q; exact PySem.W.kia_one PySem.W.kitx_str I.kIn True.intro e (fun z => nomatch z) h
  | flt y => obtain ⟨t, q⟩ := (show ∃ t, u = Value.float y t from rx); cases q; exact PySem.W.kia_one PySem.W.kitx_float I.kIn True.intro e (fun z => nomatch z) h
  | @lst a xs ea =>
    cases (show u = Value.ref a from rx)
    obtain ⟨_, _, n, _, h1⟩ := (show ObjOk X.prog X.w H s.heap a (.lst xs) from I.hok a _ ea)
    exact PySem.W.kia_one PySem.W.kitx_list I.kIn ⟨_, h1, rfl⟩ e (fun z => nomatch z) h
  | @frz a ob xs ea =>
    cases (show u = Value.ref a from rx)
    obtain ⟨_, _, _, n, _, h1⟩ := (show ObjOk X.prog X.w H s.heap a (.frz ob (.lst xs)) from I.hok a _ ea)
    exact PySem.W.kia_one PySem.W.kitx_list I.kIn ⟨_, h1, rfl⟩ e (fun z => nomatch z) h
  | @tup a xs ea =>
    cases (show u = Value.ref a from rx)
    obtain ⟨_, _, _, p⟩ := (show ObjOk X.prog X.w H s.heap a (.tup xs) from I.hok a _ ea)
    obtain ⟨o, h1, h2, _⟩ := p
    exact PySem.W.kia_one PySem.W.kitx_tuple I.kIn ⟨o, h1, h2⟩ e (fun z => nomatch z) h
  | @dK a kvs ea =>
    cases (show u = Value.ref a from rx)
    obtain ⟨_, _, vs, _, p⟩ := (show ObjOk X.prog X.w H s.heap a (.dK kvs) from I.hok a _ ea)
    obtain ⟨o, es, ep, h1, h2, _⟩ := p
    exact PySem.W.kia_one PySem.W.kitx_dict I.kIn ⟨o, h1, h2.1⟩ e (fun z => nomatch z) h
  | @dT a kvs ea =>
    cases (show u = Value.ref a from rx)
    obtain ⟨_, _, xs, _, o, es, ep, h1, h2, _⟩ := (show ObjOk X.prog X.w H s.heap a (.dT kvs) from I.hok a _ ea)
    exact PySem.W.kia_one PySem.W.kitx_dict I.kIn ⟨o, h1, h2.1⟩ e (fun z => nomatch z) h
  | @ins a C dx fs ea cl ha hn htk hm =>
    cases (show u = Value.ref a from rx)
    obtain ⟨mA, O, _⟩ := ins_get I.hok ea
    obtain ⟨od, J, _⟩ := O.look
    exact PySem.W.kia_one (PySem.W.kitx_own (cl.get _) cl.hd ha hn htk hm) I.kIn J e (fun z => nomatch z) h
end
end L2
namespace L2
open PySem PySem.Spec PyProof.Rows
structure Room (k : Nat) (A : Around) : Prop where
  hd : A.handled = none
  dp : A.depth + 3 * k + 5 < recursionLimit
  un : A.units + 16 * k + 200 < cLine
theorem Room.mono {j k : Nat} {A : Around} (r : Room k A) (h : j ≤ k) : Room j A := ⟨r.hd, by have := r.dp; omega, by have := r.un; omega⟩
theorem Room.deeper {k : Nat} {A : Around} (r : Room (k + 1) A) (env : Env) : Room k (A.deeper env) :=
  ⟨r.hd, by have := r.dp; show A.depth + 1 + 3 * k + 5 < _; omega, by have := r.un; show A.units + 3 + 16 * k + 200 < _; omega⟩
theorem Room.depth {k : Nat} {A : Around} (r : Room k A) : A.depth < recursionLimit := by have := r.dp; omega
theorem Room.units {k : Nat} {A : Around} (r : Room k A) : A.units + 64 < cLine := by have := r.un; omega
def tNil : TA := fun _ H Q => Q [] H
def tCons (ta : TE) (tr : TA) : TA := fun σ H Q => ta σ H fun x H1 => tr σ H1 fun xs H2 => Q (x :: xs) H2
section
variable {X : Cx} {e : Expr} {es : List Expr} {te : TE} {t : TA} {pos : Pos}
theorem pa_nil : PA X [] tNil := fun _ _ _ _ H Q I h => Calls.spliced_nil ⟨[], H, I, .nil, h⟩
theorem pa_cons (ha : PE X e te) (hr : PA X es t) (hs : starEach (e :: es) X.env = (false, eval e X.env) :: starEach es X.env := by rfl) : PA X (e :: es) (tCons te t) := by
  intro pos pins s σ H Q I h
  rw [hs]
  show wpAny _ _ (spliced ((false, eval e X.env) :: backTo pos (starEach es X.env))) _ _ s
  refine Calls.spliced_cons (thn (ha pins s σ H _ I h) fun u s1 ⟨x, H1, I1, r1, q1⟩ => ?_)
  exact thn (hr pos pins s1 σ H1 _ I1 q1) fun us s2 ⟨xs, H2, I2, r2, q2⟩ => ⟨x :: xs, H2, I2, .cons r1 r2, q2⟩
def tTup (t : TA) : TE := fun σ H Q => t σ H fun xs H1 => xs.length ≤ sizeLine ∧ ∀ p, H1 p = none → Q (.ref p) (upd H1 p (.tup xs))
def tLst (t : TA) : TE := fun σ H Q => t σ H fun xs H1 => xs.length ≤ sizeLine ∧ ∀ p, H1 p = none → Q (.ref p) (upd H1 p (.lst xs))
theorem pe_tup {x1} (h : PA X es t) : PE X (.Tuple es x1 pos) (tTup t) := by
  intro pins s σ H Q I hq
  refine wpAny_Tuple_spliced (thn (h pos pins s σ H _ I hq) fun us s1 ⟨xs, H1, I1, r, z, q⟩ => ⟨by rw [← r.length]; exact z, ?_⟩)
  have hf : H1 s1.heap.objs.size = none := I1.hok.fresh (Nat.le_refl _)
  refine ⟨.ref s1.heap.objs.size, upd H1 s1.heap.objs.size (.tup xs), I1.laid (t' := s1.toks) (fun b u e => Heap.get?_push_of_some _ e) (Nat.le_refl _) ?_, rfl, q _ hf⟩
  exact ⟨z, us, r, ⟨_, Heap.get?_push_size _ rfl, rfl, _, rfl⟩⟩
theorem pe_lst (h : PA X es t) : PE X (.List es pos) (tLst t) := by
  intro pins s σ H Q I hq
  refine wpAny_List_spliced (thn (h pos pins s σ H _ I hq) fun us s1 ⟨xs, H1, I1, r, z, q⟩ => ⟨by rw [← r.length]; exact z, ?_⟩)
  have hf : H1 s1.heap.objs.size = none := I1.hok.fresh (Nat.le_refl _)
  refine ⟨.ref s1.heap.objs.size, upd H1 s1.heap.objs.size (.lst xs), I1.laid (t' := s1.toks) (fun b u e => Heap.get?_push_of_some _ e) (Nat.le_refl _) ?_, rfl, q _ hf⟩
  exact ⟨z, us, 0, r, Heap.get?_push_size _ rfl⟩
end
abbrev Sp := List V → Hp → VK → XK → Prop
abbrev CXT := List Env → Hp → Shared → XK → Value → Shared → Prop
structure Env0 (P : Program) (w : World) (K : PySem.W.Frag) (mg : Str → Option Value) (base : Heap) (A : Around) (outer : List Env) (s : Shared) (H : Hp) : Prop where
  frames : A.frames = some outer
  mod : Mod K mg base
  bs : ∀ b o, base.get? b = some o → s.heap.get? b = some o ∧ H b = none
  bsz : base.objs.size ≤ s.heap.objs.size
  funs : s.heap.FunFrames base outer
  frf : ∀ b ∈ frs outer, H b = none
  hok : HOk P w H s.heap
  bare : AllBare s.gens
def CE (outer : List Env) (P : Program) (w : World) (H : Hp) (s : Shared) (Q : VK) (u : Value) (s' : Shared) : Prop :=
  ∃ v H', s'.os = s.os ∧ AllBare s'.gens ∧ Un (frs outer) [] H H' s.heap s'.heap ∧ HOk P w H' s'.heap ∧ RelV v u ∧ Q v H'
def CR (CX : CXT) (outer : List Env) (P : Program) (w : World) (H : Hp) (s : Shared) (Q : VK) (E : XK) (r : Result) (s' : Shared) : Prop :=
  match r with
  | .ok (.ret u) => CE outer P w H s Q u s'
  | .ok _ => False
  | .error e => CX outer H s E e s'
structure FnOk (P : Program) (w : World) (K : PySem.W.Frag) (mg : Str → Option Value) (base : Heap) (CX : CXT) (k : Nat) (f : Addr) (fd : FuncData) (ps : List Str) (sp : Sp) : Prop where
  len : ∀ vs H Q E, sp vs H Q E → vs.length = ps.length
  run : ∀ (A : Around) (outer : List Env) (s : Shared) (H : Hp) (args : Args) (us : List Value) (vs : List V) (Q : VK) (E : XK), Room k A → Env0 P w K mg base A outer s H → BindsTo s fd args (ps.zip us) → Vals vs us → sp vs H Q E →
    codeAny (model P w) A (.call (.ref f) args) (CR CX outer P w H s Q E) s
theorem FnOk.mono {P : Program} {w : World} {K : PySem.W.Frag} {mg : Str → Option Value} {base : Heap} {CX : CXT} {j k : Nat} {f : Addr} {fd : FuncData} {ps : List Str} {sp : Sp} (F : FnOk P w K mg base CX j f fd ps sp) (h : j ≤ k) :
    FnOk P w K mg base CX k f fd ps sp := ⟨F.len, fun A outer s H args us vs Q E hr => F.run A outer s H args us vs Q E (hr.mono h)⟩
section
variable {X : Cx} {pins : List (Addr × Obj)} {σ : St} {H : Hp} {s s' : Shared}
theorem Inv.env0 (I : Inv X pins σ H s) : Env0 X.prog X.w X.K X.mg X.base X.A X.stack s H :=
  ⟨I.ok.frames, I.ok.mod, I.bs, Nat.le_trans I.ok.bsz I.sz, I.stack, I.stkFree, I.hok, I.bare⟩
theorem Inv.after {Q : VK} {u : Value} (I : Inv X pins σ H s) (h : CE X.stack X.prog X.w H s Q u s') : EP X pins σ Q u s' := by
  obtain ⟨v, H', os, bare, un, hok, r, q⟩ := h
  obtain ⟨hh, g, d, t, os'⟩ := s'
  obtain rfl : os' = s.os := os
  exact ⟨v, H', I.call (h' := hh) (g' := g) (d' := d) (t' := t) (ch := []) un hok bare (fun b z => absurd z (by simp)), r, q⟩
end
def tCall (sp : Sp) (dvs : List V) (E : XK) (t : TA) : TE := fun σ H Q => t σ H fun vs H1 => sp (vs ++ dvs) H1 Q E
def Binds (K : PySem.W.Frag) (fd : FuncData) (ps : List Str) (ds : List Value) : Prop :=
  ∀ (s : Shared) (us : List Value), K.In s.heap → (us ++ ds).length = ps.length → BindsTo s fd ⟨us, []⟩ (ps.zip (us ++ ds))
theorem Binds.all {K : PySem.W.Frag} {fd : FuncData} {ps : List Str} (h : ∀ us : List Value, us.length = ps.length → bindArgs fd ⟨us, []⟩ = pure (ps.zip us)) : Binds K fd ps [] := fun s us _ hl => by
  rw [List.append_nil] at hl ⊢
  exact .of_eq (h us hl)
def Passes (CX : CXT) (X : Cx) (E : XK) : Prop := ∀ (pins : List (Addr × Obj)) (σ : St) (H : Hp) (s : Shared) (e : Value) (s' : Shared), Inv X pins σ H s → CX X.stack H s E e s' → X.xe e s'
section
variable {X : Cx} {CX : CXT} {k : Nat} {f C : Addr} {fd : FuncData} {ps : List Str} {sp : Sp} {dvs : List V} {ds : List Value} {E : XK} {x m : Str} {p pos apos : Pos} {e o : Expr} {es : List Expr} {ta : TE} {t : TA}
theorem run_fn {pins : List (Addr × Obj)} {σ : St} {H : Hp} {s : Shared} {Q : VK} {us : List Value} {vs : List V} (F : FnOk X.prog X.w X.K X.mg X.base CX k f fd ps sp) (hr : Room k X.A) (hb : Binds X.K fd ps ds) (hd : Vals dvs ds) (hx : Passes CX X E)
    (I : Inv X pins σ H s) (r : Vals vs us) (h : sp (vs ++ dvs) H Q E) : wpAny (model X.prog X.w) X.A (call (.ref f) us) (EP X pins σ Q) X.xe s := by
  have r2 : Vals (vs ++ dvs) (us ++ ds) := r.append hd
  have hl : (us ++ ds).length = ps.length := by rw [← r2.length]; exact F.len _ _ _ _ h
  refine wpAny_call (codeAny_mono (F.run X.A X.stack s H ⟨us, []⟩ (us ++ ds) (vs ++ dvs) Q E hr I.env0 (hb s us I.kIn hl) r2 h) fun r s' hq => ?_)
  cases r with
  | error e => exact hx pins σ H s e s' I hq
  | ok fl =>
    cases fl with
    | ret u => exact I.after hq
    | next => exact False.elim hq
    | brk => exact False.elim hq
    | cont => exact False.elim hq
theorem pe_call (F : FnOk X.prog X.w X.K X.mg X.base CX k f fd ps sp) (hr : Room k X.A) (hg : Gl X x) (hm : X.mg x = some (.ref f)) (hk : PySem.W.keepIn X.K (.ref f) = true) (hb : Binds X.K fd ps ds) (hd : Vals dvs ds) (hx : Passes CX X E)
    (ha : PA X (e :: es) t) (hdb : (x == ("__debug__" : Str)) = false := by decide) (he : starEach (e :: es) X.env = (false, eval e X.env) :: starEach es X.env := by rfl) (hpl : (backTo pos (starEach es X.env)).any (·.1) = false := by rfl) :
    PE X (.Call (.Name x p) (e :: es) [] pos) (tCall sp dvs E t) := by
  intro pins s σ H Q I h
  refine wpAny_Call_Name_kw (ld_glob I hg hm ?_ hdb)
  refine PySem.W.callWith_K (h₀ := X.base) I.ok.mod.kin hk (thn (ha pos pins s σ H _ I h) fun us s1 ⟨vs, H1, I1, r, q⟩ => ⟨I1.kIn, ?_⟩) he hpl
  exact run_fn F hr hb hd hx I1 r q
structure Mk (K : PySem.W.Frag) (C f : Addr) : Prop where
  makes : PySem.W.makesIn K C = true
  init : PySem.W.findIn K (.ref C) "__init__" = some (some (.ref f))
  fn : PySem.W.isFn K (.ref f) = true
  kp : PySem.W.keepIn K (.ref C) = true
end
section
variable {X : Cx} {CX : CXT} {k : Nat} {f C : Addr} {fd : FuncData} {ps ks : List Str} {sp : Sp} {E : XK} {x m : Str} {p pos apos kpos : Pos} {e o : Expr} {es : List Expr} {kws : List Keyword} {te ta : TE} {t tk : TA} {nm : Option Str}
structure KBinds (K : PySem.W.Frag) (fd : FuncData) (ps ks : List Str) (g : List Value → List Value → List Value) (gV : List V → List V → List V) : Prop where
  to : ∀ (s : Shared) (us ws : List Value), K.In s.heap → (g us ws).length = ps.length → BindsTo s fd ⟨us, ks.zip ws⟩ (ps.zip (g us ws))
  rel : ∀ {vs : List V} {us : List Value} {zs : List V} {ws : List Value}, Vals vs us → Vals zs ws → Vals (gV vs zs) (g us ws)
variable {g : List Value → List Value → List Value} {gV : List V → List V → List V}
end
structure FnScope (N P : List Str) (sc : Scope) : Prop where
  kind : sc.kind = .function
  co : sc.isCoroutine = false
  gen : sc.isGenerator = false
  nd : N.Nodup
  pre : N.take P.length = P
  par : ∀ x ∈ P, sc.names.lookup x = some .local ∨ sc.names.lookup x = some .cell
  nofree : ∀ y ∈ sc.names, y.2 ≠ .free
theorem bindL_out {kindOf : Str → Option NameKind} {x : Str} : ∀ {binds : List (Str × Value)} {m : Str → Option Value}, (∀ v, (x, v) ∉ binds) → bindL kindOf binds m x = m x
  | [], _, _ => rfl
  | (n, v) :: r, m, h => by
    unfold bindL
    rw [bindL_out fun w hw => h w (List.mem_cons_of_mem _ hw)]
    split
    · have : x ≠ n := by rintro rfl; exact h v List.mem_cons_self
      simp [this]
    · rfl
theorem bindC_out {kindOf : Str → Option NameKind} {x : Str} : ∀ {binds : List (Str × Value)} {m : Str → Option Value}, (∀ v, (x, v) ∉ binds) → bindC kindOf binds m x = m x
  | [], _, _ => rfl
  | (n, v) :: r, m, h => by
    unfold bindC
    rw [bindC_out fun w hw => h w (List.mem_cons_of_mem _ hw)]
    split
    · rfl
    · have : x ≠ n := by rintro rfl; exact h v List.mem_cons_self
      simp [this]
theorem bindL_get {kindOf : Str → Option NameKind} {x : Str} {v : Value} : ∀ {P : List Str} {vs : List Value} {i : Nat} {m : Str → Option Value}, P.Nodup → P[i]? = some x → vs[i]? = some v → kindOf x = some .local →
    bindL kindOf (P.zip vs) m x = some v
  | [], _, _, _, _, h, _, _ => by simp at h
  | _ :: _, [], _, _, _, _, h, _ => by simp at h
  | p :: P, w :: vs, 0, m, nd, h1, h2, hk => by
    simp at h1 h2; subst h1; subst h2
    show bindL kindOf ((p, w) :: P.zip vs) m p = _
    unfold bindL
    rw [bindL_out fun v hv => (List.nodup_cons.mp nd).1 (List.of_mem_zip hv).1, if_pos hk]
    simp
  | p :: P, w :: vs, i + 1, m, nd, h1, h2, hk => by
    show bindL kindOf ((p, w) :: P.zip vs) m x = _
    unfold bindL
    exact bindL_get (i := i) (List.nodup_cons.mp nd).2 (by simpa using h1) (by simpa using h2) hk
theorem bindC_get {kindOf : Str → Option NameKind} {x : Str} {v : Value} : ∀ {P : List Str} {vs : List Value} {i : Nat} {m : Str → Option Value}, P.Nodup → P[i]? = some x → vs[i]? = some v → kindOf x ≠ some .local →
    bindC kindOf (P.zip vs) m x = some v
  | [], _, _, _, _, h, _, _ => by simp at h
  | _ :: _, [], _, _, _, _, h, _ => by simp at h
  | p :: P, w :: vs, 0, m, nd, h1, h2, hk => by
    simp at h1 h2; subst h1; subst h2
    show bindC kindOf ((p, w) :: P.zip vs) m p = _
    unfold bindC
    rw [bindC_out fun v hv => (List.nodup_cons.mp nd).1 (List.of_mem_zip hv).1, if_neg hk]
    simp
  | p :: P, w :: vs, i + 1, m, nd, h1, h2, hk => by
    show bindC kindOf ((p, w) :: P.zip vs) m x = _
    unfold bindC
    exact bindC_get (i := i) (List.nodup_cons.mp nd).2 (by simpa using h1) (by simpa using h2) hk
def start (N : List Str) (vs : List V) : St := vs.map some ++ List.replicate (N.length - vs.length) none
def cxOf (CX : CXT) (P : Program) (w : World) (K : PySem.W.Frag) (mg : Str → Option Value) (base : Heap) (N : List Str) (qual : Str) (scope : Scope) (f : Addr) (cd : Value) (A : Around) (outer : List Env) (s : Shared) (H : Hp) (E : XK) : Cx where
  prog := P
  w := w
  K := K
  mg := mg
  base := base
  A := A.deeper (envOfC qual scope s.heap.objs.size f cd)
  N := N
  s₀ := s
  H₀ := H
  env := envOfC qual scope s.heap.objs.size f cd
  outer := outer
  stack := envOfC qual scope s.heap.objs.size f cd :: outer
  ex := []
  calm := true
  fn := fun _ => true
  pn := []
  xe := fun e s' => wpAny (model P w) (A.deeper (envOfC qual scope s.heap.objs.size f cd)) (leaving (envOfC qual scope s.heap.objs.size f cd) e) (fun _ s'' => CX outer H s E e s'') (fun e' s'' => CX outer H s E e' s'') s'
theorem cell_has {sc : Scope} {n : Nat} {x : Str} (h : sc.names.lookup x = some .cell) : ∃ c, (cellsFrom n sc.names []).lookup x = some c := by
  have q := PySem.W.cellsFrom_some sc.names n [] (.inl h)
  exact Option.isSome_iff_exists.mp q
theorem inv_start {CX : CXT} {P : Program} {w : World} {K : PySem.W.Frag} {mg : Str → Option Value} {base : Heap} {N ps : List Str} {qual : Str} {scope : Scope} {f : Addr} {cd : Value} {A : Around} {outer : List Env} {s s1 : Shared} {H : Hp} {E : XK} {us : List Value} {vs : List V}
    (S : FnScope N ps scope) (hd : A.handled = none) (e0 : Env0 P w K mg base A outer s H) (hl : vs.length = ps.length) (r : Vals vs us)
    (x : InCallC s s.heap.objs.size (bindL (envOfC qual scope s.heap.objs.size f cd).kindOf (ps.zip us) fun _ => none) (cellsFrom (s.heap.objs.size + 1) scope.names []) (bindC (envOfC qual scope s.heap.objs.size f cd).kindOf (ps.zip us) fun _ => none) s1) :
    Inv (cxOf CX P w K mg base N qual scope f cd A outer s H E) [] (start N vs) H s1 := by
  have hpl : ps.length ≤ N.length := by have := congrArg List.length S.pre; rw [List.length_take] at this; omega
  obtain ⟨h1, tk, rfl, hk⟩ := x.done
  have noA : ∀ b : Addr, b ∉ (cxOf CX P w K mg base N qual scope f cd A outer s H E).ex := fun b z => absurd (show b ∈ ([] : List Addr) from z) (by simp)
  refine ⟨⟨e0.mod, S.kind, rfl, rfl, Nat.le_refl _, fun y z c h1 h2 => ?_, fun y hy => ?_, fun y c _ h => ?_, fun _ => hd, Around.frames_deeper e0.frames, .inr ⟨rfl, rfl⟩, fun b z => absurd z (noA b), e0.bs, e0.bsz, fun b _ _ => noA b, fun b z => absurd z (noA b), e0.funs, e0.frf⟩,
    rfl, e0.bare, Un.kept hk, ⟨_, x.toInCall.ns, fun i y v h1 h2 h3 => ?_⟩, fun y c h => ⟨_, x.cell y c h⟩, e0.hok.fresh (Nat.le_refl _), fun y c h => ?_, fun p hp => absurd (show p ∈ ([] : List (Addr × Obj)) from hp) (by simp), e0.hok.kept hk, ?_⟩
  · exact name_of_addr x.apart (PySem.mem_of_lookup h1) (PySem.mem_of_lookup h2)
  · have hy : scope.names.lookup y = some .cell ∨ scope.names.lookup y = some .free := hy
    rcases hy with hy | hy
    · exact cell_has hy
    · exact absurd rfl (S.nofree _ (PySem.mem_of_lookup hy))
  · exact Nat.le_of_lt (x.above y c (PySem.mem_of_lookup h))
  · have hi : i < vs.length := by
      unfold start at h2
      by_cases hi : i < vs.length
      · exact hi
      · rw [List.getElem?_append_right (by simpa using hi)] at h2
        rw [List.getElem?_replicate] at h2
        split at h2 <;> cases h2
    have ha : vs[i]? = some v := by
      unfold start at h2
      rw [List.getElem?_append_left (by simpa using hi), List.getElem?_map] at h2
      cases e : vs[i]? with
      | none => rw [e] at h2; cases h2
      | some a => rw [e] at h2; cases h2; rfl
    obtain ⟨u, hu, rv⟩ := r.get ha
    have hp : ps[i]? = some y := by
      rw [← S.pre, List.getElem?_take_of_lt (by omega)]; exact h1
    have ndP : ps.Nodup := by rw [← S.pre]; exact S.nd.sublist (List.take_sublist _ _)
    refine ⟨u, rv, ?_⟩
    rcases S.par y (List.mem_of_getElem? hp) with k | k
    · exact .inl ⟨k, bindL_get ndP hp hu k⟩
    · obtain ⟨c, e⟩ := cell_has (n := s.heap.objs.size + 1) k
      refine .inr ⟨.inl k, c, e, ?_⟩
      have q := x.cell y c e
      rw [bindC_get ndP hp hu (by show scope.names.lookup y ≠ _; rw [k]; decide)] at q
      exact q
  · exact e0.hok.fresh (Nat.le_of_lt (x.above y c (PySem.mem_of_lookup h)))
  · unfold start
    show _ = N.length
    rw [List.length_append, List.length_map, List.length_replicate]
    omega
theorem fn_of {CX : CXT} {P : Program} {w : World} {K : PySem.W.Frag} {mg : Str → Option Value} {base : Heap} {k : Nat} {f : Addr} {name qual : Str} {params : Arguments} {body : List Stmt} {scope : Scope} {dV kV doc pm cdv ct oc : Value} {an od : Option Addr}
    {osl : Array (Option Value)} {N ps : List Str} {sp : Sp} (lk : K.lookup f = some ⟨oc, od, .func (PySem.W.fnOf name qual params body scope dV kV doc pm an cdv ct), osl⟩) (hcd : PySem.W.codeIn K cdv qual = true) (S : FnScope N ps scope)
    (len : ∀ vs H Q E, sp vs H Q E → vs.length = ps.length)
    (hbody : ∀ (A : Around) (outer : List Env) (s : Shared) (H : Hp) (vs : List V) (Q : VK) (E : XK), Room k (A.deeper (envOfC qual scope s.heap.objs.size f cdv)) → sp vs H Q E →
      ∃ t, PSs (cxOf CX P w K mg base N qual scope f cdv A outer s H E) body t ∧ t { nx := fun _ H' => Q .non H', rt := Q } (start N vs) H) :
    FnOk P w K mg base CX (k + 1) f (PySem.W.fnOf name qual params body scope dV kV doc pm an cdv ct) ps sp := by
  refine ⟨len, fun A outer s H args us vs Q E hr e0 hb r hsp => ?_⟩
  have hl := len _ _ _ _ hsp
  have KX : K.In s.heap := e0.mod.kin.keeps fun b o e => (e0.bs b o e).1
  have lim : s.heap.NoLimit := e0.mod.nolimit.keeps fun b o e => (e0.bs b o e).1
  have hkind : ∀ y ∈ ps.zip us, scope.names.lookup y.1 = some .local ∨ (scope.names.lookup y.1 = some .cell ∧ ((cellsFrom (s.heap.objs.size + 1) scope.names []).lookup y.1).isSome = true) := fun ⟨n, v⟩ hy => by
    rcases S.par n (List.of_mem_zip hy).1 with q | q
    · exact .inl q
    · exact .inr ⟨q, PySem.W.cellsFrom_some _ _ _ (.inl q)⟩
  refine codeAny_call_function hr.depth (KX _ _ lk) rfl S.co S.gen rfl (PySem.W.codeRec_of KX hcd) (hb _ _ _ _ ?_)
  refine wpAny_newFunctionEnv_cells S.kind hkind fun env he s1 x => ?_
  subst he
  refine ⟨lim.keeps x.toInCall.keep, codeAny_func ?_⟩
  obtain ⟨t, ht, hq⟩ := hbody A outer s H vs Q E (hr.deeper _) hsp
  have I : Inv (cxOf CX P w K mg base N qual scope f cdv A outer s H E) [] (start N vs) H s1 := inv_start S hr.hd e0 hl r x
  refine wpAny_mono (ht [] s1 (start N vs) H _ I hq) (fun fl s' hs => ?_) fun e s' hs => hs
  have fin : ∀ {σ' : St} {H' : Hp} {v : V} {u : Value}, Inv (cxOf CX P w K mg base N qual scope f cdv A outer s H E) [] σ' H' s' → RelV v u → Q v H' → CE outer P w H s Q u s' :=
    fun {σ' H' v u} J rv q => ⟨v, H', J.os, J.bare, J.base, J.hok, rv, q⟩
  cases fl with
  | ret u =>
    obtain ⟨v, σ', H', J, rv, q⟩ := hs
    exact fin J rv q
  | next =>
    obtain ⟨σ', H', J, q⟩ := hs
    exact fin (v := V.non) (u := Value.none) J rfl q
  | brk =>
    obtain ⟨_, _, _, q⟩ := hs
    exact False.elim q
  | cont =>
    obtain ⟨_, _, _, q⟩ := hs
    exact False.elim q
end L2
namespace L2
open PySem PySem.Spec PyProof.Rows
section
variable {X : Cx} {x : Str} {p pos : Pos} {e : Expr} {es : List Expr} {t : TA} {id T : String} {r : List V → Hp → VK → Prop}
def tCB (r : List V → Hp → VK → Prop) (t : TA) : TE := fun σ H Q => t σ H fun vs H1 => r vs H1 Q
theorem pe_callB (hc : CallR X (.builtin id) r) (hg : Gl X x) (hm : X.mg x = none) (hv : bootBuiltins x = some (.builtin id)) (ha : PA X (e :: es) t) (hn : x ≠ "__name__" := by decide) (hdb : (x == ("__debug__" : Str)) = false := by decide)
    (he : starEach (e :: es) X.env = (false, eval e X.env) :: starEach es X.env := by rfl) (hpl : (backTo pos (starEach es X.env)).any (·.1) = false := by rfl) : PE X (.Call (.Name x p) (e :: es) [] pos) (tCB r t) := by
  intro pins s σ H Q I h
  refine wpAny_Call_Name_kw (ld_blt I hg hm hv ?_ hn hdb)
  exact PyProof.Rows.callWith_builtin1 (thn (ha pos pins s σ H _ I h) fun us s1 ⟨vs, H1, I1, r1, q1⟩ => hc pins s1 σ H1 vs us Q I1 r1 q1) he hpl
theorem pe_callTy (hc : CallR X (.type T) r) (hg : Gl X x) (hm : X.mg x = none) (hv : bootBuiltins x = some (.type T)) (ha : PA X (e :: es) t) (hn : x ≠ "__name__" := by decide) (hdb : (x == ("__debug__" : Str)) = false := by decide)
    (he : starEach (e :: es) X.env = (false, eval e X.env) :: starEach es X.env := by rfl) (hpl : (backTo pos (starEach es X.env)).any (·.1) = false := by rfl) : PE X (.Call (.Name x p) (e :: es) [] pos) (tCB r t) := by
  intro pins s σ H Q I h
  refine wpAny_Call_Name_kw (ld_blt I hg hm hv ?_ hn hdb)
  exact PyProof.Rows.callWith_type1 (thn (ha pos pins s σ H _ I h) fun us s1 ⟨vs, H1, I1, r1, q1⟩ => hc pins s1 σ H1 vs us Q I1 r1 q1) he hpl
end
end L2
namespace HT
open PySem PyProof.Rows
def lexLt : List Int → List Int → Bool
  | [], [] => false
  | [], _ :: _ => true
  | _ :: _, [] => false
  | x :: xs, y :: ys => if x = y then lexLt xs ys else decide (x < y)
theorem lexLt_cons (x y : Int) (xs ys : List Int) : lexLt (x :: xs) (y :: ys) = if x = y then lexLt xs ys else decide (x < y) := rfl
theorem lexLt_nil_nil : lexLt [] [] = false := rfl
theorem lexLt_nil_cons (y : Int) (ys : List Int) : lexLt [] (y :: ys) = true := rfl
theorem lexLt_cons_nil (x : Int) (xs : List Int) : lexLt (x :: xs) [] = false := rfl
section
open PySem.SeqAt
open PySem.AutoSeq1 (wpAny_loadPart')
open PySem.MeetsSeq PySem.MeetsSeq2 PySem.MeetsSeq3
end
section
variable {prog : Program} {w : World} {A : Around} {E : Value → Shared → Prop} {s : Shared}
theorem cat_tup {t b : Addr} {vs ws : List Value} {Q : Value → Shared → Prop} (ht : IsTup s.heap t vs.toArray) (hb : IsTup s.heap b ws.toArray) (hv : vs ≠ [])
    (h1 : ws = [] → Q (.ref t) s) (h2 : ws ≠ [] → Q (.ref s.heap.objs.size) { s with heap := s.heap.push { cls := .type "tuple", data := .seq (vs ++ ws).toArray } })
    (hsz : vs.length + ws.length ≤ sizeLine) : wpAny (model prog w) A (binaryOp .Add (.ref t) (.ref b)) Q E s := by
  obtain ⟨⟨cls, dd, data, sl⟩, ho, hc, n, hd⟩ := id ht
  obtain ⟨⟨cls2, dd2, data2, sl2⟩, ho2, hc2, n2, hd2⟩ := id hb
  simp only at hc hd hc2 hd2
  subst hc hd hc2 hd2
  have e : vs.toArray ++ ws.toArray = (vs ++ ws).toArray := by simp
  by_cases hw : ws = []
  · exact concat_meets ⟨_, ho, rfl⟩ ⟨_, ho2, rfl⟩ noFill_tuple_add seq_tuple_add PySem.F.slot_tuple_add PySem.F.entry_tuple_add (PySem.F.args_tuple_add_2 _ _)
      (tuple_addW1 t b vs.toArray ws.toArray n n2 dd dd2 sl sl2 (by simpa using hv) (by simp [hw])) ⟨ho, ho2, h1 hw⟩
  · refine concat_meets ⟨_, ho, rfl⟩ ⟨_, ho2, rfl⟩ noFill_tuple_add seq_tuple_add PySem.F.slot_tuple_add PySem.F.entry_tuple_add (PySem.F.args_tuple_add_2 _ _)
      (tuple_addW2 t b vs.toArray ws.toArray n n2 dd dd2 sl sl2 (by simpa using hv) (by simpa using hw) (by rw [List.size_toArray, List.size_toArray]; exact hsz)) ⟨ho, ho2, ?_⟩
    rw [e]
    exact h2 hw
def sIx (n d : Nat) : Option Int → Nat
  | none => d
  | some v => if v < 0 then (v + (n : Int)).toNat else min v.toNat n
theorem sIx_none (n d : Nat) : sIx n d none = d := rfl
theorem sIx_nat (n d k : Nat) : sIx n d (some (k : Int)) = min k n := by
  show (if (k : Int) < 0 then ((k : Int) + (n : Int)).toNat else min (k : Int).toNat n) = min k n
  rw [if_neg (by omega), Int.toNat_natCast]
theorem sIx_le (n d : Nat) (hd : d ≤ n) (o : Option Int) : sIx n d o ≤ n := by
  cases o with
  | none => exact hd
  | some v =>
    show (if v < 0 then (v + (n : Int)).toNat else min v.toNat n) ≤ n
    by_cases hv : v < 0
    · rw [if_pos hv]; omega
    · rw [if_neg hv]; exact Nat.min_le_right _ _
theorem clip_eq (v : Int) (n d : Nat) : (if v < 0 then max (v + (n : Int)) 0 else min v (n : Int)) = ((sIx n d (some v) : Nat) : Int) := by
  show (if v < 0 then max (v + (n : Int)) 0 else min v (n : Int)) = (((if v < 0 then (v + (n : Int)).toNat else min v.toNat n) : Nat) : Int)
  by_cases hv : v < 0
  · simp only [if_pos hv]; omega
  · simp only [if_neg hv]; omega
theorem adjust_gen (lo hi : Option Int) (n : Nat) : Builtin.Slice.sliceAdjust lo hi 1 (n : Int) = (((sIx n 0 lo : Nat) : Int), ((sIx n n hi : Nat) : Int)) := by
  have h1 : ¬ ((1 : Int) < 0) := by omega
  unfold Builtin.Slice.sliceAdjust
  simp only [h1, if_false]
  refine Prod.ext ?_ ?_
  · cases lo with
    | none => rfl
    | some v => exact clip_eq v n 0
  · cases hi with
    | none => rfl
    | some v => exact clip_eq v n n
theorem places_gen (i j : Nat) : Builtin.Slice.slicePlaces (i : Int) (j : Int) 1 = j - i := by
  unfold Builtin.Slice.slicePlaces
  have h1 : (1 : Int) > 0 := by omega
  simp only [h1, if_true, Int.ediv_one]
  split <;> omega
theorem slicePart_ {v : Value} {o : Option Int} {Q : Option Int → Shared → Prop} (p : IsPart v o) (h : Q o s) : wpAny (model prog w) A (Builtin.Slice.slicePartIndex v) Q E s := by
  cases p with
  | none => exact slicePart_none h
  | int i t => exact slicePart_int h
theorem sliceApplied_gen {sl : Addr} {vl vu : Value} {lo hi : Option Int} {n : Nat} {Q : Int × Int × Nat → Shared → Prop} (hs : s.heap.IsSliceOf sl vl vu .none) (pl : IsPart vl lo) (pu : IsPart vu hi)
    (h : Q (((sIx n 0 lo : Nat) : Int), 1, sIx n n hi - sIx n 0 lo) s) : wpAny (model prog w) A (Builtin.Slice.sliceApplied (.ref sl) (pure (n : Int))) Q E s := by
  obtain ⟨os, hos, hcs, hds⟩ := id hs
  unfold Builtin.Slice.sliceApplied Builtin.Slice.sliceFields
  refine wpAny_bind (wpAny_bind (wpAny_field hos hds (x := vl) rfl (wpAny_bind (wpAny_field hos hds (x := vu) rfl (wpAny_bind (wpAny_field hos hds (x := .none) rfl (wpAny_pure ?_)))))))
  refine wpAny_bind (slicePart_none ?_)
  show wpAny _ _ (if ((1 : Int) == 0) = true then _ else _) _ _ s
  rw [if_neg (by decide)]
  refine wpAny_bind (slicePart_ pl (wpAny_bind (slicePart_ pu (wpAny_bind (wpAny_pure ?_)))))
  show wpAny _ _ (match Builtin.Slice.sliceAdjust lo hi 1 (n : Int) with | (lo, hi) => pure (lo, (1 : Int), Builtin.Slice.slicePlaces lo hi 1)) _ _ s
  rw [adjust_gen lo hi n]
  show wpAny _ _ (pure (((sIx n 0 lo : Nat) : Int), (1 : Int), Builtin.Slice.slicePlaces ((sIx n 0 lo : Nat) : Int) ((sIx n n hi : Nat) : Int) 1)) _ _ s
  rw [places_gen]
  exact wpAny_pure h
theorem pick_gen (xs : Array Value) (i k : Nat) : ((List.range k).filterMap fun (m : Nat) => xs[((i : Int) + (m : Int) * 1).toNat]?).toArray = ((xs.toList.drop i).take k).toArray := by
  have e : (fun (m : Nat) => xs[((i : Int) + (m : Int) * 1).toNat]?) = fun m => xs[i + m]? := by
    funext m
    have : ((i : Int) + (m : Int) * 1).toNat = i + m := by omega
    rw [this]
  rw [e]
  have := pick_run xs i k
  rw [List.filterMap_map] at this
  have e2 : ((fun x => xs[x]?) ∘ fun x => i + x) = fun m => xs[i + m]? := rfl
  rw [e2] at this
  rw [this]
theorem getItem_tuple_cut {t sl : Addr} {items : Array Value} {vl vu : Value} {lo hi : Option Int} {Q : Value → Shared → Prop} (ht : IsTup s.heap t items) (hs : s.heap.IsSliceOf sl vl vu .none) (pl : IsPart vl lo) (pu : IsPart vu hi)
    (hw : ¬ (sIx items.size 0 lo = 0 ∧ sIx items.size items.size hi = items.size))
    (h : Q (.ref s.heap.objs.size) { s with heap := s.heap.push { cls := .type "tuple", data := .seq ((items.toList.drop (sIx items.size 0 lo)).take (sIx items.size items.size hi - sIx items.size 0 lo)).toArray } })
    (hsz : items.size ≤ sizeLine) : wpAny (model prog w) A (getItem (.ref t) (.ref sl)) Q E s := by
  have htake : sizeOk (.seq ((items.toList.drop (sIx items.size 0 lo)).take (sIx items.size items.size hi - sIx items.size 0 lo)).toArray) := by
    show ((items.toList.drop (sIx items.size 0 lo)).take (sIx items.size items.size hi - sIx items.size 0 lo)).toArray.size ≤ sizeLine
    rw [List.size_toArray, List.length_take, List.length_drop, Array.length_toList]
    omega
  have hj : sIx items.size items.size hi ≤ items.size := sIx_le _ _ (Nat.le_refl _) hi
  obtain ⟨os, hos, hcs, hds⟩ := id hs
  have hTs : s.TypeIs (.ref sl) "slice" := ⟨os, hos, hcs⟩
  unfold getItem
  try with_reducible refine wpAny_holding ?_
  first | refine wpAny_bind (wpAny_pure ?_) | skip
  refine wpAny_bind (wpAny_sequenceKey ht.typeIs (by decide) ?_)
  refine wpAny_bind (wpAny_callSpecial?_slot (name := Str.ofString "__getitem__") ht.typeIs PyProof.Rows.slot_tuple_getitem
    (wpAny_call_entry PyProof.Rows.slot_tuple_getitem ht.typeIs entry_tuple_getitem ?_ (args_tuple_getitem _ _)))
  show wpAny _ _ (Builtin.Tuple.tupleItemsOf (.ref t) >>= _) _ _ s
  refine wpAny_bind (tupleItemsOf_ ht ?_)
  refine wpAny_bind (wpAny_typeOf hTs ?_)
  rw [if_pos (by decide)]
  refine wpAny_bind (sliceApplied_gen hs pl pu ?_)
  have hno : ¬ ((((sIx items.size 0 lo : Nat) : Int) == 0 && (1 : Int) == 1 && (sIx items.size items.size hi - sIx items.size 0 lo) == items.size) = true) := by
    intro q
    rw [Bool.and_eq_true, Bool.and_eq_true] at q
    have q1 : ((sIx items.size 0 lo : Nat) : Int) = 0 := eq_of_beq q.1.1
    have q2 : sIx items.size items.size hi - sIx items.size 0 lo = items.size := eq_of_beq q.2
    exact hw ⟨by omega, by omega⟩
  show wpAny _ _ (if (((sIx items.size 0 lo : Nat) : Int) == 0 && (1 : Int) == 1 && (sIx items.size items.size hi - sIx items.size 0 lo) == items.size) = true then _ else _) _ _ s
  rw [if_neg hno, pick_gen]
  first
    | exact wpAny_bind (m := Builtin.Tuple.tupleExact _) (wpAny_newObj_type (wpAny_pure ⟨_, rfl, wpAny_pure h⟩) htake)
    | exact wpAny_bind (m := Builtin.Tuple.tupleExact _) (wpAny_newObj_type (wpAny_bind (wpAny_pure (wpAny_pure ⟨_, rfl, wpAny_pure h⟩))) htake)
    | exact wpAny_bind (wpAny_bind (m := Builtin.Tuple.tupleExact _) (wpAny_newObj_type (wpAny_pure (wpAny_pure ⟨_, rfl, wpAny_pure h⟩)) htake))
    | exact wpAny_bind (wpAny_bind (m := Builtin.Tuple.tupleExact _) (wpAny_newObj_type (wpAny_pure ⟨_, rfl, wpAny_pure h⟩) htake))
end
end HT
namespace L2
open PySem PySem.Spec PyProof.Rows
abbrev TO := St → Hp → (Option Int → Hp → Prop) → Prop
def PO (X : Cx) (e : Option Expr) (t : TO) : Prop :=
  ∀ (pins : List (Addr × Obj)) (s : Shared) (σ : St) (H : Hp) (Q : Option Int → Hp → Prop), Inv X pins σ H s → t σ H Q →
    wpAny (model X.prog X.w) X.A (evalPart e X.env) (fun u s' => ∃ o H', Inv X pins σ H' s' ∧ IsPart u o ∧ Q o H') X.xe s
def tNoPart : TO := fun _ H Q => Q none H
def tPart (t : TE) : TO := fun σ H Q => t σ H fun x H1 => ∃ i, x = .int i ∧ Q (some i) H1
theorem intsAre_of {ns : List Int} : ∀ {us : List Value}, Vals (ns.map V.int) us → IntsAre us ns := by
  induction ns with
  | nil => intro us r; rw [List.map_nil] at r; cases r; exact .nil
  | cons n ns ih =>
    intro us r
    rw [List.map_cons] at r
    cases r with
    | cons r1 r2 =>
      obtain ⟨t, e⟩ := r1
      subst e
      exact .cons n t (ih r2)
section
variable {X : Cx} {e : Expr} {te : TE} {lo hi : Option Expr} {tl th : TO} {pos p2 : Pos}
theorem po_none : PO X none tNoPart := by
  intro pins s σ H Q I h
  rw [evalPart_none]
  exact wpAny_pure ⟨none, H, I, .none, h⟩
theorem po_some (h : PE X e te) : PO X (some e) (tPart te) := by
  intro pins s σ H Q I hw
  rw [evalPart_some]
  refine thn (h pins s σ H _ I hw) fun u s1 ⟨x, H1, I1, r1, q1⟩ => ?_
  obtain ⟨i, rfl, q⟩ := q1
  obtain ⟨t, rfl⟩ := r1
  exact ⟨some i, H1, I1, .int i t, q⟩
def SlR (X : Cx) (r : V → Option Int → Option Int → Hp → VK → Prop) : Prop :=
  ∀ (pins : List (Addr × Obj)) (s : Shared) (σ : St) (H : Hp) (x : V) (v vl vu : Value) (lo hi : Option Int) (sl : Addr) (Q : VK), Inv X pins σ H s → RelV x v → s.heap.IsSliceOf sl vl vu .none → IsPart vl lo → IsPart vu hi → r x lo hi H Q →
    ∃ T id, typeLookup (.type T) "__getitem__" = pure (some (.builtin id)) ∧ s.TypeIs v T ∧ wpAny (model X.prog X.w) X.A (getItem v (.ref sl)) (EP X pins σ Q) X.xe s
def tSl (r : V → Option Int → Option Int → Hp → VK → Prop) (te : TE) (tl th : TO) : TE := fun σ H Q => te σ H fun x H1 => tl σ H1 fun l H2 => th σ H2 fun u H3 => r x l u H3 Q
theorem pe_slice {r : V → Option Int → Option Int → Hp → VK → Prop} (hr : SlR X r) (he : PE X e te) (hl : PO X lo tl) (hu : PO X hi th) : PE X (.Subscript e (.Slice lo hi none p2) pos) (tSl r te tl th) := by
  intro pins s σ H Q I h
  refine Subscript_ (thn (he pins s σ H _ I h) fun v s1 ⟨x, H1, I1, r1, q1⟩ => ?_)
  refine wpAny_Slice (thn (hl pins s1 σ H1 _ I1 q1) fun vl s2 ⟨l, H2, I2, pl, q2⟩ => thn (hu pins s2 σ H2 _ I2 q2) fun vu s3 ⟨u, H3, I3, pu, q3⟩ => ?_)
  rw [evalPart_none]
  refine wpAny_pure ?_
  have I4 : Inv X pins σ H3 { s3 with heap := s3.heap.push { cls := .type "slice", data := .fields #[vl, vu, .none] } } := I3.kept (t' := s3.toks) fun b ob q => Heap.get?_push_of_some _ q
  obtain ⟨T, id, hT, ht, hg⟩ := hr pins { s3 with heap := s3.heap.push { cls := .type "slice", data := .fields #[vl, vu, .none] } } σ H3 x v vl vu l u s3.heap.objs.size Q I4 r1 (Heap.IsSliceOf.new ..) pl pu q3
  show wpAny (model X.prog X.w) X.A (subscriptTail e (.Slice lo hi none p2) v (.ref s3.heap.objs.size)) (EP X pins σ Q) X.xe { s3 with heap := s3.heap.push { cls := .type "slice", data := .fields #[vl, vu, .none] } }
  exact tail_any (ops := [.ref s3.heap.objs.size, v]) ht hT hg (by with_unfolding_all rfl)
def cutV (xs : List V) (lo hi : Option Int) : List V := (xs.drop (HT.sIx xs.length 0 lo)).take (HT.sIx xs.length xs.length hi - HT.sIx xs.length 0 lo)
theorem cutV_length (xs : List V) (lo hi : Option Int) : (cutV xs lo hi).length ≤ xs.length := by
  unfold cutV
  rw [List.length_take, List.length_drop]
  omega
def rSlT (K : PySem.W.Frag) : V → Option Int → Option Int → Hp → VK → Prop := fun x lo hi H Q => ∃ a xs, x = .ref a ∧ SqT K H a xs ∧
  ¬ (HT.sIx xs.length 0 lo = 0 ∧ HT.sIx xs.length xs.length hi = xs.length) ∧ ∀ p, H p = none → Q (.ref p) (upd H p (.tup (cutV xs lo hi)))
theorem sl_tup : SlR X (rSlT X.K) := by
  intro pins s σ H x v vl vu lo hi sl Q I rx hs pl pu h
  obtain ⟨a, xs, rfl, hx, hw, q⟩ := h
  cases rx
  obtain ⟨its, r, ht, hz⟩ := I.tuple hx
  have hlen : its.toArray.size = xs.length := by rw [List.size_toArray]; exact r.length.symm
  refine ⟨"tuple", _, PyProof.Rows.slot_tuple_getitem.lookup, ht.typeIs, ?_⟩
  refine HT.getItem_tuple_cut ht hs pl pu (by rw [hlen]; exact hw) ?_ (by rw [hlen]; exact hz)
  rw [hlen]
  refine ⟨.ref s.heap.objs.size, _, I.laid (t' := s.toks) (o := .tup (cutV xs lo hi)) (fun b ob q => Heap.get?_push_of_some _ q) (Nat.le_refl _) ?_, rfl, q _ (I.hok.fresh (Nat.le_refl _))⟩
  exact ⟨Nat.le_trans (cutV_length xs lo hi) hz, _, (r.drop (HT.sIx xs.length 0 lo)).take (HT.sIx xs.length xs.length hi - HT.sIx xs.length 0 lo), IsTup.new _ _⟩
def rCatT (K : PySem.W.Frag) : R2 := fun x y H Q => ∃ a b xs ys, x = .ref a ∧ y = .ref b ∧ SqT K H a xs ∧ SqT K H b ys ∧ xs ≠ [] ∧ xs.length + ys.length ≤ sizeLine ∧
  (ys = [] → Q (.ref a) H) ∧ (ys ≠ [] → ∀ p, H p = none → Q (.ref p) (upd H p (.tup (xs ++ ys))))
theorem Vals.nil_iff {xs : List V} {us : List Value} (r : Vals xs us) : us = [] ↔ xs = [] := by
  cases r with
  | nil => simp
  | cons _ _ => simp
theorem op_catT : OpR X (binaryOp .Add) (rCatT X.K) := by
  intro pins s σ H x y v u Q I rx ry h
  obtain ⟨a, b, xs, ys, rfl, rfl, ha, hb, hx, hz, q1, q2⟩ := h
  cases rx
  cases ry
  obtain ⟨its, r1, p1, _⟩ := I.tuple ha
  obtain ⟨its2, r2, p2, _⟩ := I.tuple hb
  refine HT.cat_tup p1 p2 (fun z => hx (r1.nil_iff.mp z)) (fun z => ⟨.ref a, H, I, rfl, q1 (r2.nil_iff.mp z)⟩) (fun z => ?_) (by rw [← r1.length, ← r2.length]; exact hz)
  refine ⟨.ref s.heap.objs.size, _, I.laid (t' := s.toks) (o := .tup (xs ++ ys)) (fun b ob q => Heap.get?_push_of_some _ q) (Nat.le_refl _) ?_, rfl, q2 (fun w => z (r2.nil_iff.mpr w)) _ (I.hok.fresh (Nat.le_refl _))⟩
  exact ⟨by rw [List.length_append]; exact hz, _, r1.append r2, IsTup.new _ _⟩
end
end L2
namespace L2
open PySem PySem.Spec PyProof.Rows
def ixN (n : Nat) (i : Int) : Option Nat := if 0 ≤ i then (if i < n then some i.toNat else none) else if -(n : Int) ≤ i then some (i + n).toNat else none
def atI {α : Type} (xs : List α) (i : Int) : Option α := (ixN xs.length i).bind fun j => xs[j]?
theorem ixN_seq {n : Nat} {i : Int} {j : Nat} (h : ixN n i = some j) : seqIndex? i n = some j ∧ j < n ∧ -(n : Int) ≤ i ∧ i < n := by
  unfold ixN at h
  by_cases h0 : 0 ≤ i
  · rw [if_pos h0] at h
    by_cases h1 : i < n
    · rw [if_pos h1] at h
      have e : i.toNat = j := Option.some.inj h
      exact ⟨by rw [seqIndex_of h0 h1, e], by omega, by omega, h1⟩
    · rw [if_neg h1] at h; cases h
  · rw [if_neg h0] at h
    by_cases h1 : -(n : Int) ≤ i
    · rw [if_pos h1] at h
      have e : (i + n).toNat = j := Option.some.inj h
      exact ⟨by rw [seqIndex_neg (by omega) h1, e], by omega, h1, by omega⟩
    · rw [if_neg h1] at h; cases h
theorem atI_get {α : Type} {xs : List α} {i : Int} {v : α} (h : atI xs i = some v) : ∃ j, seqIndex? i xs.length = some j ∧ xs[j]? = some v ∧ j < xs.length ∧ -(xs.length : Int) ≤ i ∧ i < xs.length := by
  unfold atI at h
  cases e : ixN xs.length i with
  | none => rw [e] at h; cases h
  | some j =>
    rw [e] at h
    obtain ⟨h1, h2, h3, h4⟩ := ixN_seq e
    exact ⟨j, h1, h, h2, h3, h4⟩
theorem atI_nat {α : Type} {xs : List α} {j : Nat} {v : α} (h : xs[j]? = some v) : atI xs (j : Int) = some v := by
  have hj : j < xs.length := (List.getElem?_eq_some_iff.mp h).1
  have e : ixN xs.length (j : Int) = some j := by
    unfold ixN
    rw [if_pos (by omega), if_pos (by omega)]; simp
  unfold atI; rw [e]; exact h
def PlainIx (b : Expr) : Prop := ∀ o i, subscripted b false o i = operate [o, i] (getItem o i)
def IxR (X : Cx) (r : R2) : Prop :=
  ∀ (value slice : Expr) (pins : List (Addr × Obj)) (s : Shared) (σ : St) (H : Hp) (x y : V) (v u : Value) (Q : VK), Inv X pins σ H s → RelV x v → RelV y u → r x y H Q →
    subscripted slice false v u = operate [v, u] (getItem v u) → wpAny (model X.prog X.w) X.A (subscriptTail value slice v u) (EP X pins σ Q) X.xe s
def MtR (X : Cx) (id : String) (r : V → List V → Hp → VK → Prop) : Prop :=
  ∀ (pins : List (Addr × Obj)) (s : Shared) (σ : St) (H : Hp) (x : V) (xs : List V) (v : Value) (us : List Value) (Q : VK), Inv X pins σ H s → RelV x v → Vals xs us → r x xs H Q →
    wpAny (model X.prog X.w) X.A (call (.builtin id) (v :: us)) (EP X pins σ Q) X.xe s
section
variable {X : Cx} {a b : Expr} {ta tb : TE} {pos : Pos}
theorem pe_ix {r : R2} (hr : IxR X r) (ha : PE X a ta) (hb : PE X b tb) (hs : PlainIx b) : PE X (.Subscript a b pos) (tOp r ta tb) := by
  intro pins s σ H Q I h
  exact Subscript_ (binT ha hb I h fun v u s2 x y H2 I2 rx ry q => hr a b pins s2 σ H2 x y v u Q I2 rx ry q (hs _ _))
def rIxL (K : PySem.W.Frag) : R2 := fun x y H Q => ∃ p xs i v, x = .ref p ∧ y = .int i ∧ SqL K H p xs ∧ atI xs i = some v ∧ Q v H
def rIxT (K : PySem.W.Frag) : R2 := fun x y H Q => ∃ p xs i v, x = .ref p ∧ y = .int i ∧ SqT K H p xs ∧ atI xs i = some v ∧ Q v H
def rIxS : R2 := fun x y H Q => ∃ z i c, x = .str z ∧ y = .int i ∧ z.length ≤ sizeLine ∧ atI z.cps.toList i = some c ∧ Q (.str ⟨#[c]⟩) H
theorem ix_list : IxR X (rIxL X.K) := by
  intro value slice pins s σ H x y v u Q I rx ry h hs
  obtain ⟨p, xs, i, z, rfl, rfl, hq, he, q⟩ := h
  cases rx
  obtain ⟨t, rfl⟩ := ry
  obtain ⟨its, r, pl, hz⟩ := I.list hq
  obtain ⟨j, h1, h2, h3, h4, h5⟩ := atI_get he
  obtain ⟨w, ew, rw'⟩ := r.get h2
  have hl := r.length
  have hn := line63
  have fin : EP X pins σ Q w s := ⟨z, H, I, rw', q⟩
  by_cases h0 : 0 ≤ i
  · have hj : i.toNat = j := by
      rw [seqIndex_of h0 h5] at h1
      exact Option.some.inj h1
    exact item_listR pl.isList h0 (by omega) (by rw [hj]; simpa using ew) fin hs
  · have hj : (i + (its.toArray.size : Int)).toNat = j := by
      rw [seqIndex_neg (by omega) h4] at h1
      rw [List.size_toArray, ← hl]
      exact Option.some.inj h1
    exact subscriptTail_builtinR (x := w) pl.isList.typeIs slot_list_getitem.lookup
      (wpAny_getItem_list_neg (Q := fun r s' => r = w ∧ EP X pins σ Q r s') pl.isList (by omega) (by rw [List.size_toArray] <;> omega) (by omega) (by rw [hj]; simpa using ew) ⟨rfl, fin⟩) hs
theorem ix_tup : IxR X (rIxT X.K) := by
  intro value slice pins s σ H x y v u Q I rx ry h hs
  obtain ⟨p, xs, i, z, rfl, rfl, hq, he, q⟩ := h
  cases rx
  obtain ⟨t, rfl⟩ := ry
  obtain ⟨its, r, pl, hz⟩ := I.tuple hq
  obtain ⟨j, h1, h2, h3, h4, h5⟩ := atI_get he
  obtain ⟨w, ew, rw'⟩ := r.get h2
  have hl := r.length
  have hn := line63
  have fin : EP X pins σ Q w s := ⟨z, H, I, rw', q⟩
  exact subscriptTail_builtinR (x := w) pl.typeIs slot_tuple_getitem.lookup
    (getItem_tuple (j := j) (Q := fun r s' => r = w ∧ EP X pins σ Q r s') pl (by omega) (by omega) (by rw [List.size_toArray, ← hl]; exact h1) (by simpa using ew) ⟨rfl, fin⟩) hs
theorem ix_str : IxR X rIxS := by
  intro value slice pins s σ H x y v u Q I rx ry h hs
  obtain ⟨z, i, c, rfl, rfl, hz, he, q⟩ := h
  obtain ⟨t, rfl⟩ := rx
  obtain ⟨t', rfl⟩ := ry
  obtain ⟨j, h1, h2, h3, h4, h5⟩ := atI_get he
  have hl : z.cps.toList.length = z.length := by simp [Str.length]
  rw [hl] at h1 h4 h5
  have hn := line63
  exact tail_any (typeIs_str s z t) slot_str_getitem.lookup (getItem_str (c := c) (by
    have e1 : decide (i < -(2 ^ 63 : Int)) = false := decide_eq_false (by omega)
    have e2 : decide (i ≥ 2 ^ 63) = false := decide_eq_false (by omega)
    rw [e1, e2, Bool.or_false]) (by rw [h1]; simpa using h2) ⟨.str ⟨#[c]⟩, H, I.tok _, ⟨_, rfl⟩, q⟩) hs
theorem mapSeq_set (its : List Value) (n j : Nat) (u : Value) : Obj.mapSeq (·.setIfInBounds j u) { cls := .type "list", data := .seq its.toArray n } = { cls := .type "list", data := .seq (its.set j u).toArray n } := by
  simp [Obj.mapSeq]
theorem Inv.lst {pins : List (Addr × Obj)} {σ : St} {H : Hp} {s : Shared} {p : Addr} {xs : List V} (I : Inv X pins σ H s) (h : H p = some (.lst xs)) :
    ∃ (its : List Value) (n : Nat), Vals xs its ∧ s.heap.get? p = some { cls := .type "list", data := .seq its.toArray n } ∧ xs.length ≤ sizeLine := by
  obtain ⟨z, its, n, r, e⟩ := I.hok p _ h
  exact ⟨its, n, r, e, z⟩
theorem Inv.lstUpd {pins : List (Addr × Obj)} {σ : St} {H : Hp} {s : Shared} {p : Addr} {xs ys : List V} {its its' : List Value} {n n' : Nat} {f : Obj → Obj} (I : Inv X pins σ H s) (h : H p = some (.lst xs))
    (ho : s.heap.get? p = some { cls := .type "list", data := .seq its.toArray n }) (hf : f { cls := .type "list", data := .seq its.toArray n } = { cls := .type "list", data := .seq its'.toArray n' }) (r : Vals ys its') (hz : ys.length ≤ sizeLine) (t : Nat) :
    Inv X pins σ (upd H p (.lst ys)) { s with heap := s.heap.update p f, toks := t } := by
  have e : (s.heap.update p f).get? p = some { cls := .type "list", data := .seq its'.toArray n' } := by
    rw [Heap.get?_update_self f ho (by rw [hf] <;> rfl), hf]
  refine I.write (x := p) (e := p) (by rw [h]; trivial) (.inl rfl) (fun b u hb q => (Heap.get?_update_other _ _ (Ne.symm hb)).trans q) ⟨_, e⟩ ?_
  exact ⟨hz, its', n', r, e⟩
def rSetL : V → V → V → Hp → (Hp → Prop) → Prop := fun o i v H Q => ∃ p xs k j, o = .ref p ∧ i = .int k ∧ H p = some (.lst xs) ∧ ixN xs.length k = some j ∧ Q (upd H p (.lst (xs.set j v)))
theorem set_list : PSet X rSetL := by
  intro pins s σ H o i v ov iv u Q I ro ri rv h
  obtain ⟨p, xs, k, j, rfl, rfl, hp, hj, q⟩ := h
  cases ro
  obtain ⟨t, rfl⟩ := ri
  obtain ⟨its, n, r, ho, hz⟩ := I.lst hp
  obtain ⟨h1, h2, h3, h4⟩ := ixN_seq hj
  have hl := r.length
  have hn := line63
  have I' : Inv X pins σ (upd H p (.lst (xs.set j v))) { s with heap := s.heap.update p (Obj.mapSeq (·.setIfInBounds j u)) } :=
    I.lstUpd hp ho (mapSeq_set its n j u) (r.set rv j) (by rw [List.length_set]; exact hz) s.toks
  by_cases h0 : 0 ≤ k
  · have hk : k.toNat = j := by
      rw [seqIndex_of h0 h4] at h1
      exact Option.some.inj h1
    exact PySem.W.ki_setAt ho h0 (by omega) (by rw [List.size_toArray, ← hl]; exact h4) (by rw [hk]; exact ⟨_, I', q⟩)
  · have hk : (k + (its.toArray.size : Int)).toNat = j := by
      rw [seqIndex_neg (by omega) h3] at h1
      rw [List.size_toArray, ← hl]
      exact Option.some.inj h1
    exact PySem.W.ki_setBack ho (by omega) (by rw [List.size_toArray, ← hl]; exact h3) (by omega) (by rw [hk]; exact ⟨_, I', q⟩)
theorem slice_bounds (lo hi : Option Int) (n : Nat) : (sliceBounds lo hi none n).1 = ((HT.sIx n 0 lo : Nat) : Int) ∧ (sliceBounds lo hi none n).2.1 = ((HT.sIx n n hi : Nat) : Int) ∧ (sliceBounds lo hi none n).2.2 = 1 := by
  refine ⟨?_, ?_, rfl⟩
  · cases lo with
    | none => simp [sliceBounds, HT.sIx]
    | some i =>
      simp only [sliceBounds, HT.sIx, Option.getD_none, show (1 : Int) > 0 by decide, if_true]
      by_cases h : i < 0
      · simp only [h, if_true] <;> omega
      · simp only [h, if_false] <;> omega
  · cases hi with
    | none => simp [sliceBounds, HT.sIx]
    | some i =>
      simp only [sliceBounds, HT.sIx, Option.getD_none, show (1 : Int) > 0 by decide, if_true]
      by_cases h : i < 0
      · simp only [h, if_true] <;> omega
      · simp only [h, if_false] <;> omega
theorem slicePick_cut (its : List Value) (lo hi : Option Int) : slicePick its.toArray lo hi none = ((its.drop (HT.sIx its.length 0 lo)).take (HT.sIx its.length its.length hi - HT.sIx its.length 0 lo)).toArray := by
  obtain ⟨h1, h2, h3⟩ := slice_bounds lo hi its.toArray.size
  unfold slicePick
  rw [h1, h2, h3]
  simp only [sliceRange_one, pick_run, List.size_toArray] <;> rfl
def rSlL (K : PySem.W.Frag) : V → Option Int → Option Int → Hp → VK → Prop := fun x lo hi H Q => ∃ a xs, x = .ref a ∧ SqL K H a xs ∧ ∀ p, H p = none → Q (.ref p) (upd H p (.lst (cutV xs lo hi)))
theorem sl_list : SlR X (rSlL X.K) := by
  intro pins s σ H x v vl vu lo hi sl Q I rx hs pl pu h
  obtain ⟨a, xs, rfl, hx, q⟩ := h
  cases rx
  obtain ⟨its, r, ht, hz⟩ := I.list hx
  have hlen := r.length
  refine ⟨"list", _, slot_list_getitem.lookup, ht.isList.typeIs, ?_⟩
  refine wpAny_getItem_list_slice ht.isList hs pl pu .none (by simp) ?_ (by rw [List.size_toArray] <;> omega)
  rw [slicePick_cut, ← hlen]
  refine ⟨.ref s.heap.objs.size, _, I.laid (t' := s.toks) (o := .lst (cutV xs lo hi)) (fun b ob q => Heap.get?_push_of_some _ q) (Nat.le_refl _) ?_, rfl, q _ (I.hok.fresh (Nat.le_refl _))⟩
  exact ⟨Nat.le_trans (cutV_length xs lo hi) hz, _, 0, (r.drop (HT.sIx xs.length 0 lo)).take (HT.sIx xs.length xs.length hi - HT.sIx xs.length 0 lo), Heap.get?_push_size _ rfl⟩
def flatV : V → Bool
  | .non => true
  | .bl _ => true
  | .int _ => true
  | .str _ => true
  | _ => false
def eqV : V → V → Bool
  | .non, .non => true
  | .bl a, .bl b => a == b
  | .bl a, .int b => (if a then 1 else 0) == b
  | .int a, .bl b => a == (if b then 1 else 0)
  | .int a, .int b => a == b
  | .str a, .str b => a == b
  | _, _ => false
theorem eqAt_V {A : Around} {s : Shared} {y x : V} {u v : Value} (ry : RelV y u) (rx : RelV x v) (fy : flatV y = true) (fx : flatV x = true) : SeqAt.EqAt A s u v (eqV y x) := by
  cases y with
  | non =>
    cases ry
    cases x with
    | non => cases rx; exact SeqAt.EqAt.same _
    | bl b => cases rx; exact SeqAt.EqAt.none_bool b
    | int b => obtain ⟨t, rfl⟩ := rx; exact SeqAt.EqAt.none_int b t
    | str b => obtain ⟨t, rfl⟩ := rx; exact SeqAt.EqAt.none_str b t
    | _ => exact absurd (show false = true from fx) Bool.false_ne_true
  | bl a =>
    cases ry
    cases x with
    | non => cases rx; exact SeqAt.EqAt.bool_none a
    | bl b => cases rx; exact SeqAt.EqAt.bool_bool a b
    | int b => obtain ⟨t, rfl⟩ := rx; exact SeqAt.EqAt.bool_int a b t
    | str b => obtain ⟨t, rfl⟩ := rx; exact SeqAt.EqAt.bool_str a b t
    | _ => exact absurd (show false = true from fx) Bool.false_ne_true
  | int a =>
    obtain ⟨t', rfl⟩ := ry
    cases x with
    | non => cases rx; exact SeqAt.EqAt.int_none a t'
    | bl b => cases rx; exact SeqAt.EqAt.int_bool a t' b
    | int b => obtain ⟨t, rfl⟩ := rx; exact SeqAt.EqAt.int_int a t' b t
    | str b => obtain ⟨t, rfl⟩ := rx; exact SeqAt.EqAt.int_str a t' b t
    | _ => exact absurd (show false = true from fx) Bool.false_ne_true
  | str a =>
    obtain ⟨t', rfl⟩ := ry
    cases x with
    | non => cases rx; exact SeqAt.EqAt.str_none a t'
    | bl b => cases rx; exact SeqAt.EqAt.str_bool a t' b
    | int b => obtain ⟨t, rfl⟩ := rx; exact SeqAt.EqAt.str_int a t' b t
    | str b => obtain ⟨t, rfl⟩ := rx; exact SeqAt.EqAt.str_str a t' b t
    | _ => exact absurd (show false = true from fx) Bool.false_ne_true
  | _ => exact absurd (show false = true from fy) Bool.false_ne_true
def eqU (x : V) (u : Value) : Bool := match u with
  | .none => eqV .non x
  | .bool b => eqV (.bl b) x
  | .int i _ => eqV (.int i) x
  | .str z _ => eqV (.str z) x
  | _ => false
theorem eqU_of {x y : V} {u : Value} (r : RelV y u) (f : flatV y = true) : eqU x u = eqV y x := by
  cases y with
  | non => cases r; rfl
  | bl b => cases r; rfl
  | int i => obtain ⟨t, rfl⟩ := r; rfl
  | str z => obtain ⟨t, rfl⟩ := r; rfl
  | _ => exact absurd (show false = true from f) Bool.false_ne_true
theorem any_eqU {x : V} : ∀ {xs : List V} {us : List Value}, Vals xs us → xs.all flatV = true → us.any (eqU x) = xs.any fun y => eqV y x
  | _, _, .nil, _ => rfl
  | y :: xs, u :: us, .cons r t, f => by
    rw [List.all_cons, Bool.and_eq_true] at f
    rw [List.any_cons, List.any_cons, eqU_of r f.1, any_eqU t f.2]
theorem mem_eqAt {A : Around} {s : Shared} {x : V} {v : Value} (rx : RelV x v) (fx : flatV x = true) : ∀ {xs : List V} {us : List Value}, Vals xs us → xs.all flatV = true → ∀ u ∈ us, SeqAt.EqAt A s u v (eqU x u)
  | _, _, .nil, _ => fun u hu => by cases hu
  | y :: xs, u :: us, .cons r t, f => fun u' hu => by
    rw [List.all_cons, Bool.and_eq_true] at f
    rcases List.mem_cons.mp hu with rfl | hu
    · rw [eqU_of r f.1]; exact eqAt_V r rx f.1 fx
    · exact mem_eqAt rx fx t f.2 u' hu
def inV (x : V) (xs : List V) : Bool := xs.any fun y => eqV y x
def rIn (K : PySem.W.Frag) (neg : Bool) : R2 := fun x y H Q => ∃ p xs, y = .ref p ∧ (SqL K H p xs ∨ SqT K H p xs) ∧ flatV x = true ∧ xs.all flatV = true ∧ Q (.bl (if neg then !inV x xs else inV x xs)) H
theorem op_in_seq : OpR X (compareOp .In) (rIn X.K false) := by
  intro pins s σ H x y v u Q I rx ry h
  obtain ⟨p, xs, rfl, hq, fx, fs, q⟩ := h
  cases ry
  rcases hq with hq | hq
  · obtain ⟨its, r, pl, hz⟩ := I.list hq
    refine SeqAt.in_listAt (eqU x) pl.isList (fun w hw => mem_eqAt rx fx r fs w (by simpa using hw)) ⟨.bl _, H, I, rfl, ?_⟩
    rw [show its.toArray.any (eqU x) = its.any (eqU x) by simp, any_eqU r fs]
    exact q
  · obtain ⟨its, r, pl, hz⟩ := I.tuple hq
    refine SeqAt.in_tupleAt (eqU x) pl (fun w hw => mem_eqAt rx fx r fs w (by simpa using hw)) ⟨.bl _, H, I, rfl, ?_⟩
    rw [show its.toArray.any (eqU x) = its.any (eqU x) by simp, any_eqU r fs]
    exact q
theorem op_notIn_seq : OpR X (compareOp .NotIn) (rIn X.K true) := by
  intro pins s σ H x y v u Q I rx ry h
  obtain ⟨p, xs, rfl, hq, fx, fs, q⟩ := h
  cases ry
  rcases hq with hq | hq
  · obtain ⟨its, r, pl, hz⟩ := I.list hq
    refine SeqAt.notIn_listAt (eqU x) pl.isList (fun w hw => mem_eqAt rx fx r fs w (by simpa using hw)) ⟨.bl _, H, I, rfl, ?_⟩
    rw [show its.toArray.any (eqU x) = its.any (eqU x) by simp, any_eqU r fs]
    exact q
  · obtain ⟨its, r, pl, hz⟩ := I.tuple hq
    refine SeqAt.notIn_tupleAt (eqU x) pl (fun w hw => mem_eqAt rx fx r fs w (by simpa using hw)) ⟨.bl _, H, I, rfl, ?_⟩
    rw [show its.toArray.any (eqU x) = its.any (eqU x) by simp, any_eqU r fs]
    exact q
theorem call_len_seq : CallR X (.builtin "len") (fun xs H Q => ∃ p ys, xs = [.ref p] ∧ (SqL X.K H p ys ∨ SqT X.K H p ys) ∧ Q (.int ys.length) H) := by
  intro pins s σ H xs us Q I r h
  obtain ⟨p, ys, rfl, hq, q⟩ := h
  obtain ⟨u, rfl, rx⟩ := vals1 r
  cases rx
  have hn := line63
  rcases hq with hq | hq
  · obtain ⟨its, r', pl, hz⟩ := I.list hq
    have hlen := r'.length
    exact Calls.call_len_list pl.isList (by simp only [List.size_toArray] <;> omega) ⟨.int ys.length, H, I.tok _, ⟨s.toks + 1, by rw [List.size_toArray, hlen]⟩, q⟩
  · obtain ⟨its, r', pl, hz⟩ := I.tuple hq
    have hlen := r'.length
    exact len_tuple pl (by simp only [List.size_toArray] <;> omega) ⟨.int ys.length, H, I.tok _, ⟨s.toks + 1, by rw [List.size_toArray, hlen]⟩, q⟩
theorem call_list_of : CallR X (.type "list") (fun xs H Q => ∃ p ys, xs = [.ref p] ∧ (SqL X.K H p ys ∨ SqT X.K H p ys) ∧ ∀ l, H l = none → Q (.ref l) (upd H l (.lst ys))) := by
  intro pins s σ H xs us Q I r h
  obtain ⟨p, ys, rfl, hq, q⟩ := h
  obtain ⟨u, rfl, rx⟩ := vals1 r
  cases rx
  have fin : ∀ (its : List Value), Vals ys its → ys.length ≤ sizeLine → ∀ (h' : Heap) (c' : Nat), (∀ b o', s.heap.get? b = some o' → h'.get? b = some o') →
      h'.get? s.heap.objs.size = some { cls := .type "list", dict := none, data := .seq its.toArray c', slots := #[] } → EP X pins σ Q (.ref s.heap.objs.size) { s with heap := h' } := fun its r' hz h' c' kp e =>
    ⟨.ref s.heap.objs.size, _, I.laid (t' := s.toks) kp (Nat.le_refl _) (show ObjOk X.prog X.w _ h' _ (.lst ys) from ⟨hz, its, c', r', e⟩), rfl, q _ (I.hok.fresh (Nat.le_refl _))⟩
  rcases hq with hq | hq
  · obtain ⟨its, r', pl, hz⟩ := I.list hq
    have hlen := r'.length
    obtain ⟨o, ho, hc, n, hd⟩ := pl.isList
    exact call_list_seq p (.inl rfl) ho hc hd (fun h' c' kp e => fin its r' hz h' c' kp e) (by simp only [List.size_toArray] <;> omega)
  · obtain ⟨its, r', pl, hz⟩ := I.tuple hq
    have hlen := r'.length
    obtain ⟨o, ho, hc, n, hd⟩ := pl
    exact call_list_seq p (.inr rfl) ho hc hd (fun h' c' kp e => fin its r' hz h' c' kp e) (by simp only [List.size_toArray] <;> omega)
theorem call_tuple_of : CallR X (.type "tuple") (fun xs H Q => ∃ p ys, xs = [.ref p] ∧ ((SqL X.K H p ys ∧ ∀ l, H l = none → Q (.ref l) (upd H l (.tup ys))) ∨ (SqT X.K H p ys ∧ Q (.ref p) H))) := by
  intro pins s σ H xs us Q I r h
  obtain ⟨p, ys, rfl, h⟩ := h
  obtain ⟨u, rfl, rx⟩ := vals1 r
  cases rx
  rcases h with ⟨hq, q⟩ | ⟨hq, q⟩
  · obtain ⟨its, r', pl, hz⟩ := I.list hq
    have hlen := r'.length
    refine call_tuple_list pl.isList (fun h' kp => ?_) (by simp only [List.size_toArray] <;> omega)
    have I1 : Inv X pins σ H { s with heap := h' } := I.kept (t' := s.toks) kp
    have I2 : Inv X pins σ (upd H h'.objs.size (.tup ys)) { s with heap := h'.push { cls := .type "tuple", data := .seq its.toArray } } :=
      I1.laid (t' := s.toks) (fun b o e => Heap.get?_push_of_some _ e) (Nat.le_refl _) (show ObjOk X.prog X.w _ _ _ (.tup ys) from ⟨hz, its, r', IsTup.new _ _⟩)
    exact ⟨.ref h'.objs.size, _, I2, rfl, q _ (I1.hok.fresh (Nat.le_refl _))⟩
  · obtain ⟨its, r', pl, hz⟩ := I.tuple hq
    exact call_tuple_same pl ⟨.ref p, H, I, rfl, q⟩
def tyV (K : PySem.W.Frag) (T : String) (x : V) (H : Hp) : Prop := match x with
  | .str _ => T = "str"
  | .int _ => T = "int"
  | .ref p => (T = "list" ∧ ∃ xs, SqL K H p xs) ∨ (T = "tuple" ∧ ∃ o, K.lookup p = some o ∧ o.cls = .type "tuple" ∧ o.dict = none) ∨
      (T = "dict" ∧ ((∃ kvs, H p = some (.dK kvs)) ∨ ∃ kvs, H p = some (.dT kvs))) ∨ (T = "set" ∧ ∃ S n, H p = some (.set S n))
  | _ => False
theorem tyV_is {pins : List (Addr × Obj)} {σ : St} {H : Hp} {s : Shared} {T : String} {x : V} {v : Value} (I : Inv X pins σ H s) (r : RelV x v) (ty : tyV X.K T x H) :
    s.TypeIs v T ∧ ∀ a, v = .ref a → ∃ ob, s.heap.get? a = some ob ∧ ob.dict = none := by
  cases x with
  | str z =>
    obtain ⟨t, rfl⟩ := r
    cases (show T = "str" from ty)
    exact ⟨typeIs_str s z t, fun _ e => nomatch e⟩
  | int i =>
    obtain ⟨t, rfl⟩ := r
    cases (show T = "int" from ty)
    exact ⟨typeIs_int s i t, fun _ e => nomatch e⟩
  | ref p =>
    cases r
    rcases ty with ⟨rfl, xs, hq⟩ | ⟨rfl, o, hk, hc, hd⟩ | ⟨rfl, hk⟩ | ⟨rfl, S, n, hk⟩
    · obtain ⟨its, _, pl, _⟩ := I.list hq
      refine ⟨pl.isList.typeIs, fun a e => ?_⟩
      cases e
      obtain ⟨o, n, e, c, hd, _⟩ := pl
      exact ⟨o, e, hd⟩
    · refine ⟨⟨o, I.kIn p o hk, hc⟩, fun a e => ?_⟩
      cases e
      exact ⟨o, I.kIn _ o hk, hd⟩
    · have z : ∃ o, s.heap.get? p = some o ∧ o.ExactDict := by
        rcases hk with ⟨kvs, hk⟩ | ⟨kvs, hk⟩
        · obtain ⟨_, _, _, _, o, _, _, e, ex, _⟩ := I.hok p _ hk
          exact ⟨o, e, ex⟩
        · obtain ⟨_, _, _, _, o, _, _, e, ex, _⟩ := I.hok p _ hk
          exact ⟨o, e, ex⟩
      obtain ⟨o, e, ex⟩ := z
      refine ⟨⟨o, e, ex.1⟩, fun a e2 => ?_⟩
      cases e2
      exact ⟨o, e, ex.2.1⟩
    · obtain ⟨o, _, _, _, e, ex, _⟩ := I.hok p _ hk
      refine ⟨⟨o, e, ex.1⟩, fun a e2 => ?_⟩
      cases e2
      exact ⟨o, e, ex.2.1⟩
  | _ => exact False.elim ty
def tBM (K : PySem.W.Frag) (T : String) (r : V → List V → Hp → VK → Prop) (to : TE) (t : TA) : TE := fun σ H Q => to σ H fun x H1 => tyV K T x H1 ∧ t σ H1 fun xs H2 => r x xs H2 Q
variable {o e : Expr} {es : List Expr} {to : TE} {t : TA} {name : Str} {apos cpos : Pos} {T id : String} {r : V → List V → Hp → VK → Prop}
theorem pe_bm (pa : PlainAttrs T) (slot : Slot T name id) (hty : typeOf (.builtin id) = pure (.type "method_descriptor")) (hm : MtR X id r) (ho : PE X o to) (ha : PA X (e :: es) t)
    (hbase : attributeBase o name X.env (eval o X.env) = eval o X.env := by rfl)
    (hfew : ((backTo cpos (starEach (e :: es) X.env)).all (fun x => !x.1) && (backToKw cpos (keywordEach [] X.env)).all (fun x => x.1.isSome)
      && decide ((e :: es).length + ([] : List Keyword).length + (if ([] : List Keyword).isEmpty then 0 else 1) < 30)) = true := by rfl)
    (hline : (apos.endLine == cpos.line) = true := by rfl) (hs : starEach (e :: es) X.env = (false, eval e X.env) :: starEach es X.env := by rfl) (hplain : (backTo cpos (starEach es X.env)).any (·.1) = false := by rfl) :
    PE X (.Call (.Attribute o name apos) (e :: es) [] cpos) (tBM X.K T r to t) := by
  intro pins s σ H Q I h
  refine wpAny_Call_method_late hbase hfew hline rfl (thn (ho pins s σ H _ I h) fun v s1 ⟨x, H1, I1, r1, ty, q1⟩ => ?_)
  obtain ⟨h1, h2⟩ := tyV_is I1 r1 ty
  refine ⟨T, id, pa, slot, hty, h1, h2, ?_⟩
  have hA := ha cpos pins s1 σ H1 _ I1 q1
  rw [hs] at hA ⊢
  refine Calls.callWith_builtin (by show (false || (backTo cpos (starEach es X.env)).any (·.1)) = false; rw [hplain] <;> rfl) (Calls.evalArgs_plain ?_)
  exact thn hA fun us s2 ⟨vs, H2, I2, r2, q2⟩ => hm pins s2 σ H2 x vs v us Q I2 r1 r2 q2
end
end L2
namespace L2
open PySem PySem.Spec PyProof.Rows
def MtM (X : Cx) (id : String) (r : V → List V → Hp → VK → Prop) : Prop :=
  ∀ (pins : List (Addr × Obj)) (s : Shared) (σ : St) (H : Hp) (x : V) (xs : List V) (v : Value) (us : List Value) (Q : VK), Inv X pins σ H s → RelV x v → Vals xs us → r x xs H Q →
    wpAny (model X.prog X.w) X.A (call (.builtin id) (v :: us)) (EP X pins σ Q) X.xe s
theorem Vals.one : ∀ {x : V} {us : List Value}, Vals [x] us → ∃ u, us = [u] ∧ RelV x u
  | _, _, .cons r .nil => ⟨_, rfl, r⟩
theorem Vals.eraseIdx : ∀ {xs : List V} {us : List Value} (i : Nat), Vals xs us → Vals (xs.eraseIdx i) (us.eraseIdx i)
  | _, _, _, .nil => .nil
  | _, _, 0, .cons _ t => t
  | _, _, i + 1, .cons r t => .cons r (Vals.eraseIdx i t)
section
variable {X : Cx} {pins : List (Addr × Obj)} {σ : St} {H : Hp} {s : Shared} {l b : Addr} {xs ys zs : List V}
theorem Inv.lset {its its' : List Value} {n : Nat} {f : Array Value → Array Value} {t' : Nat} (I : Inv X pins σ H s) (hH : H l = some (.lst xs))
    (e : s.heap.get? l = some { cls := .type "list", data := .seq its.toArray n }) (hf : f its.toArray = its'.toArray) (hv : Vals ys its') (hz : ys.length ≤ sizeLine) :
    Inv X pins σ (upd H l (.lst ys)) { s with heap := s.heap.update l (Obj.mapSeq f), toks := t' } := by
  have q := PySem.IsL.update e f
  rw [hf] at q
  refine I.write (x := l) (e := l) (by rw [hH]; exact trivial) (.inl rfl) (fun b' u hb hu => (Heap.get?_update_other s.heap (Obj.mapSeq f) (Ne.symm hb)).trans hu) ⟨_, q⟩ ?_
  exact ⟨hz, its', _, hv, q⟩
theorem Inv.lnew {its : List Value} {t' : Nat} (I : Inv X pins σ H s) (hv : Vals ys its) (hz : ys.length ≤ sizeLine) :
    Inv X pins σ (upd H s.heap.objs.size (.lst ys)) { s with heap := s.heap.push { cls := .type "list", data := .seq its.toArray }, toks := t' } :=
  I.laid (fun _ _ q => Heap.get?_push_of_some _ q) (Nat.le_refl _) ⟨hz, its, 0, hv, Heap.get?_push_size _ rfl⟩
theorem Inv.fresh (I : Inv X pins σ H s) : H s.heap.objs.size = none := I.hok.fresh (Nat.le_refl _)
theorem Inv.lstM (I : Inv X pins σ H s) (hH : H l = some (.lst xs)) : xs.length ≤ sizeLine ∧ ∃ (its : List Value) (n : Nat), Vals xs its ∧ xs.length = its.length ∧ s.heap.get? l = some { cls := .type "list", data := .seq its.toArray n } := by
  obtain ⟨z, its, n, r, e⟩ := I.hok l _ hH
  exact ⟨z, its, n, r, r.length, e⟩
end
section
variable {X : Cx}
def rAppend : V → List V → Hp → VK → Prop := fun x vs H Q => ∃ l xs y, x = .ref l ∧ vs = [y] ∧ H l = some (.lst xs) ∧ xs.length < sizeLine ∧ Q .non (upd H l (.lst (xs ++ [y])))
theorem mt_append : MtM X "list.append" rAppend := by
  intro pins s σ H x vs v us Q I rx rv h
  obtain ⟨l, xs, y, rfl, rfl, hH, hz, q⟩ := h
  cases rx
  obtain ⟨u, rfl, ru⟩ := rv.one
  obtain ⟨z, its, n, r, hl, e⟩ := I.lstM hH
  refine call_meets F.slot_list_append ⟨_, e, rfl⟩ F.entry_list_append (F.args_list_append_2 _ _) (PySem.list_append l its.toArray n u (by rw [List.size_toArray]; omega)) ⟨e, ?_⟩
  refine ⟨.non, _, I.lset (its' := its ++ [u]) hH e (by simp) (r.append (.cons ru .nil)) ?_, rfl, q⟩
  rw [List.length_append, List.length_singleton]
  omega
def rCat : R2 := fun x y H Q => ∃ l b xs zs, x = .ref l ∧ y = .ref b ∧ H l = some (.lst xs) ∧ H b = some (.lst zs) ∧ xs.length + zs.length ≤ sizeLine ∧ ∀ p, H p = none → Q (.ref p) (upd H p (.lst (xs ++ zs)))
theorem op_cat : OpR X (binaryOp .Add) rCat := by
  intro pins s σ H x y v u Q I rx ry h
  obtain ⟨l, b, xs, zs, rfl, rfl, hH, hB, hz, q⟩ := h
  cases rx
  cases ry
  obtain ⟨z, its, n, r, hl, e⟩ := I.lstM hH
  obtain ⟨z2, its2, n2, r2, hl2, e2⟩ := I.lstM hB
  refine PySem.P.add_list e e2 ?_ (by rw [List.size_toArray, List.size_toArray]; omega)
  have ea : its.toArray ++ its2.toArray = (its ++ its2).toArray := by simp
  rw [ea]
  exact ⟨.ref _, _, I.lnew (t' := s.toks) (r.append r2) (by rw [List.length_append]; omega), rfl, q _ I.fresh⟩
end
section
variable {prog : Program} {w : World} {A : Around} {E : Value → Shared → Prop} {s : Shared}
end
section
variable {X : Cx}
end
end L2
namespace L2
open PySem PySem.Spec PyProof.Rows
section
variable {κ : Type} [DecidableEq κ]
def valV (kvs : List (κ × V)) (k : κ) : Option V := (kvs.find? fun kv => decide (kv.1 = k)).map (·.2)
def putK (kvs : List (κ × V)) (k : κ) (v : V) : List (κ × V) :=
  if (kvs.any fun kv => decide (kv.1 = k)) = true then kvs.map (fun kv => if kv.1 = k then (kv.1, v) else kv) else kvs ++ [(k, v)]
theorem valV_pos {p : κ × V} {r : List (κ × V)} {k : κ} (e : p.1 = k) : valV (p :: r) k = some p.2 := by simp [valV, List.find?_cons, e]
theorem valV_neg {p : κ × V} {r : List (κ × V)} {k : κ} (e : ¬ p.1 = k) : valV (p :: r) k = valV r k := by simp [valV, List.find?_cons, e]
theorem valV_any (k : κ) : ∀ kvs : List (κ × V), (kvs.any fun kv => decide (kv.1 = k)) = (valV kvs k).isSome
  | [] => rfl
  | p :: r => by
    rw [List.any_cons]
    by_cases e : p.1 = k
    · simp only [valV_pos e, decide_eq_true e, Bool.true_or, Option.isSome_some]
    · rw [valV_neg e, decide_eq_false e, Bool.false_or]; exact valV_any k r
theorem valV_map (k j : κ) (y : V) : ∀ kvs : List (κ × V), valV (kvs.map fun kv => if kv.1 = k then (kv.1, y) else kv) j = (valV kvs j).map fun x => if j = k then y else x
  | [] => rfl
  | p :: r => by
    have ih := valV_map k j y r
    rw [List.map_cons]
    by_cases h : p.1 = k
    · rw [if_pos h]
      by_cases e : p.1 = j
      · rw [valV_pos (p := (p.1, y)) e, valV_pos e, Option.map_some, if_pos (e.symm.trans h)]
      · rw [valV_neg (p := (p.1, y)) e, valV_neg e, ih]
    · rw [if_neg h]
      by_cases e : p.1 = j
      · rw [valV_pos (p := p) e, valV_pos e, Option.map_some, if_neg (fun z => h (e.trans z))]
      · rw [valV_neg (p := p) e, valV_neg e, ih]
theorem valV_snoc (k j : κ) (y : V) : ∀ kvs : List (κ × V), valV kvs k = none → valV (kvs ++ [(k, y)]) j = if j = k then some y else valV kvs j
  | [], _ => by
    by_cases e : k = j
    · rw [if_pos e.symm]; exact valV_pos (p := (k, y)) e
    · rw [if_neg (fun z => e z.symm)]; exact valV_neg (p := (k, y)) e
  | p :: r, hn => by
    rw [List.cons_append]
    have hk : ¬ p.1 = k := fun z => by rw [valV_pos z] at hn; cases hn
    rw [valV_neg hk] at hn
    have ih := valV_snoc k j y r hn
    by_cases e : p.1 = j
    · rw [valV_pos e, valV_pos e, if_neg (fun z => hk (e.trans z))]
    · rw [valV_neg e, valV_neg e, ih]
theorem valV_put (kvs : List (κ × V)) (k j : κ) (y : V) : valV (putK kvs k y) j = if j = k then some y else valV kvs j := by
  unfold putK
  by_cases a : (kvs.any fun kv => decide (kv.1 = k)) = true
  · rw [if_pos a, valV_map]
    rw [valV_any] at a
    by_cases e : j = k
    · obtain ⟨x, hx⟩ := Option.isSome_iff_exists.mp a
      rw [if_pos e, e, hx, Option.map_some, if_pos rfl]
    · rw [if_neg e]
      cases valV kvs j with
      | none => rfl
      | some x => rw [Option.map_some, if_neg e]
  · rw [if_neg a]
    refine valV_snoc k j y kvs ?_
    rw [valV_any] at a
    cases q : valV kvs k with
    | none => rfl
    | some x => rw [q] at a; exact (a rfl).elim
theorem length_putK (kvs : List (κ × V)) (k : κ) (v : V) : (putK kvs k v).length ≤ kvs.length + 1 := by
  unfold putK
  split
  · rw [List.length_map]; omega
  · rw [List.length_append, List.length_cons, List.length_nil]; omega
theorem RelO.isSome_eq {o : Option V} {u : Option Value} (r : RelO o u) : o.isSome = u.isSome := by
  cases o with
  | none => cases u with
    | none => rfl
    | some _ => exact (show False from r).elim
  | some _ => cases u with
    | none => exact (show False from r).elim
    | some _ => rfl
theorem RelO.getD {o : Option V} {u : Option Value} {d : V} {d' : Value} (r : RelO o u) (rd : RelV d d') : RelV (o.getD d) (u.getD d') := by
  cases o with
  | none => cases u with
    | none => exact rd
    | some _ => exact (show False from r).elim
  | some _ => cases u with
    | none => exact (show False from r).elim
    | some _ => exact r
theorem KV.val {kvs : List (κ × V)} {vs : List (κ × Value)} (r : KV kvs vs) (k : κ) : RelO (valV kvs k) (valueAt vs k) := by
  unfold KV at r
  induction r with
  | nil => exact True.intro
  | @cons p q ps qs h t ih =>
    obtain ⟨h1, h2⟩ := h
    by_cases e : p.1 = k
    · have e' : q.1 = k := h1.symm.trans e
      have b : valueAt (q :: qs) k = some q.2 := by simp [valueAt, List.find?_cons, e']
      rw [valV_pos e, b]; exact h2
    · have e' : ¬ q.1 = k := fun z => e (h1.trans z)
      have b : valueAt (q :: qs) k = valueAt qs k := by simp [valueAt, List.find?_cons, e']
      rw [valV_neg e, b]; exact ih
theorem KV.any {kvs : List (κ × V)} {vs : List (κ × Value)} (r : KV kvs vs) (k : κ) : (kvs.any fun kv => decide (kv.1 = k)) = vs.any fun kv => decide (kv.1 = k) := by
  unfold KV at r
  induction r with
  | nil => rfl
  | cons h t ih => rw [List.any_cons, List.any_cons, ih, h.1]
theorem KV.repl {kvs : List (κ × V)} {vs : List (κ × Value)} (r : KV kvs vs) (k : κ) {y : V} {u : Value} (ry : RelV y u) :
    KV (kvs.map fun kv => if kv.1 = k then (kv.1, y) else kv) (vs.map fun kv => if kv.1 = k then (kv.1, u) else kv) := by
  unfold KV at r ⊢
  induction r with
  | nil => exact .nil
  | @cons p q ps qs h t ih =>
    rw [List.map_cons, List.map_cons]
    refine .cons ?_ ih
    obtain ⟨h1, h2⟩ := h
    by_cases e : p.1 = k
    · rw [if_pos e, if_pos (h1.symm.trans e)]; exact ⟨h1, ry⟩
    · rw [if_neg e, if_neg (fun z => e (h1.trans z))]; exact ⟨h1, h2⟩
theorem KV.put {kvs : List (κ × V)} {vs : List (κ × Value)} (r : KV kvs vs) (k : κ) {y : V} {u : Value} (ry : RelV y u) : KV (putK kvs k y) (stored vs k u) := by
  unfold putK stored
  rw [r.any k]
  by_cases e : (vs.any fun kv => decide (kv.1 = k)) = true
  · rw [if_pos e, if_pos e]; exact r.repl k ry
  · rw [if_neg e, if_neg e]; exact Paired.snoc r ⟨rfl, ry⟩
theorem KV.length {kvs : List (κ × V)} {vs : List (κ × Value)} (r : KV kvs vs) : kvs.length = vs.length := Paired.length r
end
theorem kV_is {P : Program} {w : World} {k : Key} {u : Value} (r : RelV (kV k) u) : (mixKind P w).is k u = true := by
  cases k with
  | inl i => obtain ⟨t, e⟩ := (show ∃ t, u = Value.int i t from r); subst e; exact mixKind_int P w i t
  | inr x => obtain ⟨t, e⟩ := (show ∃ t, u = Value.str x t from r); subst e; exact mixKind_str P w x t
theorem items_are {P : Program} {w : World} : ∀ {ks : List Key} {us : List Value}, Vals (ks.map kV) us → ItemsAre (mixKind P w) ks us
  | [], _, r => by rw [List.map_nil] at r; cases r; exact .nil
  | k :: ks, _, r => by
    rw [List.map_cons] at r
    cases r with
    | cons h t => exact .cons (kV_is h) (items_are t)
abbrev KT (H : Hp) : List (List Key × V) → List (List Key × Addr × Value) → Prop := Paired fun p q => p.1 = q.1 ∧ H q.2.1 = some (.tup (p.1.map kV)) ∧ RelV p.2 q.2.2
theorem KT.val {H : Hp} {kvs : List (List Key × V)} {xs : List (List Key × Addr × Value)} (r : KT H kvs xs) (k : List Key) : RelO (valV kvs k) ((atKey xs k).map (·.2)) := by
  induction r with
  | nil => exact True.intro
  | @cons p q ps qs h t ih =>
    obtain ⟨h1, _, h2⟩ := h
    by_cases e : p.1 = k
    · have e' : q.1 = k := h1.symm.trans e
      have b : atKey (q :: qs) k = some q.2 := by simp [atKey, List.find?_cons, e']
      rw [valV_pos e, b]; exact h2
    · have e' : ¬ q.1 = k := fun z => e (h1.trans z)
      have b : atKey (q :: qs) k = atKey qs k := by simp [atKey, List.find?_cons, e']
      rw [valV_neg e, b]; exact ih
theorem KT.repl {H : Hp} {kvs : List (List Key × V)} {xs : List (List Key × Addr × Value)} (r : KT H kvs xs) (k : List Key) {y : V} {u : Value} (ry : RelV y u) :
    KT H (kvs.map fun kv => if kv.1 = k then (kv.1, y) else kv) (xs.map (putAt k u)) := by
  induction r with
  | nil => exact .nil
  | @cons p q ps qs h t ih =>
    rw [List.map_cons, List.map_cons]
    refine .cons ?_ ih
    obtain ⟨h1, h2, h3⟩ := h
    unfold putAt
    by_cases e : p.1 = k
    · rw [if_pos e, if_pos (h1.symm.trans e)]; exact ⟨h1, h2, ry⟩
    · rw [if_neg e, if_neg (fun z => e (h1.trans z))]; exact ⟨h1, h2, h3⟩
theorem KT.put {H : Hp} {kvs : List (List Key × V)} {xs : List (List Key × Addr × Value)} (r : KT H kvs xs) (k : List Key) {b : Addr} {y : V} {u : Value} (hb : H b = some (.tup (k.map kV))) (ry : RelV y u) :
    KT H (putK kvs k y) (storedH xs k b u) := by
  have e : (kvs.any fun kv => decide (kv.1 = k)) = (atKey xs k).isSome := by
    rw [valV_any, (r.val k).isSome_eq, Option.isSome_map]
  unfold putK storedH
  rw [e]
  by_cases q : (atKey xs k).isSome = true
  · rw [if_pos q, if_pos q]; exact r.repl k ry
  · rw [if_neg q, if_neg q]; exact Paired.snoc r ⟨rfl, hb, ry⟩
theorem KT.keeps {H H' : Hp} {kvs : List (List Key × V)} {xs : List (List Key × Addr × Value)} (r : KT H kvs xs) (ht : ∀ b ys, H b = some (.tup ys) → H' b = some (.tup ys)) : KT H' kvs xs :=
  Paired.mapP r fun _ _ z => ⟨z.1, ht _ _ z.2.1, z.2.2⟩
section
variable {P : Program} {w : World} {H : Hp} {h : Heap} {a : Addr}
theorem rd_of {u : HO} (ok : HOk P w H h) (e : Rd H a u) : ObjOk P w H h a u := e.ok ok
theorem dk_rd {kvs : List (Key × V)} (ok : HOk P w H h) (e : Rd H a (.dK kvs)) : kvs.length ≤ sizeLine ∧ (a == sysModules) = false ∧ ∃ vs, KV kvs vs ∧ h.DictOf (mixKind P w) a vs :=
  show ObjOk P w H h a (.dK kvs) from rd_of ok e
theorem dk_of {kvs : List (Key × V)} (ok : HOk P w H h) (e : H a = some (.dK kvs)) : kvs.length ≤ sizeLine ∧ (a == sysModules) = false ∧ ∃ vs, KV kvs vs ∧ h.DictOf (mixKind P w) a vs := dk_rd ok (.inl e)
theorem key_of {ks : List Key} (ok : HOk P w H h) (e : H a = some (.tup (ks.map kV))) : (tupleKind (mixKind P w)).is h ks a := by
  obtain ⟨_, its, r, o, h1, h2, n, h3⟩ := (show ObjOk P w H h a (.tup (ks.map kV)) from ok a _ e)
  exact ⟨o, its.toArray, n, h1, h2, h3, by simpa using items_are r⟩
theorem dt_rd {kvs : List (List Key × V)} (ok : HOk P w H h) (e : Rd H a (.dT kvs)) : kvs.length ≤ sizeLine ∧ (a == sysModules) = false ∧
    ∃ xs, KT H kvs xs ∧ h.DictOfH (tupleKind (mixKind P w)) a xs := by
  obtain ⟨z, y, xs, r, o, es, ep, h1, h2, h3, h4, h5⟩ := (show ObjOk P w H h a (.dT kvs) from rd_of ok e)
  refine ⟨z, y, xs, r, o, es, ep, h1, h2, h3, h4, fun x hx => ?_, h5⟩
  have all : ∀ {l : List (List Key × V)} {m : List (List Key × Addr × Value)}, KT H l m → ∀ x ∈ m, (tupleKind (mixKind P w)).is h x.1 x.2.1 := by
    intro l m q
    induction q with
    | nil => intro x hx; exact nomatch hx
    | @cons p q ps qs hq t ih =>
      intro x hx
      rcases List.mem_cons.mp hx with e | hx
      · subst e
        exact key_of ok (by rw [← hq.1]; exact hq.2.1)
      · exact ih x hx
  exact all r x hx
theorem dt_of {kvs : List (List Key × V)} (ok : HOk P w H h) (e : H a = some (.dT kvs)) : kvs.length ≤ sizeLine ∧ (a == sysModules) = false ∧
    ∃ xs, KT H kvs xs ∧ h.DictOfH (tupleKind (mixKind P w)) a xs := dt_rd ok (.inl e)
end
def DGet (H : Hp) (a : Addr) (y : V) (r : Option V) : Prop :=
  (∃ kvs k, Rd H a (.dK kvs) ∧ y = kV k ∧ r = valV kvs k) ∨ ∃ kvs k b, Rd H a (.dT kvs) ∧ y = .ref b ∧ H b = some (.tup (k.map kV)) ∧ r = valV kvs k
def DPut (H : Hp) (a : Addr) (y v : V) (H' : Hp) : Prop :=
  (∃ kvs k, H a = some (.dK kvs) ∧ y = kV k ∧ kvs.length < sizeLine ∧ H' = upd H a (.dK (putK kvs k v))) ∨
  ∃ kvs k b, H a = some (.dT kvs) ∧ y = .ref b ∧ H b = some (.tup (k.map kV)) ∧ kvs.length < sizeLine ∧ H' = upd H a (.dT (putK kvs k v))
theorem DPut.t {H : Hp} {a b : Addr} {kvs : List (List Key × V)} {k : List Key} {v : V} (e : H a = some (.dT kvs)) (eb : H b = some (.tup (k.map kV))) (hl : kvs.length < sizeLine) :
    DPut H a (.ref b) v (upd H a (.dT (putK kvs k v))) := .inr ⟨kvs, k, b, e, rfl, eb, hl, rfl⟩
section
variable {X : Cx} {pins : List (Addr × Obj)} {σ : St} {H : Hp} {s : Shared} {a : Addr} {y v : V} {u r : Value} {o : Option V} {A : Around} {E : Value → Shared → Prop}
theorem Inv.big (I : Inv X pins σ H s) : sysModules < s.heap.objs.size := by
  have h : mainGlobals < s.heap.objs.size := (I.mod.glob.keeps I.bk).lt
  exact Nat.lt_trans (by decide) h
theorem d_in {Q : Value → Shared → Prop} (hu : A.units + 1 < cLine) (I : Inv X pins σ H s) (g : DGet H a y o) (ry : RelV y u) (h : ∀ s', Inv X pins σ H s' → Q (.bool o.isSome) s') :
    wpAny (model X.prog X.w) A (compareOp .In u (.ref a)) Q E s := by
  rcases g with ⟨kvs, k, e, ey, l⟩ | ⟨kvs, k, b, e, ey, eb, l⟩
  · subst ey
    obtain ⟨z, hd, vs, rel, dd⟩ := dk_rd I.hok e
    refine wpAny_in_of (kV_is ry) hd dd.mapOf ?_
    rw [← (rel.val k).isSome_eq, ← l]
    exact h _ (I.tok _)
  · subst ey
    cases (show u = Value.ref b from ry)
    obtain ⟨z, hd, xs, rel, dd⟩ := dt_rd I.hok e
    refine wpAny_in_heap (tupleKind_room_in1 hu) (key_of I.hok eb) hd dd ?_
    have q := (rel.val k).isSome_eq
    rw [Option.isSome_map] at q
    rw [← q, ← l]
    exact h _ (I.tok _)
theorem d_notIn {Q : Value → Shared → Prop} (hu : A.units + 1 < cLine) (I : Inv X pins σ H s) (g : DGet H a y o) (ry : RelV y u) (h : ∀ s', Inv X pins σ H s' → Q (.bool (!o.isSome)) s') :
    wpAny (model X.prog X.w) A (compareOp .NotIn u (.ref a)) Q E s := by
  rcases g with ⟨kvs, k, e, ey, l⟩ | ⟨kvs, k, b, e, ey, eb, l⟩
  · subst ey
    obtain ⟨z, hd, vs, rel, dd⟩ := dk_rd I.hok e
    refine wpAny_notIn_of (kV_is ry) hd dd.mapOf ?_
    rw [← (rel.val k).isSome_eq, ← l]
    exact h _ (I.tok _)
  · subst ey
    cases (show u = Value.ref b from ry)
    obtain ⟨z, hd, xs, rel, dd⟩ := dt_rd I.hok e
    refine wpAny_notIn_heap (tupleKind_room_in1 hu) (key_of I.hok eb) hd dd ?_
    have q := (rel.val k).isSome_eq
    rw [Option.isSome_map] at q
    rw [← q, ← l]
    exact h _ (I.tok _)
theorem d_write {h' : Heap} {t' : Nat} {ob : HO} (I : Inv X pins σ H s) (mu : Mut (H a)) (hs : Heap.SameBut a s.heap h') (he : ∃ q, h'.get? a = some q) (new : ObjOk X.prog X.w (upd H a ob) h' a ob) :
    Inv X pins σ (upd H a ob) { s with heap := h', toks := t' } :=
  I.write (x := a) (e := a) mu (.inl rfl) (fun b q hb z => (hs.2 b hb).trans z) he new
theorem dk_new {P : Program} {w : World} {H' : Hp} {h' : Heap} {kvs : List (Key × V)} {vs : List (Key × Value)} (z : kvs.length ≤ sizeLine) (hd : (a == sysModules) = false) (rel : KV kvs vs) (dd : h'.DictOf (mixKind P w) a vs) :
    ObjOk P w H' h' a (.dK kvs) := ⟨z, hd, vs, rel, dd⟩
theorem d_setItem {H' : Hp} {Q : Unit → Shared → Prop} (hu : A.units + 1 < cLine) (I : Inv X pins σ H s) (g : DPut H a y v H') (ry : RelV y u) (rv : RelV v r) (h : ∀ s', Inv X pins σ H' s' → Q () s') :
    wpAny (model X.prog X.w) A (setItem (.ref a) u r) Q E s := by
  rcases g with ⟨kvs, k, e, ey, l, eH⟩ | ⟨kvs, k, b, e, ey, eb, l, eH⟩
  · subst ey eH
    obtain ⟨z, hd, vs, rel, dd⟩ := dk_of I.hok e
    have hz : vs.length ≤ sizeLine := by rw [← rel.length]; exact z
    have hl : (putK kvs k v).length ≤ sizeLine := by have := length_putK kvs k v; omega
    refine wpAny_setItem_pairs (hsz := hz) (kV_is ry) dd fun h' dd' hs => h _ ?_
    have he : ∃ q, h'.get? a = some q := let ⟨q, _, _, hq, _⟩ := dd'; ⟨q, hq⟩
    exact d_write I (by rw [e]; exact True.intro) hs he (dk_new hl hd (rel.put k rv) dd')
  · subst ey eH
    cases (show u = Value.ref b from ry)
    obtain ⟨z, hd, xs, rel, dd⟩ := dt_of I.hok e
    have hz : xs.length ≤ sizeLine := by rw [← Paired.length rel]; exact z
    have hl : (putK kvs k v).length ≤ sizeLine := by have := length_putK kvs k v; omega
    refine wpAny_setItem_heap (hsz := hz) (tupleKind_room_in1 hu) (key_of I.hok eb) dd fun h' dd' hs => h _ ?_
    obtain ⟨q, es, ep, hq, h2, h3, h4, _, h5⟩ := dd'
    refine d_write I (by rw [e]; exact True.intro) hs ⟨q, hq⟩ ⟨hl, hd, _, (rel.put k eb rv).keeps fun c ys ec => ?_, q, es, ep, hq, h2, h3, h4, h5⟩
    rw [upd_ne (ne_of ec e (fun z => nomatch z))]
    exact ec
end
section
variable {X : Cx} {pins : List (Addr × Obj)} {σ : St} {H : Hp} {s : Shared} {a : Addr} {kvs : List (Key × V)} {k : Key} {u : Value} {A : Around} {E : Value → Shared → Prop}
end
def tDIn (ty td : TE) : TE := fun σ H Q => ty σ H fun y H1 => td σ H1 fun x H2 => ∃ a o, x = .ref a ∧ DGet H2 a y o ∧ Q (.bl o.isSome) H2
def tDNotIn (ty td : TE) : TE := fun σ H Q => ty σ H fun y H1 => td σ H1 fun x H2 => ∃ a o, x = .ref a ∧ DGet H2 a y o ∧ Q (.bl (!o.isSome)) H2
def sDPut (td ty tv : TE) : TS := fun D σ H => tv σ H fun v H1 => td σ H1 fun x H2 => ty σ H2 fun y H3 => ∃ a H4, x = .ref a ∧ DPut H3 a y v H4 ∧ D.nx σ H4
section
variable {X : Cx} {o i e value : Expr} {pos pos' tpos : Pos} {td ty tv : TE}
theorem pc_din (hu : X.A.units + 1 < cLine) (hi : PE X i ty) (ho : PE X o td) : PC X .In i o (tDIn ty td) := by
  intro pins s σ H Q I h
  refine thn (hi pins s σ H _ I h) fun iv s1 ⟨y, H1, I1, ry, q1⟩ => thn (ho pins s1 σ H1 _ I1 q1) fun u s2 ⟨x, H2, I2, rx, a, ov, ex, g, q2⟩ => ?_
  subst ex
  obtain rfl : u = Value.ref a := rx
  exact d_in hu I2 g ry fun s3 I3 => ⟨.bl ov.isSome, H2, I3, rfl, q2⟩
theorem pc_dnotin (hu : X.A.units + 1 < cLine) (hi : PE X i ty) (ho : PE X o td) : PC X .NotIn i o (tDNotIn ty td) := by
  intro pins s σ H Q I h
  refine thn (hi pins s σ H _ I h) fun iv s1 ⟨y, H1, I1, ry, q1⟩ => thn (ho pins s1 σ H1 _ I1 q1) fun u s2 ⟨x, H2, I2, rx, a, ov, ex, g, q2⟩ => ?_
  subst ex
  obtain rfl : u = Value.ref a := rx
  exact d_notIn hu I2 g ry fun s3 I3 => ⟨.bl (!ov.isSome), H2, I3, rfl, q2⟩
theorem ps_dput (hu : X.A.units + 1 < cLine) (ho : PE X o td) (hi : PE X i ty) (hv : PE X value tv) (hs : swapsWith value (some (.Subscript o i pos')) pos.line X.env = pure false) :
    PS X (.Assign [.Subscript o i pos'] value pos) (sDPut td ty tv) := by
  intro pins s σ H D I h
  refine wpAny_Assign_Subscript (thn (hv pins s σ H _ I h) fun r s1 ⟨v, H1, I1, rv, q1⟩ => thn (ho pins s1 σ H1 _ I1 q1) fun u s2 ⟨x, H2, I2, rx, q2⟩ => thn (hi pins s2 σ H2 _ I2 q2) fun iv s3 ⟨y, H3, I3, ry, a, H4, ex, g, q3⟩ => ?_) hs
  subst ex
  obtain rfl : u = Value.ref a := rx
  exact d_setItem hu I3 g ry rv fun s4 I4 => ⟨σ, H4, I4, q3⟩
end
theorem dt_empty {P : Program} {w : World} {H : Hp} (h : Heap) (hb : sysModules < h.objs.size) : ObjOk P w H (h.push { cls := .type "dict", data := .dict #[] }) h.objs.size (.dT []) :=
  ⟨Nat.zero_le _, beq_eq_false_iff_ne.mpr (Ne.symm (Nat.ne_of_lt hb)), [], .nil, _, #[], 0, Heap.get?_push_size _ rfl, ⟨rfl, rfl, rfl⟩, rfl, rfl, List.nodup_nil⟩
def tDNewT : TE := fun _ H Q => ∀ p, H p = none → Q (.ref p) (upd H p (.dT []))
section
variable {X : Cx} {pos : Pos}
theorem pe_dnewT : PE X (.Dict [] [] pos) tDNewT := fun pins s σ H Q I h =>
  wpAny_Dict_empty ⟨.ref s.heap.objs.size, _, I.laid (a := s.heap.objs.size) (o := .dT []) (t' := s.toks) (fun _ _ q => Heap.get?_push_of_some _ q) (Nat.le_refl _) (dt_empty s.heap I.big), rfl, h _ (I.hok.fresh (Nat.le_refl _))⟩
end
def tPairs : List (TE × TE) → St → Hp → (List (V × V) → Hp → Prop) → Prop
  | [], _, H, Q => Q [] H
  | (tk, tv) :: r, σ, H, Q => tk σ H fun x H1 => tv σ H1 fun y H2 => tPairs r σ H2 fun ps H3 => Q ((x, y) :: ps) H3
abbrev VV : List (V × V) → List (Value × Value) → Prop := Paired fun p q => RelV p.1 q.1 ∧ RelV p.2 q.2
def PPs (X : Cx) (pos : Pos) (keys : List (Option Expr)) (values : List Expr) (trs : List (TE × TE)) : Prop :=
  ∀ (pins : List (Addr × Obj)) (s : Shared) (σ : St) (H : Hp) (Q : List (V × V) → Hp → Prop), Inv X pins σ H s → tPairs trs σ H Q →
    wpAny (model X.prog X.w) X.A (evalPairs (pairTrees keys values X.env pos)) (fun vs s' => ∃ ps H', Inv X pins σ H' s' ∧ VV ps vs ∧ Q ps H') X.xe s
structure M1 (X : Cx) (o : Expr) (m : Str) (apos : Pos) (e : Expr) (cpos : Pos) : Prop where
  base : attributeBase o m X.env (eval o X.env) = eval o X.env
  few : ((backTo cpos (starEach [e] X.env)).all (fun x => !x.1) && (backToKw cpos (keywordEach [] X.env)).all (fun x => x.1.isSome)
    && decide (([e] : List Expr).length + ([] : List Keyword).length + (if ([] : List Keyword).isEmpty then 0 else 1) < 30)) = true
  line : (apos.endLine == cpos.line) = true
  trees : backTo cpos (starEach [e] X.env) = [(false, eval e X.env)]
structure M2 (X : Cx) (o : Expr) (m : Str) (apos : Pos) (e f : Expr) (cpos : Pos) : Prop where
  base : attributeBase o m X.env (eval o X.env) = eval o X.env
  few : ((backTo cpos (starEach [e, f] X.env)).all (fun x => !x.1) && (backToKw cpos (keywordEach [] X.env)).all (fun x => x.1.isSome)
    && decide (([e, f] : List Expr).length + ([] : List Keyword).length + (if ([] : List Keyword).isEmpty then 0 else 1) < 30)) = true
  line : (apos.endLine == cpos.line) = true
  trees : backTo cpos (starEach [e, f] X.env) = [(false, eval e X.env), (false, eval f X.env)]
def IsD (H : Hp) (a : Addr) : Prop := (∃ kvs, Rd H a (.dK kvs)) ∨ ∃ kvs, Rd H a (.dT kvs)
theorem isD_at {X : Cx} {pins : List (Addr × Obj)} {σ : St} {H : Hp} {s : Shared} {a : Addr} (I : Inv X pins σ H s) (d : IsD H a) :
    s.TypeIs (.ref a) "dict" ∧ (∀ b, Value.ref a = .ref b → ∃ ob, s.heap.get? b = some ob ∧ ob.dict = none) ∧ (a == sysModules) = false := by
  rcases d with ⟨kvs, e⟩ | ⟨kvs, e⟩
  · obtain ⟨_, hd, vs, _, dd⟩ := dk_rd I.hok e
    refine ⟨dd.typeIs, fun b q => ?_, hd⟩
    cases q
    obtain ⟨ob, _, _, h1, h2, _⟩ := dd
    exact ⟨ob, h1, h2.2.1⟩
  · obtain ⟨_, hd, xs, _, dd⟩ := dt_rd I.hok e
    refine ⟨dd.typeIs, fun b q => ?_, hd⟩
    cases q
    obtain ⟨ob, _, _, h1, h2, _⟩ := dd
    exact ⟨ob, h1, h2.2.1⟩
section
variable {X : Cx} {pins : List (Addr × Obj)} {σ : St} {H : Hp} {s : Shared} {a : Addr} {y d : V} {u r : Value} {o : Option V} {A : Around} {E : Value → Shared → Prop}
theorem d_get2 {Q : Value → Shared → Prop} (hu : A.units + 1 < cLine) (I : Inv X pins σ H s) (g : DGet H a y o) (ry : RelV y u) (rd : RelV d r) (h : ∀ w' s', Inv X pins σ H s' → RelV (o.getD d) w' → Q w' s') :
    wpAny (model X.prog X.w) A (call (.builtin "dict.get") [.ref a, u, r]) Q E s := by
  rcases g with ⟨kvs, k, e, ey, l⟩ | ⟨kvs, k, b, e, ey, eb, l⟩
  · subst ey
    obtain ⟨z, hd, vs, rel, dd⟩ := dk_rd I.hok e
    refine call_meetsIn PySem.F.slot_dict_get dd.typeIs PySem.F.entry_dict_get (PySem.F.args_dict_get_3 _ _ _) (meets_dict_get_default (mixKind X.prog X.w) a (kV_is ry) hd r) ⟨_, dd.mapOf, h _ _ (I.tok _) ?_⟩
    rw [l]
    exact (rel.val k).getD rd
  · subst ey
    cases (show u = Value.ref b from ry)
    obtain ⟨z, hd, xs, rel, dd⟩ := dt_rd I.hok e
    refine call_meetsIn PySem.F.slot_dict_get dd.typeIs PySem.F.entry_dict_get (PySem.F.args_dict_get_3 _ _ _) (meetsH_dict_get_default (tupleKind (mixKind X.prog X.w)) a b hd r) ⟨tupleKind_room_in1 hu, k, xs, key_of I.hok eb, dd, h _ _ (I.tok _) ?_⟩
    rw [l]
    exact (rel.val k).getD rd
end
def tDGet2 (td ty tx : TE) : TE := fun σ H Q => td σ H fun x H1 => ∃ a, x = .ref a ∧ IsD H1 a ∧ ty σ H1 fun y H2 => tx σ H2 fun z H3 => ∃ o, DGet H3 a y o ∧ Q (o.getD z) H3
section
variable {X : Cx} {o e f : Expr} {apos cpos : Pos} {td ty tx : TE}
theorem pe_dget2 (hu : X.A.units + 1 < cLine) (ho : PE X o td) (he : PE X e ty) (hf : PE X f tx) (m : M2 X o "get" apos e f cpos) : PE X (.Call (.Attribute o "get" apos) [e, f] [] cpos) (tDGet2 td ty tx) := by
  intro pins s σ H Q I h
  refine wpAny_Call_method m.base m.few m.line PySem.F.plainAttrs_dict PySem.F.slot_dict_get PySem.F.type_dict_get (thn (ho pins s σ H _ I h) fun u s1 ⟨x, H1, I1, rx, a, ex, d, q1⟩ => ?_)
  subst ex
  obtain rfl : u = Value.ref a := rx
  obtain ⟨t1, t2, _⟩ := isD_at I1 d
  refine ⟨t1, t2, ?_⟩
  rw [m.trees]
  refine Calls.callWith_builtin rfl (Calls.evalArgs_plain (Calls.spliced_cons (thn (he pins s1 σ H1 _ I1 q1) fun iv s2 ⟨y, H2, I2, ry, q2⟩ =>
    Calls.spliced_cons (thn (hf pins s2 σ H2 _ I2 q2) fun fv s3 ⟨z, H3, I3, rz, ov, g, q3⟩ => Calls.spliced_nil ?_))))
  exact d_get2 hu I3 g ry rz fun w' s4 I4 rw' => ⟨_, H3, I4, rw', q3⟩
end
section
variable {X : Cx} {pins : List (Addr × Obj)} {σ : St} {H : Hp} {s : Shared} {a : Addr} {kvs : List (Key × V)} {A : Around} {E : Value → Shared → Prop}
end
section
variable {X : Cx} {pins : List (Addr × Obj)} {σ : St} {H : Hp} {s : Shared} {a : Addr} {y : V} {u : Value} {A : Around} {E : Value → Shared → Prop}
end
end L2
namespace Att
open PySem PySem.W PySem.Calls PyProof.Rows
theorem ints_of_wellAll {P : Params} {h : Heap} : ∀ (ns : List Int) (vs : List Value), WellAll P h vs (ns.map WData.int) → IntsAre vs ns := by
  intro ns
  induction ns with
  | nil =>
    intro vs w
    rw [List.map_nil] at w
    cases w
    exact .nil
  | cons n ns ih =>
    intro vs w
    rw [List.map_cons] at w
    cases w with
    | cons a b =>
      cases a
      exact .cons _ _ (ih _ b)
theorem script_of {l : OpenLaw} {n : Nat} (hn : l.most = some n) {P : Params} {h : Heap} {args : List WData} {vals : List Value}
    (hpre : l.row.toRowW.claim.pre args = true) (hwl : WellAll P h vals args) :
    ∃ a vs ns, vals = [Value.ref a] ∧ args = [WData.list (ns.map WData.int)] ∧ h.get? a = some { cls := .type "list", data := .seq vs.toArray } ∧ IntsAre vs ns ∧ ns.length ≤ n := by
  have hsh : WShape.hasAll [] args [.list .int] = true := (pre_splitW hpre).1
  have hc : l.pre.holds [] { args := args } = true := (pre_splitW hpre).2
  obtain ⟨d, r, rfl, h1, h2⟩ := hasAllW_cons hsh
  obtain rfl := hasAllW_nil h2
  obtain ⟨xs, rfl, h3⟩ := hasW_list h1
  obtain ⟨ns, rfl⟩ := items_int h3
  have hlen : ns.length ≤ n := by
    unfold OpenLaw.pre at hc
    have h4 : (WTm.not (.lt (.lit (.int (n : Int))) (.len (.arg 0)))).holds [] { args := [.list (ns.map .int)] } = true := by
      have h4 := (holds_andW hc).1
      rw [hn] at h4
      exact h4
    have h5 := condW_of h4 (w_not (w_lt w_lit (w_len_list (w_arg rfl))))
    rw [List.length_map] at h5
    refine Nat.le_of_not_lt fun q => ?_
    have q' : (n : Int) < ((ns.length : Nat) : Int) := by omega
    first
      | (rw [decide_eq_true q'] at h5; exact absurd h5 (by decide))
      | (simp at h5; omega)
  cases hwl with
  | cons w1 w2 =>
    cases w2
    cases w1 with
    | list ho hall => exact ⟨_, _, ns, rfl, rfl, ho, ints_of_wellAll ns _ hall, hlen⟩
theorem post_true (l : OpenLaw) (args : List WData) : l.row.toRowW.claim.post args (.bool true) args = true :=
  postW_of (r := l.row.toRowW) (X := (true == true))
    (show WShape.has [] (.bool true) .bool = true by first | rfl | decide | simp [WShape.has, WShape.arms, WShape.armsAll])
    (show (WTm.eq .res (.lit (.bool true))).value [] { args := args, res := some (.bool true), after := args } = some (.bool (true == true)) from w_eq_bool (w_res rfl) w_lit) rfl
theorem attach_call {l : OpenLaw} {n : Nat} {q : Program} {loose : List Str} {XP : (Str → Option Value) → Heap → Prop} {YP : World → Heap → Prop} {d : DefRec}
    (hn : l.most = some n) (hdf : d.params.defaults = [])
    (call : ∀ (w : World) (s₀ s₁ : Shared) (mg mb : Str → Option Value) (fa : Addr) (o : Obj) (pm cd doc : Value) (a : Addr) (vs : List Value) (ns : List Int),
      Ground q loose [] XP w s₀ mg mb s₁.heap → YP w s₁.heap →
      s₁.heap.get? fa = some o → o.data = .func (docDef d.name d.params d.body d.scope pm cd doc) → s₁.heap.CodeRec cd d.name → mg d.name = some (.ref fa) →
      s₁.heap.get? a = some { cls := .type "list", data := .seq vs.toArray } → IntsAre vs ns → ns.length ≤ n → s₁.gens = #[] →
      codeAny (model l.prog w) callerA (.call (.ref fa) ⟨[.ref a], []⟩) (fun r s' => r = .ok (.ret (.bool true)) ∧ OldK s₁.heap s'.heap ∧ s'.os = s₁.os ∧ AllBare s'.gens) s₁) :
    WalkO q loose XP YP l.row.toRowW d [] (fun f vs => PySem.call f vs) := by
  intro w s₀ s₁ mg mb G Y fa o pm cd doc dV kV ho hd hcd hD hmg hg args vals as hpre hlay hrd hwl hlo
  obtain rfl : dV = .none := Dflts.none hD hdf
  obtain rfl : kV = .none := Dflts.noKw hD
  obtain ⟨a, vs, ns, rfl, rfl, hobj, hints, hlen⟩ := script_of hn hpre hwl
  refine enter_call (codeAny_mono (call w s₀ s₁ mg mb fa o pm cd doc a vs ns G Y ho (fd_plain hd) hcd hmg hobj hints hlen hg) fun r s' hq => ?_)
  obtain ⟨rfl, h2, h3, h4⟩ := hq
  exact ⟨.inl ⟨.bool true, .bool true, [], rfl, fun _ => rfl, .bool true, post_true l _, fun _ => ⟨List.Pairwise.nil, fun _ hm => (nomatch hm)⟩⟩, h2, h3, h4⟩
section
variable {prog : Program} {w : World} {A : Around} {E : Value → Shared → Prop} {s : Shared} {K : Frag}
end
end Att
namespace L2
open PySem PySem.Spec PyProof.Rows
theorem vals_ints : ∀ {vs : List Value} {ns : List Int}, IntsAre vs ns → Vals (ns.map V.int) vs
  | _, _, .nil => .nil
  | _, _, .cons n t h => .cons ⟨t, rfl⟩ (vals_ints h)
def Only (H : Hp) : Prop := ∀ b, H b = none ∨ ∃ o xs, H b = some (.frz o (.lst xs))
theorem law_call {P : Program} {w : World} {K : PySem.W.Frag} {mg mb : Str → Option Value} {CX : CXT} {k : Nat} {fa a : Addr} {fd : FuncData} {x : Str} {sp : Sp} {s₁ : Shared} {vs : List Value} {ns : List Int}
    (KX : K.In s₁.heap) (hns : s₁.heap.Ns mainGlobals mg) (hb : s₁.heap.Ns builtinsNs mb) (hbb : ∀ x : Str, x ≠ "__name__" → mb x = bootBuiltins x) (hlim : s₁.heap.NoLimit) (hg : s₁.gens = #[])
    (ha : s₁.heap.get? a = some { cls := .type "list", data := .seq vs.toArray }) (hi : IntsAre vs ns) (hl : ns.length ≤ sizeLine) (hr : Room k callerA)
    (F : ∀ base : Heap, K.In base → base.Ns mainGlobals mg → FnOk P w K mg base CX k fa fd [x] sp) (hbind : ∀ (s : Shared) (u : Value), BindsTo s fd ⟨[u], []⟩ [(x, u)])
    (hsp : ∀ H : Hp, Only H → SqL K H a (ns.map V.int) → sp [.ref a] H (fun v _ => v = .bl true) fun _ _ _ => False)
    (hCX : ∀ H e s', CX [] H s₁ (fun _ _ _ => False) e s' → False) :
    codeAny (model P w) callerA (.call (.ref fa) ⟨[.ref a], []⟩) (fun r s' => r = .ok (.ret (.bool true)) ∧ OldK s₁.heap s'.heap ∧ s'.os = s₁.os ∧ AllBare s'.gens) s₁ := by
  have rv := vals_ints hi
  have lenV := hi.length
  have core : ∀ H : Hp, Only H → SqL K H a (ns.map V.int) → HOk P w H s₁.heap → (∀ b, H b ≠ none → b = a) → (H a ≠ none → K.lookup a = none) →
      codeAny (model P w) callerA (.call (.ref fa) ⟨[.ref a], []⟩) (fun r s' => r = .ok (.ret (.bool true)) ∧ OldK s₁.heap s'.heap ∧ s'.os = s₁.os ∧ AllBare s'.gens) s₁ := by
    intro H hO hS hok hA hK
    have base_of : ∀ {b : Addr} {o : Obj}, s₁.heap.get? b = some o → H b = none → (hidT s₁.heap H).get? b = some o := fun e n => hidT_get e n
    have noA : ∀ {b : Addr} {o : Obj} {es : Array DictEntry} {ep : Nat}, s₁.heap.get? b = some o → o.data = .dict es ep → H b = none := fun {b o es ep} e d => by
      cases q : H b with
      | none => rfl
      | some u =>
        have e' : b = a := hA b (by rw [q]; simp)
        subst e'
        rw [ha] at e; cases e
        have d' : Data.seq vs.toArray _ = Data.dict es ep := d
        cases d'
    have nsK : ∀ {b : Addr} {m : Str → Option Value}, s₁.heap.Ns b m → (hidT s₁.heap H).Ns b m := fun {b m} ⟨o, es, ep, e, d, r⟩ => ⟨o, es, ep, base_of e (noA e d), d, r⟩
    have hKb : K.In (hidT s₁.heap H) := fun b o e => base_of (KX b o e) (by
      cases q : H b with
      | none => rfl
      | some u =>
        have e' : b = a := hA b (by rw [q]; simp)
        subst e'
        rw [hK (by rw [q]; simp)] at e; cases e)
    have hM : Mod K mg (hidT s₁.heap H) := ⟨hKb, nsK hns, ⟨mb, nsK hb, hbb⟩, let ⟨mc, h1, h2⟩ := hlim; ⟨mc, nsK h1, h2⟩⟩
    have e0 : Env0 P w K mg (hidT s₁.heap H) callerA [] s₁ H := ⟨rfl, hM, fun b o e => of_hidT e, Nat.le_of_eq (hidT_size _ _), trivial, fun b hb => absurd (show b ∈ ([] : List Addr) from hb) (by simp), hok, .of_eq hg⟩
    refine codeAny_mono ((F _ hKb (nsK hns)).run callerA [] s₁ H ⟨[.ref a], []⟩ [.ref a] [.ref a] _ _ hr e0 (hbind s₁ (.ref a)) (.cons rfl .nil) (hsp H hO hS)) fun r s' h => ?_
    cases r with
    | error e => exact (hCX H e s' h).elim
    | ok fl =>
      cases fl with
      | next => exact False.elim h
      | brk => exact False.elim h
      | cont => exact False.elim h
      | ret u =>
        obtain ⟨v, H', os, bare, un, hok', r', q⟩ := h
        have q' : v = .bl true := q
        subst q'
        obtain rfl : u = Value.bool true := r'
        refine ⟨rfl, OldK.of_keep fun b o e => ?_, os, bare⟩
        cases q : H b with
        | none => exact un.keep b o e q (by intro z; exact absurd (show b ∈ ([] : List Addr) from z) (by simp)) (by simp)
        | some u =>
          rcases hO b with z | ⟨ob, xs, z⟩
          · rw [q] at z; cases z
          · have z2 := un.frzs b ob _ z
            obtain ⟨e1, _⟩ := hok b _ z
            obtain ⟨e2, _⟩ := hok' b _ z2
            rw [e] at e1; cases e1
            exact e2
  cases hk : K.lookup a with
  | some o =>
    have e := KX a o hk
    rw [ha] at e
    cases e
    refine core (fun _ => none) (fun _ => .inl rfl) (.inr ⟨_, vs.toArray, _, hk, rfl, rfl, rfl, by rw [List.size_toArray, lenV]; exact hl, by simpa using rv⟩) (fun b u z => by have z' : (none : Option HO) = some u := z; cases z') (fun b z => absurd rfl z) fun z => absurd rfl z
  | none =>
    refine core (fun b => if b = a then some (.frz { cls := .type "list", data := .seq vs.toArray } (.lst (ns.map V.int))) else none) (fun b => ?_) (.inl (.inr ⟨{ cls := .type "list", data := .seq vs.toArray }, if_pos rfl⟩)) (fun b u z => ?_) (fun b z => ?_) fun _ => hk
    · by_cases hb : b = a
      · exact .inr ⟨_, _, if_pos hb⟩
      · exact .inl (if_neg hb)
    · by_cases hb : b = a
      · have z' := (if_pos hb).symm.trans z
        cases z'
        subst hb
        exact ⟨ha, by rw [List.length_map]; exact hl, vs, _, rv, ha⟩
      · have z' := (if_neg hb).symm.trans z
        cases z'
    · by_cases hb : b = a
      · exact hb
      · exact absurd (if_neg hb) z
end L2
namespace L2
open PySem PySem.Spec PyProof.Rows
abbrev KOf {K : PySem.W.Frag} {h : Heap} (_ : K.In h) : PySem.W.Frag := K
theorem walk_of {l : PySem.W.OpenLaw} {n k : Nat} {q : Program} {loose : List Str} {XP : (Str → Option Value) → Heap → Prop} {YP : World → Heap → Prop} {d : DefRec} {K : Params → PySem.W.Frag} {CX : World → CXT} {sp : World → Sp} {x : Str}
    (hn : l.most = some n) (hn2 : n ≤ sizeLine) (hdf : d.params.defaults = []) (hr : Room k callerA)
    (hY : ∀ (w : World) (h : Heap), YP w h → (K w.params).In h)
    (F : ∀ (w : World) (mg : Str → Option Value) (fa : Addr) (h : Heap), (K w.params).In h → h.Ns mainGlobals mg → mg d.name = some (.ref fa) →
      ∃ fd : FuncData, (∀ (s : Shared) (u : Value), BindsTo s fd ⟨[u], []⟩ [(x, u)]) ∧
        ∀ base : Heap, (K w.params).In base → base.Ns mainGlobals mg → FnOk l.prog w (K w.params) mg base (CX w) k fa fd [x] (sp w))
    (hsp : ∀ (w : World) (H : Hp) (a : Addr) (ns : List Int), ns.length ≤ n → Only H → SqL (K w.params) H a (ns.map V.int) → sp w [.ref a] H (fun v _ => v = .bl true) fun _ _ _ => False)
    (hCX : ∀ (w : World) (H : Hp) (s : Shared) (e : Value) (s' : Shared), CX w [] H s (fun _ _ _ => False) e s' → False) :
    PySem.W.WalkO q loose XP YP l.row.toRowW d [] (fun f vs => PySem.call f vs) := by
  refine Att.attach_call hn hdf fun w s₀ s₁ mg mb fa o pm cd doc a vs ns G Y ho hd hcd hmg hobj hints hlen hg => ?_
  have KX := hY w _ Y
  obtain ⟨fd, hb, hF⟩ := F w mg fa _ KX G.T.g hmg
  exact law_call KX G.T.g G.T.b G.T.builtins G.T.nolimit hg hobj hints (Nat.le_trans hlen hn2) hr hF hb (fun H hO hS => hsp w H a ns hlen hO hS) fun H e s' => hCX w H s₁ e s'
end L2
namespace L2
open PySem PySem.Spec PyProof.Rows
def defArgs (s : Stmt) : Arguments := match s with
  | .FunctionDef _ a _ _ _ _ _ _ _ _ => a
  | _ => { posonlyargs := [], args := [], vararg := none, kwonlyargs := [], kw_defaults := [], kwarg := none, defaults := [] }
def defBody (s : Stmt) : List Stmt := match s with
  | .FunctionDef _ _ b _ _ _ _ _ _ _ => b
  | _ => []
def defScope (s : Stmt) : Scope := match s with
  | .FunctionDef _ _ _ _ _ _ sc _ _ _ => sc
  | _ => { kind := .function, names := [], isGenerator := false, isCoroutine := false }
abbrev CX0 : CXT := fun _ _ _ _ _ _ => False
abbrev E0 : XK := fun _ _ _ => False
theorem pass0 {X : Cx} : Passes CX0 X E0 := fun _ _ _ _ _ _ _ h => h.elim
structure Fun (K : PySem.W.Frag) (x qual : Str) (st : Stmt) (f : Addr) (fd : FuncData) : Prop where
  ex : ∃ (oc : Value) (od : Option Addr) (kV doc pm : Value) (an : Option Addr) (cdv ct : Value) (osl : Array (Option Value)),
    fd = PySem.W.fnOf x qual (defArgs st) (defBody st) (defScope st) .none kV doc pm an cdv ct ∧ K.lookup f = some ⟨oc, od, .func fd, osl⟩ ∧ PySem.W.codeIn K cdv qual = true
  kp : PySem.W.keepIn K (.ref f) = true
section
variable {P : Program} {w : World} {K : PySem.W.Frag} {mg : Str → Option Value} {base : Heap}
theorem Fun.ok {x qual : Str} {st : Stmt} {f : Addr} {fd : FuncData} {N ps : List Str} {k : Nat} {sp : Sp} (F : Fun K x qual st f fd) (S : FnScope N ps (defScope st)) (len : ∀ vs H Q E, sp vs H Q E → vs.length = ps.length)
    (hbody : ∀ (cdv : Value) (A : Around) (outer : List Env) (s : Shared) (H : Hp) (vs : List V) (Q : VK) (E : XK), Room k (A.deeper (envOfC qual (defScope st) s.heap.objs.size f cdv)) → sp vs H Q E →
      ∃ t, PSs (cxOf CX0 P w K mg base N qual (defScope st) f cdv A outer s H E).nox (defBody st) t ∧ t { nx := fun _ H' => Q .non H', rt := Q } (start N vs) H) : FnOk P w K mg base CX0 (k + 1) f fd ps sp := by
  obtain ⟨oc, od, kV, doc, pm, an, cdv, ct, osl, rfl, lk, hcd⟩ := F.ex
  refine fn_of lk hcd S len fun A outer s H vs Q E hr hsp => ?_
  obtain ⟨t, h, q⟩ := hbody cdv A outer s H vs Q E hr hsp
  exact ⟨t, h.nox, q⟩
theorem Fun.binds {x qual : Str} {st : Stmt} {f : Addr} {fd : FuncData} {ps : List Str} (F : Fun K x qual st f fd)
    (h : ∀ (kV doc pm : Value) (an : Option Addr) (cdv ct : Value) (us : List Value), us.length = ps.length → bindArgs (PySem.W.fnOf x qual (defArgs st) (defBody st) (defScope st) .none kV doc pm an cdv ct) ⟨us, []⟩ = pure (ps.zip us)) : Binds K fd ps [] := by
  obtain ⟨oc, od, kV, doc, pm, an, cdv, ct, osl, rfl, lk, hcd⟩ := F.ex
  exact .all (h kV doc pm an cdv ct)
theorem fun_mk {x qual : Str} {st : Stmt} {f : Addr} {oc : Value} {od an : Option Addr} {osl : Array (Option Value)} {kV doc pm cdv ct : Value} (l : K.lookup f = some ⟨oc, od, .func (PySem.W.fnOf x qual (defArgs st) (defBody st) (defScope st) .none kV doc pm an cdv ct), osl⟩)
    (c : PySem.W.codeIn K cdv qual = true) (k : PySem.W.keepIn K (.ref f) = true) : Fun K x qual st f (PySem.W.fnOf x qual (defArgs st) (defBody st) (defScope st) .none kV doc pm an cdv ct) := ⟨⟨oc, od, kV, doc, pm, an, cdv, ct, osl, rfl, l, c⟩, k⟩
end
theorem hu_of {A : Around} {k : Nat} (hr : Room k A) : A.units + 1 < cLine := Nat.lt_of_le_of_lt (Nat.add_le_add_left (by decide : 1 ≤ 64) _) hr.units
theorem small1000 {n : Nat} (h : n ≤ 1000) : n < sizeLine := Nat.lt_of_le_of_lt h (by decide)
section
variable {X : Cx}
theorem pv (i : Nat) {x : Str} {pos : Pos} (hN : X.N[i]? = some x := by rfl) (hv : Vis X.env.scope x := by first | exact Or.inl rfl | exact Or.inr (Or.inl rfl) | exact Or.inr (Or.inr rfl)) (hd : (x == ("__debug__" : Str)) = false := by decide)
    (hcd : (x == ("__classdict__" : Str)) = false := by decide) : PE X (.Name x pos) (tVar i) := pe_var hN hv hd hcd
end
theorem iteF {A B : Prop} (h : B) : if false = true then A else B := by
  rw [if_neg Bool.false_ne_true]
  exact h
theorem iteT {A B : Prop} (h : A) : if true = true then A else B := by
  rw [if_pos rfl]
  exact h
theorem ite2 {c A B : Prop} [Decidable c] (h1 : c → A) (h2 : ¬ c → B) : if c then A else B := by
  by_cases h : c
  · rw [if_pos h]
    exact h1 h
  · rw [if_neg h]
    exact h2 h
def Same (H H' : Hp) : Prop := ∀ b o, H b = some o → H' b = some o
theorem Same.refl (H : Hp) : Same H H := fun _ _ h => h
theorem Same.trans {H H1 H2 : Hp} (a : Same H H1) (b : Same H1 H2) : Same H H2 := fun c o h => b c o (a c o h)
theorem Same.free {H H' : Hp} (e : Same H H') {l : Addr} (h : H' l = Option.none) : H l = Option.none := by
  cases q : H l with
  | none => rfl
  | some o =>
    rw [e l o q] at h
    cases h
theorem Same.seq {K : PySem.W.Frag} {H H' : Hp} {a : Addr} {xs : List V} (e : Same H H') (h : SqL K H a xs) : SqL K H' a xs := by
  rcases h with (h | ⟨o, h⟩) | h
  · exact .inl (.inl (e _ _ h))
  · exact .inl (.inr ⟨o, e _ _ h⟩)
  · exact .inr h
end L2
namespace L2
open PySem PySem.Spec PyProof.Rows
section
variable {X : Cx}
end
section
variable {κ : Type} [DecidableEq κ]
end
end L2
set_option Elab.async false
set_option linter.all false
set_option maxRecDepth 100000
set_option maxHeartbeats 4000000
namespace L2
open PySem PySem.Spec PyProof.Rows
def cloStep (env : Env) (x : Str × NameKind) (r : List (Str × Addr)) : Sem (ForInStep (List (Str × Addr))) :=
  if (x.2 == NameKind.free) = true then cellOf env x.1 >>= fun a => pure (.yield ((x.1, a) :: r)) else pure (.yield r)
theorem clo_look {y x : Str} {c : Addr} {acc : List (Str × Addr)} : ((y, c) :: acc).lookup x = if x = y then some c else acc.lookup x := by
  rw [List.lookup_cons]
  by_cases e : x = y
  · subst e; simp
  · have : (x == y) = false := by simpa using e
    rw [this, if_neg e]
theorem clo_go (env : Env) : ∀ (names : List (Str × NameKind)) (acc : List (Str × Addr)),
    (∀ y ∈ names, y.2 = .free → ∃ c, env.cells.lookup y.1 = some c) → (∀ x c, acc.lookup x = some c → env.cells.lookup x = some c) →
    ∃ cl, forIn names acc (cloStep env) = pure cl ∧ (∀ x c, cl.lookup x = some c → env.cells.lookup x = some c) ∧
      (∀ x, ((x, NameKind.free) ∈ names ∨ ∃ c, acc.lookup x = some c) → ∃ c, cl.lookup x = some c)
  | [], acc, _, ha => ⟨acc, by rw [List.forIn_nil], ha, fun x h => by
      rcases h with h | h
      · cases h
      · exact h⟩
  | y :: r, acc, hy, ha => by
    by_cases hk : y.2 = .free
    · obtain ⟨c, hc⟩ := hy y List.mem_cons_self hk
      have e : cloStep env y acc = pure (.yield ((y.1, c) :: acc)) := by
        unfold cloStep cellOf
        rw [if_pos (by rw [hk]; rfl), hc]
        exact pure_bind _ _
      have ha' : ∀ x d, ((y.1, c) :: acc).lookup x = some d → env.cells.lookup x = some d := fun x d h => by
        rw [clo_look] at h
        by_cases ex : x = y.1
        · rw [if_pos ex] at h; cases h; rw [ex]; exact hc
        · rw [if_neg ex] at h; exact ha x d h
      obtain ⟨cl, q1, q2, q3⟩ := clo_go env r ((y.1, c) :: acc) (fun z hz => hy z (List.mem_cons_of_mem _ hz)) ha'
      refine ⟨cl, ?_, q2, fun x h => q3 x ?_⟩
      · rw [List.forIn_cons, e, pure_bind]; exact q1
      · rcases h with h | ⟨d, h⟩
        · rcases List.mem_cons.mp h with h | h
          · refine .inr ⟨c, ?_⟩
            rw [clo_look, if_pos (by rw [← h])]
          · exact .inl h
        · refine .inr ?_
          by_cases ex : x = y.1
          · exact ⟨c, by rw [clo_look, if_pos ex]⟩
          · exact ⟨d, by rw [clo_look, if_neg ex]; exact h⟩
    · have e : cloStep env y acc = pure (.yield acc) := by
        unfold cloStep
        rw [if_neg (by simpa using hk)]
      obtain ⟨cl, q1, q2, q3⟩ := clo_go env r acc (fun z hz => hy z (List.mem_cons_of_mem _ hz)) ha
      refine ⟨cl, ?_, q2, fun x h => q3 x ?_⟩
      · rw [List.forIn_cons, e, pure_bind]; exact q1
      · rcases h with h | h
        · rcases List.mem_cons.mp h with h | h
          · exact absurd (by rw [← h]) hk
          · exact .inl h
        · exact .inr h
theorem closureFor_eq (scope : Scope) (env : Env) : closureFor scope env = forIn scope.names [] (cloStep env) := by
  unfold closureFor
  have e : (fun (x : Str × NameKind) (r : List (Str × Addr)) => cloStep env x r) = cloStep env := rfl
  simp only [bind_pure]
  rfl
def blkOk (sc : Scope) (N : List Str) (scope : Scope) (caps : List Nat) : Bool :=
  scope.names.all (fun y => decide (scope.names.lookup y.1 = some y.2)) &&
  scope.names.all (fun y => decide (y.2 = .free → (sc.names.lookup y.1 = some .cell ∨ sc.names.lookup y.1 = some .free))) &&
  caps.all (fun j => match N[j]? with
    | some x => decide (scope.names.lookup x = some .free) && decide (sc.names.lookup x = some .cell ∨ sc.names.lookup x = some .free)
    | none => false)
def blockSt (n : Nat) (caps : List Nat) (σ : St) : St := List.replicate n none ++ caps.map fun j => (σ[j]?).getD none
def cxBlk (X : Cx) (N : List Str) (scope : Scope) (cl : List (Str × Addr)) (s₃ : Shared) (H₃ : Hp) (ch : List Addr) : Cx where
  prog := X.prog
  w := X.w
  K := X.K
  mg := X.mg
  base := X.base
  A := X.A
  N := N
  s₀ := s₃
  H₀ := H₃
  env := compEnvC scope cl s₃.heap.objs.size X.env
  outer := X.stack
  stack := X.stack
  ex := ch
  fn := fun x => match scope.names.lookup x with
    | some .cell => true
    | _ => false
  calm := X.calm
  pn := []
  xe := fun _ _ => False
theorem relabel_free {env : Env} : ∀ {names : List (Str × NameKind)} {x : Str}, names.lookup x = some .free →
    (names.map fun (n, k) => if (k == NameKind.free && env.scope.kind == .function && env.kindOf n == some .cell) then (n, NameKind.cell) else (n, k)).lookup x = some .cell ∨
    (names.map fun (n, k) => if (k == NameKind.free && env.scope.kind == .function && env.kindOf n == some .cell) then (n, NameKind.cell) else (n, k)).lookup x = some .free
  | [], _, h => by simp at h
  | (n, k) :: r, x, h => by
    have ih := @relabel_free env r x
    have two : ∀ l : List (Str × NameKind), List.lookup x ((if (k == NameKind.free && env.scope.kind == .function && env.kindOf n == some .cell) = true then (n, NameKind.cell) else (n, k)) :: l) = some .cell ∨
        List.lookup x ((if (k == NameKind.free && env.scope.kind == .function && env.kindOf n == some .cell) = true then (n, NameKind.cell) else (n, k)) :: l) = some .free ↔
        (if (x == n) = true then (k = .free ∨ k = .cell) else (l.lookup x = some .cell ∨ l.lookup x = some .free)) := by
      intro l
      cases hx : x == n with
      | true =>
        by_cases hc : (k == NameKind.free && env.scope.kind == .function && env.kindOf n == some .cell) = true
        · rw [if_pos hc]
          have hk : k = .free := by
            simp only [Bool.and_eq_true, beq_iff_eq] at hc
            exact hc.1.1
          simp [List.lookup_cons, hx, hk]
        · rw [if_neg hc]
          simp only [List.lookup_cons, hx, if_true, Option.some.injEq]
          exact Or.comm
      | false =>
        by_cases hc : (k == NameKind.free && env.scope.kind == .function && env.kindOf n == some .cell) = true
        · rw [if_pos hc]; simp [List.lookup_cons, hx]
        · rw [if_neg hc]; simp [List.lookup_cons, hx]
    refine (two _).mpr ?_
    cases hx : x == n with
    | true =>
      simp only [List.lookup_cons, hx] at h
      cases h
      simp
    | false =>
      simp only [List.lookup_cons, hx] at h
      simpa using ih h
theorem relabel_from {env : Env} : ∀ {names : List (Str × NameKind)} {x : Str} {k : NameKind}, k = .cell ∨ k = .free →
    (names.map fun (n, k) => if (k == NameKind.free && env.scope.kind == .function && env.kindOf n == some .cell) then (n, NameKind.cell) else (n, k)).lookup x = some k → names.lookup x = some .free ∨ names.lookup x = some .cell
  | [], _, _, _, h => by simp at h
  | (n, k0) :: r, x, k, hk, h => by
    rw [List.map_cons] at h
    dsimp only at h
    by_cases hq : (k0 == NameKind.free && env.scope.kind == .function && env.kindOf n == some .cell) = true
    · rw [if_pos hq] at h
      have h0 : k0 = .free := by
        simp only [Bool.and_eq_true, beq_iff_eq] at hq
        exact hq.1.1
      rw [List.lookup_cons] at h ⊢
      cases hx : x == n with
      | true => exact .inl (by rw [h0])
      | false => rw [hx] at h; exact relabel_from hk h
    · rw [if_neg hq] at h
      rw [List.lookup_cons] at h ⊢
      cases hx : x == n with
      | true =>
        rw [hx] at h
        dsimp only at h ⊢
        rcases hk with rfl | rfl
        · exact .inr h
        · exact .inl h
      | false => rw [hx] at h; exact relabel_from hk h
theorem cells_app : ∀ (names : List (Str × NameKind)) (n : Nat) (acc : List (Str × Addr)), cellsFrom n names acc = cellsFrom n names [] ++ acc
  | [], _, _ => rfl
  | (x, k) :: r, n, acc => by
    unfold cellsFrom
    split
    · rw [cells_app r (n + 1) ((x, n) :: acc), cells_app r (n + 1) [(x, n)], List.append_assoc]; rfl
    · exact cells_app r n acc
theorem cells_kind : ∀ (names : List (Str × NameKind)) (n : Nat) {x : Str} {c : Addr}, (x, c) ∈ cellsFrom n names [] → (x, NameKind.cell) ∈ names
  | [], _, _, _, h => by cases h
  | (y, k) :: r, n, x, c, h => by
    unfold cellsFrom at h
    split at h
    · rename_i hk
      rw [cells_app] at h
      rcases List.mem_append.mp h with h | h
      · exact List.mem_cons_of_mem _ (cells_kind r _ h)
      · rcases List.mem_singleton.mp h with h
        cases h
        rw [← eq_of_beq hk]; exact List.mem_cons_self
    · exact List.mem_cons_of_mem _ (cells_kind r _ h)
theorem newEnv_blk {M : Model} {A : Around} {E : Value → Shared → Prop} {s : Shared} {scope : Scope} {globals : Addr} {closure : List (Str × Addr)} {qual : Str} {func : Option Addr} {code : Value} {outer : Env} {builtins : Addr} {Q : Env → Shared → Prop}
    (hQ : ∀ h', h'.Ns s.heap.objs.size (fun _ => none) → (∀ b o, s.heap.get? b = some o → h'.get? b = some o) → CellsOk h' (s.heap.objs.size + 1) (cellsFrom (s.heap.objs.size + 1) scope.names []) →
      Q (newEnv scope s.heap.objs.size globals (cellsFrom (s.heap.objs.size + 1) scope.names closure) qual func code (some outer) builtins) { s with heap := h' }) :
    wpAny M A (newFunctionEnv scope globals closure [] qual func code (some outer) builtins) Q E s := by
  unfold newFunctionEnv
  simp only [Option.isSome_some, if_true]
  refine wpAny_bind (wpAny_alloc (wpAny_bind (wpAny_layCells _ (fun x k cs => ?_) _ _ _ _ ?_)))
  · cases h : k == NameKind.cell
    · simp [h]
    · simp [h]
  · have e1 : ∀ o : Obj, (s.heap.push o).objs.size = s.heap.objs.size + 1 := fun o => Heap.size_push ..
    dsimp only
    rw [e1, List.forIn_nil]
    refine wpAny_bind (wpAny_pure (wpAny_pure (hQ _ ((Heap.Ns.new s.heap (.type "dict")).keeps (pushCells_keeps _ _)) (fun b o e => pushCells_keeps _ _ b o (Heap.get?_push_of_some _ e)) ?_)))
    have q := cellsFrom_ok scope.names (s.heap.push { cls := .type "dict", data := .dict #[] }) (s.heap.objs.size + 1) [] ⟨fun _ _ z => (nomatch z), .nil⟩ (Nat.le_of_eq (e1 _).symm)
    rw [e1] at q
    exact q
section
variable {X : Cx} {pins : List (Addr × Obj)} {σ : St} {H₃ : Hp} {s₃ : Shared} {N own : List Str} {caps : List Nat} {scope : Scope} {cl : List (Str × Addr)} {ch : List Addr}
structure BlkOk (sc : Scope) (N : List Str) (scope : Scope) (caps : List Nat) : Prop where
  one : ∀ y ∈ scope.names, scope.names.lookup y.1 = some y.2
  free : ∀ y ∈ scope.names, y.2 = .free → (sc.names.lookup y.1 = some .cell ∨ sc.names.lookup y.1 = some .free)
  cap : ∀ j ∈ caps, ∃ x, N[j]? = some x ∧ scope.names.lookup x = some .free ∧ (sc.names.lookup x = some .cell ∨ sc.names.lookup x = some .free)
theorem BlkOk.loc {sc : Scope} {N : List Str} (ok : BlkOk sc N scope caps) : ∀ y ∈ scope.names, y.2 = .local → scope.names.lookup y.1 = some .local := fun y hy e => e ▸ ok.one y hy
theorem blkOk_iff {sc : Scope} {N : List Str} (h : blkOk sc N scope caps = true) : BlkOk sc N scope caps := by
  unfold blkOk at h
  simp only [Bool.and_eq_true, List.all_eq_true, decide_eq_true_eq] at h
  obtain ⟨⟨h1, h3⟩, h4⟩ := h
  refine ⟨h1, h3, fun j hj => ?_⟩
  have q := h4 j hj
  cases e : N[j]? with
  | none => rw [e] at q; cases q
  | some x =>
    rw [e] at q
    simp only [Bool.and_eq_true, decide_eq_true_eq] at q
    exact ⟨x, rfl, q⟩
structure BlkCl (X : Cx) (scope : Scope) (cl : List (Str × Addr)) (n : Nat) (h1 : Heap) : Prop where
  src : ∀ x c, cl.lookup x = some c → (X.env.cells.lookup x = some c ∧ scope.names.lookup x ≠ some .cell) ∨ (scope.names.lookup x = some .cell ∧ n < c ∧ h1.IsCell c none)
  inj : ∀ x y c, cl.lookup x = some c → cl.lookup y = some c → x = y
  has : ∀ x, scope.names.lookup x = some .free ∨ scope.names.lookup x = some .cell → ∃ c, cl.lookup x = some c
theorem blkCl_of {sc : Scope} {M : List Str} {cl0 : List (Str × Addr)} {h1 : Heap} (ok : BlkOk sc M scope caps) (I3 : Inv X pins σ H₃ s₃) (hcl1 : ∀ x c, cl0.lookup x = some c → X.env.cells.lookup x = some c) (hcl2 : ∀ x, (x, NameKind.free) ∈ scope.names → ∃ c, cl0.lookup x = some c)
    (hc : CellsOk h1 (s₃.heap.objs.size + 1) (cellsFrom (s₃.heap.objs.size + 1) scope.names [])) : BlkCl X scope (cellsFrom (s₃.heap.objs.size + 1) scope.names cl0) s₃.heap.objs.size h1 := by
  have two : ∀ x c, (cellsFrom (s₃.heap.objs.size + 1) scope.names cl0).lookup x = some c → (X.env.cells.lookup x = some c ∧ scope.names.lookup x ≠ some .cell) ∨ ((x, c) ∈ cellsFrom (s₃.heap.objs.size + 1) scope.names [] ∧ scope.names.lookup x = some .cell) := fun x c e => by
    rw [cells_app, List.lookup_append] at e
    cases q : (cellsFrom (s₃.heap.objs.size + 1) scope.names []).lookup x with
    | some d =>
      rw [q] at e
      cases e
      have m := PySem.mem_of_lookup q
      exact .inr ⟨m, ok.one _ (cells_kind _ _ m)⟩
    | none =>
      rw [q] at e
      refine .inl ⟨hcl1 x c e, fun z => ?_⟩
      obtain ⟨d, hd⟩ := cell_has (n := s₃.heap.objs.size + 1) z
      rw [q] at hd; cases hd
  have low : ∀ x c, X.env.cells.lookup x = some c → c < s₃.heap.objs.size := fun x c e => by
    obtain ⟨v, o, ho, _⟩ := I3.cell x c e
    exact Heap.lt_size ho
  refine ⟨fun x c e => ?_, fun x y c e1 e2 => ?_, fun x hx => ?_⟩
  · rcases two x c e with h | ⟨m, k⟩
    · exact .inl h
    · exact .inr ⟨k, (hc.empty x c m).2, (hc.empty x c m).1⟩
  · rcases two x c e1 with ⟨h, _⟩ | ⟨m, _⟩ <;> rcases two y c e2 with ⟨h', _⟩ | ⟨m', _⟩
    · exact I3.ok.inj x y c h h'
    · exact absurd (Nat.lt_of_lt_of_le (low x c h) (Nat.le_of_succ_le (hc.empty y c m').2)) (Nat.lt_irrefl _)
    · exact absurd (Nat.lt_of_lt_of_le (low y c h') (Nat.le_of_succ_le (hc.empty x c m).2)) (Nat.lt_irrefl _)
    · exact name_of_addr hc.apart m m'
  · rw [cells_app, List.lookup_append]
    cases q : (cellsFrom (s₃.heap.objs.size + 1) scope.names []).lookup x with
    | some d => exact ⟨d, rfl⟩
    | none =>
      rcases hx with hx | hx
      · obtain ⟨c, hc⟩ := hcl2 x (PySem.mem_of_lookup hx)
        exact ⟨c, hc⟩
      · obtain ⟨d, hd⟩ := cell_has (n := s₃.heap.objs.size + 1) hx
        rw [q] at hd; cases hd
theorem blk_start {h1 : Heap} {m : Str → Option Value} {t1 : Nat} (I3 : Inv X pins σ H₃ s₃) (hf : ∀ b ∈ ch, FpOk X pins H₃ b) (hch : ∀ b ∈ ch, b < s₃.heap.objs.size)
    (hN : N = own ++ caps.map fun j => (X.N[j]?).getD (Str.ofString "")) (ok : BlkOk X.env.scope X.N scope caps) (hkind : scope.kind = .function)
    (hcl : BlkCl X scope cl s₃.heap.objs.size h1)
    (hns : h1.Ns s₃.heap.objs.size m) (keep : ∀ b o, s₃.heap.get? b = some o → h1.get? b = some o) :
    Inv (cxBlk X N scope cl s₃ H₃ ch) [] (blockSt own.length caps σ) H₃ { s₃ with heap := h1, toks := t1 } := by
  refine ⟨⟨I3.ok.mod, hkind, I3.ok.glob, I3.ok.blt, Nat.le_refl _, hcl.inj, fun x hx => ?_, fun x c e el => ?_, I3.ok.hd, I3.ok.frames, .inl rfl,
      fun b hb => ⟨Nat.ne_of_lt (hch b hb), fun x c e => ?_⟩, I3.bs, Nat.le_trans I3.ok.bsz I3.sz, fun b o e hb => ?_, fun b hb hz => ?_, I3.stack, I3.stkFree⟩,
    rfl, I3.bare, Un.kept keep, ⟨m, hns, fun i x v e1 e2 e3 => ?_⟩, fun x c e => ?_, I3.fresh, fun x c e => ?_, fun p hp => absurd (show p ∈ ([] : List (Addr × Obj)) from hp) (by simp), I3.hok.kept keep, ?_⟩
  · refine hcl.has x ?_
    rcases hx with hx | hx
    · exact relabel_from (.inl rfl) hx
    · exact relabel_from (.inr rfl) hx
  · rcases hcl.src x c el with ⟨_, z⟩ | ⟨_, z, _⟩
    · have e : (match scope.names.lookup x with
        | some .cell => true
        | _ => false) = true := e
      split at e
      · rename_i q; exact absurd q z
      · cases e
    · exact Nat.le_of_lt z
  · rcases hcl.src x c e with ⟨z, _⟩ | ⟨_, z, _⟩
    · exact (hf b hb).2.2.2.2.1 x c z
    · exact Nat.ne_of_gt (Nat.lt_trans (hch b hb) z)
  · rcases (hf b hb).2.2.2.1 with z | z
    · exact I3.ok.noex b o e z
    · exact absurd (Nat.lt_of_lt_of_le (show b < X.base.objs.size from Heap.lt_size e) I3.ok.bsz) (Nat.not_lt.mpr z)
  · rcases List.mem_cons.mp (I3.stkSub b hz) with z | z
    · exact (hf b hb).2.1 z
    · exact (hf b hb).2.2.1 z
  · have hi : own.length ≤ i := by
      rcases Nat.lt_or_ge i own.length with z | z
      · unfold blockSt at e2
        rw [List.getElem?_append_left (by simpa using z), List.getElem?_replicate, if_pos z] at e2
        cases e2
      · exact z
    have e2' : (caps.map fun j => (σ[j]?).getD none)[i - own.length]? = some (some v) := by
      unfold blockSt at e2
      rwa [List.getElem?_append_right (by simpa using hi), List.length_replicate] at e2
    have e1' : (caps.map fun j => (X.N[j]?).getD (Str.ofString ""))[i - own.length]? = some x := by
      have e1 : N[i]? = some x := e1
      rw [hN, List.getElem?_append_right hi] at e1
      exact e1
    rw [List.getElem?_map] at e1' e2'
    cases ej : caps[i - own.length]? with
    | none => rw [ej] at e2'; cases e2'
    | some j =>
      rw [ej] at e1' e2'
      have e1'' : (X.N[j]?).getD (Str.ofString "") = x := Option.some.inj e1'
      have e2'' : (σ[j]?).getD none = some v := Option.some.inj e2'
      obtain ⟨x', hx', hl, hsc⟩ := ok.cap j (List.mem_of_getElem? ej)
      rw [hx'] at e1''
      have ex : x' = x := e1''
      subst ex
      have hσ : σ[j]? = some (some v) := by
        cases q : σ[j]? with
        | none => rw [q] at e2''; cases e2''
        | some o => rw [q] at e2''; rw [show o = some v from e2'']
      obtain ⟨m3, hn3, hl3⟩ := I3.loc
      obtain ⟨u, r, lk⟩ := hl3 j x' v hx' hσ (.inr hsc)
      refine ⟨u, r, .inr ⟨relabel_free hl, ?_⟩⟩
      rcases lk with ⟨hk, _⟩ | ⟨_, c, hc, z⟩
      · have hk : X.env.scope.names.lookup x' = some .local := hk
        rcases hsc with q | q <;> rw [hk] at q <;> cases q
      · obtain ⟨c', hc'⟩ := hcl.has x' (.inl hl)
        have q : X.env.cells.lookup x' = some c' := by
          rcases hcl.src x' c' hc' with ⟨z, _⟩ | ⟨z, _⟩
          · exact z
          · rw [hl] at z; cases z
        rw [hc] at q
        cases q
        obtain ⟨o, ho, hd⟩ := z
        exact ⟨c, hc', o, keep c o ho, hd⟩
  · rcases hcl.src x c e with ⟨z, _⟩ | ⟨_, _, z⟩
    · obtain ⟨v, o, ho, hd⟩ := I3.cell x c z
      exact ⟨v, o, keep c o ho, hd⟩
    · exact ⟨none, z⟩
  · rcases hcl.src x c e with ⟨z, _⟩ | ⟨_, z, _⟩
    · exact I3.freeC x c z
    · exact I3.hok.fresh (Nat.le_of_lt z)
  · show (blockSt own.length caps σ).length = N.length
    rw [hN]
    simp [blockSt]
end
def PIfs (X : Cx) (ifs : List Expr) (t : TT) : Prop :=
  ∀ (pins : List (Addr × Obj)) (s : Shared) (σ : St) (H : Hp) (Q : Bool → Hp → Prop), Inv X pins σ H s → t σ H Q →
    wpAny (model X.prog X.w) X.A (forIn ifs true fun c r => if r = true then do let ok ← isTrue c X.env (eval c X.env); pure (ForInStep.yield ok) else pure (ForInStep.yield r)) (TP X pins σ Q) X.xe s
def tYes : TT := fun _ H Q => Q true H
theorem pifs_nil {X : Cx} : PIfs X [] tYes := fun _ _ _ H _ I h => wpAny_tests_nil ⟨H, I, h⟩
theorem pifs_one {X : Cx} {c : Expr} {t : TT} (h : PT X c t) : PIfs X [c] t := fun pins s σ H Q I q => wpAny_tests_one (h pins s σ H Q I q)
theorem compLoop_gen {prog : Program} {w : World} {A : Around} {R : Result → Shared → Prop} {s : Shared} {elt target iter : Expr} {ifs : List Expr} {scope : Scope} {pos : Pos} {it acc : Value} {env : Env} (I : Nat → Shared → Prop)
    (turn : ∀ n s, I n s → wpAny (model prog w) A (pyNext it) (fun r s₁ => match r with
      | none => R (.ok .next) s₁
      | some v => wpAny (model prog w) A (letOwnedTupleGo target it v) (fun _ s₁' => wpAny (model prog w) A (assign target env v) (fun _ s₂ =>
          wpAny (model prog w) A (forIn ifs true fun c r => if r = true then do let ok ← isTrue c env (eval c env); pure (ForInStep.yield ok) else pure (ForInStep.yield r)) (fun ok s₃ =>
            if ok = true then wpAny (model prog w) A (eval elt env) (fun x s₄ =>
              wpAny (model prog w) A (call (.builtin "list.append") [acc, x]) (fun _ s₅ => ∃ m, m < n ∧ I m s₅) (fun _ _ => False) s₄) (fun _ _ => False) s₃
            else ∃ m, m < n ∧ I m s₃) (fun _ _ => False) s₂) (fun _ _ => False) s₁') (fun _ _ => False) s₁) (fun _ _ => False) s)
    (n : Nat) (h : I n s) :
    codeAny (model prog w) A (.compLoop (.ListComp elt [⟨target, iter, ifs, 0⟩] scope pos) 0 it acc env) R s := by
  refine codeAny_loop rfl I (fun n s hI => ?_) n h
  show wpAny _ A ((compTurn (.ListComp elt [⟨target, iter, ifs, 0⟩] scope pos) 0 it acc env).onRaise (fun x => do noteFrame x env; theTreesLotGoes x)) _ _ s
  refine wpAny_noted ?_
  rw [compTurn_list]
  refine wpAny_bind (wpAny_standAt (wpAny_bind (wpAny_mono (turn n s hI) (fun r s₁ h₁ => ?_) fun _ _ h' => h'.elim)))
  cases r with
  | none => exact wpAny_pure h₁
  | some v =>
    refine wpAny_bind (wpAny_mono h₁ (fun _ s₁' h₁' => ?_) fun _ _ h' => h'.elim)
    refine wpAny_bind (wpAny_mono h₁' (fun _ s₂ h₂ => wpAny_bind (wpAny_mono h₂ (fun ok s₃ h₃ => ?_) fun _ _ h' => h'.elim)) fun _ _ h' => h'.elim)
    cases ok with
    | false => exact wpAny_pure ⟨rfl, h₃⟩
    | true =>
      exact wpAny_bind (wpAny_bind (wpAny_mono h₃ (fun x s₄ h₄ => wpAny_bind (wpAny_mono h₄ (fun _ s₅ h₅ => wpAny_pure (wpAny_pure ⟨rfl, h₅⟩)) fun _ _ h' => h'.elim)) fun _ _ h' => h'.elim))
def CompGo (acc : Addr) (Q : VK) (g : TG) (tc : TT) (te : TE) (J : It) (σ : St) (H : Hp) : Prop :=
  ∃ W : Nat → Nat → St → Hp → Prop, (∃ m, W 0 m σ H) ∧ ∀ i m σ' H', W i m σ' H' →
    (J.stop i H' ∧ Q (.ref acc) H') ∨ (J.go i H' ∧ ∃ N : St → Hp → Prop, (∀ σ'' H'', N σ'' H'' → ∃ m', m' < m ∧ W (i + 1) m' σ'' H'') ∧ ∀ x H2, J.yld i H' x H2 → g x σ' H2 fun σ3 H3 => tc σ3 H3 fun b H4 =>
      if b = true then te σ3 H4 fun v H5 => ∃ ys, H5 acc = some (.lst ys) ∧ ys.length < sizeLine ∧ N σ3 (upd H5 acc (.lst (ys ++ [v])))
      else N σ3 H4)
def tComp (n : Nat) (caps : List Nat) (wi : TI) (g : TG) (tc : TT) (te : TE) : TE := fun σ H Q => wi σ H fun J H1 => ∀ acc, H1 acc = none → CompGo acc Q g tc te J (blockSt n caps σ) (upd H1 acc (.lst []))
theorem comp_run {X : Cx} {pins : List (Addr × Obj)} {σ : St} {Q : VK} {tg elt iter : Expr} {ifs : List Expr} {scope : Scope} {pos : Pos} {N own : List Str} {caps : List Nat} {g : TG} {tc : TT} {te : TE} {cl : List (Str × Addr)} {it acc : Addr} {fp : List Addr} {tn : Nat → Heap → Prop} {J : It}
    {s3 : Shared} {H3 : Hp} {h1 : Heap} {m : Str → Option Value} {t1 m0 : Nat} {W : Nat → Nat → St → Hp → Prop} (hc : X.calm = true)
    (hN : N = own ++ caps.map fun j => (X.N[j]?).getD (Str.ofString "")) (ok : BlkOk X.env.scope X.N scope caps) (hkind : scope.kind = .function)
    (hcl : BlkCl X scope cl s3.heap.objs.size h1)
    (hg : PG (cxBlk X N scope cl s3 H3 fp) tg g) (hifs : PIfs (cxBlk X N scope cl s3 H3 fp) ifs tc) (he : PE (cxBlk X N scope cl s3 H3 fp) elt te)
    (I3 : Inv X pins σ H3 s3) (f3 : ∀ b ∈ fp, FpOk X pins H3 b) (flt : ∀ b ∈ fp, b < s3.heap.objs.size) (T : Turn X.prog X.w X.K tg J fp it tn) (st3 : tn 0 s3.heap)
    (hns : h1.Ns s3.heap.objs.size m) (keep : ∀ b o, s3.heap.get? b = some o → h1.get? b = some o) (w0 : W 0 m0 (blockSt own.length caps σ) H3)
    (turn : ∀ i m σ' H', W i m σ' H' →
      (J.stop i H' ∧ Q (.ref acc) H') ∨ (J.go i H' ∧ ∃ N : St → Hp → Prop, (∀ σ'' H'', N σ'' H'' → ∃ m', m' < m ∧ W (i + 1) m' σ'' H'') ∧ ∀ x H2, J.yld i H' x H2 → g x σ' H2 fun σ3 H3 => tc σ3 H3 fun b H4 =>
        if b = true then te σ3 H4 fun v H5 => ∃ ys, H5 acc = some (.lst ys) ∧ ys.length < sizeLine ∧ N σ3 (upd H5 acc (.lst (ys ++ [v])))
        else N σ3 H4)) :
    codeAny (model X.prog X.w) X.A (.compStart (.ListComp elt [⟨tg, iter, ifs, 0⟩] scope pos) 0 (.ref it) (.ref acc) (compEnvC scope cl s3.heap.objs.size X.env))
      (compPost (model X.prog X.w) X.A X.xe none (EP X pins σ Q) (.ref acc) s3.heap.objs.size) { s3 with heap := h1, toks := t1 } := by
  have IB := blk_start (t1 := t1) (own := own) I3 f3 flt hN ok hkind hcl hns keep
  have stat : ∀ {H' : Hp}, (∀ b ∈ fp, H' b = none) → ∀ b ∈ fp, FpOk (cxBlk X N scope cl s3 H3 fp) [] H' b := fun {H'} hn b hb =>
    ⟨hn b hb, (IB.ok.exf b hb).1, IB.ok.exfs b hb, .inl hb, (IB.ok.exf b hb).2, fun p hp => absurd (show p ∈ ([] : List (Addr × Obj)) from hp) (by simp)⟩
  have st4 : tn 0 h1 := T.keep _ _ _ st3 fun b _ o e => keep b o e
  have loop : codeAny (model X.prog X.w) X.A (.compLoop (.ListComp elt [⟨tg, iter, ifs, 0⟩] scope pos) 0 (.ref it) (.ref acc) (compEnvC scope cl s3.heap.objs.size X.env))
      (compPost (model X.prog X.w) X.A X.xe none (EP X pins σ Q) (.ref acc) s3.heap.objs.size) { s3 with heap := h1, toks := t1 } := by
    refine compLoop_gen (fun n s' => ∃ i σ' H', Inv (cxBlk X N scope cl s3 H3 fp) [] σ' H' s' ∧ tn i s'.heap ∧ (∀ b ∈ fp, H' b = none) ∧ W i n σ' H') ?_ m0 ⟨0, _, H3, IB, st4, fun b hb => (f3 b hb).1, w0⟩
    rintro n s5 ⟨i, σ5, H5, I5, st5, fr5, w5⟩
    rcases turn i n σ5 H5 w5 with ⟨stop, qn⟩ | ⟨go, Nx, hNx, step⟩
    · refine thn (T.done (cxBlk X N scope cl s3 H3 fp) rfl rfl rfl hc i [] s5 σ5 H5 _ I5 (stat fr5) st5 stop) fun r s6 ⟨hr, I6⟩ => ?_
      subst hr
      obtain ⟨m6, hn6, _⟩ := I6.loc
      refine ⟨m6, hn6, fun h' hs' => ?_⟩
      have IX : Inv X pins σ H5 s6 := I3.call' (ch := fp) I6.os I6.base I6.hok I6.bare fun b hb => ⟨(f3 b hb).2.2.2.1, (f3 b hb).2.1, (f3 b hb).2.2.2.2.1, (f3 b hb).2.2.2.2.2⟩
      refine ⟨.ref acc, H5, IX.turned (t' := s6.toks) (it := s3.heap.objs.size) (fun b o hb e => (hs'.2 b hb).trans e) I6.free (Nat.ne_of_gt I3.lt) (.inr I3.sz) (fun x c e => ?_) (fun p hp => ?_), rfl, qn⟩
      · obtain ⟨v, o, ho, _⟩ := I3.cell x c e
        exact Nat.ne_of_lt (Heap.lt_size ho)
      · exact Nat.ne_of_lt (Heap.lt_size (I3.pin p hp).1)
    · refine thn (T.item (cxBlk X N scope cl s3 H3 fp) rfl rfl rfl hc i [] s5 σ5 H5 _ I5 (stat fr5) st5 go) fun r s6 ⟨u, hr, h6⟩ => ?_
      subst hr
      refine thn h6 fun _ s7 ⟨x, H7, I7, r7, y7, st7, fr7⟩ => ?_
      have I7' := I7.pinned (stat fr7) (T.obj _ _ st7)
      refine thn (hg _ s7 σ5 H7 x u _ I7' r7 (step x H7 y7)) fun _ s8 ⟨σ8, H8, I8, q8⟩ => ?_
      have again : ∀ {s9 : Shared} {H9 : Hp}, Inv (cxBlk X N scope cl s3 H3 fp) ([] ++ pinsAt fp s7.heap) σ8 H9 s9 → Nx σ8 H9 →
          ∃ m, m < n ∧ ∃ i σ' H', Inv (cxBlk X N scope cl s3 H3 fp) [] σ' H' s9 ∧ tn i s9.heap ∧ (∀ b ∈ fp, H' b = none) ∧ W i m σ' H' := fun {s9 H9} I9 n9 => by
        obtain ⟨m', hm, w9⟩ := hNx σ8 H9 n9
        refine ⟨m', hm, i + 1, σ8, H9, I9.unpinned, T.keep _ _ _ st7 fun b hb o e => (I9.pin (b, o) (List.mem_append_right _ (List.mem_append_right _ (mem_pinsAt hb e)))).1, fun b hb => ?_, w9⟩
        obtain ⟨o, e, d⟩ := T.obj _ _ st7 b hb
        exact (I9.pin (b, o) (List.mem_append_right _ (List.mem_append_right _ (mem_pinsAt hb e)))).2.1
      refine thn (hifs _ s8 σ8 H8 _ I8 q8) fun b s9 ⟨H9, I9, q9⟩ => ?_
      cases b with
      | false =>
        rw [if_neg (by decide)] at q9 ⊢
        exact again I9 q9
      | true =>
        rw [if_pos rfl] at q9 ⊢
        refine thn (he _ s9 σ8 H9 _ I9 q9) fun xv s10 ⟨v, H10, I10, r10, ys, ey, hz, n10⟩ => ?_
        refine thn (mt_append (X := cxBlk X N scope cl s3 H3 fp) _ s10 σ8 H10 (.ref acc) [v] (.ref acc) [xv] (fun _ H' => H' = upd H10 acc (.lst (ys ++ [v]))) I10 rfl (.cons r10 .nil) ⟨acc, ys, v, rfl, rfl, ey, hz, rfl⟩) fun _ s11 ⟨_, H11, I11, _, e11⟩ => ?_
        subst e11
        exact again I11 n10
  exact codeAny_compStart_list loop (T.self _ _ _ _ _ st4 loop)
theorem pe_comp {X : Cx} {tg elt iter : Expr} {ifs : List Expr} {scope : Scope} {pos : Pos} {N : List Str} {wi : TI} {g : TG} {tc : TT} {te : TE} (own : List Str) (caps : List Nat) (hc : X.calm = true)
    (hN : N = own ++ caps.map fun j => (X.N[j]?).getD (Str.ofString "")) (hok : blkOk X.env.scope X.N scope caps = true) (hkind : scope.kind = .function)
    (hi : PI X tg iter wi) (hg : ∀ cl s₃ H₃ ch, PG (cxBlk X N scope cl s₃ H₃ ch) tg g) (hifs : ∀ cl s₃ H₃ ch, PIfs (cxBlk X N scope cl s₃ H₃ ch) ifs tc) (he : ∀ cl s₃ H₃ ch, PE (cxBlk X N scope cl s₃ H₃ ch) elt te)
    (hs : ∀ x, foldedSetIterable iter X.env x = pure x := by intro _; rfl) : PE X (.ListComp elt [⟨tg, iter, ifs, 0⟩] scope pos) (tComp own.length caps wi g tc te) := by
  intro pins s σ H Q I h
  have ok := blkOk_iff hok
  obtain ⟨cl, hclo, hcl1, hcl2'⟩ := clo_go X.env scope.names [] (fun y hy hk => I.ok.has y.1 (ok.free y hy hk)) (fun x c e => by simp at e)
  have hcl2 : ∀ x, (x, NameKind.free) ∈ scope.names → ∃ c, cl.lookup x = some c := fun x hx => hcl2' x (.inl hx)
  rw [← closureFor_eq] at hclo
  rw [eval_ListComp]
  refine wpAny_comprehension_free (use := none) rfl hs hclo hkind ok.loc (thn (hi pins s σ H _ I h) fun v s1 h1 => thn h1 fun itv s2 h2 => ?_)
  obtain ⟨it, fp, tn, J, H2, e, I2, T, st2, f2, R⟩ := h2
  subst e
  obtain ⟨W, ⟨m0, w0⟩, turn⟩ := R s2.heap.objs.size I2.fresh
  have flt : ∀ b ∈ fp, b < s2.heap.objs.size := fun b hb => let ⟨o, ho, _⟩ := T.obj 0 _ st2 b hb; Heap.lt_size ho
  have I3 : Inv X pins σ (upd H2 s2.heap.objs.size (.lst [])) { s2 with heap := s2.heap.push { cls := .type "list", dict := none, data := .seq ([] : List Value).toArray } } := I2.lnew (t' := s2.toks) (its := []) .nil (Nat.zero_le _)
  have f3 : ∀ b ∈ fp, FpOk X pins (upd H2 s2.heap.objs.size (.lst [])) b := fun b hb => ⟨by rw [upd_ne (Nat.ne_of_lt (flt b hb))]; exact (f2 b hb).1, (f2 b hb).2⟩
  refine wpAny_newObj_type (newEnv_blk fun h₁ hns₁ keep₁ cok => ?_)
  have flt3 : ∀ b ∈ fp, b < (s2.heap.push { cls := .type "list", dict := none, data := .seq ([] : List Value).toArray }).objs.size := fun b hb => by
    rw [Heap.size_push]
    exact Nat.lt_succ_of_lt (flt b hb)
  exact comp_run (own := own) hc hN ok hkind (blkCl_of ok I3 hcl1 hcl2 cok) (hg _ _ _ _) (hifs _ _ _ _) (he _ _ _ _) I3 f3 flt3 T (T.keep _ _ _ st2 fun b _ o e => Heap.get?_push_of_some _ e) hns₁ keep₁ w0 turn
theorem comp_turns {acc : Addr} {Q : VK} {g : TG} {tc : TT} {te : TE} {σ : St} {H : Hp} {J : It} {n : Nat} (Pv : Nat → St → Hp → Prop) (h0 : Pv 0 σ H) (hd : ∀ σ H, Pv n σ H → J.stop n H ∧ Q (.ref acc) H)
    (hgo : ∀ i σ H, i < n → Pv i σ H → J.go i H ∧ ∀ x H2, J.yld i H x H2 → g x σ H2 fun σ3 H3 => tc σ3 H3 fun b H4 =>
      if b = true then te σ3 H4 fun v H5 => ∃ ys, H5 acc = some (.lst ys) ∧ ys.length < sizeLine ∧ Pv (i + 1) σ3 (upd H5 acc (.lst (ys ++ [v]))) else Pv (i + 1) σ3 H4) :
    CompGo acc Q g tc te J σ H := by
  refine ⟨fun i m σ H => m = n - i ∧ i ≤ n ∧ Pv i σ H, ⟨n, by simp, Nat.zero_le _, h0⟩, ?_⟩
  rintro i m σ H ⟨rfl, hi, p⟩
  by_cases hlt : i < n
  · obtain ⟨q1, q2⟩ := hgo i σ H hlt p
    exact .inr ⟨q1, Pv (i + 1), fun σ' H' p' => ⟨n - (i + 1), by omega, rfl, hlt, p'⟩, q2⟩
  · have e : i = n := by omega
    subst e
    exact .inl (hd σ H p)
theorem itl_go {K : PySem.W.Frag} {a : Addr} {xs : List V} {i : Nat} {H : Hp} (q : SqL K H a xs) (hi : i < xs.length) : (Itl K a).go i H := ⟨xs, xs[i], q, by simp [hi]⟩
theorem itl_yld {K : PySem.W.Frag} {a : Addr} {xs : List V} {i : Nat} {H H' : Hp} {x : V} (q : SqL K H a xs) (y : (Itl K a).yld i H x H') : H' = H ∧ xs[i]? = some x := ⟨y.1, y.2 xs q⟩
theorem itl_stop {K : PySem.W.Frag} {a : Addr} {xs : List V} {H : Hp} (q : SqL K H a xs) : (Itl K a).stop xs.length H := ⟨xs, q, Nat.le_refl _⟩
theorem itt_go {K : PySem.W.Frag} {a : Addr} {xs : List V} {i : Nat} {H : Hp} (q : SqT K H a xs) (hi : i < xs.length) : (Itt K a).go i H := ⟨xs, xs[i], q, by simp [hi]⟩
theorem itt_yld {K : PySem.W.Frag} {a : Addr} {xs : List V} {i : Nat} {H H' : Hp} {x : V} (q : SqT K H a xs) (y : (Itt K a).yld i H x H') : H' = H ∧ xs[i]? = some x := ⟨y.1, y.2 xs q⟩
theorem itt_stop {K : PySem.W.Frag} {a : Addr} {xs : List V} {H : Hp} (q : SqT K H a xs) : (Itt K a).stop xs.length H := ⟨xs, q, Nat.le_refl _⟩
end L2
set_option Elab.async false
set_option linter.all false
set_option maxRecDepth 100000
set_option maxHeartbeats 4000000
namespace L2
open PySem PySem.Spec PyProof.Rows
structure TopD (K : PySem.W.Frag) (w : World) (a : Addr) (D : List (Str × V)) : Prop where
  ex : ∃ es n, K.lookup a = some ⟨.type "dict", none, .dict es n, #[]⟩ ∧ PySem.W.KeysLit w.params es.toList ∧ ∀ p ∈ D, ∃ u, PySem.W.nsIn K a p.1 = some (some u) ∧ RelV p.2 u
section
variable {X : Cx}
def rIxTop (K : PySem.W.Frag) (w : World) : R2 := fun x y H Q => ∃ a D k v, x = .ref a ∧ y = .str k ∧ TopD K w a D ∧ (k, v) ∈ D ∧ Q v H
theorem ix_top : IxR X (rIxTop X.K X.w) := by
  intro value slice pins s σ H x y v u Q I rx ry h hs
  obtain ⟨a, D, k, z, rfl, rfl, ⟨es, n, hl, hk, hD⟩, hm, q⟩ := h
  cases rx
  obtain ⟨t, rfl⟩ := ry
  obtain ⟨z', e, r⟩ := hD _ hm
  obtain ⟨m, F⟩ := I.fr
  exact PySem.W.topItem_K F I.mod.kin hl hk e ⟨z, H, I.tok _, r, q⟩ hs
theorem readsAll_ints {h : Heap} : ∀ {ns : List Int} {us : List Value}, Vals (ns.map V.int) us → ReadsAll h us (ns.map PyData.int) []
  | [], _, r => by rw [List.map_nil] at r; cases r; exact .nil
  | n :: ns, _, r => by
    rw [List.map_cons] at r
    cases r with
    | cons r1 r2 =>
      obtain ⟨t, rfl⟩ := r1
      exact ReadsAll.cons (Reads.int n t) (readsAll_ints r2)
theorem Inv.readsT {pins : List (Addr × Obj)} {σ : St} {H : Hp} {s : Shared} {a : Addr} {ns : List Int} (I : Inv X pins σ H s) (h : SqT X.K H a (ns.map V.int)) : Reads s.heap (.ref a) (.tuple (ns.map PyData.int)) [] := by
  obtain ⟨its, r, ⟨o, ho, hc, n, hd⟩, _⟩ := I.tuple h
  exact reads_tuple_at ho hc hd (by simpa using readsAll_ints r)
abbrev TupsI (K : PySem.W.Frag) (H : Hp) : List Addr → List (List Int) → Prop := Paired fun a ns => SqT K H a (ns.map V.int)
def dTs (nss : List (List Int)) : List PyData := nss.map fun ns => PyData.tuple (ns.map PyData.int)
theorem readsAll_tups {pins : List (Addr × Obj)} {σ : St} {H : Hp} {s : Shared} (I : Inv X pins σ H s) : ∀ {as : List Addr} {nss : List (List Int)} {us : List Value}, TupsI X.K H as nss → Vals (as.map V.ref) us → ReadsAll s.heap us (dTs nss) []
  | [], _, _, t, r => by cases t; rw [List.map_nil] at r; cases r; exact .nil
  | a :: as, _, _, t, r => by
    rw [List.map_cons] at r
    cases t with
    | cons t1 t2 =>
      cases r with
      | cons r1 r2 =>
        cases r1
        exact ReadsAll.cons (I.readsT t1) (readsAll_tups I t2 r2)
theorem Inv.readsL {pins : List (Addr × Obj)} {σ : St} {H : Hp} {s : Shared} {a : Addr} {as : List Addr} {nss : List (List Int)} (I : Inv X pins σ H s) (h : SqL X.K H a (as.map V.ref)) (t : TupsI X.K H as nss) : Reads s.heap (.ref a) (.list (dTs nss)) [a] := by
  obtain ⟨its, r, ⟨o, n, ho, hc, _, hd⟩, _⟩ := I.list h
  exact reads_list_at ho hc hd (by simpa using readsAll_tups I t r)
theorem shaped_T (ns : List Int) : SeqAt.shaped (.tuple (ns.map PyData.int)) = true := by
  simp [SeqAt.shaped, PyData.canLay0, PyData.depth, PySem.W.ke_canLayAll0, PySem.W.ke_depthAll]
theorem canLay_Ts : ∀ nss : List (List Int), PyData.canLayAll0 (dTs nss) = true
  | [] => rfl
  | ns :: r => by
    show PyData.canLayAll0 (PyData.tuple (ns.map PyData.int) :: dTs r) = true
    simp [PyData.canLayAll0, PyData.canLay0, PySem.W.ke_canLayAll0, canLay_Ts r]
theorem depth_Ts : ∀ nss : List (List Int), PyData.depthAll (dTs nss) ≤ 1
  | [] => Nat.zero_le _
  | ns :: r => by
    show PyData.depthAll (PyData.tuple (ns.map PyData.int) :: dTs r) ≤ 1
    have := depth_Ts r
    simp [PyData.depthAll, PyData.depth, PySem.W.ke_depthAll]
    omega
theorem shaped_L (nss : List (List Int)) : SeqAt.shaped (.list (dTs nss)) = true := by
  have h := depth_Ts nss
  unfold SeqAt.shaped
  rw [Bool.and_eq_true]
  refine ⟨by simp [PyData.canLay0, canLay_Ts], decide_eq_true ?_⟩
  simp only [PyData.depth]
  omega
theorem eqv_T (ns ms : List Int) : PyData.eqv (.tuple (ns.map PyData.int)) (.tuple (ms.map PyData.int)) = decide (ns = ms) := by
  rw [← PySem.W.ked_eqvAll]
  simp [PyData.eqv]
theorem eqvAll_Ts : ∀ nss mss : List (List Int), PyData.eqvAll (dTs nss) (dTs mss) = decide (nss = mss)
  | [], [] => by simp [dTs, PyData.eqvAll]
  | [], _ :: _ => by simp [dTs, PyData.eqvAll]
  | _ :: _, [] => by simp [dTs, PyData.eqvAll]
  | ns :: r, ms :: t => by
    show PyData.eqvAll (PyData.tuple (ns.map PyData.int) :: dTs r) (PyData.tuple (ms.map PyData.int) :: dTs t) = _
    simp only [PyData.eqvAll, eqv_T, eqvAll_Ts r t]
    by_cases h : ns = ms <;> by_cases h' : r = t <;> simp [h, h']
theorem eqv_L (nss mss : List (List Int)) : PyData.eqv (.list (dTs nss)) (.list (dTs mss)) = decide (nss = mss) := by
  rw [← eqvAll_Ts]
  simp [PyData.eqv]
def rEqT (K : PySem.W.Frag) (neg : Bool) : R2 := fun x y H Q => ∃ (a b : Addr) (ns ms : List Int), x = .ref a ∧ y = .ref b ∧ SqT K H a (ns.map V.int) ∧ SqT K H b (ms.map V.int) ∧ Q (.bl (if neg then !decide (ns = ms) else decide (ns = ms))) H
theorem op_eqT (hu : X.A.units + 64 < cLine) : OpR X (compareOp .Eq) (rEqT X.K false) := by
  intro pins s σ H x y v u Q I rx ry h
  obtain ⟨a, b, ns, ms, rfl, rfl, ha, hb, q⟩ := h
  cases rx
  cases ry
  refine eq_dataH (I.readsT ha) (I.readsT hb) (shaped_T _) (shaped_T _) hu ?_
  rw [eqv_T]
  exact ⟨.bl _, H, I, rfl, q⟩
def rEqL (K : PySem.W.Frag) (neg : Bool) : R2 := fun x y H Q => ∃ (a b : Addr) (as bs : List Addr) (nss mss : List (List Int)), x = .ref a ∧ y = .ref b ∧ SqL K H a (as.map V.ref) ∧ TupsI K H as nss ∧ SqL K H b (bs.map V.ref) ∧ TupsI K H bs mss ∧ Q (.bl (if neg then !decide (nss = mss) else decide (nss = mss))) H
theorem op_neL (hu : X.A.units + 64 < cLine) : OpR X (compareOp .NotEq) (rEqL X.K true) := by
  intro pins s σ H x y v u Q I rx ry h
  obtain ⟨a, b, as, bs, nss, mss, rfl, rfl, ha, ta, hb, tb, q⟩ := h
  cases rx
  cases ry
  refine ne_dataH (I.readsL ha ta) (I.readsL hb tb) (shaped_L _) (shaped_L _) hu ?_
  rw [eqv_L]
  exact ⟨.bl _, H, I, rfl, q⟩
theorem ix_tupK {K : PySem.W.Frag} (h : X.K = K) : IxR X (rIxT K) := h ▸ ix_tup
theorem ix_listK {K : PySem.W.Frag} (h : X.K = K) : IxR X (rIxL K) := h ▸ ix_list
theorem op_eqTK {K : PySem.W.Frag} (h : X.K = K) (hu : X.A.units + 64 < cLine) : OpR X (compareOp .Eq) (rEqT K false) := h ▸ op_eqT hu
def rIsI (K : PySem.W.Frag) : List V → Hp → VK → Prop := fun xs H Q => ∃ x n t b, xs = [x, .ty n] ∧ TyOf K H x t ∧ PySem.W.kitOne K t (.type n) = some b ∧ Q (.bl b) H
theorem call_isI : CallR X (.builtin "isinstance") (rIsI X.K) := by
  intro pins s σ H xs us Q I r h
  obtain ⟨x, n, t, b, rfl, ty, e, q⟩ := h
  obtain ⟨u, w', rfl, ru, rw'⟩ := vals2 r
  cases (show w' = Value.type n from rw')
  exact isinst_ok I ru ty e fun tk => ⟨.bl b, H, I.tok _, rfl, q⟩
theorem kit_tuple_tuple (K : PySem.W.Frag) : PySem.W.kitOne K (.type "tuple") (.type "tuple") = some true := by rfl
theorem kit_list_list (K : PySem.W.Frag) : PySem.W.kitOne K (.type "list") (.type "list") = some true := by rfl
theorem mt_index : MtR X "str.index" (fun x xs H Q => ∃ z y i rest, x = .str z ∧ xs = [.str y] ∧ Builtin.Str.occurrences z y 0 z.length 1 = i :: rest ∧ Q (.int (i : Nat)) H) := by
  intro pins s σ H x xs v us Q I rx rs h
  obtain ⟨z, y, i, rest, rfl, rfl, ho, q⟩ := h
  obtain ⟨t, rfl⟩ := rx
  obtain ⟨u, rfl, t', rfl⟩ := vals1 rs
  exact call_gives F.slot_str_index (typeIs_str s z t) F.entry_str_index (F.args_str_index_2 _ _) (gives_str_index z y t t' i rest ho) ⟨.int (i : Nat), H, I.tok _, ⟨_, rfl⟩, q⟩
end
end L2
set_option Elab.async false
set_option linter.all false
set_option maxRecDepth 100000
set_option maxHeartbeats 4000000
namespace Srt
open PySem PySem.W PyProof.Rows
structure Ordr {κ : Type} (lt : κ → κ → Bool) : Prop where
  rf : ∀ a, lt a a = false
  tr : ∀ a b c, lt b a = false → lt c b = false → lt c a = false
  an : ∀ a b, lt a b = false → lt b a = false → a = b
  as : ∀ a b, lt a b = true → lt b a = false
theorem Ordr.lt_le {κ : Type} {lt : κ → κ → Bool} (O : Ordr lt) {a b c : κ} (h : lt a b = true) (g : lt c b = false) : lt a c = true := by
  cases e : lt a c with
  | true => rfl
  | false =>
    have q := O.tr b c a g e
    rw [h] at q
    cases q
section
variable {κ : Type} {lt : κ → κ → Bool} {key : Nat → κ} {cmp : Nat → Nat → (Bool → Shared → Prop) → Shared → Prop} {N : Nat} {s : Shared}
def kk (key : Nat → κ) (p : Array Nat) (k : Nat) : κ := key (p.getD k 0)
def Low (N : Nat) (p : Array Nat) : Prop := p.size = N ∧ ∀ k, p.getD k 0 < N
end
end Srt
set_option Elab.async false
set_option linter.all false
set_option maxRecDepth 100000
set_option maxHeartbeats 4000000
namespace Srt
open PySem PySem.W PyProof.Rows
theorem lex_rf : ∀ a : List Int, HT.lexLt a a = false
  | [] => rfl
  | x :: r => by rw [HT.lexLt_cons, if_pos rfl]; exact lex_rf r
theorem lex_as : ∀ a b : List Int, HT.lexLt a b = true → HT.lexLt b a = false
  | [], [], h => by rw [HT.lexLt_nil_nil] at h; cases h
  | [], _ :: _, _ => rfl
  | _ :: _, [], h => by rw [HT.lexLt_cons_nil] at h; cases h
  | x :: r, y :: t, h => by
    rw [HT.lexLt_cons] at h ⊢
    by_cases e : x = y
    · rw [if_pos e] at h
      rw [if_pos e.symm]
      exact lex_as r t h
    · rw [if_neg e] at h
      rw [if_neg (Ne.symm e)]
      have := of_decide_eq_true h
      exact decide_eq_false (by omega)
theorem lex_an : ∀ a b : List Int, HT.lexLt a b = false → HT.lexLt b a = false → a = b
  | [], [], _, _ => rfl
  | [], _ :: _, h, _ => by rw [HT.lexLt_nil_cons] at h; cases h
  | _ :: _, [], _, h => by rw [HT.lexLt_nil_cons] at h; cases h
  | x :: r, y :: t, h, g => by
    rw [HT.lexLt_cons] at h g
    by_cases e : x = y
    · rw [if_pos e] at h
      rw [if_pos e.symm] at g
      rw [e, lex_an r t h g]
    · rw [if_neg e] at h
      rw [if_neg (Ne.symm e)] at g
      have h1 := of_decide_eq_false h
      have h2 := of_decide_eq_false g
      omega
theorem lex_tr : ∀ a b c : List Int, HT.lexLt b a = false → HT.lexLt c b = false → HT.lexLt c a = false
  | [], _, [], _, _ => rfl
  | [], [], _ :: _, _, _ => rfl
  | [], _ :: _, _ :: _, _, _ => rfl
  | _ :: _, [], _, h, _ => by rw [HT.lexLt_nil_cons] at h; cases h
  | _ :: _, _ :: _, [], _, h => by rw [HT.lexLt_nil_cons] at h; cases h
  | x :: r, y :: t, z :: u, h, g => by
    rw [HT.lexLt_cons] at h g ⊢
    by_cases e1 : y = x
    · rw [if_pos e1] at h
      by_cases e2 : z = y
      · rw [if_pos e2] at g
        rw [if_pos (e2.trans e1)]
        exact lex_tr r t u h g
      · rw [if_neg e2] at g
        have := of_decide_eq_false g
        rw [if_neg (by omega)]
        exact decide_eq_false (by omega)
    · rw [if_neg e1] at h
      have h1 := of_decide_eq_false h
      by_cases e2 : z = y
      · rw [if_neg (by omega)]
        exact decide_eq_false (by omega)
      · rw [if_neg e2] at g
        have h2 := of_decide_eq_false g
        rw [if_neg (by omega)]
        exact decide_eq_false (by omega)
theorem lexO : Ordr HT.lexLt := ⟨lex_rf, lex_tr, lex_an, lex_as⟩
end Srt
namespace L2
open PySem PySem.W PyProof.Rows Srt
section
variable {X : Cx} {pins : List (Addr × Obj)} {σ : St} {H : Hp} {s : Shared}
theorem lex_pairs {prog : Program} {w : World} {A : Around} {fin : Bool} {Q : Bool → Shared → Prop} {s : Shared} : ∀ {ns ms : List Int} {us vs : List Value} (i : Nat), Vals (ns.map V.int) us → Vals (ms.map V.int) vs → ns.length = ms.length → fin = false →
    Q (HT.lexLt ns ms) s → KatLex prog w A true fin Q (us.zip vs) i s
  | [], [], _, _, i, r, q, _, hf, h => by
    rw [List.map_nil] at r q
    cases r; cases q
    subst hf
    exact h
  | x :: ns, y :: ms, _, _, i, r, q, hl, hf, h => by
    rw [List.map_cons] at r q
    cases r with
    | cons r1 r2 =>
      cases q with
      | cons q1 q2 =>
        obtain ⟨t, rfl⟩ := r1
        obtain ⟨t', rfl⟩ := q1
        rw [List.zip_cons_cons]
        refine kat_cons (wpAny_eqBool_int ?_)
        rw [HT.lexLt_cons] at h
        by_cases e : x = y
        · rw [if_pos e] at h
          rw [beq_iff_eq.mpr e]
          exact kat_yes (lex_pairs (i + 1) r2 q2 (by simpa using hl) hf h)
        · rw [if_neg e] at h
          rw [beq_eq_false_iff_ne.mpr e]
          refine kat_no ?_
          cases i with
          | zero => exact oneLt_int h
          | succ i => exact kat_one _ _ (lt_int h)
  | [], _ :: _, _, _, _, _, _, hl, _, _ => by simp at hl
  | _ :: _, [], _, _, _, _, _, hl, _, _ => by simp at hl
end
end L2
set_option Elab.async false
set_option linter.all false
set_option maxRecDepth 100000
set_option maxHeartbeats 4000000
namespace L2
open PySem PySem.W PyProof.Rows Srt
abbrev Prs := List (Addr × List Int)
def Tps (K : PySem.W.Frag) (H : Hp) (ps : Prs) : Prop := ∀ q ∈ ps, SqT K H q.1 (q.2.map V.int)
abbrev refs (ps : Prs) : List V := ps.map fun q => V.ref q.1
theorem firsts_of {h : Heap} : ∀ {ps : Prs} {its : List Value}, Vals (refs ps) its → (∀ q ∈ ps, q.2 ≠ [] ∧ ∃ vs : List Value, Vals (q.2.map V.int) vs ∧ IsTup h q.1 vs.toArray) → ∃ fs : List Value, KatTups h its fs ∧ fs.length = ps.length ∧ ∀ v ∈ fs, ∃ i t, v = Value.int i t
  | [], _, r, _ => by
    have r : Vals [] _ := r
    cases r
    exact ⟨[], KatTups.nil, rfl, fun _ z => nomatch z⟩
  | q :: ps, _, r, ht => by
    have r : Vals (V.ref q.1 :: refs ps) _ := r
    cases r with
    | cons r1 r2 =>
      cases r1
      obtain ⟨fs, k, e, hf⟩ := firsts_of r2 fun p hp => ht p (List.mem_cons_of_mem _ hp)
      obtain ⟨hne, vs, rv, ob, ho, hc, n, hd⟩ := ht q (List.mem_cons_self ..)
      obtain ⟨a, l⟩ := q
      cases l with
      | nil => exact absurd rfl hne
      | cons x l =>
        cases rv with
        | @cons _ f _ fr r3 r4 =>
          obtain ⟨t, rfl⟩ := r3
          refine ⟨.int x t :: fs, KatTups.cons ho hc hd (by simp) k, by simp [e], fun v hv => ?_⟩
          rcases List.mem_cons.mp hv with rfl | hv
          · exact ⟨x, t, rfl⟩
          · exact hf v hv
section
variable {X : Cx}
end
end L2
set_option Elab.async false
set_option linter.all false
set_option maxRecDepth 100000
set_option maxHeartbeats 4000000
namespace L2
open PySem PySem.Spec PyProof.Rows
section
variable {X : Cx}
theorem Inv.turnNew {pins : List (Addr × Obj)} {σ : St} {H : Hp} {s : Shared} {h' : Heap} {t' : Nat} {fp : List Addr} {its : List Value} {xs : List V} {ob : Obj} {n : Nat} (I : Inv X pins σ H s) (hf : ∀ b ∈ fp, FpOk X pins H b) (k : ∀ b o, b ∉ fp → s.heap.get? b = some o → h'.get? b = some o)
    (hT : h'.get? s.heap.objs.size = some ob) (hc : ob.cls = .type "tuple") (hd : ob.data = .seq its.toArray n) (hv : Vals xs its) (hz : xs.length ≤ sizeLine) : Inv X pins σ (upd H s.heap.objs.size (.tup xs)) { s with heap := h', toks := t' } := by
  have hn : H s.heap.objs.size = none := I.fresh
  have nfp : ∀ b u, H b = some u → b ∉ fp := fun b u e z => by rw [(hf b z).1] at e; cases e
  refine I.step (g' := s.gens) (d' := s.drawn) (ch := fp) (fun b hb => ⟨(hf b hb).2.2.2.1, (hf b hb).2.1, (hf b hb).2.2.2.2.1, (hf b hb).2.2.2.2.2⟩) (fun b o _ _ hb e _ => k b o hb e) (fun b o _ _ hb e _ => ⟨o.slots, k b o hb e⟩)
    (fun b o _ e q => by rw [upd_ne (Nat.ne_of_lt (Heap.lt_size e))]; exact q) (fun b o hb e => ⟨o, k b o hb e⟩) (fun b ys e => by rw [upd_ne (ne_of_none e hn)]; exact e) (fun b o u e => by rw [upd_ne (ne_of_none e hn)]; exact e)
    (fun b ps e => ⟨#[], by rw [upd_ne (ne_of_none e hn), e]; simp⟩) (fun m hm => ?_) (fun b u e => ?_) I.bare
  · obtain ⟨o, es, ep, ho, r⟩ := hm
    refine ⟨o, es, ep, k _ o (fun z => (hf _ z).2.1 rfl) ho, r⟩
  · by_cases hb : b = s.heap.objs.size
    · subst hb
      rw [upd_same] at e
      cases e
      exact ⟨hz, its, hv, ob, hT, hc, n, hd⟩
    · rw [upd_ne hb] at e
      refine (I.hok b u e).stay (fun c v hc' q => k c v ?_ q) (fun c q => by rw [upd_ne (ne_of_none q hn)]; exact q) (fun c ys q => by rw [upd_ne (ne_of_none q hn)]; exact q)
      rcases hc' with rfl | hc'
      · exact nfp _ _ e
      · exact nfp _ _ hc'
end
end L2
set_option Elab.async false
set_option linter.all false
set_option maxRecDepth 100000
set_option maxHeartbeats 4000000
namespace Pc
open PySem L2
inductive Ax where
  | x | y | z
  deriving DecidableEq
structure C3 where
  x : Int
  y : Int
  z : Int
  deriving DecidableEq
def C3.l (c : C3) : List Int := [c.x, c.y, c.z]
abbrev C3.v (c : C3) : List V := c.l.map V.int
theorem C3.inj {c d : C3} : c.l = d.l ↔ c = d := by
  obtain ⟨a, b, e⟩ := c
  obtain ⟨a', b', e'⟩ := d
  simp [C3.l]
def Ax.s : Ax → Str
  | .x => "x"
  | .y => "y"
  | .z => "z"
def Ax.n : Ax → Int
  | .x => 0
  | .y => 1
  | .z => 2
def Ax.at (a : Ax) (c : C3) : Int := match a with
  | .x => c.x
  | .y => c.y
  | .z => c.z
def Ax.put (a : Ax) (v : Int) (c : C3) : C3 := match a with
  | .x => ⟨v, c.y, c.z⟩
  | .y => ⟨c.x, v, c.z⟩
  | .z => ⟨c.x, c.y, v⟩
structure Wy where
  ax : Ax
  up : Bool
  deriving DecidableEq
def Wy.s : Wy → Str
  | ⟨.x, true⟩ => "+x"
  | ⟨.x, false⟩ => "-x"
  | ⟨.y, true⟩ => "+y"
  | ⟨.y, false⟩ => "-y"
  | ⟨.z, true⟩ => "+z"
  | ⟨.z, false⟩ => "-z"
def sg (b : Bool) : Int := if b then 1 else -1
def Wy.next (w : Wy) (c : C3) : C3 := w.ax.put (w.ax.at c + sg w.up) c
def C3.o : C3 := ⟨0, 0, 0⟩
def qC (a : Ax) (c : C3) : C3 := match a with
  | .x => ⟨c.x, -c.z, c.y⟩
  | .y => ⟨c.z, c.y, -c.x⟩
  | .z => ⟨-c.y, c.x, c.z⟩
def qW (w : Wy) : Ax → Wy
  | .x => match w with
    | ⟨.x, u⟩ => ⟨.x, u⟩
    | ⟨.y, u⟩ => ⟨.z, u⟩
    | ⟨.z, u⟩ => ⟨.y, !u⟩
  | .y => match w with
    | ⟨.x, u⟩ => ⟨.z, !u⟩
    | ⟨.y, u⟩ => ⟨.y, u⟩
    | ⟨.z, u⟩ => ⟨.x, u⟩
  | .z => match w with
    | ⟨.x, u⟩ => ⟨.y, u⟩
    | ⟨.y, u⟩ => ⟨.x, !u⟩
    | ⟨.z, u⟩ => ⟨.z, u⟩
def allW : List Wy := [⟨.x, true⟩, ⟨.x, false⟩, ⟨.y, true⟩, ⟨.y, false⟩, ⟨.z, true⟩, ⟨.z, false⟩]
theorem qW_o (w : Wy) (a : Ax) : qC a (w.next .o) = (qW w a).next .o := by
  obtain ⟨b, u⟩ := w
  cases a <;> cases b <;> cases u <;> rfl
theorem way_ax (w : Wy) : ∃ c, atI w.s.cps.toList 1 = some c ∧ (⟨#[c]⟩ : Str) = w.ax.s := by
  obtain ⟨b, u⟩ := w
  cases b <;> cases u <;> exact ⟨_, rfl, rfl⟩
theorem way_sg (w : Wy) : ∃ c, atI w.s.cps.toList 0 = some c ∧ decide (V.str (⟨#[c]⟩ : Str) = V.str "+") = w.up := by
  obtain ⟨b, u⟩ := w
  cases b <;> cases u <;> exact ⟨_, rfl, by decide +kernel⟩
theorem way_len (w : Wy) : w.s.length ≤ sizeLine := by
  obtain ⟨b, u⟩ := w
  have h : (2 : Nat) ≤ sizeLine := by decide
  cases b <;> cases u <;> exact h
theorem at_ax (a : Ax) (c : C3) : atI c.v a.n = some (.int (a.at c)) := by
  obtain ⟨x, y, z⟩ := c
  cases a <;> rfl
theorem ix_ax (a : Ax) (c : C3) : ∃ j, ixN c.v.length a.n = some j ∧ ∀ v, c.v.set j (.int v) = (a.put v c).v := by
  obtain ⟨x, y, z⟩ := c
  cases a
  · exact ⟨0, rfl, fun _ => rfl⟩
  · exact ⟨1, rfl, fun _ => rfl⟩
  · exact ⟨2, rfl, fun _ => rfl⟩
def plD : List (Str × V) := [("x", .int 0), ("y", .int 1), ("z", .int 2)]
theorem mem_ax (a : Ax) : (a.s, V.int a.n) ∈ plD := by
  cases a <;> simp [plD, Ax.s, Ax.n]
theorem same_up {H H1 : Hp} {l : Addr} {o : HO} (s : Same H H1) (h : H l = none) : Same H (upd H1 l o) := fun b u q => by rw [upd_ne (ne_of_none q h)]; exact s b u q
theorem same_nw {H H1 : Hp} {l : Addr} {o : HO} (s : Same H H1) (h : H1 l = none) : Same H (upd H1 l o) := same_up s (s.free h)
theorem same_tup {K : PySem.W.Frag} {H H' : Hp} {a : Addr} {xs : List V} (e : Same H H') (h : SqT K H a xs) : SqT K H' a xs := by
  rcases h with (h | ⟨o, h⟩) | h
  · exact .inl (.inl (e _ _ h))
  · exact .inl (.inr ⟨o, e _ _ h⟩)
  · exact .inr h
end Pc
set_option Elab.async false
set_option linter.all false
set_option maxRecDepth 100000
set_option maxHeartbeats 4000000
namespace L2
open PySem PySem.Spec PyProof.Rows
section
variable {X : Cx}
def rCatG : R2 := fun x y H Q => ∃ a b xs ys, x = .ref a ∧ y = .ref b ∧ H a = some (.tup xs) ∧ H b = some (.tup ys) ∧ xs.length + ys.length ≤ sizeLine ∧ ∀ p H', Same H H' → H' p = some (.tup (xs ++ ys)) → Q (.ref p) H'
theorem op_catG : OpR X (binaryOp .Add) rCatG := by
  intro pins s σ H x y v u Q I rx ry h
  obtain ⟨a, b, xs, ys, rfl, rfl, ha, hb, hz, q⟩ := h
  by_cases hx : xs = []
  · subst hx
    cases rx
    cases ry
    obtain ⟨its, r1, p1, _⟩ := I.tuple (SqT.of ha)
    obtain ⟨its2, r2, p2, _⟩ := I.tuple (SqT.of hb)
    obtain ⟨⟨cls, dd, data, sl⟩, ho, hc, n, hd⟩ := id p1
    obtain ⟨⟨cls2, dd2, data2, sl2⟩, ho2, hc2, n2, hd2⟩ := id p2
    simp only at hc hd hc2 hd2
    subst hc hd hc2 hd2
    have e : its = [] := r1.nil_iff.mpr rfl
    exact concat_meets ⟨_, ho, rfl⟩ ⟨_, ho2, rfl⟩ noFill_tuple_add seq_tuple_add PySem.F.slot_tuple_add PySem.F.entry_tuple_add (PySem.F.args_tuple_add_2 _ _)
      (tuple_addW0 a b its.toArray its2.toArray n n2 dd dd2 sl sl2 (by rw [e]; rfl)) ⟨ho, ho2, ⟨.ref b, H, I, rfl, q b H (Same.refl H) (by simpa using hb)⟩⟩
  · refine op_catT pins s σ H (.ref a) (.ref b) v u Q I rx ry ⟨a, b, xs, ys, rfl, rfl, SqT.of ha, SqT.of hb, hx, hz, fun z => q a H (Same.refl H) (by rw [z, List.append_nil]; exact ha), fun _ p hp => q p _ (fun c o e => by rw [upd_ne (ne_of_none e hp)]; exact e) upd_same⟩
theorem for_turns {J : It} {n : Nat} {g : TG} {tb : TS} {D : Ends} {σ : St} {H : Hp} (Pv : Nat → St → Hp → Prop) (h0 : Pv 0 σ H) (hd : ∀ σ H, Pv n σ H → J.stop n H ∧ D.nx σ H)
    (hgo : ∀ i σ H, i < n → Pv i σ H → J.go i H ∧ ∀ x H', J.yld i H x H' → g x σ H' fun σ2 H2 => tb { D with nx := Pv (i + 1), ct := Pv (i + 1), bk := D.nx } σ2 H2) :
    ∃ W : Nat → Nat → St → Hp → Prop, (∃ m, W 0 m σ H) ∧ ∀ i m σ H, W i m σ H →
      (J.stop i H ∧ D.nx σ H) ∨ (J.go i H ∧ ∃ N : St → Hp → Prop, (∀ σ' H', N σ' H' → ∃ m', m' < m ∧ W (i + 1) m' σ' H') ∧ ∀ x H', J.yld i H x H' → g x σ H' fun σ2 H2 => tb { D with nx := N, ct := N, bk := D.nx } σ2 H2) := by
  refine ⟨fun i m σ H => m = n - i ∧ i ≤ n ∧ Pv i σ H, ⟨n, by simp, Nat.zero_le _, h0⟩, ?_⟩
  rintro i m σ H ⟨rfl, hi, p⟩
  by_cases hlt : i < n
  · obtain ⟨q1, q2⟩ := hgo i σ H hlt p
    exact .inr ⟨q1, Pv (i + 1), fun σ' H' p' => ⟨n - (i + 1), by omega, rfl, hlt, p'⟩, q2⟩
  · have e : i = n := by omega
    subst e
    exact .inl (hd σ H p)
end
end L2
namespace Pc
open PySem L2 Srt
def whole : V → Bool
  | .int _ => true
  | _ => false
end Pc
set_option Elab.async false
set_option linter.all false
set_option maxRecDepth 100000
set_option maxHeartbeats 4000000
namespace Pc
open PySem L2 Srt
structure Fn (K : PySem.W.Frag) (mg : Str → Option Value) (x : Str) (st : Stmt) (f : Addr) (fd : FuncData) (ps : List Str) : Prop where
  F : Fun K x x st f fd
  b : Binds K fd ps []
  m : mg x = some (.ref f)
  bt : ∀ (s : Shared) (us : List Value), us.length = ps.length → BindsTo s fd ⟨us, []⟩ (ps.zip us)
theorem b_list : bootBuiltins "list" = some (.type "list") := by decide +kernel
theorem b_tuple : bootBuiltins "tuple" = some (.type "tuple") := by decide +kernel
theorem b_int : bootBuiltins "int" = some (.type "int") := by decide +kernel
theorem b_dict : bootBuiltins "dict" = some (.type "dict") := by decide +kernel
theorem b_set : bootBuiltins "set" = some (.type "set") := by decide +kernel
theorem b_isinstance : bootBuiltins "isinstance" = some (.builtin "isinstance") := by decide +kernel
theorem b_sorted : bootBuiltins "sorted" = some (.builtin "sorted") := by decide +kernel
theorem b_min : bootBuiltins "min" = some (.builtin "min") := by decide +kernel
theorem b_max : bootBuiltins "max" = some (.builtin "max") := by decide +kernel
theorem b_abs : bootBuiltins "abs" = some (.builtin "abs") := by decide +kernel
theorem b_len : bootBuiltins "len" = some (.builtin "len") := by decide +kernel
theorem le1 : 1 ≤ sizeLine := by decide
theorem le2 : 2 ≤ sizeLine := by decide
theorem le3 : 3 ≤ sizeLine := by decide
theorem le0 : 0 ≤ sizeLine := by decide
theorem le6 : 6 ≤ sizeLine := by decide
theorem fn_mk {K : PySem.W.Frag} {h : Heap} {mg : Str → Option Value} {x : Str} {st : Stmt} {f : Addr} {oc kV dc pm cd ct : Value} {od an : Option Addr} {sl : Array (Option Value)} {ps : List Str} (X : K.In h) (G : h.Ns mainGlobals mg)
    (a : PySem.W.nsIn K mainGlobals x = some (some (.ref f))) (l : K.lookup f = some ⟨oc, od, .func (PySem.W.fnOf x x (defArgs st) (defBody st) (defScope st) .none kV dc pm an cd ct), sl⟩) (c : PySem.W.codeIn K cd x = true) (k : PySem.W.keepIn K (.ref f) = true)
    (b : ∀ (kV doc pm : Value) (an : Option Addr) (cdv ct : Value) (us : List Value), us.length = ps.length → bindArgs (PySem.W.fnOf x x (defArgs st) (defBody st) (defScope st) .none kV doc pm an cdv ct) ⟨us, []⟩ = pure (ps.zip us)) : ∃ f fd, Fn K mg x st f fd ps :=
  ⟨f, _, ⟨fun_mk l c k, (fun_mk l c k).binds b, PySem.W.mg_of X G a, fun s us hl => .of_eq (b _ _ _ _ _ _ us hl)⟩⟩
theorem place_mk {K : PySem.W.Frag} {w : World} {h : Heap} {mg : Str → Option Value} {a : Addr} {es : Array DictEntry} {n : Nat} {t0 t1 t2 : Tok} (X : K.In h) (G : h.Ns mainGlobals mg) (m : PySem.W.nsIn K mainGlobals "PLACES" = some (some (.ref a)))
    (l : K.lookup a = some ⟨.type "dict", none, .dict es n, #[]⟩) (k : PySem.W.KeysLit w.params es.toList) (x0 : PySem.W.nsIn K a "x" = some (some (.int 0 t0))) (x1 : PySem.W.nsIn K a "y" = some (some (.int 1 t1))) (x2 : PySem.W.nsIn K a "z" = some (some (.int 2 t2))) :
    ∃ a, mg "PLACES" = some (.ref a) ∧ TopD K w a plD := by
  refine ⟨a, PySem.W.mg_of X G m, ⟨es, n, l, k, fun p hp => ?_⟩⟩
  simp only [plD, List.mem_cons, List.not_mem_nil, or_false] at hp
  rcases hp with rfl | rfl | rfl
  · exact ⟨_, x0, t0, rfl⟩
  · exact ⟨_, x1, t1, rfl⟩
  · exact ⟨_, x2, t2, rfl⟩
theorem tup_mk {K : PySem.W.Frag} {h : Heap} {mg : Str → Option Value} {x : Str} {a : Addr} {its : Array Value} {n : Nat} {d : Option Addr} {sl : Array (Option Value)} {xs : List V} (X : K.In h) (G : h.Ns mainGlobals mg) (m : PySem.W.nsIn K mainGlobals x = some (some (.ref a)))
    (l : K.lookup a = some ⟨.type "tuple", d, .seq its n, sl⟩) (r : Vals xs its.toList) (z : xs.length ≤ sizeLine) : ∃ a, mg x = some (.ref a) ∧ ∀ H, SqT K H a xs :=
  ⟨a, PySem.W.mg_of X G m, fun H => .inr ⟨_, its, n, l, rfl, rfl, (by have e1 := r.length; have e2 : its.toList.length = its.size := Array.length_toList; omega), r⟩⟩
def spLaw (K : PySem.W.Frag) : Sp := fun vs H Q _ => ∃ (a : Addr) (ns : List Int), vs = [.ref a] ∧ SqL K H a (ns.map V.int) ∧ ns.length ≤ 63 ∧ ∀ H', Q (.bl true) H'
theorem walkK {l : PySem.W.OpenLaw} {q : Program} {loose : List Str} {XP : (Str → Option Value) → Heap → Prop} {YP : World → Heap → Prop} {d : DefRec} {K : Params → PySem.W.Frag} {k : Nat} (hk : k ≤ 40) (hn : l.most = some 63) (hdf : d.params.defaults = [])
    (hY : ∀ (w : World) (h : Heap), YP w h → (K w.params).In h)
    (F : ∀ (w : World) (mg : Str → Option Value) (fa : Addr) (h : Heap), (K w.params).In h → h.Ns mainGlobals mg → mg d.name = some (.ref fa) →
      ∃ fd : FuncData, (∀ (s : Shared) (u : Value), BindsTo s fd ⟨[u], []⟩ [("_law_script", u)]) ∧ ∀ base : Heap, (K w.params).In base → base.Ns mainGlobals mg → FnOk l.prog w (K w.params) mg base CX0 k fa fd ["_law_script"] (spLaw (K w.params))) :
    PySem.W.WalkO q loose XP YP l.row.toRowW d [] (fun f vs => PySem.call f vs) :=
  L2.walk_of (n := 63) (k := k) (x := "_law_script") (CX := fun _ => CX0) (sp := fun w => spLaw (K w.params)) hn (by decide) hdf (Room.mono (k := 40) ⟨rfl, by decide, by decide⟩ hk) hY F (fun _ _ a ns hl _ hS => ⟨a, ns, rfl, hS, hl, fun _ => rfl⟩) fun _ _ _ _ _ z => z
end Pc
set_option Elab.async false
set_option linter.all false
set_option maxRecDepth 100000
set_option maxHeartbeats 4000000
namespace L2
open PySem PySem.Spec PyProof.Rows
section
variable {σ : St} {H : Hp} {Q : VK} {D : Ends} {K : PySem.W.Frag}
theorem rd_seq {t u : TS} (h : t { D with nx := u D } σ H) : tSeq t u D σ H := h
theorem rd_asg {te : TE} {g : TG} (h : te σ H fun x H1 => g x σ H1 D.nx) : tAsg te g D σ H := h
theorem rd_gname {i : Nat} {v : V} {R : St → Hp → Prop} (h : R (σ.set i (some v)) H) : gName i v σ H R := h
theorem rd_var {i : Nat} {v : V} (e : σ[i]? = some (some v)) (h : Q v H) : tVar i σ H Q := ⟨v, e, h⟩
theorem rd_c {v : V} (h : Q v H) : tC v σ H Q := h
theorem rd_op {r : R2} {ta tb : TE} (h : ta σ H fun x H1 => tb σ H1 fun y H2 => r x y H2 Q) : tOp r ta tb σ H Q := h
theorem rd_un {r : V → Hp → VK → Prop} {ta : TE} (h : ta σ H fun x H1 => r x H1 Q) : tUn r ta σ H Q := h
theorem rd_i0 {g : Int → Int → V} {i j : Int} (h : Q (g i j) H) : rI0 g (.int i) (.int j) H Q := ⟨i, j, rfl, rfl, h⟩
theorem rd_mod {g : Int → Int → V} {i j : Int} (c : 0 < j) (h : Q (g i j) H) : rI (fun _ j => 0 < j) g (.int i) (.int j) H Q := ⟨i, j, rfl, rfl, c, h⟩
theorem rd_fdiv {g : Int → Int → V} {i j : Int} (c : 0 < j ∧ j < 1073741824) (h : Q (g i j) H) : rI CDiv g (.int i) (.int j) H Q := ⟨i, j, rfl, rfl, c, h⟩
theorem rd_mulR {g : Int → Int → V} {i j : Int} (c : -(2 ^ 64) < j ∧ j < 2 ^ 64) (h : Q (g i j) H) : rI CMul g (.int i) (.int j) H Q := ⟨i, j, rfl, rfl, .inr c, h⟩
theorem rd_pow {g : Int → Int → V} {i j : Int} (c : 0 ≤ j ∧ j ≤ 1000000 ∧ i.natAbs < 2 ^ 64) (h : Q (g i j) H) : rI CPow g (.int i) (.int j) H Q := ⟨i, j, rfl, rfl, c, h⟩
theorem rd_u {g : Int → V} {i : Int} (h : Q (g i) H) : rU g (.int i) H Q := ⟨i, rfl, h⟩
theorem rd_eqI {i j : Int} (h : Q (.bl (decide (i = j))) H) : rEq (.int i) (.int j) H Q := ⟨rfl, by
  have e : decide (V.int i = V.int j) = decide (i = j) := by by_cases z : i = j <;> simp [z]
  rw [e]; exact h⟩
theorem rd_neI {i j : Int} (h : Q (.bl (!decide (i = j))) H) : rNe (.int i) (.int j) H Q := ⟨rfl, by
  have e : decide (V.int i = V.int j) = decide (i = j) := by by_cases z : i = j <;> simp [z]
  rw [e]; exact h⟩
theorem rd_eqS {i j : Str} (h : Q (.bl (decide (i = j))) H) : rEq (.str i) (.str j) H Q := ⟨rfl, by
  have e : decide (V.str i = V.str j) = decide (i = j) := by by_cases z : i = j <;> simp [z]
  rw [e]; exact h⟩
theorem rd_test {t : TE} {R : Bool → Hp → Prop} (h : t σ H fun x H' => ∃ k, x = .bl k ∧ R k H') : tTest t σ H R := h
theorem rd_tb {t : TE} {R : Bool → Hp → Prop} (h : t σ H fun x H' => ∃ k, x = .bl k ∧ R k H') : tB t σ H R := h
theorem rd_bl {k : Bool} {R : Bool → Prop} (h : R k) : ∃ k', V.bl k = .bl k' ∧ R k' := ⟨k, rfl, h⟩
theorem rd_ifs {c : TT} {t u : TS} (h : c σ H fun b H1 => if b = true then t D σ H1 else u D σ H1) : tIfS c t u D σ H := h
theorem rd_and {t u : TT} {R : Bool → Hp → Prop} (h : t σ H fun c H1 => if c = true then u σ H1 R else R false H1) : tAnd t u σ H R := h
theorem rd_or {t u : TT} {R : Bool → Hp → Prop} (h : t σ H fun c H1 => if c = true then R true H1 else u σ H1 R) : tOr t u σ H R := h
theorem rd_not {t : TT} {R : Bool → Hp → Prop} (h : t σ H fun c H1 => R (!c) H1) : tNot t σ H R := h
theorem rd_andV {ta tb : TE} (h : ta σ H fun x H1 => ∃ c, x = .bl c ∧ if c = true then tb σ H1 Q else Q (.bl false) H1) : tAndV ta tb σ H Q := h
theorem rd_next (h : D.nx σ H) : tNext D σ H := h
theorem rd_ret {te : TE} (h : te σ H D.rt) : tRet te D σ H := h
theorem rd_drop {te : TE} (h : te σ H fun _ H1 => D.nx σ H1) : tDrop te D σ H := h
theorem rd_nil {R : List V → Hp → Prop} (h : R [] H) : tNil σ H R := h
theorem rd_cons {ta : TE} {tr : TA} {R : List V → Hp → Prop} (h : ta σ H fun x H1 => tr σ H1 fun xs H2 => R (x :: xs) H2) : tCons ta tr σ H R := h
theorem rd_tup {t : TA} (h : t σ H fun xs H1 => xs.length ≤ sizeLine ∧ ∀ p, H1 p = none → Q (.ref p) (upd H1 p (.tup xs))) : tTup t σ H Q := h
theorem rd_lst {t : TA} (h : t σ H fun xs H1 => xs.length ≤ sizeLine ∧ ∀ p, H1 p = none → Q (.ref p) (upd H1 p (.lst xs))) : tLst t σ H Q := h
theorem rd_call {sp : Sp} {dvs : List V} {E : XK} {t : TA} (h : t σ H fun vs H1 => sp (vs ++ dvs) H1 Q E) : tCall sp dvs E t σ H Q := h
theorem rd_cb {r : List V → Hp → VK → Prop} {t : TA} (h : t σ H fun vs H1 => r vs H1 Q) : tCB r t σ H Q := h
theorem rd_bm {T : String} {r : V → List V → Hp → VK → Prop} {to : TE} {t : TA} (h : to σ H fun x H1 => tyV K T x H1 ∧ t σ H1 fun xs H2 => r x xs H2 Q) : tBM K T r to t σ H Q := h
theorem rd_sl {r : V → Option Int → Option Int → Hp → VK → Prop} {te : TE} {tl th : TO} (h : te σ H fun x H1 => tl σ H1 fun l H2 => th σ H2 fun u H3 => r x l u H3 Q) : tSl r te tl th σ H Q := h
theorem rd_nop {R : Option Int → Hp → Prop} (h : R none H) : tNoPart σ H R := h
theorem rd_part {t : TE} {R : Option Int → Hp → Prop} (h : t σ H fun x H1 => ∃ i, x = .int i ∧ R (some i) H1) : tPart t σ H R := h
theorem rd_int {i : Int} {R : Int → Prop} (h : R i) : ∃ k, V.int i = .int k ∧ R k := ⟨i, rfl, h⟩
theorem rd_ixL {p : Addr} {xs : List V} {i : Int} {v : V} (h : SqL K H p xs) (e : atI xs i = some v) (q : Q v H) : rIxL K (.ref p) (.int i) H Q := ⟨p, xs, i, v, rfl, rfl, h, e, q⟩
theorem rd_ixT {p : Addr} {xs : List V} {i : Int} {v : V} (h : SqT K H p xs) (e : atI xs i = some v) (q : Q v H) : rIxT K (.ref p) (.int i) H Q := ⟨p, xs, i, v, rfl, rfl, h, e, q⟩
theorem rd_sll {p : Addr} {xs : List V} {lo hi : Option Int} (h : SqL K H p xs) (q : ∀ l, H l = none → Q (.ref l) (upd H l (.lst (cutV xs lo hi)))) : rSlL K (.ref p) lo hi H Q := ⟨p, xs, rfl, h, q⟩
theorem rd_true {A B : Prop} (h : A) : if true = true then A else B := iteT h
theorem rd_false {A B : Prop} (h : B) : if false = true then A else B := iteF h
theorem rd_ntrue {A B : Prop} (h : B) : if (!true) = true then A else B := iteF h
theorem rd_nfalse {A B : Prop} (h : A) : if (!false) = true then A else B := iteT h
theorem rd_gtup {n : Nat} {t : TGs} {p : Addr} {xs : List V} {R : St → Hp → Prop} (h : SqT K H p xs) (e : xs.length = n) (q : t xs σ H R) : gTup K n t (.ref p) σ H R := ⟨p, xs, rfl, h, e, q⟩
theorem rd_gnil {R : St → Hp → Prop} (h : R σ H) : gNil [] σ H R := ⟨rfl, h⟩
theorem rd_gcons {t : TG} {u : TGs} {v : V} {r : List V} {R : St → Hp → Prop} (h : t v σ H fun σ' H' => u r σ' H' R) : gCons t u (v :: r) σ H R := ⟨v, r, rfl, h⟩
theorem rd_yes {R : Bool → Hp → Prop} (h : R true H) : tYes σ H R := h
theorem same_new {p : Addr} {o : HO} (h : H p = none) : Same H (upd H p o) := fun b u q => by rw [upd_ne (ne_of_none q h)]; exact q
theorem lk_old {p q : Addr} {o u : HO} (hn : H p = none) (h : H q = some u) : upd H p o q = some u := same_new hn q u h
theorem lk_same {H0 : Hp} {q : Addr} {u : HO} (s : Same H0 H) (h : H0 q = some u) : H q = some u := s q u h
theorem lk_ne {p q : Addr} {o u : HO} (hn : q ≠ p) (h : H q = some u) : upd H p o q = some u := by rw [upd_ne hn]; exact h
theorem lk_kind {p q : Addr} {o u u' : HO} (h' : H p = some u') (hd : u ≠ u') (h : H q = some u) : upd H p o q = some u := by rw [upd_ne (ne_of h h' hd)]; exact h
theorem sqL_new {p q : Addr} {o : HO} {xs : List V} (hn : H p = none) (h : SqL K H q xs) : SqL K (upd H p o) q xs := (same_new hn).seq h
end
end L2
set_option Elab.async false
set_option linter.all false
set_option maxRecDepth 100000
set_option maxHeartbeats 4000000
namespace L2
open PySem PySem.Spec PyProof.Rows
structure QE (X : Cx) (e : Expr) (t : TE) : Prop where
  r : PE X e t
structure QT (X : Cx) (e : Expr) (t : TT) : Prop where
  r : PT X e t
structure QW (X : Cx) (e : Expr) (t : TT) : Prop where
  r : PW X e t
structure QA (X : Cx) (es : List Expr) (t : TA) : Prop where
  r : PA X es t
structure QS (X : Cx) (st : Stmt) (t : TS) : Prop where
  r : PS X st t
structure QSs (X : Cx) (sts : List Stmt) (t : TS) : Prop where
  r : PSs X sts t
structure QG (X : Cx) (e : Expr) (t : TG) : Prop where
  r : PG X e t
structure QGs (X : Cx) (es : List Expr) (t : TGs) : Prop where
  r : PGs X es t
structure QI (X : Cx) (tg it : Expr) (t : TI) : Prop where
  r : PI X tg it t
structure QO (X : Cx) (e : Option Expr) (t : TO) : Prop where
  r : PO X e t
structure QF (X : Cx) (ifs : List Expr) (t : TT) : Prop where
  r : PIfs X ifs t
structure QPs (X : Cx) (pos : Pos) (ks : List (Option Expr)) (vs : List Expr) (trs : List (TE × TE)) : Prop where
  r : PPs X pos ks vs trs
structure QOp (X : Cx) (f : Value → Value → Sem Value) (r : R2) : Prop where
  r : OpR X f r
structure QIx (X : Cx) (r : R2) : Prop where
  r : IxR X r
structure QCl (X : Cx) (f : Value) (r : List V → Hp → VK → Prop) : Prop where
  r : CallR X f r
section
set_option autoImplicit true
set_option relaxedAutoImplicit true
variable {X : Cx}
theorem qv (i : Nat) {x : Str} {pos : Pos} (hN : X.N[i]? = some x := by rfl) (hv : Vis X.env.scope x := by first | exact Or.inl rfl | exact Or.inr (Or.inl rfl) | exact Or.inr (Or.inr rfl)) (hd : (x == ("__debug__" : Str)) = false := by decide)
    (hcd : (x == ("__classdict__" : Str)) = false := by decide) : QE X (.Name x pos) (tVar i) := ⟨pv i hN hv hd hcd⟩
theorem qe_int {i j pos} : QE X (.Constant (.int i) j pos) (tC (.int i)) := ⟨pe_int⟩
theorem qe_bl {b j pos} : QE X (.Constant (.bool b) j pos) (tC (.bl b)) := ⟨pe_bl⟩
theorem qe_non {j pos} : QE X (.Constant .none j pos) (tC .non) := ⟨pe_non⟩
theorem qe_str {x j pos} : QE X (.Constant (.str x) j pos) (tC (.str x)) := ⟨pe_str⟩
theorem qe_glob {x : Str} {v : V} {u : Value} {pos : Pos} (hg : Gl X x) (hm : X.mg x = some u) (r : RelV v u) (hd : (x == ("__debug__" : Str)) = false := by decide) : QE X (.Name x pos) (tC v) := ⟨pe_glob hg hm r hd⟩
theorem qe_bltn {x : Str} {v : V} {u : Value} {pos : Pos} (hg : Gl X x) (hm : X.mg x = none) (hv : bootBuiltins x = some u) (r : RelV v u) (hn : x ≠ "__name__" := by decide) (hd : (x == ("__debug__" : Str)) = false := by decide) : QE X (.Name x pos) (tC v) := ⟨pe_bltn hg hm hv r hn hd⟩
theorem qe_op {op : Operator} {r : R2} (ho : QOp X (binaryOp op) r) (ha : QE X a ta) (hb : QE X b tb) : QE X (.BinOp a op b pos) (tOp r ta tb) := ⟨pe_op ho.r ha.r hb.r⟩
theorem qe_neg (ha : QE X a ta) : QE X (.UnaryOp .USub a pos) (tUn (rU fun i => .int (-i)) ta) := ⟨pe_un un_neg ha.r⟩
theorem qe_cmpR {op : CmpOp} {r : R2} (ho : QOp X (compareOp op) r) (ha : QE X a ta) (hb : QE X b tb) (hm : behindInMarks op b = false) : QE X (.Compare a [op] [b] pos) (tOp r ta tb) := ⟨pe_cmpR ho.r ha.r hb.r hm⟩
theorem qt_cmpR {op : CmpOp} {r : R2} (ho : QOp X (compareOp op) r) (ha : QE X a ta) (hb : QE X b tb) (hm : behindInMarks op b = false) : QT X (.Compare a [op] [b] pos) (tTest (tOp r ta tb)) := ⟨pt_cmpR ho.r ha.r hb.r hm⟩
theorem qt_din (hu : X.A.units + 1 < cLine) (hi : QE X i ty) (ho : QE X o td) (h1 : behindInMarks .In o = false) : QT X (.Compare i [.In] [o] pos) (tB (tDIn ty td)) := ⟨pt_cmp (pc_din hu hi.r ho.r) h1⟩
theorem qt_dnotin (hu : X.A.units + 1 < cLine) (hi : QE X i ty) (ho : QE X o td) (h1 : behindInMarks .NotIn o = false) : QT X (.Compare i [.NotIn] [o] pos) (tB (tDNotIn ty td)) := ⟨pt_cmp (pc_dnotin hu hi.r ho.r) h1⟩
theorem qt_not (ha : QT X a tA) : QT X (.UnaryOp .Not a pos) (tNot tA) := ⟨pt_not ha.r⟩
theorem qe_one {op} {t : TE} (h : QE X a t) : QE X (.BoolOp op [a] pos) t := ⟨pe_one h.r⟩
theorem qe_and {b : Expr} {rest : List Expr} (ha : QE X a ta) (hb : QE X (.BoolOp .And (b :: rest) pos) tb) : QE X (.BoolOp .And (a :: b :: rest) pos) (tAndV ta tb) := ⟨pe_and ha.r hb.r⟩
theorem qw_and1 (ha : QT X a tA) : QW X (.BoolOp .And [a] pos) tA := ⟨pw_and1 ha.r⟩
theorem qw_or1 (ha : QT X a tA) : QW X (.BoolOp .Or [a] pos) tA := ⟨pw_or1 ha.r⟩
theorem qw_and {b : Expr} {rest : List Expr} (ha : QT X a tA) (hb : QW X (.BoolOp .And (b :: rest) pos) tB') : QW X (.BoolOp .And (a :: b :: rest) pos) (tAnd tA tB') := ⟨pw_and ha.r hb.r⟩
theorem qw_or {b : Expr} {rest : List Expr} (ha : QT X a tA) (hb : QW X (.BoolOp .Or (b :: rest) pos) tB') : QW X (.BoolOp .Or (a :: b :: rest) pos) (tOr tA tB') := ⟨pw_or ha.r hb.r⟩
theorem QW.t {t : TT} (h : QW X e t) : QT X e t := ⟨PW.pt h.r⟩
theorem qe_ifExp {c : Expr} (hc : QT X c tA) (ha : QE X a ta) (hb : QE X b tb) : QE X (.IfExp c a b pos) (tIf tA ta tb) := ⟨pe_ifExp hc.r ha.r hb.r⟩
theorem qt_val {e : Expr} {t : TE} (h : QE X e t) (he : ∀ whole, isTrue e X.env whole = (do let v ← whole; standAt e.pos; holding [v] (truthy v)) := by intro _; rfl) : QT X e (tB t) := ⟨pt_val h.r he⟩
def tTruth (K : PySem.W.Frag) (ta : TE) : TT := fun σ H Q => ta σ H fun x H' => ∃ k, TruV K x H' k ∧ Q k H'
theorem qt_truth {K : PySem.W.Frag} (ha : QE X a ta) (he : ∀ whole, isTrue a X.env whole = (do let v ← whole; standAt a.pos; holding [v] (truthy v))) (hK : X.K = K) : QT X a (tTruth K ta) := ⟨hK ▸ pt_truth ha.r he⟩
theorem qe_ix {r : R2} (hr : QIx X r) (ha : QE X a ta) (hb : QE X b tb) (hs : PlainIx b) : QE X (.Subscript a b pos) (tOp r ta tb) := ⟨pe_ix hr.r ha.r hb.r hs⟩
theorem qo_none : QO X none tNoPart := ⟨po_none⟩
theorem qo_some (h : QE X e te) : QO X (some e) (tPart te) := ⟨po_some h.r⟩
theorem qe_slL {K : PySem.W.Frag} {lo hi : Option Expr} (hK : X.K = K) (he : QE X e te) (hl : QO X lo tl) (hu : QO X hi th) : QE X (.Subscript e (.Slice lo hi none p2) pos) (tSl (rSlL K) te tl th) := ⟨hK ▸ pe_slice sl_list he.r hl.r hu.r⟩
theorem qe_slT {K : PySem.W.Frag} {lo hi : Option Expr} (hK : X.K = K) (he : QE X e te) (hl : QO X lo tl) (hu : QO X hi th) : QE X (.Subscript e (.Slice lo hi none p2) pos) (tSl (rSlT K) te tl th) := ⟨hK ▸ pe_slice sl_tup he.r hl.r hu.r⟩
theorem qe_lst (h : QA X es t) : QE X (.List es pos) (tLst t) := ⟨pe_lst h.r⟩
theorem qe_tup {x1} (h : QA X es t) : QE X (.Tuple es x1 pos) (tTup t) := ⟨pe_tup h.r⟩
theorem qa_nil : QA X [] tNil := ⟨pa_nil⟩
theorem qa_cons (ha : QE X e te) (hr : QA X es t) (hs : starEach (e :: es) X.env = (false, eval e X.env) :: starEach es X.env := by rfl) : QA X (e :: es) (tCons te t) := ⟨pa_cons ha.r hr.r hs⟩
theorem qe_dnewT : QE X (.Dict [] [] pos) tDNewT := ⟨pe_dnewT⟩
theorem qe_comp {tg elt iter : Expr} {ifs : List Expr} {scope : Scope} {pos : Pos} {N : List Str} {wi : TI} {g : TG} {tc : TT} {te : TE} (own : List Str) (caps : List Nat) (hc : X.calm = true)
    (hN : N = own ++ caps.map fun j => (X.N[j]?).getD (Str.ofString "")) (hok : blkOk X.env.scope X.N scope caps = true) (hkind : scope.kind = .function)
    (hi : QI X tg iter wi) (hg : ∀ cl s₃ H₃ ch, QG (cxBlk X N scope cl s₃ H₃ ch) tg g) (hifs : ∀ cl s₃ H₃ ch, QF (cxBlk X N scope cl s₃ H₃ ch) ifs tc) (he : ∀ cl s₃ H₃ ch, QE (cxBlk X N scope cl s₃ H₃ ch) elt te)
    (hs : ∀ x, foldedSetIterable iter X.env x = pure x := by intro _; rfl) : QE X (.ListComp elt [⟨tg, iter, ifs, 0⟩] scope pos) (tComp own.length caps wi g tc te) :=
  ⟨pe_comp own caps hc hN hok hkind hi.r (fun a b c d => (hg a b c d).r) (fun a b c d => (hifs a b c d).r) (fun a b c d => (he a b c d).r) hs⟩
theorem qf_nil : QF X [] tYes := ⟨pifs_nil⟩
theorem qf_one {t : TT} (h : QT X c t) : QF X [c] t := ⟨pifs_one h.r⟩
theorem qe_call {CX : CXT} {k : Nat} {f : Addr} {fd : FuncData} {ps : List Str} {sp : Sp} {dvs : List V} {ds : List Value} {E : XK} {x : Str} {p pos : Pos} {e : Expr} {es : List Expr} {t : TA} (F : FnOk X.prog X.w X.K X.mg X.base CX k f fd ps sp) (hr : Room k X.A) (hg : Gl X x) (hm : X.mg x = some (.ref f)) (hk : PySem.W.keepIn X.K (.ref f) = true) (hb : Binds X.K fd ps ds) (hd : Vals dvs ds) (hx : Passes CX X E)
    (ha : QA X (e :: es) t) (hdb : (x == ("__debug__" : Str)) = false := by decide) (he : starEach (e :: es) X.env = (false, eval e X.env) :: starEach es X.env := by rfl) (hpl : (backTo pos (starEach es X.env)).any (·.1) = false := by rfl) :
    QE X (.Call (.Name x p) (e :: es) [] pos) (tCall sp dvs E t) := ⟨pe_call F hr hg hm hk hb hd hx ha.r hdb he hpl⟩
theorem qe_callB {id : String} {r : List V → Hp → VK → Prop} {x : Str} {p pos : Pos} {e : Expr} {es : List Expr} {t : TA} (hc : QCl X (.builtin id) r) (hg : Gl X x) (hm : X.mg x = none) (hv : bootBuiltins x = some (.builtin id)) (ha : QA X (e :: es) t) (hn : x ≠ "__name__" := by decide) (hdb : (x == ("__debug__" : Str)) = false := by decide)
    (he : starEach (e :: es) X.env = (false, eval e X.env) :: starEach es X.env := by rfl) (hpl : (backTo pos (starEach es X.env)).any (·.1) = false := by rfl) : QE X (.Call (.Name x p) (e :: es) [] pos) (tCB r t) := ⟨pe_callB hc.r hg hm hv ha.r hn hdb he hpl⟩
theorem qe_callTy {T : String} {r : List V → Hp → VK → Prop} {x : Str} {p pos : Pos} {e : Expr} {es : List Expr} {t : TA} (hc : QCl X (.type T) r) (hg : Gl X x) (hm : X.mg x = none) (hv : bootBuiltins x = some (.type T)) (ha : QA X (e :: es) t) (hn : x ≠ "__name__" := by decide) (hdb : (x == ("__debug__" : Str)) = false := by decide)
    (he : starEach (e :: es) X.env = (false, eval e X.env) :: starEach es X.env := by rfl) (hpl : (backTo pos (starEach es X.env)).any (·.1) = false := by rfl) : QE X (.Call (.Name x p) (e :: es) [] pos) (tCB r t) := ⟨pe_callTy hc.r hg hm hv ha.r hn hdb he hpl⟩
theorem qe_bm {K : PySem.W.Frag} {T : String} {name : Str} {id : String} {r : V → List V → Hp → VK → Prop} {o e : Expr} {es : List Expr} {to : TE} {t : TA} {apos cpos : Pos} (hK : X.K = K) (pa : PlainAttrs T) (slot : Slot T name id) (hty : typeOf (.builtin id) = pure (.type "method_descriptor")) (hm : MtR X id r) (ho : QE X o to) (ha : QA X (e :: es) t)
    (hbase : attributeBase o name X.env (eval o X.env) = eval o X.env := by rfl)
    (hfew : ((backTo cpos (starEach (e :: es) X.env)).all (fun x => !x.1) && (backToKw cpos (keywordEach [] X.env)).all (fun x => x.1.isSome)
      && decide ((e :: es).length + ([] : List Keyword).length + (if ([] : List Keyword).isEmpty then 0 else 1) < 30)) = true := by rfl)
    (hline : (apos.endLine == cpos.line) = true := by rfl) (hs : starEach (e :: es) X.env = (false, eval e X.env) :: starEach es X.env := by rfl) (hplain : (backTo cpos (starEach es X.env)).any (·.1) = false := by rfl) :
    QE X (.Call (.Attribute o name apos) (e :: es) [] cpos) (tBM K T r to t) := ⟨hK ▸ pe_bm pa slot hty hm ho.r ha.r hbase hfew hline hs hplain⟩
theorem qss_nil : QSs X [] tNext := ⟨pss_nil⟩
theorem qss_cons {st : Stmt} {rest : List Stmt} {t u : TS} (h1 : QS X st t) (h2 : QSs X rest u) : QSs X (st :: rest) (tSeq t u) := ⟨pss_cons h1.r h2.r⟩
theorem qss_one {st : Stmt} {t : TS} (h1 : QS X st t) : QSs X [st] t := ⟨pss_one h1.r⟩
theorem qs_expr {e : Expr} {te : TE} {pos : Pos} (he : QE X e te) (hs : swapsWith e none pos.line X.env = pure false := by rfl) : QS X (.Expr e pos) (tDrop te) := ⟨ps_expr he.r hs⟩
theorem qs_ret {te : TE} (he : QE X e te) : QS X (.Return (some e) pos) (tRet te) := ⟨ps_ret he.r⟩
theorem qs_if {c : Expr} {a b : List Stmt} {tc : TT} {t u : TS} (hc : QT X c tc) (ha : QSs X a t) (hb : QSs X b u) : QS X (.If c a b pos) (tIfS tc t u) := ⟨ps_if hc.r ha.r hb.r⟩
theorem qg_name {i : Nat} {x : Str} {pos : Pos} (hN : X.N.Nodup) (hi : X.N[i]? = some x) (hx : Loc X.env.scope x) (hf : X.fn x = true ∨ X.env.scope.names.lookup x = some .local := by first | exact .inl rfl | exact .inr rfl | assumption) : QG X (.Name x pos) (gName i) := ⟨pg_name hN hi hx hf⟩
theorem qgs_nil : QGs X [] gNil := ⟨pgs_nil⟩
theorem qgs_cons {e : Expr} {es : List Expr} {t : TG} {u : TGs} (h1 : QG X e t) (h2 : QGs X es u) (hs : (assignEach (e :: es) X.env).map (·.2) = assign e X.env :: (assignEach es X.env).map (·.2) := by rfl) : QGs X (e :: es) (gCons t u) := ⟨pgs_cons h1.r h2.r hs⟩
theorem qg_tup {K : PySem.W.Frag} {es : List Expr} {k : Nat} {t : TGs} {n : Nat} {pos : Pos} (hK : X.K = K) (hc : X.calm = true) (h : QGs X es t) (hn : (assignEach es X.env).length = n := by rfl) (hst : (assignEach es X.env).findIdx? (·.1) = none := by rfl) : QG X (.Tuple es k pos) (gTup K n t) := ⟨hK ▸ pg_tup hc h.r hn hst⟩
theorem qg_sub {o i : Expr} {to ti : TE} {pos : Pos} (ho : QE X o to) (hi : QE X i ti)
    (ha : ∀ v, assign (.Subscript o i pos) X.env v = (do
      let ov ← holding [v] (eval o X.env)
      let iv ← holding [v, ov] (eval i X.env)
      standAt pos
      holding [v, ov, iv] (setItem ov iv v)
      release [v, ov, iv] []) := by intro _; rfl) : QG X (.Subscript o i pos) (gSub to ti rSetL) := ⟨pg_sub ho.r hi.r set_list ha⟩
theorem qs_asg {tg e : Expr} {te : TE} {g : TG} {pos : Pos} (he : QE X e te) (hg : QG X tg g) (hs : swapsWithSole [tg] e pos.line X.env = pure false := by rfl) (hw : swappedStores [tg] e X.env = pure none := by rfl)
    (h1 : (assignEach [tg] X.env).map (·.2) = [assign tg X.env] := by rfl) : QS X (.Assign [tg] e pos) (tAsg te g) := ⟨ps_asg he.r hg.r hs hw h1⟩
theorem qs_set {i : Nat} {x : Str} {e : Expr} {te : TE} {pos pos' : Pos} (hN : X.N.Nodup) (hi : X.N[i]? = some x) (hx : Loc X.env.scope x) (he : QE X e te) (hs : swapsWith e (some (.Name x pos')) pos.line X.env = pure false := by rfl) (hf : X.fn x = true ∨ X.env.scope.names.lookup x = some .local := by first | exact .inl rfl | exact .inr rfl | assumption) :
    QS X (.Assign [.Name x pos'] e pos) (tAsg te (gName i)) := ⟨ps_set hN hi hx he.r hs hf⟩
theorem qs_dput {o i value : Expr} {td ty tv : TE} {pos pos' : Pos} (hu : X.A.units + 1 < cLine) (ho : QE X o td) (hi : QE X i ty) (hv : QE X value tv) (hs : swapsWith value (some (.Subscript o i pos')) pos.line X.env = pure false) : QS X (.Assign [.Subscript o i pos'] value pos) (sDPut td ty tv) := ⟨ps_dput hu ho.r hi.r hv.r hs⟩
theorem qs_for {tg iter : Expr} {body : List Stmt} {wi : TI} {g : TG} {tb : TS} {pos : Pos} (hp : PassesOwn (model X.prog X.w) X.A X.env X.xe) (hc : X.calm = true) (hi : QI X tg iter wi) (hg : QG X tg g) (hb : QSs X body tb)
    (hs : ∀ x, foldedSetIterable iter X.env x = pure x := by intro _; rfl) : QS X (.For tg iter body [] pos) (tFor wi g tb) := ⟨ps_for hp hc hi.r hg.r hb.r hs⟩
theorem qs_while {c : Expr} {body : List Stmt} {tc : TT} {tb : TS} {pos : Pos} (hp : PassesOwn (model X.prog X.w) X.A X.env X.xe) (hc : QT X c tc) (hb : QSs X body tb) : QS X (.While c body [] pos) (tWhile tc tb) := ⟨ps_while hp hc.r hb.r⟩
theorem qi_list {K : PySem.W.Frag} {tg l : Expr} {tl : TE} (hK : X.K = K) (hl : QE X l tl) : QI X tg l (iList K tl) := ⟨hK ▸ pi_list hl.r⟩
theorem qi_tup {K : PySem.W.Frag} {tg l : Expr} {tl : TE} (hK : X.K = K) (hl : QE X l tl) : QI X tg l (iTup K tl) := ⟨hK ▸ pi_tup hl.r⟩
theorem qi_range1 {tg a : Expr} {ta : TA} {p pos : Pos} (hg : Gl X "range") (hm : X.mg "range" = none) (ha : QA X [a] ta) (hs : starEach [a] X.env = [(false, eval a X.env)] := by rfl) : QI X tg (.Call (.Name "range" p) [a] [] pos) (iRng1 ta) := ⟨pi_range1 hg hm ha.r hs⟩
theorem qo_add : QOp X (binaryOp .Add) (rI0 fun i j => .int (i + j)) := ⟨op_add⟩
theorem qo_sub : QOp X (binaryOp .Sub) (rI0 fun i j => .int (i - j)) := ⟨op_sub⟩
theorem qo_mul : QOp X (binaryOp .Mult) (rI CMul fun i j => .int (i * j)) := ⟨op_mul⟩
theorem qo_fdiv : QOp X (binaryOp .FloorDiv) (rI CDiv fun i j => .int (i / j)) := ⟨op_fdiv⟩
theorem qo_mod : QOp X (binaryOp .Mod) (rI (fun _ j => 0 < j) fun i j => .int (i % j)) := ⟨op_mod⟩
theorem qo_pow : QOp X (binaryOp .Pow) (rI CPow fun i j => .int (i ^ j.toNat)) := ⟨op_pow⟩
theorem qo_cat : QOp X (binaryOp .Add) rCat := ⟨op_cat⟩
theorem qo_catG : QOp X (binaryOp .Add) rCatG := ⟨op_catG⟩
theorem qo_lt : QOp X (compareOp .Lt) (rI0 fun i j => .bl (decide (i < j))) := ⟨op_lt⟩
theorem qo_gt : QOp X (compareOp .Gt) (rI0 fun i j => .bl (decide (j < i))) := ⟨op_gt⟩
theorem qo_eq : QOp X (compareOp .Eq) rEq := ⟨op_eq⟩
theorem qo_ne : QOp X (compareOp .NotEq) rNe := ⟨op_ne⟩
def rIsN (neg : Bool) : R2 := fun x y H Q => y = .non ∧ Q (.bl (if neg then !decide (x = .non) else decide (x = .non))) H
theorem qo_isN : QOp X (compareOp .Is) (rIsN false) := ⟨op_isN⟩
theorem qo_notN : QOp X (compareOp .IsNot) (rIsN true) := ⟨op_notN⟩
theorem qo_eqT {K : PySem.W.Frag} (h : X.K = K) (hu : X.A.units + 64 < cLine) : QOp X (compareOp .Eq) (rEqT K false) := ⟨op_eqTK h hu⟩
theorem qo_in {K : PySem.W.Frag} (h : X.K = K) : QOp X (compareOp .In) (rIn K false) := ⟨h ▸ op_in_seq⟩
theorem qo_notIn {K : PySem.W.Frag} (h : X.K = K) : QOp X (compareOp .NotIn) (rIn K true) := ⟨h ▸ op_notIn_seq⟩
theorem qx_list {K : PySem.W.Frag} (h : X.K = K) : QIx X (rIxL K) := ⟨ix_listK h⟩
theorem qx_tup {K : PySem.W.Frag} (h : X.K = K) : QIx X (rIxT K) := ⟨ix_tupK h⟩
theorem qx_str : QIx X rIxS := ⟨ix_str⟩
theorem qx_top {K : PySem.W.Frag} {w : World} (h : X.K = K) (hw : X.w = w) : QIx X (rIxTop K w) := ⟨by subst h hw; exact ix_top⟩
def rLen (K : PySem.W.Frag) : List V → Hp → VK → Prop := fun xs H Q => ∃ p ys, xs = [.ref p] ∧ (SqL K H p ys ∨ SqT K H p ys) ∧ Q (.int ys.length) H
theorem qc_len {K : PySem.W.Frag} (h : X.K = K) : QCl X (.builtin "len") (rLen K) := ⟨h ▸ call_len_seq⟩
theorem qc_isI {K : PySem.W.Frag} (h : X.K = K) : QCl X (.builtin "isinstance") (rIsI K) := ⟨h ▸ call_isI⟩
def rListOf (K : PySem.W.Frag) : List V → Hp → VK → Prop := fun xs H Q => ∃ p ys, xs = [.ref p] ∧ (SqL K H p ys ∨ SqT K H p ys) ∧ ∀ l, H l = none → Q (.ref l) (upd H l (.lst ys))
theorem qc_list {K : PySem.W.Frag} (h : X.K = K) : QCl X (.type "list") (rListOf K) := ⟨h ▸ call_list_of⟩
def rTupOf (K : PySem.W.Frag) : List V → Hp → VK → Prop := fun xs H Q => ∃ p ys, xs = [.ref p] ∧ ((SqL K H p ys ∧ ∀ l, H l = none → Q (.ref l) (upd H l (.tup ys))) ∨ (SqT K H p ys ∧ Q (.ref p) H))
theorem qc_tuple {K : PySem.W.Frag} (h : X.K = K) : QCl X (.type "tuple") (rTupOf K) := ⟨h ▸ call_tuple_of⟩
def rInt1 : List V → Hp → VK → Prop := fun xs H Q => (∃ i, xs = [.int i] ∧ Q (.int i) H) ∨ ∃ k, xs = [.bl k] ∧ Q (.int (if k then 1 else 0)) H
theorem qc_int : QCl X (.type "int") rInt1 := ⟨call_int1⟩
def rAbs : List V → Hp → VK → Prop := fun xs H Q => ∃ i, xs = [.int i] ∧ Q (.int (if i < 0 then -i else i)) H
theorem qc_abs : QCl X (.builtin "abs") rAbs := ⟨call_abs⟩
end
section
variable {σ : St} {H : Hp} {Q : VK} {D : Ends} {K : PySem.W.Frag}
theorem rd_lenL {p : Addr} {ys : List V} (h : SqL K H p ys) (q : Q (.int ys.length) H) : rLen K [.ref p] H Q := ⟨p, ys, rfl, .inl h, q⟩
theorem rd_lenT {p : Addr} {ys : List V} (h : SqT K H p ys) (q : Q (.int ys.length) H) : rLen K [.ref p] H Q := ⟨p, ys, rfl, .inr h, q⟩
theorem rd_listL {p : Addr} {ys : List V} (h : SqL K H p ys) (q : ∀ l, H l = none → Q (.ref l) (upd H l (.lst ys))) : rListOf K [.ref p] H Q := ⟨p, ys, rfl, .inl h, q⟩
theorem rd_tupL {p : Addr} {ys : List V} (h : SqL K H p ys) (q : ∀ l, H l = none → Q (.ref l) (upd H l (.tup ys))) : rTupOf K [.ref p] H Q := ⟨p, ys, rfl, .inl ⟨h, q⟩⟩
theorem rd_intB {k : Bool} (h : Q (.int (if k then 1 else 0)) H) : rInt1 [.bl k] H Q := .inr ⟨k, rfl, h⟩
theorem rd_abs {i : Int} (h : Q (.int (if i < 0 then -i else i)) H) : rAbs [.int i] H Q := ⟨i, rfl, h⟩
theorem rd_isTT {a : Addr} {xs : List V} (e : H a = some (.tup xs)) (h : Q (.bl true) H) : rIsI K [.ref a, .ty "tuple"] H Q := ⟨_, _, _, _, rfl, .tup e, kit_tuple_tuple K, h⟩
theorem rd_isLL {a : Addr} {xs : List V} (e : H a = some (.lst xs)) (h : Q (.bl true) H) : rIsI K [.ref a, .ty "list"] H Q := ⟨_, _, _, _, rfl, .lst e, kit_list_list K, h⟩
theorem rd_eqT {a b : Addr} {ns ms : List Int} (h1 : SqT K H a (ns.map V.int)) (h2 : SqT K H b (ms.map V.int)) (q : Q (.bl (decide (ns = ms))) H) : rEqT K false (.ref a) (.ref b) H Q := ⟨a, b, ns, ms, rfl, rfl, h1, h2, q⟩
theorem rd_slT {p : Addr} {xs : List V} {lo hi : Option Int} (h : SqT K H p xs) (c : ¬ (HT.sIx xs.length 0 lo = 0 ∧ HT.sIx xs.length xs.length hi = xs.length)) (q : ∀ l, H l = none → Q (.ref l) (upd H l (.tup (cutV xs lo hi)))) : rSlT K (.ref p) lo hi H Q := ⟨p, xs, rfl, h, c, q⟩
theorem rd_catG {a b : Addr} {xs ys : List V} (h1 : H a = some (.tup xs)) (h2 : H b = some (.tup ys)) (z : xs.length + ys.length ≤ sizeLine) (q : ∀ p H', Same H H' → H' p = some (.tup (xs ++ ys)) → Q (.ref p) H') : rCatG (.ref a) (.ref b) H Q := ⟨a, b, xs, ys, rfl, rfl, h1, h2, z, q⟩
theorem rd_catL {a b : Addr} {xs ys : List V} (h1 : H a = some (.lst xs)) (h2 : H b = some (.lst ys)) (z : xs.length + ys.length ≤ sizeLine) (q : ∀ p, H p = none → Q (.ref p) (upd H p (.lst (xs ++ ys)))) : rCat (.ref a) (.ref b) H Q := ⟨a, b, xs, ys, rfl, rfl, h1, h2, z, q⟩
abbrev ForGo (J : It) (g : TG) (tb : TS) (D : Ends) (σ : St) (H : Hp) : Prop := ∃ W : Nat → Nat → St → Hp → Prop, (∃ m, W 0 m σ H) ∧ ∀ i m σ H, W i m σ H →
      (J.stop i H ∧ D.nx σ H) ∨ (J.go i H ∧ ∃ N : St → Hp → Prop, (∀ σ' H', N σ' H' → ∃ m', m' < m ∧ W (i + 1) m' σ' H') ∧ ∀ x H', J.yld i H x H' → g x σ H' fun σ2 H2 => tb { D with nx := N, ct := N, bk := D.nx } σ2 H2)
theorem rd_for {wi : TI} {g : TG} {tb : TS} (h : wi σ H fun J H1 => ForGo J g tb D σ H1) : tFor wi g tb D σ H := h
theorem rd_comp {n : Nat} {caps : List Nat} {wi : TI} {g : TG} {tc : TT} {te : TE} (h : wi σ H fun J H1 => ∀ acc, H1 acc = none → CompGo acc Q g tc te J (blockSt n caps σ) (upd H1 acc (.lst []))) : tComp n caps wi g tc te σ H Q := h
theorem rd_ilist {tl : TE} {R : It → Hp → Prop} (h : tl σ H fun x H1 => ∃ a, x = .ref a ∧ (∃ xs, SqL K H1 a xs) ∧ R (Itl K a) H1) : iList K tl σ H R := h
theorem rd_itup {tl : TE} {R : It → Hp → Prop} (h : tl σ H fun x H1 => ∃ a, x = .ref a ∧ (∃ xs, SqT K H1 a xs) ∧ R (Itt K a) H1) : iTup K tl σ H R := h
theorem rd_il {p : Addr} {xs : List V} {R : Addr → Prop} (h : SqL K H p xs) (q : R p) : ∃ a, V.ref p = .ref a ∧ (∃ xs, SqL K H a xs) ∧ R a := ⟨p, rfl, ⟨xs, h⟩, q⟩
theorem rd_it {p : Addr} {xs : List V} {R : Addr → Prop} (h : SqT K H p xs) (q : R p) : ∃ a, V.ref p = .ref a ∧ (∃ xs, SqT K H a xs) ∧ R a := ⟨p, rfl, ⟨xs, h⟩, q⟩
theorem rd_irng1 {ta : TA} {R : It → Hp → Prop} (h : ta σ H fun vs H1 => ∃ j : Int, vs = [.int j] ∧ -(2 ^ 62) ≤ j ∧ j < 2 ^ 62 ∧ R (Itr 0 j.toNat) H1) : iRng1 ta σ H R := h
theorem rd_ir1 {j : Int} {R : Int → Prop} (h1 : -(2 ^ 62) ≤ j) (h2 : j < 2 ^ 62) (q : R j) : ∃ k : Int, [V.int j] = [.int k] ∧ -(2 ^ 62) ≤ k ∧ k < 2 ^ 62 ∧ R k := ⟨j, rfl, h1, h2, q⟩
end
section
variable {σ : St} {H : Hp} {Q : VK} {D : Ends} {K : PySem.W.Frag}
theorem rd_ixLn {n : Nat} {p : Addr} {xs : List V} {v : V} (h : SqL K H p xs) (e : atI xs (@OfNat.ofNat Int n instOfNat) = some v) (q : Q v H) : rIxL K (.ref p) (.int (@OfNat.ofNat Int n instOfNat)) H Q := rd_ixL h e q
theorem rd_ixTn {n : Nat} {p : Addr} {xs : List V} {v : V} (h : SqT K H p xs) (e : atI xs (@OfNat.ofNat Int n instOfNat) = some v) (q : Q v H) : rIxT K (.ref p) (.int (@OfNat.ofNat Int n instOfNat)) H Q := rd_ixT h e q
theorem rd_str {z : Str} {i : Int} {c : Nat} (l : z.length ≤ sizeLine) (e : atI z.cps.toList i = some c) (q : Q (.str ⟨#[c]⟩) H) : rIxS (.str z) (.int i) H Q := ⟨z, i, c, rfl, rfl, l, e, q⟩
end
theorem Fun.okQ {P : Program} {w : World} {K : PySem.W.Frag} {mg : Str → Option Value} {base : Heap} {x qual : Str} {st : Stmt} {f : Addr} {fd : FuncData} {N ps : List Str} {k : Nat} {sp : Sp} (F : Fun K x qual st f fd) (S : FnScope N ps (defScope st)) (len : ∀ vs H Q E, sp vs H Q E → vs.length = ps.length)
    (hbody : ∀ (cdv : Value) (A : Around) (outer : List Env) (s : Shared) (H : Hp) (vs : List V) (Q : VK) (E : XK), Room k (A.deeper (envOfC qual (defScope st) s.heap.objs.size f cdv)) → sp vs H Q E →
      ∃ t, QSs (cxOf CX0 P w K mg base N qual (defScope st) f cdv A outer s H E).nox (defBody st) t ∧ t { nx := fun _ H' => Q .non H', rt := Q } (start N vs) H) : FnOk P w K mg base CX0 (k + 1) f fd ps sp :=
  F.ok S len fun cdv A outer s H vs Q E hr h => let ⟨t, a, b⟩ := hbody cdv A outer s H vs Q E hr h; ⟨t, a.r, b⟩
end L2
set_option Elab.async false
set_option linter.all false
set_option maxRecDepth 100000
set_option maxHeartbeats 4000000
namespace Pc
open PySem L2 Srt
def spAlong (K : PySem.W.Frag) : Sp := fun vs H Q _ => ∃ (a : Addr) (ax : Ax) (c : C3), vs = [.ref a, .str ax.s] ∧ SqT K H a c.v ∧ Q (.int (ax.at c)) H
def spPlaced (K : PySem.W.Frag) : Sp := fun vs H Q _ => ∃ (a : Addr) (ax : Ax) (c : C3) (v : Int), vs = [.ref a, .str ax.s, .int v] ∧ SqT K H a c.v ∧ ∀ p H', Same H H' → H' p = some (.tup (ax.put v c).v) → Q (.ref p) H'
def spNext (K : PySem.W.Frag) : Sp := fun vs H Q _ => ∃ (a : Addr) (w : Wy) (c : C3), vs = [.ref a, .str w.s] ∧ SqT K H a c.v ∧ ∀ p H', Same H H' → H' p = some (.tup (w.next c).v) → Q (.ref p) H'
def spCellAt (K : PySem.W.Frag) : Sp := fun vs H Q _ => ∃ (a : Addr) (ns : List Int) (k : Int), vs = [.ref a, .int k] ∧ SqL K H a (ns.map V.int) ∧ 0 ≤ k ∧ ∀ n : Int, Q (.int n) H
theorem way0 (w : Wy) : ∃ c, atI w.s.cps.toList 0 = some c ∧ (⟨#[c]⟩ : Str) = (if w.up then ("+" : Str) else ("-" : Str)) := by
  obtain ⟨b, u⟩ := w
  cases b <;> cases u <;> exact ⟨_, rfl, rfl⟩
theorem ax_occ (ax : Ax) : ∃ rest, Builtin.Str.occurrences (Str.ofString "xyz") ax.s 0 (Str.ofString "xyz").length 1 = ax.n.toNat :: rest := by
  cases ax <;> exact ⟨[], by decide +kernel⟩
theorem ax_nat (ax : Ax) : ((ax.n.toNat : Nat) : Int) = ax.n := by cases ax <;> rfl
end Pc
set_option Elab.async false
set_option linter.all false
set_option maxRecDepth 100000
set_option maxHeartbeats 4000000
namespace Tim
open PySem PyProof.Rows
section
variable {prog : Program} {w : World} {A : Around} {E : Value → Shared → Prop} {s : Shared}
end
end Tim
set_option Elab.async false
set_option linter.all false
set_option maxRecDepth 100000
set_option maxHeartbeats 4000000
namespace Tim
open PySem PyProof.Rows
section lists
variable {α : Type} {R : α → α → Prop}
structure MI (R : α → α → Prop) (A B O : List α) (i j : Nat) : Prop where
  perm : O.Perm (A.take i ++ B.take j)
  srt : O.Pairwise R
  la : ∀ x ∈ O, ∀ y ∈ A.drop i, R x y
  lb : ∀ x ∈ O, ∀ y ∈ B.drop j, R x y
end lists
structure Cmp {κ : Type} (lt : κ → κ → Bool) (k : Keyed → κ) (S : Keyed → Prop) (kind : SortKind) (prog : Program) (w : World) (A : Around) (s : Shared) : Prop where
  ord : Srt.Ordr lt
  ask : ∀ x y : Keyed, S x → S y → ∀ {Q : Bool → Shared → Prop} {E : Value → Shared → Prop}, Q (lt (k x) (k y)) s → wpAny (model prog w) A (keyLt' kind x.1 y.1) Q E s
section
variable {κ : Type} {lt : κ → κ → Bool} {k : Keyed → κ} {S : Keyed → Prop} {kind : SortKind} {prog : Program} {w : World} {A : Around} {E : Value → Shared → Prop} {s : Shared}
def Le (lt : κ → κ → Bool) (k : Keyed → κ) (x y : Keyed) : Prop := lt (k y) (k x) = false
structure Fine (kind : SortKind) (st : SortSt) : Prop where
  kd : kindOf st = kind
  fl : failedOf st = none
theorem wpS_lt {x y : Keyed} {st : SortSt} {Q : Option Bool → SortSt → Prop} (C : Cmp lt k S kind prog w A s) (F : Fine kind st) (hx : S x) (hy : S y) (h : Q (some (lt (k x) (k y))) st) : wpS (model prog w) A E s (lt' x y) Q st := by
  rw [lt'_eq]
  refine wpS_bind (wpS_get ?_)
  rw [F.kd]
  refine wpS_bind (wpS_lift (wpAny_attempt (C.ask x y hx hy ⟨rfl, ?_⟩)))
  exact wpS_pure h
theorem wpS_elem {arr : Array Keyed} {i : Nat} {x : Keyed} {st : SortSt} {Q : Keyed → SortSt → Prop} (h : arr.toList[i]? = some x) (q : Q x st) : wpS (model prog w) A E s (elem' arr i) Q st := by
  rw [elem'_eq]
  rw [Array.getElem?_toList] at h
  rw [h]
  exact wpS_pure q
end
end Tim
set_option Elab.async false
set_option linter.all false
set_option maxRecDepth 100000
set_option maxHeartbeats 4000000
namespace Tim
open PySem PyProof.Rows
section
variable {κ : Type} {lt : κ → κ → Bool} {k : Keyed → κ} {S : Keyed → Prop} {kind : SortKind} {prog : Program} {w : World} {A : Around} {E : Value → Shared → Prop} {s : Shared}
structure St0 (kind : SortKind) (st st' : SortSt) : Prop where
  ar : arrOf st' = arrOf st
  pd : pendingOf st' = pendingOf st
  fine : Fine kind st'
end
end Tim
set_option Elab.async false
set_option linter.all false
set_option maxRecDepth 100000
set_option maxHeartbeats 4000000
namespace Tim
open PySem PyProof.Rows
section
variable {κ : Type} {lt : κ → κ → Bool} {k : Keyed → κ} {S : Keyed → Prop} {kind : SortKind} {prog : Program} {w : World} {A : Around} {E : Value → Shared → Prop} {s : Shared}
end
end Tim
set_option Elab.async false
set_option linter.all false
set_option maxRecDepth 100000
set_option maxHeartbeats 4000000
namespace Tim
open PySem PyProof.Rows
section
variable {κ : Type} {lt : κ → κ → Bool} {k : Keyed → κ} {S : Keyed → Prop} {kind : SortKind} {prog : Program} {w : World} {A : Around} {E : Value → Shared → Prop} {s : Shared}
def kx (k : Keyed → κ) (xs : Array Keyed) (i : Nat) : κ := k ((xs[i]?).getD (Value.none, Value.none))
theorem kx_congr {xs ys : Array Keyed} {i j : Nat} (h : xs[i]? = ys[j]?) : kx k xs i = kx k ys j := by unfold kx; rw [h]
theorem kx_bub {xs : Array Keyed} {src d : Nat} (hs : src < xs.size) (hd : d ≤ src) (i : Nat) : kx k (bubble xs src d) i = if i = src - d then kx k xs src else if src - d < i ∧ i ≤ src then kx k xs (i - 1) else kx k xs i := by
  have e := getElem?_bubble hs d hd i
  by_cases h1 : i = src - d
  · rw [if_pos h1] at e ⊢; exact kx_congr e
  · rw [if_neg h1] at e ⊢
    by_cases h2 : src - d < i ∧ i ≤ src
    · rw [if_pos h2] at e ⊢; exact kx_congr e
    · rw [if_neg h2] at e ⊢; exact kx_congr e
theorem kx_rev {xs : Array Keyed} {i j : Nat} (hj : j ≤ xs.size) (q : Nat) : kx k (mirror xs i j ((j - i) / 2)) q = if i ≤ q ∧ q < j then kx k xs (i + j - 1 - q) else kx k xs q := by
  have e := getElem?_mirror_all (i := i) hj q
  by_cases h1 : i ≤ q ∧ q < j
  · rw [if_pos h1] at e ⊢; exact kx_congr e
  · rw [if_neg h1] at e ⊢; exact kx_congr e
theorem kx_rev_eq {xs : Array Keyed} {i j : Nat} (hj : j ≤ xs.size) (he : ∀ q, i ≤ q → q < j → kx k xs q = kx k xs (j - 1)) (q : Nat) : kx k (mirror xs i j ((j - i) / 2)) q = kx k xs q := by
  rw [kx_rev hj]
  split
  · rename_i h
    rw [he (i + j - 1 - q) (by omega) (by omega), he q h.1 h.2]
  · rfl
def UpK (lt : κ → κ → Bool) (k : Keyed → κ) (xs : Array Keyed) (lo n : Nat) : Prop := ∀ i j, i ≤ j → j < n → lt (kx k xs (lo + j)) (kx k xs (lo + i)) = false
def DnK (lt : κ → κ → Bool) (k : Keyed → κ) (xs : Array Keyed) (lo n : Nat) : Prop := ∀ i j, i ≤ j → j < n → lt (kx k xs (lo + i)) (kx k xs (lo + j)) = false
structure StA (kind : SortKind) (lo n : Nat) (st st' : SortSt) : Prop where
  pd : pendingOf st' = pendingOf st
  fine : Fine kind st'
  perm : (arrOf st').Perm (arrOf st)
  out : ∀ i, i < lo ∨ lo + n ≤ i → (arrOf st')[i]? = (arrOf st)[i]?
theorem StA.refl {lo n : Nat} {st : SortSt} (F : Fine kind st) : StA kind lo n st st := ⟨rfl, F, Array.Perm.refl _, fun _ _ => rfl⟩
theorem StA.trans {lo n : Nat} {st st1 st2 : SortSt} (h1 : StA kind lo n st st1) (h2 : StA kind lo n st1 st2) : StA kind lo n st st2 := ⟨h2.pd.trans h1.pd, h2.fine, h2.perm.trans h1.perm, fun i hi => (h2.out i hi).trans (h1.out i hi)⟩
theorem StA.size {lo n : Nat} {st st' : SortSt} (h : StA kind lo n st st') : (arrOf st').size = (arrOf st).size := h.perm.size_eq
def AllS (S : Keyed → Prop) (st : SortSt) : Prop := ∀ x ∈ (arrOf st).toList, S x
theorem StA.all {lo n : Nat} {st st' : SortSt} (h : StA kind lo n st st') (hS : AllS S st) : AllS S st' := fun x hx => hS x ((Array.perm_iff_toList_perm.mp h.perm).mem_iff.mp hx)
theorem StA.set {lo n : Nat} {st : SortSt} {xs : Array Keyed} (F : Fine kind st) (hp : xs.Perm (arrOf st)) (ho : ∀ i, i < lo ∨ lo + n ≤ i → xs[i]? = (arrOf st)[i]?) : StA kind lo n st (setArr st xs) := ⟨rfl, ⟨F.kd, F.fl⟩, hp, ho⟩
theorem wpS_at {st : SortSt} {i j : Nat} {Q : Option Bool → SortSt → Prop} (C : Cmp lt k S kind prog w A s) (F : Fine kind st) (hS : AllS S st) (hi : i < (arrOf st).size) (hj : j < (arrOf st).size) (h : Q (some (lt (kx k (arrOf st) i) (kx k (arrOf st) j))) st) : wpS (model prog w) A E s (ltAt' i j) Q st := by
  have ei : (arrOf st).toList[i]? = some (arrOf st)[i] := by rw [Array.getElem?_toList, Array.getElem?_eq_getElem hi]
  have ej : (arrOf st).toList[j]? = some (arrOf st)[j] := by rw [Array.getElem?_toList, Array.getElem?_eq_getElem hj]
  have ki : kx k (arrOf st) i = k (arrOf st)[i] := by unfold kx; rw [Array.getElem?_eq_getElem hi]; rfl
  have kj : kx k (arrOf st) j = k (arrOf st)[j] := by unfold kx; rw [Array.getElem?_eq_getElem hj]; rfl
  rw [ki, kj] at h
  rw [ltAt'_eq]
  refine wpS_bind (wpS_get ?_)
  exact wpS_bind (wpS_elem ei (wpS_bind (wpS_elem ej (wpS_lt C F (hS _ (by simp)) (hS _ (by simp)) h))))
theorem wpS_binary {st : SortSt} {lo n ok : Nat} {Q : Bool → SortSt → Prop} (C : Cmp lt k S kind prog w A s) (F : Fine kind st) (hS : AllS S st) (hn : lo + n ≤ (arrOf st).size) (hok : ok ≤ n) (hs : UpK lt k (arrOf st) lo ok)
    (h : ∀ st', StA kind lo n st st' → UpK lt k (arrOf st') lo n → Q true st') : wpS (model prog w) A E s (binarySort' lo n ok) Q st := by
  have O := C.ord
  rw [binarySort'_eq]
  refine wpS_bind (wpS_mono (wpS_forRange (I := fun q c st' => c = (none, ()) ∧ StA kind lo n st st' ∧ UpK lt k (arrOf st') lo (min q n))
    (Q := fun c st' => c = (none, ()) ∧ StA kind lo n st st' ∧ UpK lt k (arrOf st') lo n) ?step ?fin ?init) ?post)
  case post =>
    rintro c st' ⟨rfl, hB', hs'⟩
    exact wpS_pure (h st' hB' hs')
  case init =>
    refine ⟨rfl, .refl F, fun i j hij hj => ?_⟩
    by_cases h1 : ok = 0
    · have : i = j := by omega
      subst this; exact O.rf _
    · exact hs i j hij (by omega)
  case fin =>
    rintro c st' ⟨hc, hB', hs'⟩
    refine ⟨hc, hB', ?_⟩
    rwa [show min (max (max ok 1) n) n = n by omega] at hs'
  case step =>
    rintro q c st' hak hkn ⟨rfl, hB', hs'⟩
    rw [show min q n = q by omega] at hs'
    have hsz := hB'.size
    have hS' := hB'.all hS
    refine wpS_bind (wpS_mono (wpS_forRange (I := fun x c st'' => st'' = st' ∧ ∃ l r, c = (none, l, r) ∧ l ≤ r ∧ r ≤ q ∧ r - l ≤ q - x ∧
        (∀ i, i < l → lt (kx k (arrOf st') (lo + q)) (kx k (arrOf st') (lo + i)) = false) ∧ (∀ i, r ≤ i → i < q → lt (kx k (arrOf st') (lo + q)) (kx k (arrOf st') (lo + i)) = true))
      (Q := fun c st'' => st'' = st' ∧ ∃ l r, c = (none, l, r) ∧ l ≤ q ∧
        (∀ i, i < l → lt (kx k (arrOf st') (lo + q)) (kx k (arrOf st') (lo + i)) = false) ∧ (∀ i, l ≤ i → i < q → lt (kx k (arrOf st') (lo + q)) (kx k (arrOf st') (lo + i)) = true)) ?istep ?ifin ?iinit) ?ipost)
    case iinit => exact ⟨rfl, 0, q, rfl, by omega, by omega, by omega, fun i hi => by omega, fun i h1 h2 => by omega⟩
    case ifin =>
      rintro c st'' ⟨rfl, l, r, rfl, hlr, hrk, hm, hlo, hhi⟩
      have : l = r := by omega
      subst this
      exact ⟨rfl, l, l, rfl, hrk, hlo, hhi⟩
    case istep =>
      rintro x c st'' _ hxk ⟨rfl, l, r, rfl, hlr, hrk, hm, hlo, hhi⟩
      dsimp only
      by_cases hge : l ≥ r
      · rw [if_pos hge]
        have : l = r := by omega
        subst this
        exact wpS_pure ⟨rfl, l, l, rfl, hrk, hlo, hhi⟩
      · rw [if_neg hge]
        refine wpS_bind (wpS_at C hB'.fine hS' (by omega) (by omega) ?_)
        cases hless : lt (kx k (arrOf st'') (lo + q)) (kx k (arrOf st'') (lo + (l + r) / 2))
        case true =>
          simp only [if_true]
          refine wpS_pure ⟨rfl, l, (l + r) / 2, rfl, by omega, by omega, by omega, hlo, fun i h1 h2 => ?_⟩
          exact O.lt_le hless (hs' _ _ h1 h2)
        case false =>
          simp only [Bool.false_eq_true, if_false]
          refine wpS_pure ⟨rfl, (l + r) / 2 + 1, r, rfl, by omega, by omega, by omega, fun i h1 => ?_, hhi⟩
          exact O.tr _ _ _ (hs' i ((l + r) / 2) (by omega) (by omega)) hless
    case ipost =>
      rintro c st'' ⟨rfl, l, r, rfl, hlk, hlo, hhi⟩
      show wpS _ _ _ _ (do moveDown' (lo + q) (lo + l); pure (ForInStep.yield (none, ()))) _ _
      rw [moveDown'_eq]
      have hks : lo + q < (arrOf st'').size := by omega
      have hb := fun i => getElem?_bubble hks (lo + q - (lo + l)) (by omega) i
      refine wpS_bind (wpS_modify (wpS_pure ⟨rfl, hB'.trans (.set hB'.fine (bubble_perm _ _ _) fun i hi => ?_), ?_⟩))
      · rw [hb i, if_neg (by omega), if_neg (by omega)]
      rw [show min (q + 1) n = q + 1 by omega]
      intro i j hij hj
      show lt (kx k (bubble (arrOf st'') (lo + q) (lo + q - (lo + l))) (lo + j)) (kx k (bubble (arrOf st'') (lo + q) (lo + q - (lo + l))) (lo + i)) = false
      rw [kx_bub hks (by omega), kx_bub hks (by omega), show lo + q - (lo + q - (lo + l)) = lo + l by omega]
      by_cases j1 : j = l
      · rw [if_pos (by omega)]
        by_cases i1 : i = l
        · rw [if_pos (by omega)]; exact O.rf _
        · rw [if_neg (by omega), if_neg (by omega)]; exact hlo i (by omega)
      · rw [if_neg (by omega)]
        by_cases j2 : l < j
        · rw [if_pos (by omega), show lo + j - 1 = lo + (j - 1) by omega]
          by_cases i1 : i = l
          · rw [if_pos (by omega)]; exact O.as _ _ (hhi (j - 1) (by omega) (by omega))
          · rw [if_neg (by omega)]
            by_cases i2 : l < i
            · rw [if_pos (by omega), show lo + i - 1 = lo + (i - 1) by omega]; exact hs' _ _ (by omega) (by omega)
            · rw [if_neg (by omega)]; exact hs' _ _ (by omega) (by omega)
        · rw [if_neg (by omega), if_neg (by omega), if_neg (by omega)]; exact hs' _ _ (by omega) (by omega)
theorem wpS_asc {st : SortSt} {lo x0 nrem : Nat} {Q : Option (Option Nat) × Nat → SortSt → Prop} (C : Cmp lt k S kind prog w A s) (F : Fine kind st) (hS : AllS S st) (hn : lo + nrem ≤ (arrOf st).size) (h0 : 1 ≤ x0) (h1 : x0 ≤ nrem) (hu : UpK lt k (arrOf st) lo x0)
    (h : ∀ n, x0 ≤ n → n ≤ nrem → UpK lt k (arrOf st) lo n → (n = nrem ∨ lt (kx k (arrOf st) (lo + n)) (kx k (arrOf st) (lo + n - 1)) = true) → Q (none, n) st) :
    wpS (model prog w) A E s (forIn [x0:nrem] ((none : Option (Option Nat)), x0) fun x (r : Option (Option Nat) × Nat) => do
      let __x ← ltAt' (lo + r.2) (lo + r.2 - 1)
      match __x with
      | some smaller => if smaller = true then pure (ForInStep.done (none, r.2)) else pure (ForInStep.yield (none, r.2 + 1))
      | x => pure (ForInStep.done (some none, r.2))) Q st := by
  have O := C.ord
  refine wpS_forRange (I := fun x c st' => st' = st ∧ c = (none, x) ∧ x0 ≤ x ∧ x ≤ nrem ∧ UpK lt k (arrOf st) lo x) ?step ?fin ⟨rfl, rfl, Nat.le_refl _, h1, hu⟩
  case fin =>
    rintro c st' ⟨rfl, rfl, a, b, u⟩
    rw [show max x0 nrem = nrem by omega] at u ⊢
    exact h nrem (by omega) (by omega) u (.inl rfl)
  case step =>
    rintro x c st' hx1 hx2 ⟨rfl, rfl, a, b, u⟩
    dsimp only
    refine wpS_bind (wpS_at C F hS (by omega) (by omega) ?_)
    cases e : lt (kx k (arrOf st') (lo + x)) (kx k (arrOf st') (lo + x - 1)) with
    | true =>
      dsimp only
      rw [if_pos rfl]
      exact wpS_pure (h x a b u (.inr e))
    | false =>
      dsimp only
      rw [if_neg (by decide)]
      refine wpS_pure ⟨rfl, rfl, by omega, by omega, fun i j hij hj => ?_⟩
      rcases Nat.lt_or_ge j x with z | z
      · exact u i j hij z
      · obtain rfl : j = x := by omega
        rcases Nat.lt_or_ge i j with y | y
        · rw [show lo + j - 1 = lo + (j - 1) by omega] at e
          exact O.tr _ _ _ (u i (j - 1) (by omega) (by omega)) e
        · obtain rfl : i = j := by omega
          exact O.rf _
end
end Tim
set_option Elab.async false
set_option linter.all false
set_option maxRecDepth 100000
set_option maxHeartbeats 4000000
namespace Tim
open PySem PyProof.Rows
section
variable {κ : Type} {lt : κ → κ → Bool} {k : Keyed → κ} {S : Keyed → Prop} {kind : SortKind} {prog : Program} {w : World} {A : Around} {E : Value → Shared → Prop} {s : Shared}
def descP (lo nrem n0 : Nat) : StateT SortSt Sem (Option Nat) := do
  rule "list.sort.descending-run"
  let mut n := n0 + 1
  let mut neq := 0
  for _ in [n:nrem] do
    let some smaller ← ltAt' (lo + n) (lo + n - 1) | return none
    if smaller then
      if neq > 0 then reverseSlice' (lo + n - (neq + 1)) (lo + n)
      neq := 0
    else
      let some larger ← ltAt' (lo + n - 1) (lo + n) | return none
      if larger then break
      neq := neq + 1
    n := n + 1
  if neq > 0 then reverseSlice' (lo + n - (neq + 1)) (lo + n)
  reverseSlice' lo (lo + n)
  for _ in [n:nrem] do
    let some smaller ← ltAt' (lo + n) (lo + n - 1) | return none
    if smaller then break
    n := n + 1
  return some n
def tail3 (lo nrem n0 : Nat) : StateT SortSt Sem (Option Nat) := do
  let mut n := n0
  reverseSlice' lo (lo + n)
  for _ in [n:nrem] do
    let some smaller ← ltAt' (lo + n) (lo + n - 1) | return none
    if smaller then break
    n := n + 1
  return some n
theorem StA.rev {lo n : Nat} {st : SortSt} {i j : Nat} (F : Fine kind st) (hi : lo ≤ i) (hj : j ≤ lo + n) (hz : lo + n ≤ (arrOf st).size) : StA kind lo n st (setArr st (mirror (arrOf st) i j ((j - i) / 2))) :=
  .set F (mirror_perm _ _ _ _) fun q hq => by rw [getElem?_mirror_all (i := i) (by omega) q, if_neg (by omega)]
theorem wpS_tail {st st0 : SortSt} {lo nrem n : Nat} {Q : Option Nat → SortSt → Prop} (C : Cmp lt k S kind prog w A s) (hst : StA kind lo nrem st0 st) (hS : AllS S st) (hn : lo + nrem ≤ (arrOf st).size) (h1 : 1 ≤ n) (h2 : n ≤ nrem) (hd : DnK lt k (arrOf st) lo n)
    (h : ∀ n st', StA kind lo nrem st0 st' → 1 ≤ n → n ≤ nrem → UpK lt k (arrOf st') lo n → Q (some n) st') :
    wpS (model prog w) A E s (tail3 lo nrem n) Q st := by
  unfold tail3
  dsimp only
  rw [reverseSlice'_eq]
  refine wpS_bind (wpS_modify ?_)
  have hr := StA.rev (lo := lo) (i := lo) (j := lo + n) (n := nrem) hst.fine (Nat.le_refl _) (by omega) hn
  have hst2 := hst.trans hr
  have hsz := hr.size
  refine wpS_bind (wpS_asc C hst2.fine (hr.all hS) (by omega) h1 h2 (fun i j hij hj => ?_) fun m a b c _ => ?_)
  · show lt (kx k (mirror (arrOf st) lo (lo + n) ((lo + n - lo) / 2)) (lo + j)) (kx k (mirror (arrOf st) lo (lo + n) ((lo + n - lo) / 2)) (lo + i)) = false
    rw [kx_rev (by omega), kx_rev (by omega), if_pos (by omega), if_pos (by omega), show lo + (lo + n) - 1 - (lo + j) = lo + (n - 1 - j) by omega, show lo + (lo + n) - 1 - (lo + i) = lo + (n - 1 - i) by omega]
    exact hd _ _ (by omega) (by omega)
  · exact wpS_pure (h m _ hst2 (by omega) b c)
theorem wpS_descP {st st0 : SortSt} {lo nrem n0 : Nat} {Q : Option Nat → SortSt → Prop} (C : Cmp lt k S kind prog w A s) (hst : StA kind lo nrem st0 st) (hS : AllS S st) (hn : lo + nrem ≤ (arrOf st).size) (h2 : n0 + 1 ≤ nrem) (hd : DnK lt k (arrOf st) lo (n0 + 1))
    (h : ∀ n st', StA kind lo nrem st0 st' → 1 ≤ n → n ≤ nrem → UpK lt k (arrOf st') lo n → Q (some n) st') : wpS (model prog w) A E s (descP lo nrem n0) Q st := by
  have O := C.ord
  unfold descP
  refine wpS_bind (wpS_lift (wpAny_rule ⟨rfl, ?_⟩))
  dsimp only
  refine wpS_bind (wpS_mono (wpS_forRange (I := fun x c st' => StA kind lo nrem st0 st' ∧ AllS S st' ∧ (arrOf st').size = (arrOf st).size ∧ ∃ n neq, c = (none, n, neq) ∧ n = x ∧ n0 + 1 ≤ n ∧ n ≤ nrem ∧ DnK lt k (arrOf st') lo n ∧ neq + 1 ≤ n ∧ ∀ i, n - (neq + 1) ≤ i → i < n → kx k (arrOf st') (lo + i) = kx k (arrOf st') (lo + n - 1))
    (Q := fun c st' => StA kind lo nrem st0 st' ∧ AllS S st' ∧ (arrOf st').size = (arrOf st).size ∧ ∃ n neq, c = (none, n, neq) ∧ n0 + 1 ≤ n ∧ n ≤ nrem ∧ DnK lt k (arrOf st') lo n ∧ neq + 1 ≤ n ∧ ∀ i, n - (neq + 1) ≤ i → i < n → kx k (arrOf st') (lo + i) = kx k (arrOf st') (lo + n - 1)) ?step ?fin ?init) ?post)
  case init => exact ⟨hst, hS, rfl, _, _, rfl, rfl, Nat.le_refl _, h2, hd, by omega, fun i a b => by congr 1; omega⟩
  case fin =>
    rintro c st' ⟨a1, a2, a3, n, neq, rfl, e, b1, b2, b3, b4, b5⟩
    exact ⟨a1, a2, a3, n, neq, rfl, b1, b2, b3, b4, b5⟩
  case step =>
    rintro x c st' hx1 hx2 ⟨a1, a2, a3, n, neq, rfl, rfl, b1, b2, b3, b4, b5⟩
    have more : ∀ xs : Array Keyed, (∀ q, kx k xs q = kx k (arrOf st') q) → lt (kx k (arrOf st') (lo + n)) (kx k (arrOf st') (lo + n - 1)) = true → DnK lt k xs lo (n + 1) := fun xs hk e i j hij hj => by
      rw [hk, hk]
      rcases Nat.lt_or_ge j n with z | z
      · exact b3 i j hij z
      · obtain rfl : j = n := by omega
        rcases Nat.lt_or_ge i j with y | y
        · rw [show lo + j - 1 = lo + (j - 1) by omega] at e
          exact O.tr (kx k (arrOf st') (lo + j)) (kx k (arrOf st') (lo + (j - 1))) (kx k (arrOf st') (lo + i)) (O.as _ _ e) (b3 i (j - 1) (by omega) (by omega))
        · obtain rfl : i = j := by omega
          exact O.rf _
    dsimp only
    refine wpS_bind (wpS_at C a1.fine a2 (by omega) (by omega) ?_)
    cases e : lt (kx k (arrOf st') (lo + n)) (kx k (arrOf st') (lo + n - 1)) with
    | true =>
      dsimp only
      rw [if_pos rfl]
      by_cases q0 : neq > 0
      · rw [if_pos q0, reverseSlice'_eq]
        have hr := StA.rev (lo := lo) (i := lo + n - (neq + 1)) (j := lo + n) (n := nrem) a1.fine (by omega) (by omega) (by omega)
        have hk := kx_rev_eq (k := k) (xs := arrOf st') (i := lo + n - (neq + 1)) (j := lo + n) (by omega) fun q q1 q2 => by
          have := b5 (q - lo) (by omega) (by omega)
          rwa [show lo + (q - lo) = q by omega] at this
        refine wpS_bind (wpS_modify (wpS_pure ⟨a1.trans hr, hr.all a2, hr.size.trans a3, _, _, rfl, rfl, by omega, by omega, more _ hk e, by omega, fun i c d => by congr 1; omega⟩))
      · rw [if_neg q0]
        exact wpS_pure ⟨a1, a2, a3, _, _, rfl, rfl, by omega, by omega, more _ (fun _ => rfl) e, by omega, fun i c d => by congr 1; omega⟩
    | false =>
      dsimp only
      rw [if_neg (by decide)]
      refine wpS_bind (wpS_at C a1.fine a2 (by omega) (by omega) ?_)
      cases e' : lt (kx k (arrOf st') (lo + n - 1)) (kx k (arrOf st') (lo + n)) with
      | true =>
        dsimp only
        rw [if_pos rfl]
        exact wpS_pure ⟨a1, a2, a3, _, _, rfl, b1, b2, b3, b4, b5⟩
      | false =>
        dsimp only
        rw [if_neg (by decide)]
        have same : kx k (arrOf st') (lo + n) = kx k (arrOf st') (lo + n - 1) := O.an _ _ e e'
        refine wpS_pure ⟨a1, a2, a3, _, _, rfl, rfl, by omega, by omega, fun i j hij hj => ?_, by omega, fun i c d => ?_⟩
        · rcases Nat.lt_or_ge j n with z | z
          · exact b3 i j hij z
          · obtain rfl : j = n := by omega
            rcases Nat.lt_or_ge i j with y | y
            · rw [same, show lo + j - 1 = lo + (j - 1) by omega]; exact b3 i (j - 1) (by omega) (by omega)
            · obtain rfl : i = j := by omega
              exact O.rf _
        · rw [show lo + (n + 1) - 1 = lo + n by omega]
          rcases Nat.lt_or_ge i n with y | y
          · rw [same]; exact b5 i (by omega) y
          · obtain rfl : i = n := by omega
            rfl
  case post =>
    rintro c st' ⟨a1, a2, a3, n, neq, rfl, b1, b2, b3, b4, b5⟩
    dsimp only
    by_cases q0 : neq > 0
    · rw [if_pos q0, reverseSlice'_eq]
      have hr := StA.rev (lo := lo) (i := lo + n - (neq + 1)) (j := lo + n) (n := nrem) a1.fine (by omega) (by omega) (by omega)
      have hk := kx_rev_eq (k := k) (xs := arrOf st') (i := lo + n - (neq + 1)) (j := lo + n) (by omega) fun q q1 q2 => by
        have := b5 (q - lo) (by omega) (by omega)
        rwa [show lo + (q - lo) = q by omega] at this
      refine wpS_bind (wpS_modify ?_)
      have hsz := hr.size
      exact wpS_tail C (a1.trans hr) (hr.all a2) (by omega) (by omega) b2 (fun i j hij hj => by
        show lt (kx k (mirror (arrOf st') (lo + n - (neq + 1)) (lo + n) ((lo + n - (lo + n - (neq + 1))) / 2)) (lo + i)) (kx k (mirror (arrOf st') (lo + n - (neq + 1)) (lo + n) ((lo + n - (lo + n - (neq + 1))) / 2)) (lo + j)) = false
        rw [hk, hk]
        exact b3 i j hij hj) h
    · rw [if_neg q0]
      exact wpS_tail C a1 a2 (by omega) (by omega) b2 b3 h
theorem wpS_count {st : SortSt} {lo nrem : Nat} {Q : Option Nat → SortSt → Prop} (C : Cmp lt k S kind prog w A s) (F : Fine kind st) (hS : AllS S st) (hn : lo + nrem ≤ (arrOf st).size) (h1 : 1 ≤ nrem)
    (h : ∀ n st', StA kind lo nrem st st' → 1 ≤ n → n ≤ nrem → UpK lt k (arrOf st') lo n → Q (some n) st') : wpS (model prog w) A E s (countRun' lo nrem) Q st := by
  have O := C.ord
  rw [countRun'_eq]
  refine wpS_bind (wpS_asc C F hS hn (Nat.le_refl 1) h1 (fun i j hij hj => by obtain rfl : i = j := (by omega); exact O.rf _) fun n a b c d => ?_)
  dsimp only
  by_cases e1 : n = nrem
  · rw [if_pos (by simpa using e1)]
    exact wpS_pure (h n st (.refl F) a b c)
  rw [if_neg (by simpa using e1)]
  have hlt : lt (kx k (arrOf st) (lo + n)) (kx k (arrOf st) (lo + n - 1)) = true := d.resolve_left e1
  by_cases e2 : n > 1
  · rw [if_pos e2]
    refine wpS_bind (wpS_at C F hS (by omega) (by omega) ?_)
    cases e3 : lt (kx k (arrOf st) lo) (kx k (arrOf st) (lo + n - 1)) with
    | true =>
      dsimp only
      rw [if_pos rfl]
      exact wpS_pure (h n st (.refl F) a b c)
    | false =>
      dsimp only
      rw [if_neg (by decide), reverseSlice'_eq]
      refine wpS_bind (wpS_modify ?_)
      have hr := StA.rev (lo := lo) (i := lo) (j := lo + n) (n := nrem) F (Nat.le_refl _) (by omega) hn
      have all : ∀ q, lo ≤ q → q < lo + n → kx k (arrOf st) q = kx k (arrOf st) (lo + n - 1) := fun q q1 q2 => by
        have c0 := c 0 (q - lo) (Nat.zero_le _) (by omega)
        have c1 := c (q - lo) (n - 1) (by omega) (by omega)
        rw [show lo + (q - lo) = q by omega] at c0 c1
        rw [show lo + (n - 1) = lo + n - 1 by omega] at c1
        exact O.an _ _ (O.tr _ _ _ e3 c0) c1
      have hk := kx_rev_eq (k := k) (xs := arrOf st) (i := lo) (j := lo + n) (by omega) all
      have hsz := hr.size
      refine wpS_descP (n0 := n) C hr (hr.all hS) (by omega) (by omega) (fun i j hij hj => ?_) h
      show lt (kx k (mirror (arrOf st) lo (lo + n) ((lo + n - lo) / 2)) (lo + i)) (kx k (mirror (arrOf st) lo (lo + n) ((lo + n - lo) / 2)) (lo + j)) = false
      rw [hk, hk]
      rcases Nat.lt_or_ge j n with z | z
      · rw [all (lo + i) (by omega) (by omega), all (lo + j) (by omega) (by omega)]; exact O.rf _
      · obtain rfl : j = n := by omega
        rcases Nat.lt_or_ge i j with y | y
        · rw [all (lo + i) (by omega) (by omega)]; exact O.as _ _ hlt
        · obtain rfl : i = j := by omega
          exact O.rf _
  · rw [if_neg e2]
    obtain rfl : n = 1 := by omega
    refine wpS_descP (n0 := 1) C (.refl F) hS hn (by omega) (fun i j hij hj => ?_) h
    rcases Nat.lt_or_ge i j with y | y
    · obtain rfl : i = 0 := by omega
      obtain rfl : j = 1 := by omega
      exact O.as _ _ hlt
    · obtain rfl : i = j := by omega
      exact O.rf _
end
end Tim
set_option Elab.async false
set_option linter.all false
set_option maxRecDepth 100000
set_option maxHeartbeats 4000000
namespace Tim
open PySem PyProof.Rows
section
variable {κ : Type} {lt : κ → κ → Bool} {k : Keyed → κ} {S : Keyed → Prop} {kind : SortKind} {prog : Program} {w : World} {A : Around} {E : Value → Shared → Prop} {s : Shared}
abbrev seg (L : List Keyed) (lo n : Nat) : List Keyed := (L.drop lo).take n
abbrev SegS (lt : κ → κ → Bool) (k : Keyed → κ) (L : List Keyed) (lo n : Nat) : Prop := (seg L lo n).Pairwise (Le lt k)
theorem seg_len {L : List Keyed} {lo n : Nat} (h : lo + n ≤ L.length) : (seg L lo n).length = n := by
  unfold seg
  rw [List.length_take, List.length_drop]
  omega
theorem seg_at {L : List Keyed} {lo n i : Nat} (h : i < n) : (seg L lo n)[i]? = L[lo + i]? := by
  unfold seg
  rw [List.getElem?_take_of_lt h, List.getElem?_drop]
theorem upk_seg {xs : Array Keyed} {lo n : Nat} (h : lo + n ≤ xs.size) (u : UpK lt k xs lo n) : SegS lt k xs.toList lo n := by
  rw [SegS, List.pairwise_iff_getElem]
  intro i j hi hj hij
  have hl := seg_len (L := xs.toList) (lo := lo) (n := n) (by rw [Array.length_toList]; exact h)
  have val : ∀ i (hi : i < (seg xs.toList lo n).length), k (seg xs.toList lo n)[i] = kx k xs (lo + i) := fun i hi => by
    have e : (seg xs.toList lo n)[i]? = some (seg xs.toList lo n)[i] := List.getElem?_eq_getElem hi
    rw [seg_at (by omega), Array.getElem?_toList] at e
    unfold kx
    rw [e]; rfl
  unfold Le
  rw [val, val]
  exact u i j (by omega) (by omega)
structure Mrg (lt : κ → κ → Bool) (k : Keyed → κ) (kind : SortKind) (lo n : Nat) (st st' : SortSt) : Prop where
  fine : Fine kind st'
  perm : (arrOf st').toList.Perm (arrOf st).toList
  out : ∀ i, i < lo ∨ lo + n ≤ i → (arrOf st').toList[i]? = (arrOf st).toList[i]?
  srt : SegS lt k (arrOf st').toList lo n
end
end Tim
set_option Elab.async false
set_option linter.all false
set_option maxRecDepth 100000
set_option maxHeartbeats 4000000
namespace Tim
open PySem PyProof.Rows
section
variable {κ : Type} {lt : κ → κ → Bool} {k : Keyed → κ} {S : Keyed → Prop} {kind : SortKind} {prog : Program} {w : World} {A : Around} {E : Value → Shared → Prop} {s : Shared}
structure SInv (S : Keyed → Prop) (kind : SortKind) (a₀ : Array Keyed) (st : SortSt) : Prop where
  fine : Fine kind st
  perm : (arrOf st).toList.Perm a₀.toList
  all : AllS S st
theorem SInv.size {a₀ : Array Keyed} {st : SortSt} (h : SInv S kind a₀ st) : (arrOf st).size = a₀.size := by have := h.perm.length_eq; simpa using this
theorem wpS_sortRuns {a₀ : Array Keyed} {st : SortSt} {Q : Unit → SortSt → Prop} (C : Cmp lt k S kind prog w A s) (h2 : 2 ≤ a₀.size) (h64 : a₀.size < 64) (I : SInv S kind a₀ st) (hp0 : pendingOf st = #[])
    (h : ∀ st', SInv S kind a₀ st' → (arrOf st').toList.Pairwise (Le lt k) → Q () st') : wpS (model prog w) A E s sortRuns' Q st := by
  have hsz0 := I.size
  rw [sortRuns'_eq]
  refine wpS_bind (wpS_get ?_)
  dsimp only
  rw [hsz0]
  have hmr : minRun' a₀.size a₀.size 0 = a₀.size := by
    obtain ⟨m, hm⟩ : ∃ m, a₀.size = m + 1 := ⟨a₀.size - 1, by omega⟩
    conv => lhs; arg 1; rw [hm]
    rw [minRun'_succ, if_pos h64]
    rfl
  rw [hmr]
  refine wpS_bind (wpS_mono (wpS_forRange (I := fun t c st' => SInv S kind a₀ st' ∧ ((t = 0 ∧ c = (none, 0) ∧ pendingOf st' = #[]) ∨ (c = (none, a₀.size) ∧ (pendingOf st').size = 1 ∧ SegS lt k (arrOf st').toList 0 a₀.size)))
    (Q := fun c st' => SInv S kind a₀ st' ∧ c = (none, a₀.size) ∧ (pendingOf st').size = 1 ∧ SegS lt k (arrOf st').toList 0 a₀.size) ?step ?fin ?init) ?post)
  case init => exact ⟨I, .inl ⟨rfl, rfl, hp0⟩⟩
  case fin =>
    rintro c st' ⟨I', ⟨z, _⟩ | ⟨rfl, p, g⟩⟩
    · omega
    · exact ⟨I', rfl, p, g⟩
  case post =>
    rintro c st' ⟨I', rfl, p, g⟩
    dsimp only
    refine wpS_bind (wpS_mono (wpS_forRange (I := fun t c st' => SInv S kind a₀ st' ∧ c = (none, ()) ∧ (pendingOf st').size = 1 ∧ SegS lt k (arrOf st').toList 0 a₀.size)
      (Q := fun c st' => SInv S kind a₀ st' ∧ c = (none, ()) ∧ SegS lt k (arrOf st').toList 0 a₀.size) ?step2 ?fin2 ?init2) ?post2)
    case init2 => exact ⟨I', rfl, p, g⟩
    case fin2 =>
      rintro c st2 ⟨I2, rfl, _, g⟩
      exact ⟨I2, rfl, g⟩
    case post2 =>
      rintro c st2 ⟨I2, rfl, g⟩
      refine wpS_pure (h st2 I2 ?_)
      have hs2 := I2.size
      have : seg (arrOf st2).toList 0 a₀.size = (arrOf st2).toList := List.take_of_length_le (by rw [List.length_drop, Array.length_toList]; omega)
      rw [SegS, this] at g
      exact g
    case step2 =>
      rintro t c st2 _ ht ⟨I2, rfl, p, g⟩
      refine wpS_bind (wpS_get ?_)
      rw [if_pos (show (pendingOf st2).size ≤ 1 by omega)]
      exact wpS_pure ⟨I2, rfl, g⟩
  case step =>
    rintro t c st1 _ ht ⟨I1, ⟨rfl, rfl, hp⟩ | ⟨rfl, p, g⟩⟩
    · have hs1 := I1.size
      dsimp only
      rw [if_neg (show ¬ (0 : Nat) ≥ a₀.size by omega)]
      refine wpS_bind (wpS_count C I1.fine I1.all (by omega) (by omega) fun n st2 s2 n1 n2 u2 => ?_)
      dsimp only
      have fin : ∀ (st3 : SortSt), StA kind 0 (a₀.size - 0) st1 st3 → UpK lt k (arrOf st3) 0 a₀.size → pendingOf st3 = #[] ∧ SInv S kind a₀ (setPending st3 ((pendingOf st3).push (0, a₀.size, 0))) ∧ (((0 + 1 = 0 ∧ ((none : Option Unit), 0 + a₀.size) = (none, 0) ∧ pendingOf (setPending st3 ((pendingOf st3).push (0, a₀.size, 0))) = #[])) ∨ (((none : Option Unit), 0 + a₀.size) = (none, a₀.size) ∧ (pendingOf (setPending st3 ((pendingOf st3).push (0, a₀.size, 0)))).size = 1 ∧ SegS lt k (arrOf (setPending st3 ((pendingOf st3).push (0, a₀.size, 0)))).toList 0 a₀.size)) := fun st3 s3 u => by
        have hp3 : pendingOf st3 = #[] := by rw [s3.pd]; exact hp
        refine ⟨hp3, ⟨⟨s3.fine.kd, s3.fine.fl⟩, (Array.perm_iff_toList_perm.mp s3.perm).trans I1.perm, s3.all I1.all⟩, .inr ⟨by rw [Nat.zero_add], ?_, ?_⟩⟩
        · show ((pendingOf st3).push (0, a₀.size, 0)).size = 1
          rw [hp3]; rfl
        · show SegS lt k (arrOf st3).toList 0 a₀.size
          exact upk_seg (by rw [s3.size]; omega) u
      by_cases c2 : n < a₀.size
      · rw [if_pos c2]
        refine wpS_bind (wpS_lift (wpAny_rule ⟨rfl, ?_⟩))
        have hs2 := s2.size
        refine wpS_bind (wpS_binary C s2.fine (s2.all I1.all) (by omega) (by omega) u2 fun st3 s3 u3 => ?_)
        simp only [Bool.not_true, Bool.false_eq_true, if_false]
        have s3' : StA kind 0 (a₀.size - 0) st2 st3 := ⟨s3.pd, s3.fine, s3.perm, fun j hj => s3.out j (hj.imp id fun z => by omega)⟩
        have em : min (a₀.size - 0) a₀.size = a₀.size := by omega
        rw [em] at u3 ⊢
        obtain ⟨hp3, I3, r3⟩ := fin st3 (s2.trans s3') u3
        refine wpS_bind (wpS_get ?_)
        rw [show (pendingOf st3).back? = none from by rw [hp3]; rfl]
        refine wpS_bind (wpS_modify (wpS_pure ⟨I3, r3⟩))
      · rw [if_neg c2]
        have en : n = a₀.size := by omega
        subst en
        obtain ⟨hp3, I3, r3⟩ := fin st2 s2 u2
        refine wpS_bind (wpS_get ?_)
        rw [show (pendingOf st2).back? = none from by rw [hp3]; rfl]
        refine wpS_bind (wpS_modify (wpS_pure ⟨I3, r3⟩))
    · dsimp only
      rw [if_pos (Nat.le_refl _)]
      exact wpS_pure ⟨I1, rfl, p, g⟩
end
end Tim
set_option Elab.async false
set_option linter.all false
set_option maxRecDepth 100000
set_option maxHeartbeats 4000000
namespace Tim
open PySem PyProof.Rows
theorem zip_self {α : Type} : ∀ vs : List α, vs.zip vs = vs.map fun v => (v, v)
  | [] => rfl
  | v :: vs => by rw [List.zip_cons_cons, zip_self vs]; rfl
section
variable {κ : Type} {lt : κ → κ → Bool} {k : Keyed → κ} {S : Keyed → Prop} {kind : SortKind} {prog : Program} {w : World} {A : Around} {E : Value → Shared → Prop} {s : Shared}
theorem list_sort_any {a : Addr} {vs : List Value} {n : Nat} {P : PySem.Fin → Shared → Prop} (ho : s.heap.get? a = some (seqObj "list" vs.toArray n)) (h2 : 2 ≤ vs.length) (h64 : vs.length < 64)
    (hk : ∀ h' : Heap, (∀ b o, b ≠ a → s.heap.get? b = some o → h'.get? b = some o) → ∀ {Q : SortKind → Shared → Prop} {E' : Value → Shared → Prop}, Q kind { s with heap := h' } → wpAny (model prog w) A (keyKind' vs.toArray) Q E' { s with heap := h' })
    (hC : ∀ h' : Heap, (∀ b o, b ≠ a → s.heap.get? b = some o → h'.get? b = some o) → Cmp lt k S kind prog w A { s with heap := h' }) (hS : ∀ v ∈ vs, S (v, v))
    (h : ∀ out : List Value, out.Perm vs → out.Pairwise (fun x y => Le lt k (x, x) (y, y)) → P (.done (.ret .none)) { s with heap := sortedHeap s.heap a vs out.toArray }) :
    wpAny (model prog w) A (Builtin.«list.sort» ⟨[.ref a], []⟩) P E s := by
  have hz : vs.length ≤ sizeLine := Nat.le_trans (Nat.le_of_lt h64) (by decide)
  rw [list_sort_plain]
  have ha : a < s.heap.objs.size := Heap.lt_size ho
  refine wpAny_bind (listItems_at ho rfl ?_)
  refine wpAny_bind (listUpdate_at ho rfl ?_ (by rw [List.size_toArray]; exact hz) (Nat.zero_le _))
  obtain ⟨e1, ho1⟩ : ∃ e1, (s.heap.update a (Obj.mapSeq fun _ => #[])).get? a = some (seqObj "list" #[] e1) := ⟨_, get?_update_seq ho (fun _ => #[])⟩
  refine wpAny_bind (seqEpoch_at ho1 rfl ?_)
  refine wpAny_bind (wpAny_newTuple ?_ (by show vs.length ≤ _; exact hz))
  refine wpAny_bind (wpAny_newList ?_ (Nat.zero_le _))
  refine wpAny_holding ?_
  have ho6 : (((s.heap.update a (Obj.mapSeq fun _ => #[])).push (seqObj "tuple" vs.toArray 0)).push (seqObj "list" #[] 0)).get? a = some (seqObj "list" #[] e1) := by
    rw [Heap.get?_push_ne _ _ _ (by rw [size_push', Heap.size_update]; exact Nat.ne_of_lt (Nat.lt_succ_of_lt ha)), Heap.get?_push_ne _ _ _ (by rw [Heap.size_update]; exact Nat.ne_of_lt ha)]
    exact ho1
  have keep : ∀ b o, b ≠ a → s.heap.get? b = some o → (((s.heap.update a (Obj.mapSeq fun _ => (#[] : Array Value))).push (seqObj "tuple" vs.toArray 0)).push (seqObj "list" #[] 0)).get? b = some o := fun b o hb e => by
    refine Heap.get?_push_of_some _ (Heap.get?_push_of_some _ ?_)
    rw [Heap.get?_update_ne _ _ _ _ hb]
    exact e
  show wpAny (model prog w) A _ P E { s with heap := ((s.heap.update a (Obj.mapSeq fun _ => #[])).push (seqObj "tuple" vs.toArray 0)).push (seqObj "list" #[] 0) }
  dsimp only
  have hn2 : ¬ vs.toArray.size < 2 := by rw [List.size_toArray]; omega
  rw [if_neg hn2, if_neg hn2]
  refine wpAny_bind (hk _ keep ?_)
  have C := hC _ keep
  have hpl : (vs.toArray.zip vs.toArray).toList = vs.map fun v => (v, v) := by
    rw [Array.toList_zip]
    exact zip_self vs
  have hps : (vs.toArray.zip vs.toArray).size = vs.length := by simp
  refine wpAny_bind (wpAny_mono (wpS_sortRuns (a₀ := vs.toArray.zip vs.toArray) (st := SortSt.mk' kind (vs.toArray.zip vs.toArray) #[] 7 none)
    (Q := fun _ st' => SInv S kind (vs.toArray.zip vs.toArray) st' ∧ (arrOf st').toList.Pairwise (Le lt k)) C (by rw [hps]; exact h2) (by rw [hps]; exact h64) ⟨⟨rfl, rfl⟩, List.Perm.refl _, fun x hx => ?_⟩ rfl fun st' I p => ⟨I, p⟩) ?_ fun _ _ e => e)
  · have hx : x ∈ (vs.toArray.zip vs.toArray).toList := hx
    rw [hpl] at hx
    obtain ⟨v, hv, rfl⟩ := List.mem_map.mp hx
    exact hS v hv
  rintro ⟨⟨⟩, st'⟩ s' ⟨rfl, I, hp⟩
  dsimp only
  have hperm := I.perm
  rw [hpl] at hperm
  have two : ∀ x ∈ (arrOf st').toList, x = (x.2, x.2) := fun x hx => by
    obtain ⟨v, hv, rfl⟩ := List.mem_map.mp (hperm.mem_iff.mp hx)
    rfl
  have hout : ((arrOf st').map (·.2)) = ((arrOf st').toList.map (·.2)).toArray := by
    apply Array.toList_inj.mp
    simp
  have p2 : ((arrOf st').toList.map (·.2)).Perm vs := by
    have := hperm.map (·.2)
    rwa [List.map_map, show ((fun x : Keyed => x.2) ∘ fun v : Value => (v, v)) = id from rfl, List.map_id] at this
  refine wpAny_bind (seqEpoch_at ho6 rfl ?_)
  rw [hout]
  refine wpAny_bind (listUpdate_at ho6 rfl ?_ (Nat.zero_le _) (by rw [List.size_toArray, p2.length_eq]; omega))
  rw [I.fine.fl]
  simp only [bne_self_eq_false, Bool.false_eq_true, if_false]
  refine wpAny_pure (h _ p2 ?_)
  rw [List.pairwise_map]
  exact hp.imp_of_mem fun {x y} hx hy q => by rw [← two x hx, ← two y hy]; exact q
theorem sorted_any {l : Addr} {vs : List Value} {Q : Value → Shared → Prop} (hl : s.heap.IsList l vs.toArray) (h2 : 2 ≤ vs.length) (h64 : vs.length < 64)
    (hk : ∀ h' : Heap, (∀ b o, s.heap.get? b = some o → h'.get? b = some o) → ∀ {Q : SortKind → Shared → Prop} {E' : Value → Shared → Prop}, Q kind { s with heap := h' } → wpAny (model prog w) A.in1.in1 (keyKind' vs.toArray) Q E' { s with heap := h' })
    (hC : ∀ h' : Heap, (∀ b o, s.heap.get? b = some o → h'.get? b = some o) → Cmp lt k S kind prog w A.in1.in1 { s with heap := h' }) (hS : ∀ v ∈ vs, S (v, v))
    (h : ∀ out : List Value, out.Perm vs → out.Pairwise (fun x y => Le lt k (x, x) (y, y)) → Q (.ref (s.heap.objs.size + 1)) { s with heap := sortedAll s.heap vs out.toArray }) : wpAny (model prog w) A (call (.builtin "sorted") [.ref l]) Q E s := by
  have hz : vs.length ≤ sizeLine := Nat.le_trans (Nat.le_of_lt h64) (by decide)
  refine Calls.call_function_entry kind_sorted plain_sorted entry_sorted (args_sorted1 _) ?_
  unfold Builtin.«sorted»
  refine wpAny_bind (m := checkCount "sorted" 1 1 _) (wpAny_pure ?_)
  refine wpAny_bind (collect_list hl ?_ hz)
  refine wpAny_bind (wpAny_newList ?_ hz)
  have hsz : ((s.heap.push (seqObj "list" #[] 0)).update s.heap.objs.size (Obj.mapSeq (· ++ vs.toArray))).objs.size = s.heap.objs.size + 1 := by
    rw [Heap.size_update, size_push']
  have hoL : (((s.heap.push (seqObj "list" #[] 0)).update s.heap.objs.size (Obj.mapSeq (· ++ vs.toArray))).push (seqObj "list" vs.toArray 0)).get? (s.heap.objs.size + 1) = some (seqObj "list" vs.toArray 0) := by
    rw [← hsz]; exact Heap.get?_push_size _ rfl
  have keep : ∀ b o, s.heap.get? b = some o → (((s.heap.push (seqObj "list" #[] 0)).update s.heap.objs.size (Obj.mapSeq (· ++ vs.toArray))).push (seqObj "list" vs.toArray 0)).get? b = some o := fun b o q => by
    have hlt : b < s.heap.objs.size := Heap.lt_size q
    rw [Heap.get?_push_ne _ _ _ (by rw [hsz]; exact Nat.ne_of_lt (Nat.lt_succ_of_lt hlt)), Heap.get?_update_ne _ _ _ _ (Nat.ne_of_lt hlt), Heap.get?_push_ne _ _ _ (Nat.ne_of_lt hlt)]
    exact q
  have far : ∀ b o, s.heap.get? b = some o → b ≠ s.heap.objs.size + 1 := fun b o q => Nat.ne_of_lt (Nat.lt_succ_of_lt (Heap.lt_size q))
  show wpAny _ _ _ _ _ { s with heap := ((s.heap.push (seqObj "list" #[] 0)).update s.heap.objs.size (Obj.mapSeq (· ++ vs.toArray))).push (seqObj "list" vs.toArray 0) }
  rw [hsz]
  refine wpAny_bind (wpAny_holding (wpAny_call_entry slot_list_sort ⟨_, hoL, rfl⟩ entry_list_sort (list_sort_any (lt := lt) (k := k) (S := S) (kind := kind) hoL h2 h64 (fun h' kk {Q E'} => hk h' fun b o q => kk b o (far b o q) (keep b o q)) (fun h' kk => hC h' fun b o q => kk b o (far b o q) (keep b o q)) hS fun out a1 a2 => ⟨_, rfl, ?_⟩) (args_list_sort _)))
  exact wpAny_pure ⟨_, rfl, h out a1 a2⟩
end
end Tim
set_option Elab.async false
set_option linter.all false
set_option maxRecDepth 100000
set_option maxHeartbeats 4000000
namespace PyProof.Rows
open PySem
section
variable {prog : Program} {w : World} {A : Around} {E : Value → Shared → Prop} {s : Shared}
theorem list_sort_short {a : Addr} {vs : List Value} {n : Nat} {P : Fin → Shared → Prop} (ho : s.heap.get? a = some (seqObj "list" vs.toArray n)) (h2 : vs.length < 2)
    (h : P (.done (.ret .none)) { s with heap := sortedHeap s.heap a vs vs.toArray }) : wpAny (model prog w) A (Builtin.«list.sort» ⟨[.ref a], []⟩) P E s := by
  rw [list_sort_plain]
  have ha : a < s.heap.objs.size := Heap.lt_size ho
  refine wpAny_bind (listItems_at ho rfl ?_)
  refine wpAny_bind (listUpdate_at ho rfl ?_)
  obtain ⟨e1, ho1⟩ : ∃ e1, (s.heap.update a (Obj.mapSeq fun _ => #[])).get? a = some (seqObj "list" #[] e1) := ⟨_, get?_update_seq ho (fun _ => #[])⟩
  refine wpAny_bind (seqEpoch_at ho1 rfl ?_)
  refine wpAny_bind (wpAny_newTuple ?_)
  refine wpAny_bind (wpAny_newList ?_)
  refine wpAny_holding ?_
  have ho6 : (((s.heap.update a (Obj.mapSeq fun _ => #[])).push (seqObj "tuple" vs.toArray 0)).push (seqObj "list" #[] 0)).get? a = some (seqObj "list" #[] e1) := by
    rw [Heap.get?_push_ne _ _ _ (by rw [size_push', Heap.size_update]; exact Nat.ne_of_lt (Nat.lt_succ_of_lt ha)), Heap.get?_push_ne _ _ _ (by rw [Heap.size_update]; exact Nat.ne_of_lt ha)]
    exact ho1
  show wpAny (model prog w) A _ P E { s with heap := ((s.heap.update a (Obj.mapSeq fun _ => #[])).push (seqObj "tuple" vs.toArray 0)).push (seqObj "list" #[] 0) }
  dsimp only
  have h2' : vs.toArray.size < 2 := by simpa using h2
  rw [if_pos h2', if_pos h2']
  refine wpAny_bind (wpAny_pure ?_)
  rw [StateT.run_pure]
  refine wpAny_bind (wpAny_pure ?_)
  dsimp only
  refine wpAny_bind (seqEpoch_at ho6 rfl ?_)
  have e : (arrOf (SortSt.mk' general' (vs.toArray.zip vs.toArray) #[] 7 none)).map (·.2) = vs.toArray := by
    show (vs.toArray.zip vs.toArray).map (·.2) = vs.toArray
    rw [Array.map_snd_zip (by simp)]
  rw [e]
  refine wpAny_bind (listUpdate_at ho6 rfl ?_ (hsz2 := by simp only [List.size_toArray]; rw [sizeLine_eq]; omega))
  simp only [bne_self_eq_false, Bool.false_eq_true, if_false]
  exact wpAny_pure h
theorem sorted_short {l : Addr} {vs : List Value} {Q : Value → Shared → Prop} (hl : s.heap.IsList l vs.toArray) (h2 : vs.length < 2)
    (h : Q (.ref (s.heap.objs.size + 1)) { s with heap := sortedAll s.heap vs vs.toArray }) : wpAny (model prog w) A (call (.builtin "sorted") [.ref l]) Q E s := by
  refine Calls.call_function_entry kind_sorted plain_sorted entry_sorted (args_sorted1 _) ?_
  unfold Builtin.«sorted»
  refine wpAny_bind (m := checkCount "sorted" 1 1 _) (wpAny_pure ?_)
  refine wpAny_bind (collect_list hl ?_ (by rw [sizeLine_eq]; omega))
  refine wpAny_bind (wpAny_newList ?_ (by rw [sizeLine_eq]; omega))
  have hsz : ((s.heap.push (seqObj "list" #[] 0)).update s.heap.objs.size (Obj.mapSeq (· ++ vs.toArray))).objs.size = s.heap.objs.size + 1 := by
    rw [Heap.size_update, size_push']
  have hoL : (((s.heap.push (seqObj "list" #[] 0)).update s.heap.objs.size (Obj.mapSeq (· ++ vs.toArray))).push (seqObj "list" vs.toArray 0)).get? (s.heap.objs.size + 1) = some (seqObj "list" vs.toArray 0) := by
    rw [← hsz]; exact Heap.get?_push_size _ rfl
  show wpAny _ _ _ _ _ { s with heap := ((s.heap.push (seqObj "list" #[] 0)).update s.heap.objs.size (Obj.mapSeq (· ++ vs.toArray))).push (seqObj "list" vs.toArray 0) }
  rw [hsz]
  refine wpAny_bind (wpAny_holding (wpAny_call_entry slot_list_sort ⟨_, hoL, rfl⟩ entry_list_sort (list_sort_short hoL h2 ⟨_, rfl, ?_⟩) (args_list_sort _)))
  exact wpAny_pure ⟨_, rfl, h⟩
end
end PyProof.Rows
namespace L2
open PySem PySem.W PyProof.Rows Srt Pc
class Rep {α : Type} (R : Hp → V → α → Prop) : Prop where
  up : ∀ {H H' : Hp} {v : V} {x : α}, Same H H' → R H v x → R H' v x
  lst : ∀ {H : Hp} {v : V} {x : α} {p : Addr} {ys zs : List V}, H p = some (.lst ys) → R H v x → R (upd H p (.lst zs)) v x
def IsI : Hp → V → Int → Prop := fun _ v n => v = .int n
def IsS : Hp → V → Str → Prop := fun _ v n => v = .str n
def IsB : Hp → V → Bool → Prop := fun _ v n => v = .bl n
def IsC : Hp → V → C3 → Prop := fun H v c => ∃ a, v = V.ref a ∧ H a = some (.tup c.v)
instance : Rep IsI := ⟨fun _ h => h, fun _ h => h⟩
instance : Rep IsS := ⟨fun _ h => h, fun _ h => h⟩
instance : Rep IsB := ⟨fun _ h => h, fun _ h => h⟩
instance : Rep IsC := ⟨fun s ⟨a, e, q⟩ => ⟨a, e, s _ _ q⟩, fun h' ⟨a, e, q⟩ => ⟨a, e, lk_kind h' (by intro z; cases z) q⟩⟩
abbrev Rs {α : Type} (R : Hp → V → α → Prop) (H : Hp) : List V → List α → Prop := Paired (R H)
abbrev Cs := Rs IsC
theorem Rs.up {α : Type} {R : Hp → V → α → Prop} [Rep R] {H H' : Hp} {ys : List V} {xs : List α} (s : Same H H') (h : Rs R H ys xs) : Rs R H' ys xs := Paired.mapP h fun _ _ q => Rep.up s q
theorem Rs.lst {α : Type} {R : Hp → V → α → Prop} [Rep R] {H : Hp} {p : Addr} {zs us : List V} {ys : List V} {xs : List α} (h' : H p = some (.lst us)) (h : Rs R H ys xs) : Rs R (upd H p (.lst zs)) ys xs := Paired.mapP h fun _ _ q => Rep.lst h' q
theorem Rs.len {α : Type} {R : Hp → V → α → Prop} {H : Hp} {ys : List V} {xs : List α} (h : Rs R H ys xs) : ys.length = xs.length := Paired.length h
theorem Rs.get {α : Type} {R : Hp → V → α → Prop} {H : Hp} : ∀ {ys : List V} {xs : List α} {i : Nat} {v : V}, Rs R H ys xs → ys[i]? = some v → ∃ x, xs[i]? = some x ∧ R H v x
  | _, _, _, _, .nil, e => by simp at e
  | _, _, 0, _, .cons r _, e => by simp at e; subst e; exact ⟨_, rfl, r⟩
  | _, _, i + 1, v, .cons _ t, e => by
    obtain ⟨u, h1, h2⟩ := Rs.get (i := i) (v := v) t (by simpa using e)
    exact ⟨u, by simpa using h1, h2⟩
theorem Rs.get' {α : Type} {R : Hp → V → α → Prop} {H : Hp} : ∀ {ys : List V} {xs : List α} {i : Nat} {x : α}, Rs R H ys xs → xs[i]? = some x → ∃ v, ys[i]? = some v ∧ R H v x
  | _, _, _, _, .nil, e => by simp at e
  | _, _, 0, _, .cons r _, e => by simp at e; subst e; exact ⟨_, rfl, r⟩
  | _, _, i + 1, x, .cons _ t, e => by
    obtain ⟨u, h1, h2⟩ := Rs.get' (i := i) (x := x) t (by simpa using e)
    exact ⟨u, by simpa using h1, h2⟩
theorem Rs.app {α : Type} {R : Hp → V → α → Prop} {H : Hp} : ∀ {ys ys' : List V} {xs xs' : List α}, Rs R H ys xs → Rs R H ys' xs' → Rs R H (ys ++ ys') (xs ++ xs')
  | _, _, _, _, .nil, s => s
  | _, _, _, _, .cons r t, s => .cons r (Rs.app t s)
def cutX {α : Type} (xs : List α) (lo hi : Option Int) : List α := (xs.drop (HT.sIx xs.length 0 lo)).take (HT.sIx xs.length xs.length hi - HT.sIx xs.length 0 lo)
theorem Rs.ints {H : Hp} : ∀ ns : List Int, Rs IsI H (ns.map V.int) ns
  | [] => .nil
  | _ :: r => .cons rfl (Rs.ints r)
theorem prs_of {K : PySem.W.Frag} {H : Hp} : ∀ {ys : List V} {cs : List C3}, Cs H ys cs → ∃ ps : Prs, ys = refs ps ∧ ps.map (·.2) = cs.map C3.l ∧ Tps K H ps ∧ ∀ q ∈ ps, H q.1 = some (.tup (q.2.map V.int))
  | _, _, .nil => ⟨[], rfl, rfl, fun _ h => absurd h (List.not_mem_nil), fun _ h => absurd h (List.not_mem_nil)⟩
  | _, _, .cons (b := c) ⟨a, e, q⟩ t => by
    obtain ⟨ps, e1, e2, e3, e4⟩ := prs_of (K := K) t
    refine ⟨(a, c.l) :: ps, by rw [e, e1]; rfl, by simp [e2], fun p hp => ?_, fun p hp => ?_⟩
    · rcases List.mem_cons.mp hp with rfl | hp
      · exact SqT.of q
      · exact e3 p hp
    · rcases List.mem_cons.mp hp with rfl | hp
      · exact q
      · exact e4 p hp
theorem cs_of {H : Hp} : ∀ {ps : Prs} {cs : List C3}, ps.map (·.2) = cs.map C3.l → (∀ q ∈ ps, H q.1 = some (.tup (q.2.map V.int))) → Cs H (refs ps) cs
  | [], [], _, _ => .nil
  | [], _ :: _, e, _ => by simp at e
  | _ :: _, [], e, _ => by simp at e
  | (a, l) :: ps, c :: cs, e, t => by
    simp only [List.map_cons, List.cons.injEq] at e
    refine .cons ⟨a, rfl, ?_⟩ (cs_of e.2 fun p hp => t p (List.mem_cons_of_mem _ hp))
    have := t (a, l) (List.mem_cons_self ..)
    rw [e.1] at this
    exact this
def cle (a b : C3) : Bool := !HT.lexLt b.l a.l
theorem cle_total (a b : C3) : (cle a b || cle b a) = true := by
  unfold cle
  cases h : HT.lexLt b.l a.l
  · rfl
  · rw [lex_as _ _ h]; rfl
theorem cle_trans (a b c : C3) (h1 : cle a b = true) (h2 : cle b c = true) : cle a c = true := by
  unfold cle at *
  simp only [Bool.not_eq_true'] at *
  exact lex_tr _ _ _ h1 h2
theorem cle_anti {a b : C3} (h1 : cle a b = true) (h2 : cle b a = true) : a = b := by
  unfold cle at *
  simp only [Bool.not_eq_true'] at *
  exact C3.inj.mp (lex_an _ _ h2 h1)
abbrev Asc (cs : List C3) : Prop := cs.Pairwise fun a b => cle a b = true
def srtC (cs : List C3) : List C3 := cs.mergeSort cle
theorem srtC_perm (cs : List C3) : (srtC cs).Perm cs := List.mergeSort_perm _ _
theorem srtC_asc (cs : List C3) : Asc (srtC cs) := List.pairwise_mergeSort cle_trans cle_total _
theorem asc_one : ∀ {l m : List C3}, l.Perm m → Asc l → Asc m → l = m
  | [], m, h, _, _ => List.Perm.nil_eq h
  | a :: l, [], h, _, _ => by have := h.length_eq; simp at this
  | a :: l, b :: m, h, hl, hm => by
    obtain ⟨h1, h2⟩ := List.pairwise_cons.mp hl
    obtain ⟨g1, g2⟩ := List.pairwise_cons.mp hm
    have e : a = b := by
      have ha : a ∈ b :: m := h.mem_iff.mp (List.mem_cons_self ..)
      have hb : b ∈ a :: l := h.mem_iff.mpr (List.mem_cons_self ..)
      rcases List.mem_cons.mp ha with e | ha
      · exact e
      · rcases List.mem_cons.mp hb with e | hb
        · exact e.symm
        · exact cle_anti (h1 b hb) (g1 a ha)
    subst e
    rw [asc_one (List.Perm.cons_inv h) h2 g2]
theorem srtC_uniq {l cs : List C3} (h : l.Perm cs) (ha : Asc l) : l = srtC cs := asc_one (h.trans (srtC_perm cs).symm) ha (srtC_asc cs)
theorem srtC_of_asc {cs : List C3} (h : Asc cs) : srtC cs = cs := (srtC_uniq (List.Perm.refl _) h).symm
theorem lists_of_map : ∀ {L : List (List Int)} {cs : List C3}, L.Perm (cs.map C3.l) → ∃ ds : List C3, L = ds.map C3.l ∧ ds.Perm cs := fun {L cs} h => by
  have hm : ∀ x ∈ L, ∃ c : C3, x = c.l := fun x hx => by
    obtain ⟨c, _, e⟩ := List.mem_map.mp (h.mem_iff.mp hx)
    exact ⟨c, e.symm⟩
  have : ∃ ds : List C3, L = ds.map C3.l := by
    clear h
    induction L with
    | nil => exact ⟨[], rfl⟩
    | cons x L ih =>
      obtain ⟨c, e⟩ := hm x (List.mem_cons_self ..)
      obtain ⟨ds, e2⟩ := ih fun y hy => hm y (List.mem_cons_of_mem _ hy)
      exact ⟨c :: ds, by rw [e, e2]; rfl⟩
  obtain ⟨ds, e⟩ := this
  refine ⟨ds, e, ?_⟩
  rw [e] at h
  have h2 := h.map (fun l : List Int => (⟨l.getD 0 0, l.getD 1 0, l.getD 2 0⟩ : C3))
  rw [List.map_map, List.map_map] at h2
  have id1 : ∀ xs : List C3, xs.map ((fun l : List Int => (⟨l.getD 0 0, l.getD 1 0, l.getD 2 0⟩ : C3)) ∘ C3.l) = xs := fun xs => by
    conv => rhs; rw [← List.map_id xs]
    exact List.map_congr_left fun c _ => rfl
  rwa [id1, id1] at h2
section
variable {X : Cx}
def rSortC (K : PySem.W.Frag) : List V → Hp → VK → Prop := fun xs H Q => ∃ (l : Addr) (ys : List V) (cs : List C3), xs = [.ref l] ∧ SqL K H l ys ∧ Cs H ys cs ∧ cs.length < 64 ∧
  ∀ (p : Addr) (zs : List V), H p = none → Cs (upd H p (.lst zs)) zs (srtC cs) → Q (.ref p) (upd H p (.lst zs))
def keyOf (ps : Prs) (v : Value) : List Int := match v with
  | .ref a => ((ps.find? fun q => decide (q.1 = a)).map (·.2)).getD []
  | _ => []
theorem keyOf_eq {H : Hp} {ps : Prs} (t : ∀ q ∈ ps, H q.1 = some (.tup (q.2.map V.int))) {q : Addr × List Int} (hq : q ∈ ps) : keyOf ps (.ref q.1) = q.2 := by
  unfold keyOf
  cases e : ps.find? (fun p => decide (p.1 = q.1)) with
  | none => exact absurd (List.find?_eq_none.mp e q hq) (by simp)
  | some p =>
    have h1 := List.find?_some e
    have h2 := List.mem_of_find?_eq_some e
    have h1 : p.1 = q.1 := of_decide_eq_true h1
    have a := t p h2
    rw [h1, t q hq] at a
    have a := HO.tup.inj (Option.some.inj a)
    have e' : (match (Value.ref q.1) with | .ref a => ((ps.find? fun q => decide (q.1 = a)).map (·.2)).getD [] | _ => []) = p.2 := by
      show ((ps.find? fun p => decide (p.1 = q.1)).map (·.2)).getD [] = p.2
      rw [e]
      rfl
    rw [e']
    have inj : ∀ x y : List Int, x.map V.int = y.map V.int → x = y := fun x y h => by
      have := congrArg (List.map fun v : V => match v with | .int i => i | _ => 0) h
      simpa [List.map_map, Function.comp_def] using this
    exact (inj _ _ a).symm
theorem refs_mem : ∀ {ps : Prs} {its : List Value}, Vals (refs ps) its → ∀ v ∈ its, ∃ q ∈ ps, v = .ref q.1
  | [], _, r, v, hv => by
    have r : Vals [] _ := r
    cases r
    cases hv
  | q :: ps, _, r, v, hv => by
    have r : Vals (V.ref q.1 :: refs ps) _ := r
    cases r with
    | cons r1 r2 =>
      cases r1
      rcases List.mem_cons.mp hv with rfl | hv
      · exact ⟨q, List.mem_cons_self .., rfl⟩
      · obtain ⟨p, hp, e⟩ := refs_mem r2 v hv
        exact ⟨p, List.mem_cons_of_mem _ hp, e⟩
theorem refs_of : ∀ (out : List Value) (ps : Prs), (∀ v ∈ out, ∃ q ∈ ps, v = .ref q.1) → ∃ qs : Prs, (∀ q ∈ qs, q ∈ ps) ∧ Vals (refs qs) out ∧ out = qs.map fun q => Value.ref q.1
  | [], ps, _ => ⟨[], fun _ h => absurd h List.not_mem_nil, .nil, rfl⟩
  | v :: out, ps, h => by
    obtain ⟨q, hq, rfl⟩ := h v (List.mem_cons_self ..)
    obtain ⟨qs, a, b, c⟩ := refs_of out ps fun u hu => h u (List.mem_cons_of_mem _ hu)
    refine ⟨q :: qs, fun p hp => ?_, .cons rfl b, by rw [c]; rfl⟩
    rcases List.mem_cons.mp hp with rfl | hp
    · exact hq
    · exact a p hp
theorem call_sortC : CallR X (.builtin "sorted") (rSortC X.K) := by
  intro pins s σ H xs us Q I r h
  obtain ⟨l, ys, cs, rfl, hl, hc, h64, q⟩ := h
  obtain ⟨ps, e1, e2, e3, e3t⟩ := prs_of (K := X.K) hc
  have hlen : ps.length = cs.length := by have := congrArg List.length e2; simpa using this
  obtain ⟨u, rfl, ru⟩ := vals1 r
  cases ru
  obtain ⟨its, rv, pl, hz⟩ := I.list hl
  have rv' : Vals (refs ps) its := by rw [← e1]; exact rv
  have hlen2 : its.length = ps.length := by have := rv'.length; simpa using this.symm
  have hz' : its.length ≤ sizeLine := by have := rv.length; omega
  have hn : H (s.heap.objs.size + 1) = none := I.hok.fresh (Nat.le_succ _)
  have d3 : ∀ p ∈ ps, p.2.length = 3 := fun p hp => by
    have : p.2 ∈ ps.map (·.2) := List.mem_map.mpr ⟨p, hp, rfl⟩
    rw [e2] at this
    obtain ⟨c, _, e⟩ := List.mem_map.mp this
    rw [← e]; rfl
  by_cases h2 : 2 ≤ its.length
  · have tup' : ∀ h' : Heap, (∀ b o, s.heap.get? b = some o → h'.get? b = some o) → ∀ p ∈ ps, ∃ vs : List Value, Vals (p.2.map V.int) vs ∧ IsTup h' p.1 vs.toArray := fun h' kk p hp => by
      obtain ⟨vs, rv', ⟨ob, ho, hcl, n, hdat⟩, _⟩ := I.tuple (e3 p hp)
      exact ⟨vs, rv', ob, kk _ _ ho, hcl, n, hdat⟩
    refine Tim.sorted_any (lt := HT.lexLt) (k := fun x => keyOf ps x.1) (S := fun x => x.1 ∈ its) (kind := tuples' (Value.type "int" != Value.type "tuple")) pl.isList h2 (by omega) (fun h' kk {Q' E'} hQ => ?_) (fun h' kk => ⟨lexO, fun x y hx hy {Q' E'} hQ => ?_⟩) (fun v hv => hv) fun out hp hs => ?_
    · obtain ⟨fs, kt, hfl, hfs⟩ := firsts_of (h := h') rv' fun p hp => ⟨fun e => by have := d3 p hp; rw [e] at this; simp at this, tup' h' kk p hp⟩
      refine kat_kind (T := .type "int") kt (by omega) (fun v hv => ?_) rfl hQ
      obtain ⟨i, t, rfl⟩ := hfs v hv
      exact Looks.of_pure rfl
    · obtain ⟨p1, m1, f1⟩ := refs_mem rv' _ hx
      obtain ⟨p2, m2, f2⟩ := refs_mem rv' _ hy
      rw [f1, f2] at hQ ⊢
      rw [keyOf_eq e3t m1, keyOf_eq e3t m2] at hQ
      obtain ⟨vi, ri, oi, hoi, _, ni, di⟩ := tup' h' kk p1 m1
      obtain ⟨vj, rj, oj, hoj, _, nj, dj⟩ := tup' h' kk p2 m2
      refine kat_lt hoi di hoj dj ?_
      refine lex_pairs 0 ri rj ((d3 p1 m1).trans (d3 p2 m2).symm) ?_ hQ
      have a1 := ri.length
      have a2 := rj.length
      have b1 := d3 p1 m1
      have b2 := d3 p2 m2
      simp only [List.length_map] at a1 a2
      rw [List.size_toArray, List.size_toArray]
      exact decide_eq_false (by omega)
    · obtain ⟨qs, q1, q2, q3⟩ := refs_of out ps fun v hv => refs_mem rv' v (hp.mem_iff.mp hv)
      obtain ⟨e, he⟩ := sortedAll_at s.heap its out.toArray
      have keyq : ∀ p ∈ qs, keyOf ps (.ref p.1) = p.2 := fun p hp => keyOf_eq e3t (q1 p hp)
      have kp : (out.map (keyOf ps)).Perm (its.map (keyOf ps)) := hp.map _
      have ko : out.map (keyOf ps) = qs.map (·.2) := by
        rw [q3, List.map_map]
        exact List.map_congr_left fun p hp => keyq p hp
      have ki : its.map (keyOf ps) = ps.map (·.2) := by
        have go : ∀ (ps' : Prs) (its' : List Value), (∀ p ∈ ps', p ∈ ps) → Vals (refs ps') its' → its'.map (keyOf ps) = ps'.map (·.2) := by
          intro ps'
          induction ps' with
          | nil => intro its' _ r; have r : Vals [] _ := r; cases r; rfl
          | cons p ps' ih =>
            intro its' hm r
            have r : Vals (V.ref p.1 :: refs ps') _ := r
            cases r with
            | cons r1 r2 =>
              cases r1
              rw [List.map_cons, List.map_cons, keyOf_eq e3t (hm p (List.mem_cons_self ..)), ih _ (fun p' hp' => hm p' (List.mem_cons_of_mem _ hp')) r2]
        exact go ps its (fun _ h => h) rv'
      rw [ko, ki, e2] at kp
      obtain ⟨ds, e4, e5⟩ := lists_of_map kp
      have ha : Asc ds := by
        have h3 : (qs.map (·.2)).Pairwise (fun a b => HT.lexLt b a = false) := by
          rw [← ko, List.pairwise_map]
          exact hs
        rw [e4] at h3
        exact (List.pairwise_map.mp h3).imp fun h => by unfold cle; rw [h]; rfl
      have e6 := srtC_uniq e5 ha
      have hzl : (refs qs).length ≤ sizeLine := by rw [q2.length, hp.length_eq]; exact hz'
      refine ⟨.ref (s.heap.objs.size + 1), upd H (s.heap.objs.size + 1) (.lst (refs qs)), I.laid (t' := s.toks) (fun b o h => sortedAll_old h) (Nat.le_succ _) ⟨hzl, out, e, q2, he⟩, rfl, q _ _ hn ?_⟩
      refine Rs.up (same_new hn) ?_
      rw [← e6]
      exact cs_of e4 fun x hx => e3t x (q1 x hx)
  · refine sorted_short pl.isList (by omega) ?_
    obtain ⟨e, he⟩ := sortedAll_at s.heap its its.toArray
    refine ⟨.ref (s.heap.objs.size + 1), upd H (s.heap.objs.size + 1) (.lst ys), I.laid (t' := s.toks) (fun b o h => sortedAll_old h) (Nat.le_succ _) ⟨hz, its, e, rv, he⟩, rfl, q _ ys hn ?_⟩
    have : srtC cs = cs := by
      refine srtC_of_asc ?_
      match cs, hlen with
      | [], _ => exact .nil
      | [c], _ => exact .cons (fun _ h => nomatch h) .nil
      | _ :: _ :: _, hlen => simp at hlen; omega
    rw [this]
    exact Rs.up (same_new hn) hc
theorem qc_sortC {K : PySem.W.Frag} (h : X.K = K) : QCl X (.builtin "sorted") (rSortC K) := ⟨h ▸ call_sortC⟩
end
end L2
set_option Elab.async false
set_option linter.all false
set_option maxRecDepth 100000
set_option maxHeartbeats 4000000
namespace L2
open PySem PySem.W PyProof.Rows Srt Pc
structure Feeds {α : Type} (J : It) (H : Hp) (xs : List α) (R : Hp → V → α → Prop) : Prop where
  stop : ∀ H', Same H H' → J.stop xs.length H'
  go : ∀ i x H', Same H H' → xs[i]? = some x → J.go i H' ∧ ∀ v H2, J.yld i H' v H2 → Same H' H2 ∧ R H2 v x
theorem feeds_list {α : Type} {R : Hp → V → α → Prop} [Rep R] {K : PySem.W.Frag} {H : Hp} {a : Addr} {ys : List V} {xs : List α} (h : SqL K H a ys) (r : Rs R H ys xs) : Feeds (Itl K a) H xs R where
  stop := fun H' s => by rw [← r.len]; exact itl_stop (s.seq h)
  go := fun i x H' s e => by
    obtain ⟨v, e1, q⟩ := r.get' e
    refine ⟨itl_go (s.seq h) (List.getElem?_eq_some_iff.mp e1).1, fun v' H2 y => ?_⟩
    obtain ⟨rfl, e2⟩ := itl_yld (s.seq h) y
    rw [e1] at e2
    obtain rfl := Option.some.inj e2
    exact ⟨Same.refl _, Rep.up s q⟩
theorem feeds_tup {α : Type} {R : Hp → V → α → Prop} [Rep R] {K : PySem.W.Frag} {H : Hp} {a : Addr} {ys : List V} {xs : List α} (h : SqT K H a ys) (r : Rs R H ys xs) : Feeds (Itt K a) H xs R where
  stop := fun H' s => by rw [← r.len]; exact itt_stop (same_tup s h)
  go := fun i x H' s e => by
    obtain ⟨v, e1, q⟩ := r.get' e
    refine ⟨itt_go (same_tup s h) (List.getElem?_eq_some_iff.mp e1).1, fun v' H2 y => ?_⟩
    obtain ⟨rfl, e2⟩ := itt_yld (same_tup s h) y
    rw [e1] at e2
    obtain rfl := Option.some.inj e2
    exact ⟨Same.refl _, Rep.up s q⟩
theorem feeds_range {H : Hp} {lo : Int} {n : Nat} : Feeds (Itr lo n) H ((List.range n).map fun i : Nat => lo + (i : Int)) IsI where
  stop := fun H' _ => by
    show n ≤ ((List.range n).map fun i : Nat => lo + (i : Int)).length
    simp
  go := fun i x H' s e => by
    rw [List.getElem?_map] at e
    have hi : i < n := by
      rcases Nat.lt_or_ge i n with z | z
      · exact z
      · rw [List.getElem?_eq_none (by simpa using z)] at e; cases e
    rw [List.getElem?_eq_getElem (by simpa using hi)] at e
    have e : lo + ((List.range n)[i]'(by simpa using hi) : Int) = x := Option.some.inj e
    rw [List.getElem_range] at e
    refine ⟨hi, fun v H2 y => ?_⟩
    obtain ⟨rfl, rfl⟩ := y
    exact ⟨Same.refl _, by rw [← e]; rfl⟩
theorem take_snoc {α : Type} {xs : List α} {i : Nat} {x : α} (h : xs[i]? = some x) : xs.take (i + 1) = xs.take i ++ [x] := by
  rw [List.take_add_one, h]; rfl
theorem comp_fm {α β : Type} {R : Hp → V → α → Prop} {S : Hp → V → β → Prop} [Rep S] {J : It} {xs : List α} {acc : Addr} {Q : VK} {g : TG} {tc : TT} {te : TE} {H : Hp} (p : α → Bool) (f : α → β) (n : Nat) (rest : St) (hF : Feeds J H xs R) (hz : xs.length ≤ 16000000) (hacc : H acc = none)
    (turn : ∀ (os : St) (v : V) (x : α) (H' : Hp) (R1 : St → VK) (R0 : St → Hp → Prop), os.length = n → Same H H' → x ∈ xs → R H' v x →
      (∀ os' r H'', os'.length = n → Same H' H'' → p x = true → S H'' r (f x) → R1 (os' ++ rest) r H'') → (∀ os' H'', os'.length = n → Same H' H'' → p x = false → R0 (os' ++ rest) H'') →
      g v (os ++ rest) H' fun σ3 H3 => tc σ3 H3 fun b H4 => if b = true then te σ3 H4 (R1 σ3) else R0 σ3 H4)
    (done : ∀ (zs : List V) (H' : Hp), Same H H' → H' acc = some (.lst zs) → Rs S H' zs ((xs.filter p).map f) → Q (.ref acc) H') :
    CompGo acc Q g tc te J (List.replicate n none ++ rest) (upd H acc (.lst [])) := by
  refine comp_turns (n := xs.length) (fun i σ' H' => (∃ os : St, os.length = n ∧ σ' = os ++ rest) ∧ Same H H' ∧ ∃ zs, H' acc = some (.lst zs) ∧ Rs S H' zs (((xs.take i).filter p).map f)) ?_ ?_ ?_
  · exact ⟨⟨_, by simp, rfl⟩, same_new hacc, [], upd_same, .nil⟩
  · rintro σ' H' ⟨_, s1, zs, e1, r1⟩
    rw [List.take_of_length_le (Nat.le_refl _)] at r1
    exact ⟨hF.stop H' s1, done zs H' s1 e1 r1⟩
  · rintro i σ' H' hi ⟨⟨os, ho, rfl⟩, s1, zs, e1, r1⟩
    have ex : xs[i]? = some xs[i] := List.getElem?_eq_getElem hi
    obtain ⟨g1, g2⟩ := hF.go i _ H' s1 ex
    refine ⟨g1, fun v H2 y => ?_⟩
    obtain ⟨s2, q⟩ := g2 v H2 y
    refine turn os v xs[i] H2 _ _ ho (s1.trans s2) (List.getElem_mem hi) q (fun os' r H'' ho' s3 hp hs => ?_) (fun os' H'' ho' s3 hp => ?_)
    · have hl : zs.length < sizeLine := by
        have h1 := r1.len
        have h2 := List.length_filter_le p (xs.take i)
        rw [List.length_map] at h1
        rw [List.length_take] at h2
        rw [sizeLine_eq]
        omega
      refine ⟨zs, s3 _ _ (s2 _ _ e1), hl, ⟨os', ho', rfl⟩, same_up (s1.trans (s2.trans s3)) hacc, _, upd_same, ?_⟩
      rw [take_snoc ex, List.filter_append, List.map_append]
      have e2 : ([xs[i]].filter p).map f = [f xs[i]] := by rw [List.filter_cons, hp]; rfl
      rw [e2]
      have e3 := s3 _ _ (s2 _ _ e1)
      exact Rs.lst e3 (Rs.app (Rs.up (s2.trans s3) r1) (.cons hs .nil))
    · refine ⟨⟨os', ho', rfl⟩, s1.trans (s2.trans s3), zs, s3 _ _ (s2 _ _ e1), ?_⟩
      rw [take_snoc ex, List.filter_append, List.map_append]
      have e2 : ([xs[i]].filter p).map f = [] := by rw [List.filter_cons, hp]; rfl
      rw [e2, List.append_nil]
      exact Rs.up (s2.trans s3) r1
theorem comp_map {α β : Type} {R : Hp → V → α → Prop} {S : Hp → V → β → Prop} [Rep S] {J : It} {xs : List α} {acc : Addr} {Q : VK} {g : TG} {te : TE} {H : Hp} (f : α → β) (n : Nat) (rest : St) (hF : Feeds J H xs R) (hz : xs.length ≤ 16000000) (hacc : H acc = none)
    (turn : ∀ (os : St) (v : V) (x : α) (H' : Hp) (R1 : St → VK), os.length = n → Same H H' → x ∈ xs → R H' v x →
      (∀ os' r H'', os'.length = n → Same H' H'' → S H'' r (f x) → R1 (os' ++ rest) r H'') → g v (os ++ rest) H' fun σ3 H3 => te σ3 H3 (R1 σ3))
    (done : ∀ (zs : List V) (H' : Hp), Same H H' → H' acc = some (.lst zs) → Rs S H' zs (xs.map f) → Q (.ref acc) H') :
    CompGo acc Q g tYes te J (List.replicate n none ++ rest) (upd H acc (.lst [])) := by
  refine comp_fm (S := S) (fun _ => true) f n rest hF hz hacc (fun os v x H' R1 R0 ho s hx q k1 _ => ?_) fun zs H' s e r => done zs H' s e (by rwa [List.filter_eq_self.mpr fun _ _ => rfl] at r)
  have t := turn os v x H' R1 ho s hx q fun os' r H'' a b c => k1 os' r H'' a b rfl c
  have e : (fun σ3 H3 => tYes σ3 H3 fun b H4 => if b = true then te σ3 H4 (R1 σ3) else R0 σ3 H4) = fun σ3 H3 => te σ3 H3 (R1 σ3) := by
    funext σ3 H3
    show (if true = true then te σ3 H3 (R1 σ3) else R0 σ3 H3) = _
    rw [if_pos rfl]
  rw [e]
  exact t
theorem for_feeds {α : Type} {R : Hp → V → α → Prop} {J : It} {xs : List α} {g : TG} {tb : TS} {D : Ends} {σ : St} {H0 H : Hp} (Pv : Nat → St → Hp → Prop) (hF : Feeds J H0 xs R) (hsame : ∀ i σ H, Pv i σ H → Same H0 H) (h0 : Pv 0 σ H) (hd : ∀ σ H, Pv xs.length σ H → D.nx σ H)
    (turn : ∀ i x v σ H H', i < xs.length → xs[i]? = some x → Pv i σ H → Same H H' → R H' v x → g v σ H' fun σ2 H2 => tb { D with nx := Pv (i + 1), ct := Pv (i + 1), bk := D.nx } σ2 H2) : ForGo J g tb D σ H :=
  for_turns (n := xs.length) Pv h0 (fun σ H p => ⟨hF.stop H (hsame _ σ H p), hd σ H p⟩) fun i σ H hi p => by
    have ex : xs[i]? = some xs[i] := List.getElem?_eq_getElem hi
    obtain ⟨g1, g2⟩ := hF.go i _ H (hsame _ σ H p) ex
    exact ⟨g1, fun v H' y => let ⟨s, q⟩ := g2 v H' y; turn i xs[i] v σ H H' hi ex p s q⟩
section
variable {X : Cx} {σ : St} {H : Hp} {Q : VK} {D : Ends} {K : PySem.W.Frag}
theorem tups_of {ys : List V} {cs : List C3} (h : Cs H ys cs) : ∃ as : List Addr, ys = as.map V.ref ∧ TupsI K H as (cs.map C3.l) := by
  induction h with
  | nil => exact ⟨[], rfl, .nil⟩
  | cons r _ ih =>
    obtain ⟨a, e, q⟩ := r
    obtain ⟨as, e1, t⟩ := ih
    exact ⟨a :: as, by rw [e, e1]; rfl, .cons (SqT.of q) t⟩
theorem map_l_inj {cs ds : List C3} : cs.map C3.l = ds.map C3.l ↔ cs = ds := by
  constructor
  · intro h
    induction cs generalizing ds with
    | nil => cases ds with
      | nil => rfl
      | cons => simp at h
    | cons c cs ih => cases ds with
      | nil => simp at h
      | cons d ds =>
        simp only [List.map_cons, List.cons.injEq] at h
        rw [C3.inj.mp h.1, ih h.2]
  · intro h; rw [h]
def rEqC (K : PySem.W.Frag) (neg : Bool) : R2 := fun x y H Q => ∃ (a b : Addr) (ys zs : List V) (cs ds : List C3), x = .ref a ∧ y = .ref b ∧ SqL K H a ys ∧ Cs H ys cs ∧ SqL K H b zs ∧ Cs H zs ds ∧ Q (.bl (if neg then !decide (cs = ds) else decide (cs = ds))) H
theorem dec_l {cs ds : List C3} : decide (cs.map C3.l = ds.map C3.l) = decide (cs = ds) := by
  by_cases h : cs = ds
  · rw [decide_eq_true h, decide_eq_true (map_l_inj.mpr h)]
  · rw [decide_eq_false h, decide_eq_false fun e => h (map_l_inj.mp e)]
theorem qo_neR (h : X.K = K) (hu : X.A.units + 64 < cLine) : QOp X (compareOp .NotEq) (rEqC K true) := ⟨by
  subst h
  rintro pins s σ H x y v u Q I rx ry ⟨a, b, ys, zs, cs, ds, rfl, rfl, ha, hc, hb, hd, q⟩
  obtain ⟨as, e1, t1⟩ := tups_of (K := X.K) hc
  obtain ⟨bs, e2, t2⟩ := tups_of (K := X.K) hd
  exact op_neL hu pins s σ H _ _ v u Q I rx ry ⟨a, b, as, bs, _, _, rfl, rfl, e1 ▸ ha, t1, e2 ▸ hb, t2, by simp only [dec_l]; exact q⟩⟩
theorem rd_neR {a b : Addr} {ys zs : List V} {cs ds : List C3} (h1 : SqL K H a ys) (c1 : Cs H ys cs) (h2 : SqL K H b zs) (c2 : Cs H zs ds) (q : Q (.bl (!decide (cs = ds))) H) : rEqC K true (.ref a) (.ref b) H Q := ⟨a, b, ys, zs, cs, ds, rfl, rfl, h1, c1, h2, c2, q⟩
theorem rd_sortC {l : Addr} {ys : List V} {cs : List C3} (h : SqL K H l ys) (c : Cs H ys cs) (h64 : cs.length < 64) (q : ∀ (p : Addr) (zs : List V), H p = none → Cs (upd H p (.lst zs)) zs (srtC cs) → Q (.ref p) (upd H p (.lst zs))) : rSortC K [.ref l] H Q := ⟨l, ys, cs, rfl, h, c, h64, q⟩
end
end L2
set_option Elab.async false
set_option linter.all false
set_option maxRecDepth 100000
set_option maxHeartbeats 4000000
namespace L2
open PySem PySem.Spec PyProof.Rows
section
variable {X : Cx}
end
end L2
set_option Elab.async false
set_option linter.all false
set_option maxRecDepth 100000
set_option maxHeartbeats 4000000
namespace L2
open PySem PySem.W PyProof.Rows Srt Pc
def IsP {α β : Type} (R : Hp → V → α → Prop) (S : Hp → V → β → Prop) : Hp → V → α × β → Prop := fun H v p => ∃ a x y, v = V.ref a ∧ H a = some (.tup [x, y]) ∧ R H x p.1 ∧ S H y p.2
instance {α β : Type} {R : Hp → V → α → Prop} {S : Hp → V → β → Prop} [Rep R] [Rep S] : Rep (IsP R S) :=
  ⟨fun s ⟨a, x, y, e, q, r1, r2⟩ => ⟨a, x, y, e, s _ _ q, Rep.up s r1, Rep.up s r2⟩, fun h' ⟨a, x, y, e, q, r1, r2⟩ => ⟨a, x, y, e, lk_kind h' (by intro z; cases z) q, Rep.lst h' r1, Rep.lst h' r2⟩⟩
theorem rd_isNr {H : Hp} {Q : VK} {p : Addr} (h : Q (.bl false) H) : rIsN false (.ref p) .non H Q := ⟨rfl, h⟩
theorem rd_notNr {H : Hp} {Q : VK} {p : Addr} (h : Q (.bl true) H) : rIsN true (.ref p) .non H Q := ⟨rfl, h⟩
end L2
namespace Pc
open PySem L2 Srt
def spQC (K : PySem.W.Frag) : Sp := fun vs H Q _ => ∃ (a : Addr) (ax : Ax) (c : C3), vs = [.ref a, .str ax.s] ∧ SqT K H a c.v ∧ ∀ p H', Same H H' → H' p = some (.tup (qC ax c).v) → Q (.ref p) H'
def spMap (K : PySem.W.Frag) (f : Ax → C3 → C3) : Sp := fun vs H Q _ => ∃ (b : Addr) (ax : Ax) (ys : List V) (cs : List C3), vs = [.ref b, .str ax.s] ∧ SqL K H b ys ∧ Cs H ys cs ∧ cs.length < 64 ∧
  ∀ p zs H', Same H H' → H p = none → H' p = some (.lst zs) → Cs H' zs (srtC (cs.map (f ax))) → Q (.ref p) H'
theorem smallM {n : Nat} (h : n ≤ 1000000) : n < sizeLine := Nat.lt_of_le_of_lt h (by decide)
end Pc
set_option Elab.async false
set_option linter.all false
set_option maxRecDepth 100000
set_option maxHeartbeats 4000000
namespace L2
open PySem PySem.W PyProof.Rows Srt Pc
section
variable {X : Cx} {K : PySem.W.Frag} {H : Hp} {Q : VK}
def rMaxL (K : PySem.W.Frag) : List V → Hp → VK → Prop := fun xs H Q => ∃ (p : Addr) (ns : List Int), xs = [.ref p] ∧ SqL K H p (ns.map V.int) ∧ ns ≠ [] ∧ ∀ M, M ∈ ns → (∀ a, a ∈ ns → a ≤ M) → Q (.int M) H
theorem call_maxL (hc : X.calm = true) : CallR X (.builtin "max") (rMaxL X.K) := by
  intro pins s σ H xs us Q I r h
  obtain ⟨p, ns, rfl, hp, hne, q⟩ := h
  obtain ⟨u, rfl, ru⟩ := vals1 r
  cases ru
  obtain ⟨its, rv, pl, hz⟩ := I.list hp
  have hi : IntsAre its ns := intsAre_of rv
  have hl : 0 < ns.length := List.length_pos_iff.mpr hne
  obtain ⟨ys, hys⟩ := hi.allInts.items
  have hsz : 0 < ys.size := by
    have e := congrArg Array.size hys
    rw [List.size_toArray, hi.length] at e
    have e2 : (intItems ys).size = ys.size := by simp [intItems]
    omega
  have hnum : numsOf (intItems ys).toList = ns := by rw [← hys]; exact hi.numsOf
  rw [nums_intItems] at hnum
  refine max_intList (xs := ys) (I.ok.hd hc) (by rw [← hys]; exact pl.isList) hsz fun v h' tk hv hk => ?_
  obtain ⟨t, rfl⟩ := intItems_at hv
  obtain ⟨h1, h2⟩ := argBest_gt (numAt ys) (ys.size - 1)
  refine ⟨.int _, H, I.kept hk, ⟨t, rfl⟩, q _ ?_ fun a ha => ?_⟩
  · rw [← hnum, numAt_eq]; exact getD_mem (by rw [List.length_map, Array.length_toList]; omega)
  · rw [← hnum] at ha
    obtain ⟨j, hj, rfl⟩ := mem_getD ha
    rw [List.length_map, Array.length_toList] at hj
    rw [← numAt_eq]; exact h2 j (by omega)
theorem qc_maxL (h : X.K = K) (hc : X.calm = true) : QCl X (.builtin "max") (rMaxL K) := ⟨h ▸ call_maxL hc⟩
theorem rd_maxL {p : Addr} {ns : List Int} (h : SqL K H p (ns.map V.int)) (hn : ns ≠ []) (q : ∀ M, M ∈ ns → (∀ a, a ∈ ns → a ≤ M) → Q (.int M) H) : rMaxL K [.ref p] H Q := ⟨p, ns, rfl, h, hn, q⟩
theorem any_dTs (nss : List (List Int)) (ns : List Int) : (dTs nss).any (fun y => PyData.eqv y (.tuple (ns.map PyData.int))) = decide (ns ∈ nss) := by
  induction nss with
  | nil => rfl
  | cons m r ih =>
    show (PyData.eqv (.tuple (m.map PyData.int)) (.tuple (ns.map PyData.int)) || (dTs r).any _) = _
    rw [eqv_T, ih]
    by_cases h : m = ns
    · subst h; simp
    · by_cases h2 : ns ∈ r
      · simp [h2]
      · simp [h, h2, Ne.symm h]
theorem mem_l {c : C3} {cs : List C3} : c.l ∈ cs.map C3.l ↔ c ∈ cs := by
  constructor
  · intro h
    obtain ⟨d, hd, e⟩ := List.mem_map.mp h
    rwa [C3.inj.mp e] at hd
  · intro h; exact List.mem_map.mpr ⟨c, h, rfl⟩
theorem dec_mem {c : C3} {cs : List C3} : decide (c.l ∈ cs.map C3.l) = decide (c ∈ cs) := by
  by_cases h : c ∈ cs
  · rw [decide_eq_true h, decide_eq_true (mem_l.mpr h)]
  · rw [decide_eq_false h, decide_eq_false fun e => h (mem_l.mp e)]
def rInC (K : PySem.W.Frag) (neg : Bool) : R2 := fun x y H Q => ∃ (a b : Addr) (c : C3) (ys : List V) (cs : List C3), x = .ref a ∧ y = .ref b ∧ SqT K H a c.v ∧ SqL K H b ys ∧ Cs H ys cs ∧ Q (.bl (if neg then !decide (c ∈ cs) else decide (c ∈ cs))) H
theorem depth_T (ns : List Int) : PyData.depth (.tuple (ns.map PyData.int)) ≤ 1 := by
  simp [PyData.depth, PySem.W.ke_depthAll]
theorem qo_notInC (h : X.K = K) (hu : X.A.units + 64 < cLine) : QOp X (compareOp .NotIn) (rInC K true) := ⟨by
  subst h
  rintro pins s σ H x y v u Q I rx ry ⟨a, b, c, ys, cs, rfl, rfl, ha, hb, hc, q⟩
  obtain ⟨as, e1, t1⟩ := tups_of (K := X.K) hc
  subst e1
  cases rx
  cases ry
  refine SeqAt.notIn_list_reads (I.readsL hb t1) (I.readsT ha) (canLay_Ts _) (SeqAt.canLay_of_shaped (shaped_T _)) (by have := depth_T c.l; omega) ?_
  rw [any_dTs, dec_mem]
  exact ⟨.bl _, H, I, rfl, q⟩⟩
theorem rd_notInC {a b : Addr} {c : C3} {ys : List V} {cs : List C3} (h1 : SqT K H a c.v) (h2 : SqL K H b ys) (h3 : Cs H ys cs) (q : Q (.bl (!decide (c ∈ cs))) H) : rInC K true (.ref a) (.ref b) H Q := ⟨a, b, c, ys, cs, rfl, rfl, h1, h2, h3, q⟩
end
end L2
set_option Elab.async false
set_option linter.all false
set_option maxRecDepth 100000
set_option maxHeartbeats 4000000
namespace PyProof.Rows
open PySem PySem.Spec
section
variable {prog : Program} {w : World} {A : Around} {E : Value → Shared → Prop} {s : Shared}
theorem getAttrQ_miss_list {a : Addr} {o : Obj} {xs : Array Value} {k : Nat} {name : Str} {Q : Option Value → Shared → Prop}
    (hx : s.heap.get? a = some o) (hc : o.cls = .type "list") (hdat : o.data = .seq xs k) (hd : o.dict = none) (hmiss : typeLookup (.type "list") name = pure none) (hname : (["__module__", "__name__", "__qualname__", "__doc__", "__annotations__"] : List Str).contains name = false) (hA : A.handled = none)
    (h : ∀ h' tk, (∀ b ob, s.heap.get? b = some ob → h'.get? b = some ob) → Q none { s with heap := h', toks := tk }) (hsz : name.length + 100 ≤ sizeLine) :
    wpAny (model prog w) A (getAttr? (.ref a) name) Q E s := by
  obtain ⟨c, dct, dat, sl⟩ := o
  simp only at hc hdat hd
  subst hc hdat hd
  obtain ⟨hp, g, d, tk, os⟩ := s
  have hT : ∀ tk', (⟨hp, g, d, tk', os⟩ : Shared).TypeIs (.ref a) "list" := fun _ => ⟨_, hx, rfl⟩
  have f1 := sub_AttributeError
  have f3 := PySem.F.slot_list_getattribute.lookup
  have f4 := PySem.F.slot_list_getattribute.bind (.ref a)
  have f5 := am_list_getattr_none
  unfold getAttr? getAttrBy? getAttrBy
  repeat (any_goals (first | assumption | exact hT _ | ((with_reducible show wpAny _ _ (call (Value.builtin "list.__getattribute__") _ _) _ _ _); refine call_meets PySem.F.slot_list_getattribute (hT _) am_entry_list_getattribute (PySem.F.args_list_getattribute_2 _ _) (meets_getattribute_miss_list a xs k sl name _ hmiss hname hsz) ⟨hx, hA, fun h' tk' e hx' => ?_⟩) | wp_step))
  obtain ⟨t', u', he⟩ := hx'.there
  show wpAny _ _ (getattributeRaised _ _ _ _ _ _ _) _ _ _
  unfold getattributeRaised
  repeat (any_goals (first | assumption | wp_step))
  exact h _ _ hx'.keeps
end
end PyProof.Rows
namespace L2
open PySem PySem.W PySem.Spec PyProof.Rows Srt Pc
theorem entry_dict_update_loop : entryFor table "dict.update.loop" = some Builtin.«dict.update.loop» := entryFor_of_tree (by kernel_rfl)
theorem plain_dict_update_loop : plainId "dict.update.loop" = true := by decide +kernel
def foldH (ts : List (List Key × Addr × Value)) : List (List Key × Addr × Value) := ts.foldl (fun acc t => storedH acc t.1 t.2.1 t.2.2) []
theorem foldH_succ {ts : List (List Key × Addr × Value)} {i : Nat} {t : List Key × Addr × Value} (h : ts[i]? = some t) : foldH (ts.take (i + 1)) = storedH (foldH (ts.take i)) t.1 t.2.1 t.2.2 := by
  unfold foldH
  rw [List.take_add_one, h, List.foldl_append]
  rfl
theorem storedH_len (xs : List (List Key × Addr × Value)) (k : List Key) (a : Addr) (v : Value) : (storedH xs k a v).length ≤ xs.length + 1 := by
  unfold storedH
  split <;> simp
theorem foldH_len (ts : List (List Key × Addr × Value)) : (foldH ts).length ≤ ts.length := by
  have : ∀ (ts acc : List (List Key × Addr × Value)), (ts.foldl (fun acc t => storedH acc t.1 t.2.1 t.2.2) acc).length ≤ acc.length + ts.length := by
    intro ts
    induction ts with
    | nil => intro acc; simp
    | cons t r ih =>
      intro acc
      have h1 := ih (storedH acc t.1 t.2.1 t.2.2)
      have h2 := storedH_len acc t.1 t.2.1 t.2.2
      rw [List.foldl_cons, List.length_cons]
      omega
  have h := this ts []
  simpa [foldH] using h
section
variable {prog : Program} {w : World} {A : Around} {R : Result → Shared → Prop}
theorem dictH_keep {h h' : Heap} {D I l : Addr} {i : Nat} {xs : List (List Key × Addr × Value)} (d : h.DictOfH (tupleKind (mixKind prog w)) D xs) (hne : D ≠ I) (it : h.IsListIter I l i) (k : ∀ b o, b ≠ I → h.get? b = some o → h'.get? b = some o) :
    h'.DictOfH (tupleKind (mixKind prog w)) D xs := by
  obtain ⟨o, es, ep, h1, h2, h3, h4, h5, h6⟩ := d
  refine ⟨o, es, ep, k _ _ hne h1, h2, h3, h4, fun x hx => ?_, h6⟩
  obtain ⟨o', its, n, q1, q2, q3, q4⟩ := (show IsTupleKey (mixKind prog w) h x.1 x.2.1 from h5 x hx)
  refine ⟨o', its, n, k _ _ (fun e => ?_) q1, q2, q3, q4⟩
  obtain ⟨oi, g1, g2, _⟩ := it
  rw [e, g1] at q1
  cases q1
  rw [g2] at q2
  exact absurd q2 (by decide)
theorem codeAny_dict_loop {D I l : Addr} {items : Array Value} {ts : List (List Key × Addr × Value)} (h0 : Heap) (hh : A.in1.handled = none) (hr : (tupleKind (mixKind prog w)).room A.in1) (hDI : D < I) (hlD : l < D)
    (hp : ∀ (i : Nat) (t : List Key × Addr × Value), ts[i]? = some t → ∃ p, items[i]? = some (.ref p) ∧ p < D ∧ h0.IsTuple p #[.ref t.2.1, t.2.2] ∧ t.2.1 < D ∧ IsTupleKey (mixKind prog w) h0 t.1 t.2.1)
    (hlen : items.size = ts.length) (hsz : ts.length ≤ sizeLine) :
    ∀ (k i : Nat) (s : Shared), items.size - i = k → i ≤ items.size → s.heap.IsListIter I l i → s.heap.IsList l items → (∀ b o, b < D → h0.get? b = some o → s.heap.get? b = some o) →
      s.heap.DictOfH (tupleKind (mixKind prog w)) D (foldH (ts.take i)) →
      (∀ h' tk, (∀ b o, b < D → h0.get? b = some o → h'.get? b = some o) → h'.DictOfH (tupleKind (mixKind prog w)) D (foldH ts) → R (.ok (.ret .none)) { s with heap := h', toks := tk }) →
      codeAny (model prog w) A (.builtin "dict.update.loop" ⟨[.ref D, .ref I, .int (i : Int) 0, .none], []⟩) R s := by
  have hlI : l ≠ I := Nat.ne_of_lt (Nat.lt_trans hlD hDI)
  have hDn : D ≠ I := Nat.ne_of_lt hDI
  have hbI : ∀ b : Addr, b < D → b ≠ I := fun b hb => Nat.ne_of_lt (Nat.lt_trans hb hDI)
  have hbD : ∀ b : Addr, b < D → b ≠ D := fun b hb => Nat.ne_of_lt hb
  have W := Walks.list (prog := prog) (w := w) hh I l hlI items
  intro k
  induction k with
  | zero =>
    intro i s hk hi hit hl hkeep hd hR
    have hin : i = items.size := by omega
    subst hin
    refine codeAny_builtin entry_dict_update_loop ?_
    rw [Around.under_plainId plain_dict_update_loop _]
    show wpAny _ A.in1 (pyNext (.ref I) >>= _) _ _ s
    refine wpAny_bind (W.done s _ _ ⟨hit, hl⟩ fun h' tk km => ?_)
    show wpAny _ A.in1 (Builtin.Dict.addKeywords D [] >>= _) _ _ _
    have km' : ∀ b o, b ≠ I → s.heap.get? b = some o → h'.get? b = some o := fun b o hb e => km b o (by simpa using hb) e
    refine wpAny_bind (wpAny_pure (wpAny_pure (hR h' tk (fun b o hb e => km' b o (hbI b hb) (hkeep b o hb e)) ?_)))
    have := dictH_keep hd hDn hit km'
    rwa [hlen, List.take_length] at this
  | succ k ih =>
    intro i s hk hi hit hl hkeep hd hR
    have hlt : i < items.size := by omega
    refine codeAny_builtin entry_dict_update_loop ?_
    rw [Around.under_plainId plain_dict_update_loop _]
    show wpAny _ A.in1 (pyNext (.ref I) >>= _) _ _ s
    refine wpAny_bind (W.item i s _ _ hlt ⟨hit, hl⟩ fun v h1 tk hv hst km => ?_)
    have km' : ∀ b o, b ≠ I → s.heap.get? b = some o → h1.get? b = some o := fun b o hb e => km b o (by simpa using hb) e
    have ht : ts[i]? = some ts[i] := List.getElem?_eq_getElem (by omega)
    obtain ⟨p, ep, pD, pT, kD, kT⟩ := hp i _ ht
    rw [ep] at hv
    cases hv
    have hk1 : ∀ b o, b < D → h0.get? b = some o → h1.get? b = some o := fun b o hb e => km' b o (hbI b hb) (hkeep b o hb e)
    obtain ⟨po, pg, pc, pn, pdat⟩ := pT
    have pg1 : h1.get? p = some po := hk1 _ _ pD pg
    have kT1 : IsTupleKey (mixKind prog w) h1 ts[i].1 ts[i].2.1 := by
      obtain ⟨o', its, n, q1, q2, q3, q4⟩ := kT
      exact ⟨o', its, n, hk1 _ _ kD q1, q2, q3, q4⟩
    have hd1 := dictH_keep hd hDn hit km'
    have hz : (foldH (ts.take i)).length ≤ sizeLine := by
      have := foldH_len (ts.take i)
      rw [List.length_take] at this
      omega
    refine wpAny_bind (wpAny_holding ?_)
    refine wpAny_bind (wpAny_tryCatch ?_)
    unfold Builtin.Dict.pairItems
    refine wpAny_bind (wpAny_typeOf (T := "tuple") (s := { s with heap := h1, toks := tk }) ⟨po, pg1, pc⟩ ?_)
    show wpAny _ _ (seqItems? (.ref p) >>= _) _ _ _
    refine wpAny_bind (wpAny_seqItems (s := { s with heap := h1, toks := tk }) pg1 pdat (wpAny_pure ?_))
    show wpAny _ A.in1 (holding [Value.ref ts[i].2.1, ts[i].2.2] (dictSet D (.ref ts[i].2.1) ts[i].2.2)) _ _ _
    refine wpAny_holding (wpAny_dictSet_heap (s := { s with heap := h1, toks := tk }) (hsz := hz) hr kT1 hd1 fun h2 d2 sb => ?_)
    refine wpAny_pure ⟨plainId_quiet plain_dict_update_loop _, ?_⟩
    have hD2 : ∀ b o, b ≠ D → h1.get? b = some o → h2.get? b = some o := fun b o hb e => (sb.2 b hb).trans e
    show codeAny (model prog w) A (.builtin "dict.update.loop" ⟨[.ref D, .ref I, .int ((i + 1 : Nat) : Int) 0, .none], []⟩) R _
    refine ih (i + 1) _ (by omega) hlt ?_ ?_ (fun b o hb e => hD2 b o (hbD b hb) (hk1 b o hb e)) ?_ (fun h' tk' a b => hR h' tk' a b)
    · exact hst.1.at fun o e => hD2 I o (Ne.symm hDn) e
    · exact hst.2.at fun o e => hD2 l o (hbD l hlD) e
    · rw [foldH_succ ht]; exact d2
theorem list_no_keys : typeLookup (.type "list") "keys" = pure none := am_miss_of_fast (by kernel_rfl)
theorem call_dict_pairs {E : Value → Shared → Prop} {s : Shared} {l : Addr} {o : Obj} {items : Array Value} {n : Nat} {ts : List (List Key × Addr × Value)} {Q : Value → Shared → Prop} (hh : A.handled = none) (hr : (tupleKind (mixKind prog w)).room A.in1.in1)
    (ho : s.heap.get? l = some o) (hc : o.cls = .type "list") (hdn : o.dict = none) (hdat : o.data = .seq items n)
    (hp : ∀ (i : Nat) (t : List Key × Addr × Value), ts[i]? = some t → ∃ p, items[i]? = some (.ref p) ∧ s.heap.IsTuple p #[.ref t.2.1, t.2.2] ∧ IsTupleKey (mixKind prog w) s.heap t.1 t.2.1)
    (hlen : items.size = ts.length) (hsz : ts.length ≤ sizeLine)
    (h : ∀ h' tk, (∀ b o, s.heap.get? b = some o → h'.get? b = some o) → h'.DictOfH (tupleKind (mixKind prog w)) s.heap.objs.size (foldH ts) → Q (.ref s.heap.objs.size) { s with heap := h', toks := tk }) :
    wpAny (model prog w) A (call (.type "dict") [.ref l]) Q E s := by
  refine callType_codes (Q₁ := fun obj s₁ => obj = .ref s.heap.objs.size ∧ s₁ = { s with heap := s.heap.push { cls := .type "dict", data := .dict #[] } }) PySem.F.kt_called_dict (PySem.F.kt_typeCall_dict_1 _) PySem.F.entry_dict_init (kt_code_dict_new _ ⟨rfl, rfl⟩) ?_
  rintro obj s₁ ⟨rfl, rfl⟩
  have hlD : l < s.heap.objs.size := Heap.lt_size ho
  have hnew : (s.heap.push { cls := .type "dict", data := .dict #[] }).DictOfH (tupleKind (mixKind prog w)) s.heap.objs.size [] := Heap.DictOfH.new s.heap
  refine ⟨hnew.typeIs (s := { s with heap := _ }), PySem.F.args_dict_init_2 _ _, ?_⟩
  unfold Builtin.«dict.__init__»
  refine wpAny_bind ?_
  unfold Builtin.Dict.selfAndRest
  refine wpAny_bind (wpAny_notOrdered_dict (hnew.typeIs (s := { s with heap := _ })) ?_)
  show wpAny _ _ (pure (s.heap.objs.size, [Value.ref l])) _ _ _
  refine wpAny_pure ?_
  show wpAny _ _ (Builtin.Dict.updateFrom "dict.__init__" s.heap.objs.size (.ref l) [] .none) _ _ _
  unfold Builtin.Dict.updateFrom
  have ho1 : (s.heap.push { cls := .type "dict", data := .dict #[] }).get? l = some o := Heap.get?_push_of_some _ ho
  refine wpAny_bind (wpAny_typeOf (T := "list") (s := { s with heap := s.heap.push { cls := .type "dict", data := .dict #[] } }) ⟨o, ho1, hc⟩ ?_)
  rw [if_pos (by decide)]
  refine wpAny_bind (getAttrQ_miss_list (s := { s with heap := s.heap.push { cls := .type "dict", data := .dict #[] } }) ho1 hc hdat hdn list_no_keys (by decide +kernel) hh (fun h1 tk1 k1 => ?_) (by decide +kernel))
  simp only [Option.isNone_none, if_true]
  refine wpAny_bind (wpAny_rule ?_)
  have hl1 : h1.IsList l items := ⟨o, k1 _ _ ho1, hc, n, hdat⟩
  refine wpAny_bind (wpAny_pyIter_list (s := { s with heap := h1, toks := tk1 }) hl1 ?_)
  have hD1 : s.heap.objs.size < h1.objs.size := Heap.lt_size (k1 _ _ (Heap.get?_push_size _ rfl))
  have kk : ∀ b o, s.heap.get? b = some o → (h1.push { cls := .type "list_iterator", data := .fields #[.ref l, .int 0 0] }).get? b = some o := fun b o e => Heap.get?_push_of_some _ (k1 b o (Heap.get?_push_of_some _ e))
  refine wpAny_pure ⟨plainId_quiet plain_dict_update_loop _, ?_⟩
  refine codeAny_dict_loop (A := A.in1) (I := h1.objs.size) (l := l) (items := items) (ts := ts) s.heap hh hr hD1 hlD (fun i t ht => ?_) hlen hsz items.size 0 { s with heap := h1.push { cls := .type "list_iterator", data := .fields #[.ref l, .int 0 0] }, toks := tk1 } (by omega) (Nat.zero_le _) ⟨_, Heap.get?_push_size _ rfl, rfl, rfl⟩ ⟨o, kk _ _ ho, hc, n, hdat⟩ (fun b o _ e => kk b o e) ?_ ?_
  · obtain ⟨p, e1, t1, t2⟩ := hp i t ht
    refine ⟨p, e1, ?_, t1, ?_, t2⟩
    · obtain ⟨_, q, _⟩ := t1; exact Heap.lt_size q
    · obtain ⟨_, _, _, q, _⟩ := t2; exact Heap.lt_size q
  · refine ⟨_, #[], 0, Heap.get?_push_of_some _ (k1 _ _ (Heap.get?_push_size _ rfl)), ⟨rfl, rfl, rfl⟩, rfl, rfl, fun _ hx => ?_, List.nodup_nil⟩
    exact absurd hx (by simp [foldH])
  · intro h' tk k d
    exact ⟨rfl, h h' tk (fun b o e => k b o (Heap.lt_size e) e) d⟩
end
end L2
set_option Elab.async false
set_option linter.all false
set_option maxRecDepth 100000
set_option maxHeartbeats 4000000
namespace L2
open PySem PySem.W PySem.Spec PyProof.Rows Srt Pc
def keyC (c : C3) : List Key := c.l.map Sum.inl
theorem keyC_v (c : C3) : (keyC c).map kV = c.v := by
  unfold keyC C3.v
  rw [List.map_map]
  rfl
theorem keyC_inj {c d : C3} : keyC c = keyC d ↔ c = d := by
  constructor
  · intro h
    have h1 : (keyC c).map kV = (keyC d).map kV := by rw [h]
    rw [keyC_v, keyC_v] at h1
    have h2 : c.l = d.l := by
      have : ∀ xs ys : List Int, xs.map V.int = ys.map V.int → xs = ys := by
        intro xs
        induction xs with
        | nil => intro ys e; cases ys with
          | nil => rfl
          | cons => simp at e
        | cons x xs ih => intro ys e; cases ys with
          | nil => simp at e
          | cons y ys =>
            simp only [List.map_cons, List.cons.injEq] at e
            rw [V.int.inj e.1, ih ys e.2]
      exact this _ _ h1
    exact C3.inj.mp h2
  · intro h; rw [h]
def IsKV : Hp → V → C3 × V → Prop := fun H v x => ∃ p ka, v = .ref p ∧ H p = some (.tup [.ref ka, x.2]) ∧ H ka = some (.tup x.1.v)
instance : Rep IsKV := ⟨fun s ⟨p, ka, e, q, r⟩ => ⟨p, ka, e, s _ _ q, s _ _ r⟩, fun h' ⟨p, ka, e, q, r⟩ => ⟨p, ka, e, lk_kind h' (by intro z; cases z) q, lk_kind h' (by intro z; cases z) r⟩⟩
def dctC (m : List (C3 × V)) : List (List Key × V) := m.foldl (fun acc x => putK acc (keyC x.1) x.2) []
theorem fold_len (m : List (C3 × V)) : ∀ acc : List (List Key × V), (m.foldl (fun acc x => putK acc (keyC x.1) x.2) acc).length ≤ acc.length + m.length := by
  induction m with
  | nil => intro acc; simp
  | cons x m ih =>
    intro acc
    have h1 := ih (putK acc (keyC x.1) x.2)
    have h2 := length_putK acc (keyC x.1) x.2
    rw [List.foldl_cons, List.length_cons]
    omega
theorem dctC_len (m : List (C3 × V)) : (dctC m).length ≤ m.length := by
  have := fold_len m []
  simpa [dctC] using this
theorem val_fold (v : V) (cs : List C3) (c : C3) : ∀ acc : List (List Key × V), valV ((cs.map fun d => (d, v)).foldl (fun acc x => putK acc (keyC x.1) x.2) acc) (keyC c) = if c ∈ cs then some v else valV acc (keyC c) := by
  induction cs with
  | nil => intro acc; simp
  | cons d cs ih =>
    intro acc
    rw [List.map_cons, List.foldl_cons, ih, valV_put]
    by_cases h : c ∈ cs
    · simp [h]
    · by_cases h2 : c = d
      · subst h2; simp
      · have h3 : ¬ keyC c = keyC d := fun e => h2 (keyC_inj.mp e)
        simp [h, h2, h3]
theorem val_dct (v : V) (cs : List C3) (c : C3) : valV (dctC (cs.map fun d => (d, v))) (keyC c) = if c ∈ cs then some v else none := by
  have := val_fold v cs c []
  simpa [dctC, valV] using this
section
variable {X : Cx} {K : PySem.W.Frag} {H : Hp} {Q : VK}
theorem ts_of {pins : List (Addr × Obj)} {σ : St} {s : Shared} (I : Inv X pins σ H s) : ∀ {ys : List V} {m : List (C3 × V)} {its : List Value}, Rs IsKV H ys m → Vals ys its →
    ∃ ts : List (List Key × Addr × Value), ts.length = its.length ∧ (∀ (i : Nat) (t : List Key × Addr × Value), ts[i]? = some t → ∃ p, its[i]? = some (.ref p) ∧ s.heap.IsTuple p #[.ref t.2.1, t.2.2] ∧ IsTupleKey (mixKind X.prog X.w) s.heap t.1 t.2.1) ∧
      Paired (fun (x : C3 × V) (t : List Key × Addr × Value) => t.1 = keyC x.1 ∧ H t.2.1 = some (.tup (t.1.map kV)) ∧ RelV x.2 t.2.2) m ts
  | _, _, _, .nil, r => by cases r; exact ⟨[], rfl, fun i t h => by simp at h, .nil⟩
  | _, _, _, .cons (b := x) h t, r => by
    cases r with
    | cons r1 r2 =>
      obtain ⟨p, ka, rfl, e1, e2⟩ := h
      cases r1
      obtain ⟨ts, l1, h1, h2⟩ := ts_of I t r2
      obtain ⟨_, js, rj, o, g1, g2, n, g3⟩ := (show ObjOk X.prog X.w H s.heap p (.tup [.ref ka, x.2]) from I.hok p _ e1)
      cases rj with
      | cons j1 j2 =>
        cases j1
        cases j2 with
        | cons j3 j4 =>
          cases j4
          rename_i u
          have e3 : H ka = some (.tup ((keyC x.1).map kV)) := by rw [keyC_v]; exact e2
          refine ⟨(keyC x.1, ka, u) :: ts, by simp [l1], fun i t ht => ?_, .cons ⟨rfl, e3, j3⟩ h2⟩
          cases i with
          | zero =>
            simp only [List.getElem?_cons_zero, Option.some.injEq] at ht
            subst ht
            exact ⟨p, rfl, ⟨o, g1, g2, n, g3⟩, key_of I.hok e3⟩
          | succ i =>
            simp only [List.getElem?_cons_succ] at ht ⊢
            exact h1 i t ht
theorem kt_fold : ∀ {m : List (C3 × V)} {ts : List (List Key × Addr × Value)} {acc : List (List Key × V)} {xs : List (List Key × Addr × Value)},
    Paired (fun (x : C3 × V) (t : List Key × Addr × Value) => t.1 = keyC x.1 ∧ H t.2.1 = some (.tup (t.1.map kV)) ∧ RelV x.2 t.2.2) m ts → KT H acc xs →
    KT H (m.foldl (fun acc x => putK acc (keyC x.1) x.2) acc) (ts.foldl (fun acc t => storedH acc t.1 t.2.1 t.2.2) xs)
  | _, _, _, _, .nil, r => r
  | _, _, _, _, .cons h t, r => by
    rw [List.foldl_cons, List.foldl_cons]
    refine kt_fold t ?_
    rw [← h.1]
    exact r.put _ h.2.1 h.2.2
def rDictP (K : PySem.W.Frag) : List V → Hp → VK → Prop := fun xs H Q => ∃ (l : Addr) (ys : List V) (m : List (C3 × V)), xs = [.ref l] ∧ SqL K H l ys ∧ Rs IsKV H ys m ∧ ∀ d, H d = none → Q (.ref d) (upd H d (.dT (dctC m)))
theorem call_dictP (hc : X.calm = true) (hu : X.A.units + 2 < cLine) : CallR X (.type "dict") (rDictP X.K) := by
  intro pins s σ H xs us Q I r h
  obtain ⟨l, ys, m, rfl, hl, hm, q⟩ := h
  obtain ⟨u, rfl, ru⟩ := vals1 r
  cases ru
  obtain ⟨its, rv, ⟨o, n, ho, hcl, hdn, hdat⟩, hz⟩ := I.list hl
  obtain ⟨ts, l1, h1, h2⟩ := ts_of I hm rv
  have e1 := hm.len
  have e2 := rv.length
  refine call_dict_pairs (ts := ts) (I.ok.hd hc) (show X.A.units + 2 < cLine from hu) ho hcl hdn hdat (fun i t ht => ?_) (by rw [List.size_toArray, l1]) (by omega) fun h' tk k d => ?_
  · obtain ⟨p, a, b, c⟩ := h1 i t ht
    exact ⟨p, by simpa using a, b, c⟩
  · have hn := I.hok.fresh (Nat.le_refl s.heap.objs.size)
    refine ⟨.ref s.heap.objs.size, _, I.laid (a := s.heap.objs.size) (o := .dT (dctC m)) (t' := tk) k (Nat.le_refl _) ?_, rfl, q _ hn⟩
    obtain ⟨o', es, ep, g1, g2, g3, g4, _, g5⟩ := d
    refine ⟨?_, beq_eq_false_iff_ne.mpr (Ne.symm (Nat.ne_of_lt I.big)), foldH ts, (kt_fold h2 .nil).keeps fun b zs eb => ?_, o', es, ep, g1, g2, g3, g4, g5⟩
    · have := dctC_len m
      omega
    · rw [upd_ne (ne_of_none eb hn)]
      exact eb
theorem qc_dictP (h : X.K = K) (hc : X.calm = true) (hu : X.A.units + 2 < cLine) : QCl X (.type "dict") (rDictP K) := ⟨h ▸ call_dictP hc hu⟩
theorem rd_dictP {l : Addr} {ys : List V} {m : List (C3 × V)} (h : SqL K H l ys) (hm : Rs IsKV H ys m) (q : ∀ d, H d = none → Q (.ref d) (upd H d (.dT (dctC m)))) : rDictP K [.ref l] H Q := ⟨l, ys, m, rfl, h, hm, q⟩
theorem dput_c {d a : Addr} {kvs : List (List Key × V)} {c : C3} {v : V} (e : H d = some (.dT kvs)) (ea : H a = some (.tup c.v)) (hl : kvs.length < sizeLine) : DPut H d (.ref a) v (upd H d (.dT (putK kvs (keyC c) v))) := DPut.t e (by rw [keyC_v]; exact ea) hl
end
end L2
set_option Elab.async false
set_option linter.all false
set_option maxRecDepth 100000
set_option maxHeartbeats 4000000
namespace L2
open PySem PySem.W PySem.Spec PyProof.Rows Srt Pc
section
variable {prog : Program} {w : World} {K : Type} [DecidableEq K] {knd : HeapKind prog w K} {A : Around} {E : Value → Shared → Prop} {s : Shared}
end
section
variable {X : Cx} {pins : List (Addr × Obj)} {σ : St} {H : Hp} {s : Shared} {d a : Addr} {kvs : List (List Key × V)} {k : List Key} {A : Around} {E : Value → Shared → Prop}
end
end L2
set_option Elab.async false
set_option linter.all false
set_option maxRecDepth 100000
set_option maxHeartbeats 4000000
namespace L2
open PySem PySem.W
theorem rd_seqK {t1 t2 : TS} {D : Ends} {σ : St} {H : Hp} (h : ∀ N : St → Hp → Prop, (∀ σ' H', t2 D σ' H' → N σ' H') → t1 { D with nx := N } σ H) : tSeq t1 t2 D σ H := h (t2 D) fun _ _ x => x
theorem hu2_of {k : Nat} {A : Around} (hr : Room k A) : A.units + 2 < cLine := by have := hr.units; omega
end L2
namespace Pc
open PySem L2 Srt
def C3.within (n : Int) (c : C3) : Prop := (-n ≤ c.x ∧ c.x ≤ n) ∧ (-n ≤ c.y ∧ c.y ≤ n) ∧ (-n ≤ c.z ∧ c.z ≤ n)
theorem ints_eq {H : Hp} : ∀ {zs : List V} {ns : List Int}, Rs IsI H zs ns → zs = ns.map V.int
  | _, _, .nil => rfl
  | _, _, .cons h t => by
    have h : _ = _ := h
    rw [h, ints_eq t]
    rfl
theorem within_of {room : Int} {d : C3} (h : ∀ z ∈ d.l, (if z < 0 then -z else z) ≤ room) : C3.within room d := by
  obtain ⟨x, y, z⟩ := d
  have h1 := h x (by simp [C3.l])
  have h2 := h y (by simp [C3.l])
  have h3 := h z (by simp [C3.l])
  refine ⟨?_, ?_, ?_⟩ <;> constructor <;> dsimp only <;> split at h1 <;> split at h2 <;> split at h3 <;> omega
def spMix : Sp := fun vs H Q _ => ∃ (a b : Int), vs = [.int a, .int b] ∧ 0 ≤ b ∧ b ≤ 1000 ∧ ∀ n : Int, 0 ≤ n → n < 2147483629 → Q (.int n) H
def spStepD (K : PySem.W.Frag) : Sp := fun vs H Q _ => ∃ (a : Addr) (c : C3) (n : Int), vs = [.ref a, .int n] ∧ SqT K H a c.v ∧ 0 ≤ n ∧ ∀ (p : Addr) (d : C3) (H' : Hp), Same H H' → H' p = some (.tup d.v) → Q (.ref p) H'
def spDrawnS (K : PySem.W.Frag) : Sp := fun vs H Q _ => ∃ (a : Addr) (ns : List Int) (room : Int), vs = [.ref a, .int room] ∧ SqL K H a (ns.map V.int) ∧ ns.length ≤ 1000 ∧ 2 ≤ room ∧
  ∀ (p : Addr) (ys : List V) (cs : List C3) (H' : Hp), Same H H' → H p = none → H' p = some (.lst ys) → Cs H' ys cs → cs.Nodup → (∀ c ∈ cs, c.within room) → cs.length ≤ ns.length → Q (.ref p) H'
theorem at3 (c : C3) (t : Int) (h0 : 0 ≤ t) (h1 : t < 3) : ∃ q : Int, atI c.v t = some (V.int q) := by
  obtain ⟨x, y, z⟩ := c
  rcases (by omega : t = 0 ∨ t = 1 ∨ t = 2) with h | h | h <;> subst h <;> exact ⟨_, rfl⟩
theorem at6 (a b c d e f : Int) (t : Int) (h0 : 0 ≤ t) (h1 : t < 6) : ∃ q : Int, atI [V.int a, V.int b, V.int c, V.int d, V.int e, V.int f] t = some (V.int q) := by
  rcases (by omega : t = 0 ∨ t = 1 ∨ t = 2 ∨ t = 3 ∨ t = 4 ∨ t = 5) with h | h | h | h | h | h <;> subst h <;> exact ⟨_, rfl⟩
theorem cut_lo (c : C3) (t : Int) (h0 : 0 ≤ t) (h1 : t < 3) : ¬ (HT.sIx c.v.length 0 none = 0 ∧ HT.sIx c.v.length c.v.length (some t) = c.v.length) := by
  have e : c.v.length = 3 := rfl
  rw [e]
  rcases (by omega : t = 0 ∨ t = 1 ∨ t = 2) with h | h | h <;> subst h <;> decide
theorem cut_hi (c : C3) (t : Int) (h0 : 0 ≤ t) (h1 : t < 3) : ¬ (HT.sIx c.v.length 0 (some (t + 1)) = 0 ∧ HT.sIx c.v.length c.v.length none = c.v.length) := by
  have e : c.v.length = 3 := rfl
  rw [e]
  rcases (by omega : t = 0 ∨ t = 1 ∨ t = 2) with h | h | h <;> subst h <;> decide
theorem cut_z {xs : List V} {lo hi : Option Int} (h : xs.length ≤ 10) : (cutV xs lo hi).length ≤ 10 := Nat.le_trans (cutV_length xs lo hi) h
theorem cut_put (x y z v t : Int) (h0 : 0 ≤ t) (h1 : t < 3) : ∃ d : C3, cutV [V.int x, V.int y, V.int z] none (some t) ++ [V.int v] ++ cutV [V.int x, V.int y, V.int z] (some (t + 1)) none = d.v := by
  rcases (by omega : t = 0 ∨ t = 1 ∨ t = 2) with h | h | h <;> subst h
  · exact ⟨⟨v, y, z⟩, rfl⟩
  · exact ⟨⟨x, v, z⟩, rfl⟩
  · exact ⟨⟨x, y, v⟩, rfl⟩
end Pc
set_option Elab.async false
set_option linter.all false
set_option maxRecDepth 100000
set_option maxHeartbeats 4000000
namespace L2
open PySem PySem.W PySem.Spec PyProof.Rows Srt Pc
section
variable {prog : Program} {w : World} {A : Around} {E : Value → Shared → Prop} {s : Shared} {env : Env}
end
end L2
set_option Elab.async false
set_option linter.all false
set_option maxRecDepth 100000
set_option maxHeartbeats 4000000
namespace L2
open PySem PySem.W PySem.Spec PyProof.Rows Srt Pc
section
variable {prog : Program} {w : World} {A : Around} {E : Value → Shared → Prop} {s : Shared}
end
section
variable {X : Cx} {K : PySem.W.Frag} {H : Hp} {Q : VK}
end
end L2
set_option Elab.async false
set_option linter.all false
set_option maxRecDepth 100000
set_option maxHeartbeats 4000000
namespace L2
open PySem PySem.W PySem.Spec PyProof.Rows Srt Pc
section
variable {prog : Program} {w : World} {A : Around} {E : Value → Shared → Prop} {s : Shared} {d it : Addr} {es : Array DictEntry} {ep i : Nat}
end
end L2
set_option Elab.async false
set_option linter.all false
set_option maxRecDepth 100000
set_option maxHeartbeats 4000000
namespace L2
open PySem PySem.W PySem.Spec PyProof.Rows Srt Pc
end L2
set_option Elab.async false
set_option linter.all false
set_option maxRecDepth 100000
set_option maxHeartbeats 4000000
namespace L2
open PySem PySem.W PySem.Spec PyProof.Rows Srt Pc
section
variable {prog : Program} {w : World} {A : Around} {E : Value → Shared → Prop} {s : Shared}
end
section
variable {X : Cx}
end
end L2
set_option Elab.async false
set_option linter.all false
set_option maxRecDepth 100000
set_option maxHeartbeats 4000000
namespace L2
open PySem PySem.W PySem.Spec PyProof.Rows Srt Pc
mutual
inductive Dat (K : PySem.W.Frag) (H : Hp) : V → PyData → Prop
  | int (n : Int) : Dat K H (.int n) (.int n)
  | bl (b : Bool) : Dat K H (.bl b) (.bool b)
  | str (x : Str) : Dat K H (.str x) (.str x)
  | non : Dat K H .non .none
  | tup {a : Addr} {vs : List V} {ds : List PyData} : SqT K H a vs → Dats K H vs ds → Dat K H (.ref a) (.tuple ds)
  | lst {a : Addr} {vs : List V} {ds : List PyData} : SqL K H a vs → Dats K H vs ds → Dat K H (.ref a) (.list ds)
inductive Dats (K : PySem.W.Frag) (H : Hp) : List V → List PyData → Prop
  | nil : Dats K H [] []
  | cons {v : V} {vs : List V} {d : PyData} {ds : List PyData} : Dat K H v d → Dats K H vs ds → Dats K H (v :: vs) (d :: ds)
end
section
variable {K : PySem.W.Frag} {H H' : Hp}
mutual
theorem Dat.up (s : Same H H') : ∀ {v : V} {d : PyData}, Dat K H v d → Dat K H' v d
  | _, _, .int n => .int n
  | _, _, .bl b => .bl b
  | _, _, .str x => .str x
  | _, _, .non => .non
  | _, _, .tup h t => .tup (same_tup s h) (Dats.up s t)
  | _, _, .lst h t => .lst (s.seq h) (Dats.up s t)
theorem Dats.up (s : Same H H') : ∀ {vs : List V} {ds : List PyData}, Dats K H vs ds → Dats K H' vs ds
  | _, _, .nil => .nil
  | _, _, .cons h t => .cons (Dat.up s h) (Dats.up s t)
end
theorem Dats.of {α : Type} {R : Hp → V → α → Prop} {enc : α → PyData} (f : ∀ {v x}, R H v x → Dat K H v (enc x)) : ∀ {vs : List V} {xs : List α}, Rs R H vs xs → Dats K H vs (xs.map enc)
  | _, _, .nil => .nil
  | _, _, .cons h t => .cons (f h) (Dats.of f t)
theorem dats_ints : ∀ (ns : List Int), Dats K H (ns.map V.int) (ns.map PyData.int)
  | [] => .nil
  | n :: ns => .cons (.int n) (dats_ints ns)
end
section
variable {X : Cx} {K : PySem.W.Frag}
mutual
theorem Dat.reads {pins : List (Addr × Obj)} {σ : St} {H : Hp} {s : Shared} (I : Inv X pins σ H s) : ∀ {v : V} {d : PyData} {u : Value}, Dat X.K H v d → RelV v u → ∃ as, Reads s.heap u d as
  | _, _, _, .int n, r => by obtain ⟨t, rfl⟩ := r; exact ⟨_, .int n t⟩
  | _, _, _, .bl b, r => by cases r; exact ⟨_, .bool b⟩
  | _, _, _, .str x, r => by obtain ⟨t, rfl⟩ := r; exact ⟨_, .str x t⟩
  | _, _, _, .non, r => by cases r; exact ⟨_, .none⟩
  | _, _, _, .tup h t, r => by
    cases r
    obtain ⟨its, rv, ⟨o, ho, hc, n, hd⟩, _⟩ := I.tuple h
    obtain ⟨as, z⟩ := Dats.reads I t rv
    exact ⟨_, reads_tuple_at ho hc hd (by simpa using z)⟩
  | _, _, _, .lst h t, r => by
    cases r
    obtain ⟨its, rv, ⟨o, n, ho, hc, _, hd⟩, _⟩ := I.list h
    obtain ⟨as, z⟩ := Dats.reads I t rv
    exact ⟨_, reads_list_at ho hc hd (by simpa using z)⟩
theorem Dats.reads {pins : List (Addr × Obj)} {σ : St} {H : Hp} {s : Shared} (I : Inv X pins σ H s) : ∀ {vs : List V} {ds : List PyData} {us : List Value}, Dats X.K H vs ds → Vals vs us → ∃ as, ReadsAll s.heap us ds as
  | _, _, _, .nil, r => by cases r; exact ⟨_, .nil⟩
  | _, _, _, .cons h t, r => by
    cases r with
    | cons r1 r2 =>
      obtain ⟨as, z1⟩ := Dat.reads I h r1
      obtain ⟨bs, z2⟩ := Dats.reads I t r2
      exact ⟨_, .cons z1 z2⟩
end
def rEqD (K : PySem.W.Frag) (neg : Bool) : R2 := fun x y H Q => ∃ d e : PyData, Dat K H x d ∧ Dat K H y e ∧ SeqAt.shaped d = true ∧ SeqAt.shaped e = true ∧ Q (.bl (if neg then !PyData.eqv d e else PyData.eqv d e)) H
theorem qo_eqD (h : X.K = K) (hu : X.A.units + 64 < cLine) : QOp X (compareOp .Eq) (rEqD K false) := ⟨by
  subst h
  rintro pins s σ H x y v u Q I rx ry ⟨d, e, hd, he, sd, se, q⟩
  obtain ⟨as, r1⟩ := hd.reads I rx
  obtain ⟨bs, r2⟩ := he.reads I ry
  exact eq_dataH r1 r2 sd se hu ⟨.bl _, H, I, rfl, q⟩⟩
theorem qo_neD (h : X.K = K) (hu : X.A.units + 64 < cLine) : QOp X (compareOp .NotEq) (rEqD K true) := ⟨by
  subst h
  rintro pins s σ H x y v u Q I rx ry ⟨d, e, hd, he, sd, se, q⟩
  obtain ⟨as, r1⟩ := hd.reads I rx
  obtain ⟨bs, r2⟩ := he.reads I ry
  exact ne_dataH r1 r2 sd se hu ⟨.bl _, H, I, rfl, q⟩⟩
variable {H : Hp} {Q : VK} {x y : V} {d : PyData}
theorem rd_eqD (hx : Dat K H x d) (hy : Dat K H y d) (sd : SeqAt.shaped d = true) (q : Q (.bl true) H) : rEqD K false x y H Q := ⟨d, d, hx, hy, sd, sd, by
  rw [SeqAt.eqv_refl d (SeqAt.canLay_of_shaped sd)]; exact q⟩
theorem rd_neD (hx : Dat K H x d) (hy : Dat K H y d) (sd : SeqAt.shaped d = true) (q : Q (.bl false) H) : rEqD K true x y H Q := ⟨d, d, hx, hy, sd, sd, by
  rw [SeqAt.eqv_refl d (SeqAt.canLay_of_shaped sd)]; exact q⟩
structure Shp (n : Nat) (d : PyData) : Prop where
  lay : d.canLay0 = true
  dep : d.depth ≤ n
theorem Shp.ok {n : Nat} {d : PyData} (h : Shp n d) (hn : n ≤ 64 := by decide) : SeqAt.shaped d = true := by
  unfold SeqAt.shaped
  rw [Bool.and_eq_true]
  exact ⟨h.lay, decide_eq_true (Nat.le_trans h.dep hn)⟩
theorem shp_all {n : Nat} : ∀ {ds : List PyData}, (∀ d ∈ ds, Shp n d) → PyData.canLayAll0 ds = true ∧ PyData.depthAll ds ≤ n
  | [], _ => by simp [PyData.canLayAll0, PyData.depthAll]
  | d :: ds, h => by
    obtain ⟨a, b⟩ := shp_all fun e he => h e (List.mem_cons_of_mem _ he)
    have c := h d (List.mem_cons_self ..)
    simp only [PyData.canLayAll0, PyData.depthAll, c.lay, a, Bool.and_self, true_and]
    exact Nat.max_le.mpr ⟨c.dep, b⟩
theorem shp_int {n : Nat} (i : Int) : Shp n (.int i) := ⟨by simp [PyData.canLay0], by simp [PyData.depth]⟩
theorem shp_tup {n : Nat} {ds : List PyData} (h : ∀ d ∈ ds, Shp n d) : Shp (n + 1) (.tuple ds) := ⟨by simp only [PyData.canLay0]; exact (shp_all h).1, by simp only [PyData.depth]; exact Nat.succ_le_succ (shp_all h).2⟩
theorem shp_lst {n : Nat} {ds : List PyData} (h : ∀ d ∈ ds, Shp n d) : Shp (n + 1) (.list ds) := ⟨by simp only [PyData.canLay0]; exact (shp_all h).1, by simp only [PyData.depth]; exact Nat.succ_le_succ (shp_all h).2⟩
theorem shp_map {α : Type} {n : Nat} {f : α → PyData} (h : ∀ x, Shp n (f x)) (xs : List α) : Shp (n + 1) (.list (xs.map f)) := shp_lst fun d hd => by
  obtain ⟨x, _, rfl⟩ := List.mem_map.mp hd
  exact h x
end
end L2
set_option Elab.async false
set_option linter.all false
set_option maxRecDepth 100000
set_option maxHeartbeats 4000000
namespace L2
open PySem PySem.W PyProof.Rows Srt Pc
def hid (H : Hp) (p : Addr) : Hp := fun q => if q = p then none else H q
theorem hid_same {H : Hp} {p : Addr} : Same (hid H p) H := fun b o h => by
  unfold hid at h
  split at h
  · cases h
  · exact h
theorem hid_at {H : Hp} {p q : Addr} {u : HO} (ne : q ≠ p) (h : H q = some u) : hid H p q = some u := by unfold hid; rw [if_neg ne]; exact h
theorem hid_none {H : Hp} {p : Addr} : hid H p p = none := by unfold hid; rw [if_pos rfl]
theorem same_hid {H Hc : Hp} {p : Addr} (s : Same H Hc) (h : H p = none) : Same H (hid Hc p) := fun b o q => hid_at (ne_of_none q h) (s b o q)
theorem cut_ints (ns : List Int) (lo hi : Option Int) : cutV (ns.map V.int) lo hi = (cutX ns lo hi).map V.int := by
  unfold cutV cutX
  rw [List.length_map, List.map_take, List.map_drop]
theorem cutX_len {α : Type} (xs : List α) (lo hi : Option Int) : (cutX xs lo hi).length ≤ xs.length := by
  unfold cutX
  rw [List.length_take, List.length_drop]
  omega
section
variable {σ : St} {H : Hp} {Q : VK} {D : Ends} {K : PySem.W.Frag}
theorem rd_dput {td ty tv : TE} (h : tv σ H fun v H1 => td σ H1 fun x H2 => ty σ H2 fun y H3 => ∃ a H4, x = .ref a ∧ DPut H3 a y v H4 ∧ D.nx σ H4) : sDPut td ty tv D σ H := h
theorem rd_din {td ty : TE} (h : ty σ H fun y H1 => td σ H1 fun x H2 => ∃ a o, x = .ref a ∧ DGet H2 a y o ∧ Q (.bl o.isSome) H2) : tDIn ty td σ H Q := h
theorem rd_dnotin {td ty : TE} (h : ty σ H fun y H1 => td σ H1 fun x H2 => ∃ a o, x = .ref a ∧ DGet H2 a y o ∧ Q (.bl (!o.isSome)) H2) : tDNotIn ty td σ H Q := h
theorem rd_dnewT (h : ∀ p, H p = none → Q (.ref p) (upd H p (.dT []))) : tDNewT σ H Q := h
end
end L2
namespace Pc
open PySem L2 Srt
def IsA : Hp → V → Ax → Prop := fun _ v ax => v = .str ax.s
instance : Rep IsA := ⟨fun _ h => h, fun _ h => h⟩
def bareAt (cs : List C3) (u : Wy) (lo hi : Int) (c : C3) : Bool := decide (lo ≤ u.ax.at c) && (decide (u.ax.at c < hi) && !decide (u.next c ∈ cs))
def firstBare (cs : List C3) (u : Wy) (lo hi : Int) : Option C3 := cs.find? (bareAt cs u lo hi)
def FB (H : Hp) (u : Wy) (v : V) : Option C3 → Prop
  | none => v = .non
  | some c => ∃ p a b, v = .ref p ∧ H p = some (.tup [.ref a, .ref b]) ∧ H a = some (.tup (u.next c).v) ∧ H b = some (.tup c.v)
theorem FB.up {H H' : Hp} {u : Wy} {v : V} {o : Option C3} (s : Same H H') (h : FB H u v o) : FB H' u v o := by
  cases o with
  | none => exact h
  | some c => obtain ⟨p, a, b, e, x, y, z⟩ := h; exact ⟨p, a, b, e, s _ _ x, s _ _ y, s _ _ z⟩
def offU (cs : List C3) (ax : Ax) (a b : Int) : Bool := (firstBare cs ⟨ax, false⟩ (a + 1) b).isNone
def offD (cs : List C3) (ax : Ax) (a b : Int) : Bool := (firstBare cs ⟨ax, true⟩ a (b - 1)).isNone
end Pc
set_option Elab.async false
set_option linter.all false
set_option maxRecDepth 100000
set_option maxHeartbeats 4000000
namespace L2
open PySem PySem.Spec PyProof.Rows
theorem comp_runG {X : Cx} {pins : List (Addr × Obj)} {σ : St} {Q : VK} {tg elt iter : Expr} {ifs : List Expr} {scope : Scope} {pos : Pos} {N own : List Str} {caps : List Nat} {g : TG} {tc : TT} {te : TE} {cl : List (Str × Addr)} {it acc : Addr} {fp : List Addr} {tn : Nat → Heap → Prop} {J : It}
    {s3 : Shared} {H3 : Hp} {h1 : Heap} {m : Str → Option Value} {t1 m0 : Nat} {W : Nat → Nat → St → Hp → Prop} (hc : X.calm = true)
    (hN : N = own ++ caps.map fun j => (X.N[j]?).getD (Str.ofString "")) (ok : BlkOk X.env.scope X.N scope caps) (hkind : scope.kind = .function)
    (hcl : BlkCl X scope cl s3.heap.objs.size h1)
    (hg : PG (cxBlk X N scope cl s3 H3 fp) tg g) (hifs : PIfs (cxBlk X N scope cl s3 H3 fp) ifs tc) (he : PE (cxBlk X N scope cl s3 H3 fp) elt te)
    (I3 : Inv X pins σ H3 s3) (f3 : ∀ b ∈ fp, FpOk X pins H3 b) (flt : ∀ b ∈ fp, b < s3.heap.objs.size) (T : Turn X.prog X.w X.K tg J fp it tn) (st3 : tn 0 s3.heap)
    (hns : h1.Ns s3.heap.objs.size m) (keep : ∀ b o, s3.heap.get? b = some o → h1.get? b = some o) (w0 : W 0 m0 (blockSt own.length caps σ) H3)
    (turn : ∀ i m σ' H', W i m σ' H' →
      (J.stop i H' ∧ Q (.ref acc) H') ∨ (J.go i H' ∧ ∃ N : St → Hp → Prop, (∀ σ'' H'', N σ'' H'' → ∃ m', m' < m ∧ W (i + 1) m' σ'' H'') ∧ ∀ x H2, J.yld i H' x H2 → g x σ' H2 fun σ3 H3 => tc σ3 H3 fun b H4 =>
        if b = true then te σ3 H4 fun v H5 => ∃ ys, H5 acc = some (.lst ys) ∧ ys.length < sizeLine ∧ N σ3 (upd H5 acc (.lst (ys ++ [v])))
        else N σ3 H4)) {RR : Result → Shared → Prop}
    (fin : ∀ s6 H5 m6, Inv X pins σ H5 s6 → H5 s3.heap.objs.size = none → s6.heap.Ns s3.heap.objs.size m6 → Q (.ref acc) H5 → RR (.ok .next) s6) :
    codeAny (model X.prog X.w) X.A (.compStart (.ListComp elt [⟨tg, iter, ifs, 0⟩] scope pos) 0 (.ref it) (.ref acc) (compEnvC scope cl s3.heap.objs.size X.env))
      RR { s3 with heap := h1, toks := t1 } := by
  have IB := blk_start (t1 := t1) (own := own) I3 f3 flt hN ok hkind hcl hns keep
  have stat : ∀ {H' : Hp}, (∀ b ∈ fp, H' b = none) → ∀ b ∈ fp, FpOk (cxBlk X N scope cl s3 H3 fp) [] H' b := fun {H'} hn b hb =>
    ⟨hn b hb, (IB.ok.exf b hb).1, IB.ok.exfs b hb, .inl hb, (IB.ok.exf b hb).2, fun p hp => absurd (show p ∈ ([] : List (Addr × Obj)) from hp) (by simp)⟩
  have st4 : tn 0 h1 := T.keep _ _ _ st3 fun b _ o e => keep b o e
  have loop : codeAny (model X.prog X.w) X.A (.compLoop (.ListComp elt [⟨tg, iter, ifs, 0⟩] scope pos) 0 (.ref it) (.ref acc) (compEnvC scope cl s3.heap.objs.size X.env))
      RR { s3 with heap := h1, toks := t1 } := by
    refine compLoop_gen (fun n s' => ∃ i σ' H', Inv (cxBlk X N scope cl s3 H3 fp) [] σ' H' s' ∧ tn i s'.heap ∧ (∀ b ∈ fp, H' b = none) ∧ W i n σ' H') ?_ m0 ⟨0, _, H3, IB, st4, fun b hb => (f3 b hb).1, w0⟩
    rintro n s5 ⟨i, σ5, H5, I5, st5, fr5, w5⟩
    rcases turn i n σ5 H5 w5 with ⟨stop, qn⟩ | ⟨go, Nx, hNx, step⟩
    · refine thn (T.done (cxBlk X N scope cl s3 H3 fp) rfl rfl rfl hc i [] s5 σ5 H5 _ I5 (stat fr5) st5 stop) fun r s6 ⟨hr, I6⟩ => ?_
      subst hr
      obtain ⟨m6, hn6, _⟩ := I6.loc
      have IX : Inv X pins σ H5 s6 := I3.call' (ch := fp) I6.os I6.base I6.hok I6.bare fun b hb => ⟨(f3 b hb).2.2.2.1, (f3 b hb).2.1, (f3 b hb).2.2.2.2.1, (f3 b hb).2.2.2.2.2⟩
      exact fin s6 H5 m6 IX I6.free hn6 qn
    · refine thn (T.item (cxBlk X N scope cl s3 H3 fp) rfl rfl rfl hc i [] s5 σ5 H5 _ I5 (stat fr5) st5 go) fun r s6 ⟨u, hr, h6⟩ => ?_
      subst hr
      refine thn h6 fun _ s7 ⟨x, H7, I7, r7, y7, st7, fr7⟩ => ?_
      have I7' := I7.pinned (stat fr7) (T.obj _ _ st7)
      refine thn (hg _ s7 σ5 H7 x u _ I7' r7 (step x H7 y7)) fun _ s8 ⟨σ8, H8, I8, q8⟩ => ?_
      have again : ∀ {s9 : Shared} {H9 : Hp}, Inv (cxBlk X N scope cl s3 H3 fp) ([] ++ pinsAt fp s7.heap) σ8 H9 s9 → Nx σ8 H9 →
          ∃ m, m < n ∧ ∃ i σ' H', Inv (cxBlk X N scope cl s3 H3 fp) [] σ' H' s9 ∧ tn i s9.heap ∧ (∀ b ∈ fp, H' b = none) ∧ W i m σ' H' := fun {s9 H9} I9 n9 => by
        obtain ⟨m', hm, w9⟩ := hNx σ8 H9 n9
        refine ⟨m', hm, i + 1, σ8, H9, I9.unpinned, T.keep _ _ _ st7 fun b hb o e => (I9.pin (b, o) (List.mem_append_right _ (List.mem_append_right _ (mem_pinsAt hb e)))).1, fun b hb => ?_, w9⟩
        obtain ⟨o, e, d⟩ := T.obj _ _ st7 b hb
        exact (I9.pin (b, o) (List.mem_append_right _ (List.mem_append_right _ (mem_pinsAt hb e)))).2.1
      refine thn (hifs _ s8 σ8 H8 _ I8 q8) fun b s9 ⟨H9, I9, q9⟩ => ?_
      cases b with
      | false =>
        rw [if_neg (by decide)] at q9 ⊢
        exact again I9 q9
      | true =>
        rw [if_pos rfl] at q9 ⊢
        refine thn (he _ s9 σ8 H9 _ I9 q9) fun xv s10 ⟨v, H10, I10, r10, ys, ey, hz, n10⟩ => ?_
        refine thn (mt_append (X := cxBlk X N scope cl s3 H3 fp) _ s10 σ8 H10 (.ref acc) [v] (.ref acc) [xv] (fun _ H' => H' = upd H10 acc (.lst (ys ++ [v]))) I10 rfl (.cons r10 .nil) ⟨acc, ys, v, rfl, rfl, ey, hz, rfl⟩) fun _ s11 ⟨_, H11, I11, _, e11⟩ => ?_
        subst e11
        exact again I11 n10
  exact codeAny_compStart_list loop (T.self _ _ _ _ _ st4 loop)
theorem ps_setU {X : Cx} {i : Nat} {x : Str} {pos' spos : Pos} {tg elt iter : Expr} {ifs : List Expr} {scope : Scope} {pos : Pos} {N : List Str} {wi : TI} {g : TG} {tc : TT} {te : TE} (own : List Str) (caps : List Nat) (hXN : X.N.Nodup) (hxi : X.N[i]? = some x) (hx : Loc X.env.scope x) (hc : X.calm = true)
    (hN : N = own ++ caps.map fun j => (X.N[j]?).getD (Str.ofString "")) (hok : blkOk X.env.scope X.N scope caps = true) (hkind : scope.kind = .function)
    (hi : PI X tg iter wi) (hg : ∀ cl s₃ H₃ ch, PG (cxBlk X N scope cl s₃ H₃ ch) tg g) (hifs : ∀ cl s₃ H₃ ch, PIfs (cxBlk X N scope cl s₃ H₃ ch) ifs tc) (he : ∀ cl s₃ H₃ ch, PE (cxBlk X N scope cl s₃ H₃ ch) elt te)
    (hsw : swapsWith (.ListComp elt [⟨tg, iter, ifs, 0⟩] scope pos) (some (.Name x pos')) spos.line X.env = pure true) (hf : X.fn x = true ∨ X.env.scope.names.lookup x = some .local) (hs : ∀ x, foldedSetIterable iter X.env x = pure x := by intro _; rfl) :
    PS X (.Assign [.Name x pos'] (.ListComp elt [⟨tg, iter, ifs, 0⟩] scope pos) spos) (tAsg (tComp own.length caps wi g tc te) (gName i)) := by
  intro pins s σ H D I h
  have ok := blkOk_iff hok
  obtain ⟨cl, hclo, hcl1, hcl2'⟩ := clo_go X.env scope.names [] (fun y hy hk => I.ok.has y.1 (ok.free y hy hk)) (fun x c e => by simp at e)
  have hcl2 : ∀ x, (x, NameKind.free) ∈ scope.names → ∃ c, cl.lookup x = some c := fun x hx => hcl2' x (.inl hx)
  rw [← closureFor_eq] at hclo
  rw [exec_Assign_Name_used _ _ _ _ hsw]
  refine wpAny_bind (wpAny_standAt (wpAny_bind ?_))
  show wpAny _ X.A (do let _ ← comprehension (.ListComp elt [⟨tg, iter, ifs, 0⟩] scope pos) scope X.env _ (newList []) false (eval iter X.env) (some (assign (.Name x pos') X.env))) _ _ s
  refine wpAny_bind (wpAny_mono (wpAny_comprehension_free (use := some (assign (.Name x pos') X.env)) (Q := fun _ s' => SP X pins D .next s') rfl hs hclo hkind ok.loc (thn (hi pins s σ H _ I h) fun v s1 h1 => thn h1 fun itv s2 h2 => ?_)) (fun _ s' hq => wpAny_pure (wpAny_pure hq)) fun _ _ e => e)
  obtain ⟨it, fp, tn, J, H2, e, I2, T, st2, f2, R⟩ := h2
  subst e
  obtain ⟨W, ⟨m0, w0⟩, turn⟩ := R s2.heap.objs.size I2.fresh
  have flt : ∀ b ∈ fp, b < s2.heap.objs.size := fun b hb => let ⟨o, ho, _⟩ := T.obj 0 _ st2 b hb; Heap.lt_size ho
  have I3 : Inv X pins σ (upd H2 s2.heap.objs.size (.lst [])) { s2 with heap := s2.heap.push { cls := .type "list", dict := none, data := .seq ([] : List Value).toArray } } := I2.lnew (t' := s2.toks) (its := []) .nil (Nat.zero_le _)
  have f3 : ∀ b ∈ fp, FpOk X pins (upd H2 s2.heap.objs.size (.lst [])) b := fun b hb => ⟨by rw [upd_ne (Nat.ne_of_lt (flt b hb))]; exact (f2 b hb).1, (f2 b hb).2⟩
  refine wpAny_newObj_type (newEnv_blk fun h₁ hns₁ keep₁ cok => ?_)
  have flt3 : ∀ b ∈ fp, b < (s2.heap.push { cls := .type "list", dict := none, data := .seq ([] : List Value).toArray }).objs.size := fun b hb => by
    rw [Heap.size_push]
    exact Nat.lt_succ_of_lt (flt b hb)
  refine comp_runG (own := own) (Q := fun x H1 => gName i x σ H1 D.nx) hc hN ok hkind (blkCl_of ok I3 hcl1 hcl2 cok) (hg _ _ _ _) (hifs _ _ _ _) (he _ _ _ _) I3 f3 flt3 T (T.keep _ _ _ st2 fun b _ o e => Heap.get?_push_of_some _ e) hns₁ keep₁ w0 turn (fun s6 H5 m6 IX hC hn6 q => ?_)
  show wpAny _ X.A (assign (.Name x pos') X.env (.ref s2.heap.objs.size)) _ _ _
  have nL := Nat.ne_of_gt I3.lt
  have nC : ∀ y c, X.env.cells.lookup y = some c → c ≠ (s2.heap.push { cls := .type "list", dict := none, data := .seq ([] : List Value).toArray }).objs.size := fun y c e => by
    obtain ⟨v, o, ho, _⟩ := I3.cell y c e
    exact Nat.ne_of_lt (Heap.lt_size ho)
  refine wpAny_assign_Name (store_ok2 IX hXN hxi hx (v := .ref s2.heap.objs.size) rfl (fun s7 I7 ⟨a, sb, ha⟩ => ⟨m6, hn6.sameBut sb ?_, fun h' hs' => ⟨_, H5, I7.turned (t' := s7.toks) (fun b o hb e => (hs'.2 b hb).trans e) hC nL (.inr I3.sz) nC (fun p hp => Nat.ne_of_lt (Heap.lt_size (I3.pin p hp).1)), q⟩⟩) hf)
  rcases ha with rfl | ha
  · exact nL
  · exact (nC _ _ ha).symm
theorem qs_setU {X : Cx} {i : Nat} {x : Str} {pos' spos : Pos} {tg elt iter : Expr} {ifs : List Expr} {scope : Scope} {pos : Pos} {N : List Str} {wi : TI} {g : TG} {tc : TT} {te : TE} (own : List Str) (caps : List Nat) (hXN : X.N.Nodup) (hxi : X.N[i]? = some x) (hx : Loc X.env.scope x) (hc : X.calm = true)
    (hN : N = own ++ caps.map fun j => (X.N[j]?).getD (Str.ofString "")) (hok : blkOk X.env.scope X.N scope caps = true) (hkind : scope.kind = .function)
    (hi : QI X tg iter wi) (hg : ∀ cl s₃ H₃ ch, QG (cxBlk X N scope cl s₃ H₃ ch) tg g) (hifs : ∀ cl s₃ H₃ ch, QF (cxBlk X N scope cl s₃ H₃ ch) ifs tc) (he : ∀ cl s₃ H₃ ch, QE (cxBlk X N scope cl s₃ H₃ ch) elt te)
    (hsw : swapsWith (.ListComp elt [⟨tg, iter, ifs, 0⟩] scope pos) (some (.Name x pos')) spos.line X.env = pure true := by rfl) (hf : X.fn x = true ∨ X.env.scope.names.lookup x = some .local := by first | exact .inl rfl | exact .inr rfl | assumption) (hs : ∀ x, foldedSetIterable iter X.env x = pure x := by intro _; rfl) :
    QS X (.Assign [.Name x pos'] (.ListComp elt [⟨tg, iter, ifs, 0⟩] scope pos) spos) (tAsg (tComp own.length caps wi g tc te) (gName i)) :=
  ⟨ps_setU own caps hXN hxi hx hc hN hok hkind hi.r (fun a b c d => (hg a b c d).r) (fun a b c d => (hifs a b c d).r) (fun a b c d => (he a b c d).r) hsw hf hs⟩
end L2
set_option Elab.async false
set_option linter.all false
set_option maxRecDepth 100000
set_option maxHeartbeats 4000000
namespace L2
open PySem PySem.Spec PyProof.Rows
section
variable {X : Cx} {K : PySem.W.Frag}
end
end L2
set_option Elab.async false
set_option linter.all false
set_option maxRecDepth 100000
set_option maxHeartbeats 4000000
namespace Pc
open PySem L2 Srt
def good (cs : List C3) (ax : Ax) (a b : Int) : Bool := offU cs ax a b || offD cs ax a b
def farF (cs : List C3) (ax : Ax) (a : Int) : Nat → Int → Int
  | 0, b => b
  | n + 1, b => if good cs ax a (b + 1) = true then farF cs ax a n (b + 1) else b
def far (cs : List C3) (ax : Ax) (a top : Int) : Int := farF cs ax a (top - (a + 1)).toNat (a + 1)
abbrev Bx := Int × Int × Bool
inductive Chain (cs : List C3) (ax : Ax) (last : Int) : Int → List Bx → Prop
  | nil : Chain cs ax last last []
  | cons {a b : Int} {u : Bool} {r : List Bx} : a < b → b ≤ last → good cs ax a b = true → u = offU cs ax a b → (b = last ∨ good cs ax a (b + 1) = false) → Chain cs ax last b r → Chain cs ax last a ((a, b, u) :: r)
def kd (u : Bool) : Str := if u = true then Str.ofString "up" else Str.ofString "down"
def IsBox : Hp → V → Bx → Prop := fun H v x => ∃ p, v = .ref p ∧ H p = some (.tup [.int x.1, .int x.2.1, .str (kd x.2.2)])
instance : Rep IsBox := ⟨fun s ⟨p, e, q⟩ => ⟨p, e, s _ _ q⟩, fun h' ⟨p, e, q⟩ => ⟨p, e, lk_kind h' (by intro z; cases z) q⟩⟩
theorem within_at {n : Int} {c : C3} (ax : Ax) (h : c.within n) : -n ≤ ax.at c ∧ ax.at c ≤ n := by
  obtain ⟨h1, h2, h3⟩ := h
  cases ax
  · exact h1
  · exact h2
  · exact h3
end Pc
namespace L2
open PySem PySem.W PyProof.Rows Srt Pc
section
variable {σ : St} {H : Hp} {Q : VK} {D : Ends} {K : PySem.W.Frag}
theorem rd_while {c : TT} {tb : TS} (W : Nat → St → Hp → Prop) (m : Nat) (h0 : W m σ H) (h : ∀ m σ H, W m σ H → c σ H fun b H1 => if b = true then ∃ N : St → Hp → Prop, (∀ σ' H', N σ' H' → ∃ m', m' < m ∧ W m' σ' H') ∧ tb { D with nx := N, ct := N, bk := D.nx } σ H1 else D.nx σ H1) : tWhile c tb D σ H := ⟨W, ⟨m, h0⟩, h⟩
theorem SqL.tru {p : Addr} {xs : List V} (h : SqL K H p xs) : TruV K (.ref p) H (!xs.isEmpty) := .inl ⟨xs, h, rfl⟩
theorem rd_truthx {ta : TE} {R : Bool → Hp → Prop} (h : ta σ H fun x H' => ∃ k, TruV K x H' k ∧ R k H') : tTruth K ta σ H R := h
end
end L2
namespace L2
open PySem PySem.W PyProof.Rows Srt Pc
theorem rd_eqL0 {K : PySem.W.Frag} {H : Hp} {Q : VK} {x : V} {b : Addr} {ds : List PyData} (hx : Dat K H x (.list ds)) (sd : SeqAt.shaped (.list ds) = true) (hb : H b = some (.lst [])) (q : Q (.bl ds.isEmpty) H) : rEqD K false x (.ref b) H Q :=
  ⟨_, .list [], hx, .lst (SqL.of hb) .nil, sd, by decide +kernel, by
    have e : PyData.eqv (.list ds) (.list []) = ds.isEmpty := by
      cases ds <;> simp [PyData.eqv, PyData.eqvAll]
    rw [e]; exact q⟩
end L2
namespace Pc
open PySem L2 Srt
end Pc
set_option Elab.async false
set_option linter.all false
set_option maxRecDepth 100000
set_option maxHeartbeats 4000000
namespace L2
open PySem PySem.W PyProof.Rows Srt Pc
end L2
namespace Pc
open PySem L2 Srt
abbrev Pap := Int × Int × Option C3 × Option C3
theorem FB.lst {H : Hp} {u : Wy} {v : V} {o : Option C3} {p : Addr} {ys zs : List V} (e : H p = some (.lst ys)) (h : FB H u v o) : FB (upd H p (.lst zs)) u v o := by
  cases o with
  | none => exact h
  | some c => obtain ⟨q, a, b, r, x, y, z⟩ := h; exact ⟨q, a, b, r, lk_kind e (by intro z; cases z) x, lk_kind e (by intro z; cases z) y, lk_kind e (by intro z; cases z) z⟩
def IsPap (ax : Ax) : Hp → V → Pap → Prop := fun H v x => ∃ p v1 v2, v = .ref p ∧ H p = some (.tup [.int x.1, .int x.2.1, v1, v2]) ∧ FB H ⟨ax, false⟩ v1 x.2.2.1 ∧ FB H ⟨ax, true⟩ v2 x.2.2.2
instance {ax : Ax} : Rep (IsPap ax) := ⟨fun s ⟨p, v1, v2, e, q, f1, f2⟩ => ⟨p, v1, v2, e, s _ _ q, f1.up s, f2.up s⟩, fun h' ⟨p, v1, v2, e, q, f1, f2⟩ => ⟨p, v1, v2, e, lk_kind h' (by intro z; cases z) q, f1.lst h', f2.lst h'⟩⟩
end Pc
set_option Elab.async false
set_option linter.all false
set_option maxRecDepth 100000
set_option maxHeartbeats 4000000
namespace Pc
open PySem L2 Srt
inductive Row (cs : List C3) (ax : Ax) (last : Int) : Int → List (Int × Int) → Prop
  | nil : Row cs ax last last []
  | cons {a b : Int} {r : List (Int × Int)} : a < b → b ≤ last → good cs ax a b = true → Row cs ax last b r → Row cs ax last a ((a, b) :: r)
def spWide (K : PySem.W.Frag) : Sp := fun vs H Q _ => ∃ (a : Addr) (ns : List Int), vs = [.ref a] ∧ SqL K H a (ns.map V.int) ∧ ns.length ≤ 63 ∧ ∀ p (ms : List Int) H', Same H H' → SqL K H' p (ms.map V.int) → ms.length ≤ 200 → Q (.ref p) H'
def spAsked (K : PySem.W.Frag) : Sp := fun vs H Q _ => ∃ (a : Addr) (ns : List Int), vs = [.ref a] ∧ SqL K H a (ns.map V.int) ∧ ns.length ≤ 200 ∧ ∀ H', Q (.bl true) H'
end Pc
set_option Elab.async false
set_option linter.all false
set_option maxRecDepth 100000
set_option maxHeartbeats 4000000
namespace L2
open PySem PySem.Spec PyProof.Rows PySem.W
section
variable {prog : Program} {w : World} {A : Around}
theorem call_fn_kw {E : Value → Shared → Prop} {s : Shared} {id : String} {b : Builtin} {args : List Value} {kw : List (Str × Value)} {Q : Value → Shared → Prop} (hk : builtinKind id = none) (hp : plainId id = true) (hb : entryFor table id = some b) (ha : argsOk id ⟨args, kw⟩)
    (hc : wpAny (model prog w) A.in1 (b ⟨args, kw⟩) (fun fin s' => match fin with
      | .done f => (match (Except.ok f : Result) with | .ok (.ret v) => Q v s' | .ok _ => False | .error e => E e s')
      | .again c' => c'.quiet = true ∧ codeAny (model prog w) A c' (fun r s' => match r with | .ok (.ret v) => Q v s' | .ok _ => False | .error e => E e s') s') E s) : wpAny (model prog w) A (call (.builtin id) args kw) Q E s := by
  refine wpAny_call (codeAny_call_builtin hp hb ?_); simp only [checkBuiltinCall, hk]
  cases hsig : Manifest.signature? id with
  | none => exact wpAny_pure hc
  | some sig => simp only [argsOk, hsig] at ha; exact (show wpAny _ A.in1 (Bind.checkArgs id sig ⟨args, kw⟩) _ _ s from by rw [show Bind.checkArgs id sig ⟨args, kw⟩ = pure () from ha]; exact wpAny_pure hc)
end
section
variable {prog : Program} {w : World} {A : Around} {R : Result → Shared → Prop} {I : Addr} {fp wr : List Addr} {n : Nat} {P : Nat → Value → Prop} {St : Nat → Heap → Prop}
theorem max_loopD {d : Value} (W : Walks prog w A.in1 I fp wr n P St) (bt : Nat → Nat → Bool) (hcmp : CmpOf prog w A.in1 .Gt P bt) (S : Addr) (hSf : S ∉ fp) :
    ∀ (k j : Nat) (s : Shared) (vb : Value) (c : Nat), n - (j + 1) = k → j + 1 ≤ n → St (j + 1) s.heap → P (argBest bt j) vb → s.heap.get? S = some { cls := .type "list", dict := none, data := .seq #[vb, vb] c, slots := #[] } →
    (∀ v h' tk, P (argBest bt (n - 1)) v → (∀ b o, b ∉ wr → b ≠ S → s.heap.get? b = some o → h'.get? b = some o) → R (.ok (.ret v)) { s with heap := h', toks := tk }) →
    codeAny (model prog w) A (.builtin "max.loop" ⟨[.ref I, .none, .ref S], [(Str.ofString "default", d)]⟩) R s := by
  have sw : S ∉ wr := fun h => hSf (W.sub _ h)
  have nm : (toString "max" ++ toString ".loop" : String) = "max.loop" := by decide
  intro k
  induction k with
  | zero =>
    intro j s vb c hk hj hst hPb hS hR
    have hin : j + 1 = n := by omega
    refine codeAny_builtin PySem.F.entry_max_loop ?_; rw [Around.under_plainId PySem.F.plain_max_loop _]
    show wpAny _ A.in1 (seqItems? (.ref S) >>= _) _ _ s; refine wpAny_bind (wpAny_seqItems hS rfl ?_)
    show wpAny _ A.in1 (tryCatch (pyNext (.ref I)) _ >>= _) _ _ s; refine wpAny_bind (wpAny_tryCatch (W.done s _ _ (hin ▸ hst) fun h' tk hk' => ?_))
    have hS' := hk' S _ sw hS
    show wpAny _ A.in1 (updateSeq S (fun _ => #[]) >>= _) _ _ _; refine wpAny_bind (wpAny_updateSeq hS' rfl (wpAny_bind (wpAny_letGo (wpAny_pure ?_))))
    exact hR vb _ tk (by rw [← hin]; exact hPb) fun b o x y e => (Heap.get?_update_other _ _ (Ne.symm y)).trans (hk' b o x e)
  | succ k ih =>
    intro j s vb c hk hj hst hPb hS hR
    have hlt : j + 1 < n := by omega
    refine codeAny_builtin PySem.F.entry_max_loop ?_; rw [Around.under_plainId PySem.F.plain_max_loop _]
    show wpAny _ A.in1 (seqItems? (.ref S) >>= _) _ _ s; refine wpAny_bind (wpAny_seqItems hS rfl ?_)
    show wpAny _ A.in1 (tryCatch (pyNext (.ref I)) _ >>= _) _ _ s; refine wpAny_bind (wpAny_tryCatch (W.item (j + 1) s _ _ hlt hst fun v h' tk hP hst' hk' => ?_))
    have hS' := hk' S _ sw hS
    show wpAny _ A.in1 (tryCatch (holding [v, v] (richCompare .Gt v vb >>= _)) _ >>= _) _ _ _; refine wpAny_bind (wpAny_tryCatch (wpAny_holding (wpAny_bind (hcmp (j + 1) (argBest bt j) v vb _ _ _ hP hPb ?_))))
    refine wpAny_bind (wpAny_holding (wpAny_truthy_bool (wpAny_bind (wpAny_letGo (wpAny_pure ?_)))))
    cases hb : bt (j + 1) (argBest bt j) with
    | true =>
      simp only [if_true]; refine wpAny_bind (wpAny_updateSeq hS' rfl (wpAny_bind (wpAny_letGo ?_))); rw [nm]
      refine wpAny_pure ⟨plainId_quiet PySem.F.plain_max_loop _, ih (j + 1) _ v _ (by omega) hlt (W.frame _ _ _ hst' fun b x o e => (Heap.get?_update_other _ _ (fun h : S = b => hSf (by rw [h]; exact x))).trans e) (by simp only [argBest, hb, if_true]; exact hP) (Heap.get?_update_self _ hS' rfl) fun v' h2 tk2 q1 q2 => hR v' h2 tk2 q1 fun b o x y e => q2 b o x y ((Heap.get?_update_other _ _ (Ne.symm y)).trans (hk' b o x e))⟩
    | false =>
      simp only [Bool.false_eq_true, if_false]; refine wpAny_bind (wpAny_letGo ?_); rw [nm]
      exact wpAny_pure ⟨plainId_quiet PySem.F.plain_max_loop _, ih (j + 1) _ vb c (by omega) hlt hst' (by simp only [argBest, hb, Bool.false_eq_true, if_false]; exact hPb) hS' fun v' h2 tk2 q1 q2 => hR v' h2 tk2 q1 fun b o x y e => q2 b o x y (hk' b o x e)⟩
theorem max_firstD {d : Value} (W : Walks prog w A.in1 I fp wr n P St) (bt : Nat → Nat → Bool) (hcmp : CmpOf prog w A.in1 .Gt P bt) (S : Addr) (hSf : S ∉ fp) {s : Shared} {c : Nat} (hst : St 0 s.heap) (hS : s.heap.get? S = some { cls := .type "list", dict := none, data := .seq #[] c, slots := #[] })
    (h0 : n = 0 → ∀ h' tk, (∀ b o, b ∉ wr → s.heap.get? b = some o → h'.get? b = some o) → R (.ok (.ret d)) { s with heap := h', toks := tk })
    (hR : 0 < n → ∀ v h' tk, P (argBest bt (n - 1)) v → (∀ b o, b ∉ wr → b ≠ S → s.heap.get? b = some o → h'.get? b = some o) → R (.ok (.ret v)) { s with heap := h', toks := tk }) :
    codeAny (model prog w) A (.builtin "max.loop" ⟨[.ref I, .none, .ref S], [(Str.ofString "default", d)]⟩) R s := by
  have sw : S ∉ wr := fun h => hSf (W.sub _ h)
  have nm : (toString "max" ++ toString ".loop" : String) = "max.loop" := by decide
  refine codeAny_builtin PySem.F.entry_max_loop ?_; rw [Around.under_plainId PySem.F.plain_max_loop _]
  show wpAny _ A.in1 (seqItems? (.ref S) >>= _) _ _ s; refine wpAny_bind (wpAny_seqItems hS rfl ?_)
  show wpAny _ A.in1 (tryCatch (pyNext (.ref I)) _ >>= _) _ _ s
  rcases Nat.eq_zero_or_pos n with hn | hn
  · refine wpAny_bind (wpAny_tryCatch (W.done s _ _ (hn ▸ hst) fun h' tk hk' => ?_))
    exact wpAny_bind (wpAny_rule (wpAny_pure (h0 hn h' tk hk')))
  · refine wpAny_bind (wpAny_tryCatch (W.item 0 s _ _ hn hst fun v h' tk hP hst' hk' => ?_))
    have hS' := hk' S _ sw hS
    show wpAny _ A.in1 (updateSeq S (fun _ => #[v, v]) >>= _) _ _ _; refine wpAny_bind (wpAny_updateSeq hS' rfl ?_); rw [nm]
    exact wpAny_pure ⟨plainId_quiet PySem.F.plain_max_loop _, max_loopD W bt hcmp S hSf _ 0 _ v _ rfl hn (W.frame _ _ _ hst' fun b x o e => (Heap.get?_update_other _ _ (fun h : S = b => hSf (by rw [h]; exact x))).trans e) hP (Heap.get?_update_self _ hS' rfl) fun v' h2 tk2 q1 q2 => hR hn v' h2 tk2 q1 fun b o x y e => q2 b o x y ((Heap.get?_update_other _ _ (Ne.symm y)).trans (hk' b o x e))⟩
theorem args_maxD (a d : Value) : argsOk "max" ⟨[a], [(Str.ofString "default", d)]⟩ := by unfold argsOk; kernel_rfl
theorem max_intsD {E : Value → Shared → Prop} {s : Shared} {l : Addr} {xs : Array (Int × Tok)} {d : Value} {Q : Value → Shared → Prop} (hh : A.handled = none) (hl : s.heap.IsList l (intItems xs))
    (h0 : xs.size = 0 → ∀ h' tk, (∀ b o, s.heap.get? b = some o → h'.get? b = some o) → Q d { s with heap := h', toks := tk })
    (h : 0 < xs.size → ∀ v h' tk, (intItems xs)[argBest (fun i j => decide (numAt xs i > numAt xs j)) (xs.size - 1)]? = some v → (∀ b o, s.heap.get? b = some o → h'.get? b = some o) → Q v { s with heap := h', toks := tk }) :
    wpAny (model prog w) A (call (.builtin "max") [.ref l] [(Str.ofString "default", d)]) Q E s := by
  have nm : (toString "max" ++ toString ".loop" : String) = "max.loop" := by decide
  refine call_fn_kw PySem.F.kind_max PySem.F.plain_max PySem.F.entry_max (args_maxD _ _) ?_
  show wpAny _ A.in1 (Builtin.Builtins.bindParams "max" ["key", "default"] 0 ⟨[], [(Str.ofString "default", d)]⟩ >>= _) _ _ s
  refine wpAny_bind (wpAny_of_eq (show Builtin.Builtins.bindParams "max" ["key", "default"] 0 ⟨[], [(Str.ofString "default", d)]⟩ = pure [none, some d] from rfl) (wpAny_bind (wpAny_pure ?_)))
  refine wpAny_bind (iter_intList hl fun s₂ e st hfp hlI => ?_)
  subst e
  refine wpAny_bind (wpAny_newObj_type ?_)
  rw [nm]
  have W := Walks.list (prog := prog) (w := w) (A := A.in1) hh s.heap.objs.size l hlI (intItems xs)
  have hSf : (s.heap.push { cls := .type "list_iterator", data := .fields #[.ref l, .int 0 0] }).objs.size ∉ [s.heap.objs.size, l] := fun hm => Nat.lt_irrefl _ (hfp _ hm)
  have hsz : (intItems xs).size = xs.size := by simp [intItems]
  refine wpAny_pure ⟨plainId_quiet PySem.F.plain_max_loop _, max_firstD (d := d) W _ (CmpOf.ints_gt (numAt xs) (fun _ _ => intItems_at)) _ hSf (W.frame _ _ _ st fun b _ o e => Heap.get?_push_of_some _ e) (Heap.get?_push_size _ rfl) (fun hn h' tk k => ?_) (fun hn v h' tk hP k => ?_)⟩
  · exact h0 (hsz ▸ hn) h' tk (old_kept fun b o x e => k b o x (Heap.get?_push_of_some _ e))
  · exact h (hsz ▸ hn) v h' tk (by simpa [intItems] using hP) (old_kept fun b o x e => k b o x (Nat.ne_of_lt (Heap.lt_size e)) (Heap.get?_push_of_some _ e))
theorem min_loopD {d : Value} (W : Walks prog w A.in1 I fp wr n P St) (bt : Nat → Nat → Bool) (hcmp : CmpOf prog w A.in1 .Lt P bt) (S : Addr) (hSf : S ∉ fp) :
    ∀ (k j : Nat) (s : Shared) (vb : Value) (c : Nat), n - (j + 1) = k → j + 1 ≤ n → St (j + 1) s.heap → P (argBest bt j) vb → s.heap.get? S = some { cls := .type "list", dict := none, data := .seq #[vb, vb] c, slots := #[] } →
    (∀ v h' tk, P (argBest bt (n - 1)) v → (∀ b o, b ∉ wr → b ≠ S → s.heap.get? b = some o → h'.get? b = some o) → R (.ok (.ret v)) { s with heap := h', toks := tk }) →
    codeAny (model prog w) A (.builtin "min.loop" ⟨[.ref I, .none, .ref S], [(Str.ofString "default", d)]⟩) R s := by
  have sw : S ∉ wr := fun h => hSf (W.sub _ h)
  have nm : (toString "min" ++ toString ".loop" : String) = "min.loop" := by decide
  intro k
  induction k with
  | zero =>
    intro j s vb c hk hj hst hPb hS hR
    have hin : j + 1 = n := by omega
    refine codeAny_builtin PySem.F.entry_min_loop ?_; rw [Around.under_plainId PySem.F.plain_min_loop _]
    show wpAny _ A.in1 (seqItems? (.ref S) >>= _) _ _ s; refine wpAny_bind (wpAny_seqItems hS rfl ?_)
    show wpAny _ A.in1 (tryCatch (pyNext (.ref I)) _ >>= _) _ _ s; refine wpAny_bind (wpAny_tryCatch (W.done s _ _ (hin ▸ hst) fun h' tk hk' => ?_))
    have hS' := hk' S _ sw hS
    show wpAny _ A.in1 (updateSeq S (fun _ => #[]) >>= _) _ _ _; refine wpAny_bind (wpAny_updateSeq hS' rfl (wpAny_bind (wpAny_letGo (wpAny_pure ?_))))
    exact hR vb _ tk (by rw [← hin]; exact hPb) fun b o x y e => (Heap.get?_update_other _ _ (Ne.symm y)).trans (hk' b o x e)
  | succ k ih =>
    intro j s vb c hk hj hst hPb hS hR
    have hlt : j + 1 < n := by omega
    refine codeAny_builtin PySem.F.entry_min_loop ?_; rw [Around.under_plainId PySem.F.plain_min_loop _]
    show wpAny _ A.in1 (seqItems? (.ref S) >>= _) _ _ s; refine wpAny_bind (wpAny_seqItems hS rfl ?_)
    show wpAny _ A.in1 (tryCatch (pyNext (.ref I)) _ >>= _) _ _ s; refine wpAny_bind (wpAny_tryCatch (W.item (j + 1) s _ _ hlt hst fun v h' tk hP hst' hk' => ?_))
    have hS' := hk' S _ sw hS
    show wpAny _ A.in1 (tryCatch (holding [v, v] (richCompare .Lt v vb >>= _)) _ >>= _) _ _ _; refine wpAny_bind (wpAny_tryCatch (wpAny_holding (wpAny_bind (hcmp (j + 1) (argBest bt j) v vb _ _ _ hP hPb ?_))))
    refine wpAny_bind (wpAny_holding (wpAny_truthy_bool (wpAny_bind (wpAny_letGo (wpAny_pure ?_)))))
    cases hb : bt (j + 1) (argBest bt j) with
    | true =>
      simp only [if_true]; refine wpAny_bind (wpAny_updateSeq hS' rfl (wpAny_bind (wpAny_letGo ?_))); rw [nm]
      refine wpAny_pure ⟨plainId_quiet PySem.F.plain_min_loop _, ih (j + 1) _ v _ (by omega) hlt (W.frame _ _ _ hst' fun b x o e => (Heap.get?_update_other _ _ (fun h : S = b => hSf (by rw [h]; exact x))).trans e) (by simp only [argBest, hb, if_true]; exact hP) (Heap.get?_update_self _ hS' rfl) fun v' h2 tk2 q1 q2 => hR v' h2 tk2 q1 fun b o x y e => q2 b o x y ((Heap.get?_update_other _ _ (Ne.symm y)).trans (hk' b o x e))⟩
    | false =>
      simp only [Bool.false_eq_true, if_false]; refine wpAny_bind (wpAny_letGo ?_); rw [nm]
      exact wpAny_pure ⟨plainId_quiet PySem.F.plain_min_loop _, ih (j + 1) _ vb c (by omega) hlt hst' (by simp only [argBest, hb, Bool.false_eq_true, if_false]; exact hPb) hS' fun v' h2 tk2 q1 q2 => hR v' h2 tk2 q1 fun b o x y e => q2 b o x y (hk' b o x e)⟩
theorem min_firstD {d : Value} (W : Walks prog w A.in1 I fp wr n P St) (bt : Nat → Nat → Bool) (hcmp : CmpOf prog w A.in1 .Lt P bt) (S : Addr) (hSf : S ∉ fp) {s : Shared} {c : Nat} (hst : St 0 s.heap) (hS : s.heap.get? S = some { cls := .type "list", dict := none, data := .seq #[] c, slots := #[] })
    (h0 : n = 0 → ∀ h' tk, (∀ b o, b ∉ wr → s.heap.get? b = some o → h'.get? b = some o) → R (.ok (.ret d)) { s with heap := h', toks := tk })
    (hR : 0 < n → ∀ v h' tk, P (argBest bt (n - 1)) v → (∀ b o, b ∉ wr → b ≠ S → s.heap.get? b = some o → h'.get? b = some o) → R (.ok (.ret v)) { s with heap := h', toks := tk }) :
    codeAny (model prog w) A (.builtin "min.loop" ⟨[.ref I, .none, .ref S], [(Str.ofString "default", d)]⟩) R s := by
  have sw : S ∉ wr := fun h => hSf (W.sub _ h)
  have nm : (toString "min" ++ toString ".loop" : String) = "min.loop" := by decide
  refine codeAny_builtin PySem.F.entry_min_loop ?_; rw [Around.under_plainId PySem.F.plain_min_loop _]
  show wpAny _ A.in1 (seqItems? (.ref S) >>= _) _ _ s; refine wpAny_bind (wpAny_seqItems hS rfl ?_)
  show wpAny _ A.in1 (tryCatch (pyNext (.ref I)) _ >>= _) _ _ s
  rcases Nat.eq_zero_or_pos n with hn | hn
  · refine wpAny_bind (wpAny_tryCatch (W.done s _ _ (hn ▸ hst) fun h' tk hk' => ?_))
    exact wpAny_bind (wpAny_rule (wpAny_pure (h0 hn h' tk hk')))
  · refine wpAny_bind (wpAny_tryCatch (W.item 0 s _ _ hn hst fun v h' tk hP hst' hk' => ?_))
    have hS' := hk' S _ sw hS
    show wpAny _ A.in1 (updateSeq S (fun _ => #[v, v]) >>= _) _ _ _; refine wpAny_bind (wpAny_updateSeq hS' rfl ?_); rw [nm]
    exact wpAny_pure ⟨plainId_quiet PySem.F.plain_min_loop _, min_loopD W bt hcmp S hSf _ 0 _ v _ rfl hn (W.frame _ _ _ hst' fun b x o e => (Heap.get?_update_other _ _ (fun h : S = b => hSf (by rw [h]; exact x))).trans e) hP (Heap.get?_update_self _ hS' rfl) fun v' h2 tk2 q1 q2 => hR hn v' h2 tk2 q1 fun b o x y e => q2 b o x y ((Heap.get?_update_other _ _ (Ne.symm y)).trans (hk' b o x e))⟩
theorem args_minD (a d : Value) : argsOk "min" ⟨[a], [(Str.ofString "default", d)]⟩ := by unfold argsOk; kernel_rfl
theorem min_intsD {E : Value → Shared → Prop} {s : Shared} {l : Addr} {xs : Array (Int × Tok)} {d : Value} {Q : Value → Shared → Prop} (hh : A.handled = none) (hl : s.heap.IsList l (intItems xs))
    (h0 : xs.size = 0 → ∀ h' tk, (∀ b o, s.heap.get? b = some o → h'.get? b = some o) → Q d { s with heap := h', toks := tk })
    (h : 0 < xs.size → ∀ v h' tk, (intItems xs)[argBest (fun i j => decide (numAt xs i < numAt xs j)) (xs.size - 1)]? = some v → (∀ b o, s.heap.get? b = some o → h'.get? b = some o) → Q v { s with heap := h', toks := tk }) :
    wpAny (model prog w) A (call (.builtin "min") [.ref l] [(Str.ofString "default", d)]) Q E s := by
  have nm : (toString "min" ++ toString ".loop" : String) = "min.loop" := by decide
  refine call_fn_kw PySem.F.kind_min PySem.F.plain_min PySem.F.entry_min (args_minD _ _) ?_
  show wpAny _ A.in1 (Builtin.Builtins.bindParams "min" ["key", "default"] 0 ⟨[], [(Str.ofString "default", d)]⟩ >>= _) _ _ s
  refine wpAny_bind (wpAny_of_eq (show Builtin.Builtins.bindParams "min" ["key", "default"] 0 ⟨[], [(Str.ofString "default", d)]⟩ = pure [none, some d] from rfl) (wpAny_bind (wpAny_pure ?_)))
  refine wpAny_bind (iter_intList hl fun s₂ e st hfp hlI => ?_)
  subst e
  refine wpAny_bind (wpAny_newObj_type ?_)
  rw [nm]
  have W := Walks.list (prog := prog) (w := w) (A := A.in1) hh s.heap.objs.size l hlI (intItems xs)
  have hSf : (s.heap.push { cls := .type "list_iterator", data := .fields #[.ref l, .int 0 0] }).objs.size ∉ [s.heap.objs.size, l] := fun hm => Nat.lt_irrefl _ (hfp _ hm)
  have hsz : (intItems xs).size = xs.size := by simp [intItems]
  refine wpAny_pure ⟨plainId_quiet PySem.F.plain_min_loop _, min_firstD (d := d) W _ (CmpOf.ints_lt (numAt xs) (fun _ _ => intItems_at)) _ hSf (W.frame _ _ _ st fun b _ o e => Heap.get?_push_of_some _ e) (Heap.get?_push_size _ rfl) (fun hn h' tk k => ?_) (fun hn v h' tk hP k => ?_)⟩
  · exact h0 (hsz ▸ hn) h' tk (old_kept fun b o x e => k b o x (Heap.get?_push_of_some _ e))
  · exact h (hsz ▸ hn) v h' tk (by simpa [intItems] using hP) (old_kept fun b o x e => k b o x (Nat.ne_of_lt (Heap.lt_size e)) (Heap.get?_push_of_some _ e))
end
end L2
set_option Elab.async false
set_option linter.all false
set_option maxRecDepth 100000
set_option maxHeartbeats 4000000
namespace L2
open PySem PySem.Spec PyProof.Rows PySem.W Srt Pc
open AutoSeq1 (wpAny_loadPart')
section
variable {prog : Program} {w : World} {A : Around} {E : Value → Shared → Prop} {s : Shared}
theorem nx_tup_item {it t : Addr} {i : Nat} {items : Array Value} {x : Value} {Q : Value → Shared → Prop} (hit : s.heap.IsTupleIter it t i) (ht : s.heap.IsTuple t items) (hx : items[i]? = some x)
    (q : ∀ h', h'.IsTupleIter it t (i + 1) → Heap.SameBut it s.heap h' → Q x { s with heap := h' }) : wpAny (model prog w) A (Builtin.SmallTypes.nextOf (.ref it)) Q E s := by
  obtain ⟨o, ho, hc, hd⟩ := id hit
  obtain ⟨ol, hol, _, nl, hdl⟩ := ht
  unfold Builtin.SmallTypes.nextOf; refine wpAny_bind (wpAny_callSpecial?_slot (name := Str.ofString "__next__") hit.typeIs PySem.F.slot_tuple_iterator_next (wpAny_call_entry PySem.F.slot_tuple_iterator_next hit.typeIs PySem.F.entry_tuple_iterator_next ?_ (PySem.F.args_tuple_iterator_next_1 _)))
  show wpAny _ _ (field (.ref it) 0 >>= _) _ _ s; refine wpAny_bind (wpAny_field ho hd (x := .ref t) rfl ?_)
  show wpAny _ _ (if (Value.ref t == Value.none) = true then _ else _) _ _ s; rw [if_neg (by simp)]
  show wpAny _ _ (field (.ref it) 1 >>= _) _ _ s; refine wpAny_bind (wpAny_field ho hd (x := .int i 0) rfl ?_)
  show wpAny _ _ (seqItems? (.ref t) >>= _) _ _ s; refine wpAny_bind (wpAny_seqItems hol hdl ?_)
  simp only [Int.toNat_natCast, hx]; refine wpAny_bind (wpAny_setField ho hd (by simp) (wpAny_pure ⟨x, rfl, wpAny_pure (q _ ⟨_, Heap.get?_update_self _ ho (Obj.isFreed_of_fields (Obj.data_mapFields hd _)), (Obj.cls_mapFields ..).trans hc, by rw [Obj.data_mapFields hd]; simp [rawInt]⟩ (Heap.SameBut.update ..))⟩))
theorem nx_tup_end {it t : Addr} {i : Nat} {items : Array Value} {Q : Value → Shared → Prop} (hh : A.handled = none) (hit : s.heap.IsTupleIter it t i) (ht : s.heap.IsTuple t items) (hx : items[i]? = none)
    (hE : ∀ h' e, Heap.ExtBut it s.heap h' → (∃ o, h'.get? e = some o ∧ o.cls = .type "StopIteration") → E (.ref e) { s with heap := h' }) : wpAny (model prog w) A (Builtin.SmallTypes.nextOf (.ref it)) Q E s := by
  obtain ⟨o, ho, hc, hd⟩ := id hit
  obtain ⟨ol, hol, _, nl, hdl⟩ := ht
  unfold Builtin.SmallTypes.nextOf; refine wpAny_bind (wpAny_callSpecial?_slot (name := Str.ofString "__next__") hit.typeIs PySem.F.slot_tuple_iterator_next (wpAny_call_entry PySem.F.slot_tuple_iterator_next hit.typeIs PySem.F.entry_tuple_iterator_next ?_ (PySem.F.args_tuple_iterator_next_1 _)))
  show wpAny _ _ (field (.ref it) 0 >>= _) _ _ s; refine wpAny_bind (wpAny_field ho hd (x := .ref t) rfl ?_)
  show wpAny _ _ (if (Value.ref t == Value.none) = true then _ else _) _ _ s; rw [if_neg (by simp)]
  show wpAny _ _ (field (.ref it) 1 >>= _) _ _ s; refine wpAny_bind (wpAny_field ho hd (x := .int i 0) rfl ?_)
  show wpAny _ _ (seqItems? (.ref t) >>= _) _ _ s; refine wpAny_bind (wpAny_seqItems hol hdl ?_)
  simp only [Int.toNat_natCast, hx]; refine wpAny_bind (wpAny_rule (wpAny_bind (wpAny_setField ho hd (by simp) ?_)))
  show wpAny _ _ (newExc (.type "StopIteration") [] >>= _) _ _ _; refine wpAny_bind ?_
  simp only [newExc, newTuple]; refine wpAny_bind (wpAny_newObj_type ?_ (by size_fits))
  refine wpAny_bind (m := firstArgMember _ _) (wpAny_of_eq (a := Value.none) (by first | rfl | (simp only [firstArgMember]; rfl)) (wpAny_newObj_type ?_ (by size_fits)))
  simp only [raiseNew]; refine wpAny_bind (wpAny_handled ?_)
  first | rw [show A.in1.handled = none from hh] | rw [hh]
  exact wpAny_bind (wpAny_pure (wpAny_throw (hE _ _ (((Heap.SameBut.update ..).extBut.push _).push _) ⟨_, Heap.get?_push_size _ rfl, rfl⟩)))
theorem draws_tup (hh : A.handled = none) (it t : Addr) (hne : t ≠ it) (items : Array Value) : Draws prog w A it [it, t] items.size (fun i v => items[i]? = some v) (fun i h => h.IsTupleIter it t i ∧ h.IsTuple t items) where
  live := fun _ _ st => let ⟨o, ho, _⟩ := st.1; ⟨o, ho⟩
  frame := fun _ _ _ st k => ⟨st.1.at fun o e => k it (by simp) o e, st.2.at fun o e => k t (by simp) o e⟩
  item := fun i s Q E hi st q => nx_tup_item st.1 st.2 (x := items[i]) (by simp [hi]) fun h' a b => q _ h' s.toks (by simp [hi]) ⟨a, st.2.at fun o e => (b.2 t hne).trans e⟩ b
  done := fun s Q E st hE => nx_tup_end hh st.1 st.2 (by simp) hE
end
set_option maxHeartbeats 4000000 in
theorem meets_enumT (l : Addr) (items : Array Value) (o : Obj) (n : Nat) (hc : o.cls = .type "tuple") (hd : o.data = .seq items n) :
    Meets (Builtin.«enumerate.__new__» ⟨[.type "enumerate", .ref l], []⟩) (fun _ R s => s.heap.get? l = some o ∧
      R (.ok (.ret (.ref (s.heap.push { cls := .type "tuple_iterator", data := .fields #[.ref l, .int 0 0] }).objs.size)))
        { s with heap := (s.heap.push { cls := .type "tuple_iterator", data := .fields #[.ref l, .int 0 0] }).push { cls := .type "enumerate", data := .fields #[.none, .bool false, .ref s.heap.objs.size, rawInt 0, .none, .none] } }) :=
  .of_wp fun prog w A R s h => by
    obtain ⟨hp, g, d, tk, os⟩ := s; obtain ⟨hl, h⟩ := h
    have hsub := sub_enumerate
    have hL : Heap.IsTuple (Shared.heap ⟨hp, g, d, tk, os⟩) l items := ⟨_, hl, hc, n, hd⟩
    obtain ⟨oc, odc, oda, osl⟩ := o
    cases hc
    cases hd
    wp_walk using wpAny_loadPart' hl
    refine wpAny_stack_any fun st => wpAny_pure ?_
    split
    · rename_i c _ _ _ _ _
      cases (c == Value.type "enumerate")
      · wp_walk using wpAny_loadPart' hl, wpAny_pyIter_tuple hL
        exact ⟨_, rfl, h⟩
      · wp_walk using wpAny_loadPart' hl, wpAny_pyIter_tuple hL
        exact ⟨_, rfl, h⟩
    · wp_walk using wpAny_loadPart' hl, wpAny_pyIter_tuple hL
      exact ⟨_, rfl, h⟩
section
variable {prog : Program} {w : World} {A : Around} {E : Value → Shared → Prop} {s : Shared}
theorem call_enumT {l : Addr} {items : Array Value} {Q : Value → Shared → Prop} (hL : s.heap.IsTuple l items)
    (h : ∀ h', IsEnum h' (s.heap.objs.size + 1) s.heap.objs.size 0 .none → h'.IsTupleIter s.heap.objs.size l 0 → (∀ b o, s.heap.get? b = some o → h'.get? b = some o) → Q (.ref (s.heap.objs.size + 1)) { s with heap := h' }) :
    wpAny (model prog w) A (call (.type "enumerate") [.ref l]) Q E s := by
  obtain ⟨o, hl, hc, n, hd⟩ := hL
  refine callType_new PySem.F.called_enumerate (by decide) (PySem.F.typeCall_enumerate_1 _) (PySem.F.newCall_enumerate_1 _) (fun obj => PySem.F.args_object_init_2 obj _) PySem.F.entry_enumerate_new (meets_enumT l items o n hc hd) ⟨hl, ?_⟩
  have hz : (s.heap.push { cls := .type "tuple_iterator", data := .fields #[.ref l, .int 0 0] }).objs.size = s.heap.objs.size + 1 := Heap.size_push ..
  show _ ∧ _; rw [hz]
  have he : IsEnum ((s.heap.push { cls := .type "tuple_iterator", data := .fields #[.ref l, .int 0 0] }).push { cls := .type "enumerate", data := .fields #[.none, .bool false, .ref s.heap.objs.size, rawInt 0, .none, .none] }) (s.heap.objs.size + 1) s.heap.objs.size 0 .none := by
    have := Heap.get?_push_size (s.heap.push { cls := .type "tuple_iterator", data := .fields #[.ref l, .int 0 0] }) (o := { cls := .type "enumerate", data := .fields #[.none, .bool false, .ref s.heap.objs.size, rawInt 0, .none, .none] }) rfl
    rw [hz] at this; exact this
  exact ⟨⟨_, he, rfl⟩, h _ he ⟨_, Heap.get?_push_of_some _ (Heap.get?_push_size _ rfl), rfl, rfl⟩ fun b o x => Heap.get?_push_of_some _ (Heap.get?_push_of_some _ x)⟩
end
def Itn (K : PySem.W.Frag) (a : Addr) : It :=
  ⟨fun i H => ∃ xs x, SqT K H a xs ∧ xs[i]? = some x, fun i H v H' => ∃ T x, H T = none ∧ v = .ref T ∧ H' = upd H T (.tup [.int (i : Int), x]) ∧ ∀ xs, SqT K H a xs → xs[i]? = some x, fun i H => ∃ xs, SqT K H a xs ∧ xs.length = i⟩
theorem turn_enumT {P : Program} {w : World} {K : PySem.W.Frag} {elts : List Expr} {tk : Nat} {tpos : Pos} {a e it : Addr} (hei : e ≠ it) (hea : e ≠ a) (hia : a ≠ it) :
    Turn P w K (.Tuple elts tk tpos) (Itn K a) [e, it] e (fun i h => (∃ old, IsEnum h e it i old) ∧ h.IsTupleIter it a i) where
  mem := by simp
  obj := fun i h st b hb => by
    obtain ⟨⟨old, h1⟩, ⟨o, h2, h3, h4⟩⟩ := st
    simp only [List.mem_cons, List.not_mem_nil, or_false] at hb
    rcases hb with rfl | rfl
    · exact ⟨_, h1, fun v z => by cases z⟩
    · exact ⟨_, h2, fun v z => by rw [h4] at z; cases z⟩
  keep := fun i h h' st k => ⟨let ⟨old, h1⟩ := st.1; ⟨old, k e (by simp) _ h1⟩, st.2.at fun o z => k it (by simp) o z⟩
  item := by
    rintro X rfl rfl rfl hc i pins s σ H E I hf ⟨⟨old, h1⟩, h2⟩ ⟨xs, x, sx, ex⟩
    obtain ⟨its, rv, p, hz⟩ := I.tuple sx
    have p : s.heap.IsTuple a its.toArray := p
    obtain ⟨u, hu, ru⟩ := rv.get ex
    have hl := rv.length
    have hlt : i < its.toArray.size := by
      rw [List.size_toArray]
      exact (List.getElem?_eq_some_iff.mp hu).1
    refine wpAny_pyNext_enum_itemD (draws_tup (prog := X.prog) (w := X.w) (A := X.A.in1) (I.ok.hd hc) it a hia its.toArray) h1 ⟨h2, p⟩ hlt hei (by simp [hei, hea]) fun v h' tk hv ho st' hT hsz kk => ?_
    have hv : its.toArray[i]? = some v := hv
    rw [List.getElem?_toArray, hu] at hv
    cases hv
    refine ⟨_, rfl, wpAny_letOwnedTupleGo_enum ho fun h'' b1 b2 => ?_⟩
    have elt : e < s.heap.objs.size := Heap.lt_size h1
    obtain ⟨oi, hoi, _⟩ := id h2
    have ilt : it < s.heap.objs.size := Heap.lt_size hoi
    have I2 := I.turnNew (t' := tk + 1) (h' := h'') (fp := [e, it]) (its := [.int (i : Int) tk, u]) (xs := [.int (i : Int), x]) hf (fun b o hb z => by
        simp only [List.mem_cons, List.not_mem_nil, or_false, not_or] at hb
        exact b2.extBut b o hb.1 (kk b o hb.1 hb.2 z))
      (b2.extBut _ _ (Nat.ne_of_gt elt) hT) rfl rfl (.cons ⟨tk, rfl⟩ (.cons ru .nil)) (by show 2 ≤ sizeLine; decide)
    refine ⟨.ref s.heap.objs.size, _, I2, rfl, ⟨_, x, I.fresh, rfl, rfl, fun xs' q => by rw [I.tuple_inj q sx]; exact ex⟩, ⟨⟨u, by simpa using b1⟩, st'.1.at fun o z => b2.extBut _ _ hei.symm z⟩, fun b hb => ?_⟩
    have : b < s.heap.objs.size := by
      simp only [List.mem_cons, List.not_mem_nil, or_false] at hb
      rcases hb with rfl | rfl
      · exact elt
      · exact ilt
    rw [upd_ne (Nat.ne_of_lt this)]
    exact (hf b hb).1
  done := by
    rintro X rfl rfl rfl hc i pins s σ H E I hf ⟨⟨old, h1⟩, h2⟩ ⟨xs, sx, hlen⟩
    obtain ⟨its, rv, p, hz⟩ := I.tuple sx
    have p : s.heap.IsTuple a its.toArray := p
    have hl := rv.length
    have e0 : its.toArray.size = i := by rw [List.size_toArray]; omega
    obtain ⟨f0, f1, f2, f3, f4, f5⟩ := hf it (by simp)
    exact wpAny_pyNext_enum_endD (draws_tup (prog := X.prog) (w := X.w) (A := X.A.in1) (I.ok.hd hc) it a hia its.toArray) h1 ⟨e0 ▸ h2, p⟩ fun h' eb => ⟨rfl, I.turned (t' := s.toks) (fun b o hb z => eb b o hb z) f0 f1 f3 f4 f5⟩
  self := fun _ _ _ _ _ st h => let ⟨_, h1⟩ := st.1; wpAny_pyIter_enum h1 h
section
variable {X : Cx} {K : PySem.W.Frag}
theorem b_enumerate : bootBuiltins "enumerate" = some (.type "enumerate") := by decide +kernel
def iEnumT (K : PySem.W.Frag) (ta : TA) : TI := fun σ H R => ta σ H fun vs H1 => ∃ a, vs = [.ref a] ∧ (∃ xs, SqT K H1 a xs) ∧ R (Itn K a) H1
theorem pi_enumT {elts : List Expr} {tk : Nat} {tpos : Pos} {a : Expr} {ta : TA} {p pos : Pos} (hg : Gl X "enumerate") (hm : X.mg "enumerate" = none) (ha : PA X [a] ta) (hs : starEach [a] X.env = [(false, eval a X.env)] := by rfl) :
    PI X (.Tuple elts tk tpos) (.Call (.Name "enumerate" p) [a] [] pos) (iEnumT X.K ta) := by
  intro pins s σ H R I h
  refine Call_ (ld_blt I hg hm b_enumerate (PyProof.Rows.callWith_type1 (thn (ha pos pins s σ H _ I h) fun us s1 ⟨vs, H1, I1, r1, q1⟩ => ?_) hs rfl))
  obtain ⟨x, e, ⟨xs, sx⟩, q⟩ := q1
  subst e
  cases r1 with
  | cons r rr =>
    cases rr
    cases r
    obtain ⟨its, rv, p1, hz⟩ := I1.tuple sx
    have p1 : s1.heap.IsTuple x its.toArray := p1
    obtain ⟨o1, e1, _⟩ := id p1
    have xlt := Heap.lt_size e1
    refine call_enumT p1 fun h' he hit hk => wpAny_pyIter_enum he ?_
    have I2 : Inv X pins σ H1 { s1 with heap := h' } := I1.kept (t' := s1.toks) hk
    refine ⟨s1.heap.objs.size + 1, [s1.heap.objs.size + 1, s1.heap.objs.size], _, _, H1, rfl, I2, turn_enumT (a := x) (Nat.succ_ne_self _) (Nat.ne_of_gt (Nat.lt_succ_of_lt xlt)) (Nat.ne_of_lt xlt), ⟨⟨_, he⟩, hit⟩, fun b hb => ?_, q⟩
    have hge : s1.heap.objs.size ≤ b := by
      simp only [List.mem_cons, List.not_mem_nil, or_false] at hb
      rcases hb with rfl | rfl <;> omega
    exact I1.fpOk hge (I1.hok.fresh hge)
theorem qi_enumT {elts : List Expr} {tk : Nat} {tpos : Pos} {a : Expr} {ta : TA} {p pos : Pos} (hK : X.K = K) (hg : Gl X "enumerate") (hm : X.mg "enumerate" = none) (ha : QA X [a] ta) (hs : starEach [a] X.env = [(false, eval a X.env)] := by rfl) :
    QI X (.Tuple elts tk tpos) (.Call (.Name "enumerate" p) [a] [] pos) (iEnumT K ta) := ⟨hK ▸ pi_enumT hg hm ha.r hs⟩
theorem rd_ienumT {σ : St} {H : Hp} {ta : TA} {R : It → Hp → Prop} (h : ta σ H fun vs H1 => ∃ a, vs = [.ref a] ∧ (∃ xs, SqT K H1 a xs) ∧ R (Itn K a) H1) : iEnumT K ta σ H R := h
def IsN {α : Type} (R : Hp → V → α → Prop) : Hp → V → Nat × α → Prop := fun H v x => ∃ T u, v = .ref T ∧ H T = some (.tup [.int (x.1 : Int), u]) ∧ R H u x.2
theorem feeds_enumT {α : Type} {R : Hp → V → α → Prop} [Rep R] {H : Hp} {a : Addr} {ys : List V} {xs : List α} (h : SqT K H a ys) (r : Rs R H ys xs) : Feeds (Itn K a) H ((List.range xs.length).zip xs) (IsN R) where
  stop := fun H' s => ⟨ys, same_tup s h, by rw [r.len]; simp⟩
  go := fun i x H' s e => by
    have hi : i < xs.length := by
      rcases Nat.lt_or_ge i xs.length with z | z
      · exact z
      · rw [List.getElem?_eq_none (by simpa using z)] at e; cases e
    rw [List.getElem?_zip_eq_some] at e
    obtain ⟨e1, e2⟩ := e
    rw [List.getElem?_range hi] at e1
    have e1 : i = x.1 := Option.some.inj e1
    obtain ⟨v, e3, q⟩ := r.get' e2
    refine ⟨⟨ys, v, same_tup s h, e3⟩, fun v' H2 y => ?_⟩
    obtain ⟨T, u, hT, rfl, rfl, hu⟩ := y
    have e4 := hu _ (same_tup s h)
    rw [e3] at e4
    obtain rfl := Option.some.inj e4
    refine ⟨same_new hT, T, _, rfl, ?_, Rep.up (s.trans (same_new hT)) q⟩
    rw [upd_same, e1]
end
end L2
set_option Elab.async false
set_option linter.all false
set_option maxRecDepth 100000
set_option maxHeartbeats 4000000
namespace L2
open PySem PySem.W PySem.Spec PyProof.Rows Srt Pc
section
variable {prog : Program} {w : World} {K : Type} [DecidableEq K] {knd : HeapKind prog w K} {A : Around} {E : Value → Shared → Prop} {s : Shared}
theorem setdef_heap {d a : Addr} {xs : List (K × Addr × Value)} {k : K} {v : Value} {Q : Value → Shared → Prop} (hu : knd.room A) (hkey : knd.is s.heap k a) (hm : s.heap.DictOfH knd d xs) (hsz : xs.length < sizeLine)
    (h1 : ∀ p, atKey xs k = some p → Q p.2 { s with toks := s.toks + knd.draws k })
    (h2 : atKey xs k = none → ∀ h', h'.DictOfH knd d (storedH xs k a v) → Heap.SameBut d s.heap h' → Q v { s with heap := h', toks := s.toks + knd.draws k }) : wpAny (model prog w) A (dictSetDefault d (.ref a) v) Q E s := by
  obtain ⟨o, es, ep, ho, hc, hd, he, his, hn⟩ := hm
  unfold dictSetDefault
  try with_reducible refine wpAny_holding ?_
  refine wpAny_bind (knd.pyHash hu hkey (wpAny_bind (wpAny_dictFind_heap (s := { s with toks := s.toks + knd.draws k }) hu hkey ho hd he his hn (fun hno => ?_) (fun j p hj => ?_))))
  · have h0 := atKey_none_of_get hno
    have hnot : k ∉ xs.map (·.1) := not_mem_keys_of_get hno
    refine wpAny_bind (wpAny_rule (wpAny_bind (wpAny_updateDictKeys (hz := by have e := size_of_entries he; omega) (s := { s with toks := s.toks + knd.draws k }) ho hd (wpAny_pure (h2 h0 _ ⟨_, _, ep + 1, Heap.get?_update_self _ ho (Obj.isFreed_of_dict (Obj.data_mapDictKeys hd _)), hc.mapDictKeys _, Obj.data_mapDictKeys hd _, ?_, ?_, ?_⟩ (Heap.SameBut.update ..))))))
    · rw [storedH_new h0]; simp [he, entryOfKey]
    · rw [storedH_new h0]; intro x hx
      rcases List.mem_append.mp hx with hx | hx
      · exact knd.keeps (his x hx) ho hd (Heap.SameBut.update ..)
      · rw [List.mem_singleton] at hx; subst hx; exact knd.keeps hkey ho hd (Heap.SameBut.update ..)
    · rw [storedH_new h0, List.map_append, List.nodup_append]
      exact ⟨hn, by simp, fun x hx y hy e => hnot (by rw [List.map_singleton, List.mem_singleton] at hy; have hy : y = k := hy; rw [← hy, ← e]; exact hx)⟩
  · have h0 := atKey_of_get hn hj
    refine wpAny_bind (wpAny_dictEntries (s := { s with toks := s.toks + knd.draws k }) ho hd ?_)
    rw [entry_at he j, hj]
    exact wpAny_bind (wpAny_rule (wpAny_pure (h1 p h0)))
theorem meetsH_setdef (knd : HeapKind prog w K) (d a : Addr) (v : Value) (hsys : (d == sysModules) = false) :
    MeetsIn prog w (Builtin.«dict.setdefault» ⟨[.ref d, .ref a, v], []⟩) (fun A R s => knd.room A.in1 ∧ ∃ (k : K) (xs : List (K × Addr × Value)), knd.is s.heap k a ∧ s.heap.DictOfH knd d xs ∧ xs.length < sizeLine ∧
      (∀ p t, atKey xs k = some p → R (.ok (.ret p.2)) { s with toks := t }) ∧
      (atKey xs k = none → ∀ h' t, h'.DictOfH knd d (storedH xs k a v) → Heap.SameBut d s.heap h' → R (.ok (.ret v)) { s with heap := h', toks := t })) :=
  .of_wp fun A R s ⟨hu, k, xs, hkey, hm, hsz, h1, h2⟩ => by
    unfold Builtin.«dict.setdefault»; refine wpAny_bind ?_
    unfold Builtin.Dict.keyAndDefault; refine wpAny_bind (wpAny_notOrdered_dict hm.typeIs ?_)
    show wpAny _ _ (pure (d, Value.ref a, some v)) _ _ s; refine wpAny_pure ?_
    show wpAny _ _ (if (d == sysModules) = true then _ else (dictSetDefault d (.ref a) v >>= _)) _ _ s
    rw [if_neg (by rw [hsys]; simp)]
    exact wpAny_bind (setdef_heap hu hkey hm hsz (fun p e => wpAny_pure ⟨_, rfl, h1 p _ e⟩) (fun e h' q1 q2 => wpAny_pure ⟨_, rfl, h2 e h' _ q1 q2⟩))
end
section
variable {X : Cx} {pins : List (Addr × Obj)} {σ : St} {H : Hp} {s : Shared} {d a : Addr} {kvs : List (List Key × V)} {k : List Key} {A : Around} {E : Value → Shared → Prop}
theorem dt_setdef {v : V} {u : Value} {Q : Value → Shared → Prop} (hu : A.units + 1 < cLine) (I : Inv X pins σ H s) (e : H d = some (.dT kvs)) (ea : H a = some (.tup (k.map kV))) (hl : kvs.length < sizeLine) (rv : RelV v u)
    (h1 : ∀ x w' s', valV kvs k = some x → Inv X pins σ H s' → RelV x w' → Q w' s') (h2 : valV kvs k = none → ∀ s', Inv X pins σ (upd H d (.dT (putK kvs k v))) s' → Q u s') :
    wpAny (model X.prog X.w) A (call (.builtin "dict.setdefault") [.ref d, .ref a, u]) Q E s := by
  obtain ⟨z, hd, xs, rel, dd⟩ := dt_of I.hok e
  have hz : xs.length < sizeLine := by rw [← Paired.length rel]; exact hl
  have ho := rel.val k
  refine call_meetsIn PySem.F.slot_dict_setdefault dd.typeIs PySem.F.entry_dict_setdefault (PySem.F.args_dict_setdefault_3 _ _ _) (meetsH_setdef (tupleKind (mixKind X.prog X.w)) d a u hd) ⟨tupleKind_room_in1 hu, k, xs, key_of I.hok ea, dd, hz, fun p t hp => ?_, fun hp h' t dd' hs => ?_⟩
  · rw [hp] at ho
    cases hv : valV kvs k with
    | none => rw [hv] at ho; exact absurd ho (by simp [RelO])
    | some x => rw [hv] at ho; exact h1 x p.2 _ hv (I.tok _) ho
  · rw [hp] at ho
    cases hv : valV kvs k with
    | some x => rw [hv] at ho; exact absurd ho (by simp [RelO])
    | none =>
      obtain ⟨q, es, ep, hq, h3, h4, h5, _, h6⟩ := dd'
      refine h2 hv _ (d_write I (by rw [e]; exact True.intro) hs ⟨q, hq⟩ ⟨Nat.le_trans (length_putK kvs k v) hl, hd, _, (rel.put k ea rv).keeps fun c ys ec => ?_, q, es, ep, hq, h3, h4, h5, h6⟩)
      rw [upd_ne (ne_of ec e (fun z => nomatch z))]
      exact ec
end
def tDSetD (td ty tx : TE) : TE := fun σ H Q => td σ H fun x H1 => ∃ d, x = .ref d ∧ IsD H1 d ∧ ty σ H1 fun y H2 => tx σ H2 fun z H3 => ∃ kvs k a, H3 d = some (.dT kvs) ∧ y = .ref a ∧ H3 a = some (.tup (k.map kV)) ∧ kvs.length < sizeLine ∧
  (∀ v, valV kvs k = some v → Q v H3) ∧ (valV kvs k = none → Q z (upd H3 d (.dT (putK kvs k z))))
theorem pe_dsetd {X : Cx} {o e f : Expr} {apos cpos : Pos} {td ty tx : TE} (hu : X.A.units + 1 < cLine) (ho : PE X o td) (he : PE X e ty) (hf : PE X f tx) (m : M2 X o "setdefault" apos e f cpos) : PE X (.Call (.Attribute o "setdefault" apos) [e, f] [] cpos) (tDSetD td ty tx) := by
  intro pins s σ H Q I h
  refine wpAny_Call_method m.base m.few m.line PySem.F.plainAttrs_dict PySem.F.slot_dict_setdefault PySem.F.type_dict_setdefault (thn (ho pins s σ H _ I h) fun u s1 ⟨x, H1, I1, rx, d, ex, dd, q1⟩ => ?_)
  subst ex
  obtain rfl : u = Value.ref d := rx
  obtain ⟨t1, t2, _⟩ := isD_at I1 dd
  refine ⟨t1, t2, ?_⟩
  rw [m.trees]
  refine Calls.callWith_builtin rfl (Calls.evalArgs_plain (Calls.spliced_cons (thn (he pins s1 σ H1 _ I1 q1) fun iv s2 ⟨y, H2, I2, ry, q2⟩ => Calls.spliced_cons (thn (hf pins s2 σ H2 _ I2 q2) fun fv s3 ⟨z, H3, I3, rz, kvs, k, a, ed, ey, ea, hl, g1, g2⟩ => Calls.spliced_nil ?_))))
  subst ey
  obtain rfl : iv = Value.ref a := ry
  exact dt_setdef hu I3 ed ea hl rz (fun x w' s' hv I' r => ⟨x, H3, I', r, g1 x hv⟩) (fun hv s' I' => ⟨z, _, I', rz, g2 hv⟩)
theorem qe_dsetd {X : Cx} {o e f : Expr} {apos cpos : Pos} {td ty tx : TE} (hu : X.A.units + 1 < cLine) (ho : QE X o td) (he : QE X e ty) (hf : QE X f tx) (m : M2 X o "setdefault" apos e f cpos) : QE X (.Call (.Attribute o "setdefault" apos) [e, f] [] cpos) (tDSetD td ty tx) := ⟨pe_dsetd hu ho.r he.r hf.r m⟩
theorem qe_dget2 {X : Cx} {o e f : Expr} {apos cpos : Pos} {td ty tx : TE} (hu : X.A.units + 1 < cLine) (ho : QE X o td) (he : QE X e ty) (hf : QE X f tx) (m : M2 X o "get" apos e f cpos) : QE X (.Call (.Attribute o "get" apos) [e, f] [] cpos) (tDGet2 td ty tx) := ⟨pe_dget2 hu ho.r he.r hf.r m⟩
section
variable {X : Cx} {K : PySem.W.Frag}
def tMinD (K : PySem.W.Frag) (tl td : TE) : TE := fun σ H Q => tl σ H fun x H1 => td σ H1 fun y H2 => ∃ (p : Addr) (ns : List Int), x = .ref p ∧ SqL K H2 p (ns.map V.int) ∧ (ns = [] → Q y H2) ∧ (ns ≠ [] → ∀ M, M ∈ ns → (∀ a, a ∈ ns → M ≤ a) → Q (.int M) H2)
def tMaxD (K : PySem.W.Frag) (tl td : TE) : TE := fun σ H Q => tl σ H fun x H1 => td σ H1 fun y H2 => ∃ (p : Addr) (ns : List Int), x = .ref p ∧ SqL K H2 p (ns.map V.int) ∧ (ns = [] → Q y H2) ∧ (ns ≠ [] → ∀ M, M ∈ ns → (∀ a, a ∈ ns → a ≤ M) → Q (.int M) H2)
theorem pe_minD {e f : Expr} {p pos kp : Pos} {tl td : TE} (hc : X.calm = true) (hg : Gl X "min") (hm : X.mg "min" = none) (hl : QE X e tl) (hf : QE X f td) (hs : starEach [e] X.env = [(false, eval e X.env)]) : PE X (.Call (.Name "min" p) [e] [⟨some (Str.ofString "default"), f, kp⟩] pos) (tMinD X.K tl td) := by
  intro pins s σ H Q I h
  refine wpAny_Call_Name_kw (ld_blt I hg hm b_min (callWith_kw ?_ (by rw [hs]; rfl) (by rw [hs]; rfl)))
  rw [hs]
  refine Calls.spliced_cons (thn (hl.r pins s σ H _ I h) fun u s1 ⟨x, H1, I1, rx, q1⟩ => Calls.spliced_nil ?_)
  refine kws_cons (thn (hf.r pins s1 σ H1 _ I1 q1) fun v s2 ⟨y, H2, I2, ry, l, ns, ex, hq, k0, k⟩ => kws_nil ?_)
  subst ex
  cases rx
  obtain ⟨its, rv, pl, hz⟩ := I2.list hq
  have hi : IntsAre its ns := intsAre_of rv
  obtain ⟨ys, hys⟩ := hi.allInts.items
  have hnum : numsOf (intItems ys).toList = ns := by rw [← hys]; exact hi.numsOf
  rw [nums_intItems] at hnum
  have hsz : ys.size = ns.length := by rw [← hnum]; simp
  show wpAny _ _ (call (.builtin "min") [.ref l] [(Str.ofString "default", v)]) _ _ s2
  refine min_intsD (xs := ys) (I2.ok.hd hc) (by rw [← hys]; exact pl.isList) (fun h0 h' tk hk => ?_) fun h0 v h' tk hv hk => ?_
  · exact ⟨y, H2, I2.kept hk, ry, k0 (List.length_eq_zero_iff.mp (by omega))⟩
  · obtain ⟨t, rfl⟩ := intItems_at hv
    obtain ⟨h1, h2⟩ := argBest_lt (numAt ys) (ys.size - 1)
    refine ⟨.int _, H2, I2.kept hk, ⟨t, rfl⟩, k (fun e => by have := congrArg List.length e; simp only [List.length_nil] at this; omega) _ ?_ fun a ha => ?_⟩
    · rw [← hnum, numAt_eq]; exact getD_mem (by rw [List.length_map, Array.length_toList]; omega)
    · rw [← hnum] at ha
      obtain ⟨j, hj, rfl⟩ := mem_getD ha
      rw [List.length_map, Array.length_toList] at hj
      rw [← numAt_eq]; exact h2 j (by omega)
theorem pe_maxD {e f : Expr} {p pos kp : Pos} {tl td : TE} (hc : X.calm = true) (hg : Gl X "max") (hm : X.mg "max" = none) (hl : QE X e tl) (hf : QE X f td) (hs : starEach [e] X.env = [(false, eval e X.env)]) : PE X (.Call (.Name "max" p) [e] [⟨some (Str.ofString "default"), f, kp⟩] pos) (tMaxD X.K tl td) := by
  intro pins s σ H Q I h
  refine wpAny_Call_Name_kw (ld_blt I hg hm b_max (callWith_kw ?_ (by rw [hs]; rfl) (by rw [hs]; rfl)))
  rw [hs]
  refine Calls.spliced_cons (thn (hl.r pins s σ H _ I h) fun u s1 ⟨x, H1, I1, rx, q1⟩ => Calls.spliced_nil ?_)
  refine kws_cons (thn (hf.r pins s1 σ H1 _ I1 q1) fun v s2 ⟨y, H2, I2, ry, l, ns, ex, hq, k0, k⟩ => kws_nil ?_)
  subst ex
  cases rx
  obtain ⟨its, rv, pl, hz⟩ := I2.list hq
  have hi : IntsAre its ns := intsAre_of rv
  obtain ⟨ys, hys⟩ := hi.allInts.items
  have hnum : numsOf (intItems ys).toList = ns := by rw [← hys]; exact hi.numsOf
  rw [nums_intItems] at hnum
  have hsz : ys.size = ns.length := by rw [← hnum]; simp
  show wpAny _ _ (call (.builtin "max") [.ref l] [(Str.ofString "default", v)]) _ _ s2
  refine max_intsD (xs := ys) (I2.ok.hd hc) (by rw [← hys]; exact pl.isList) (fun h0 h' tk hk => ?_) fun h0 v h' tk hv hk => ?_
  · exact ⟨y, H2, I2.kept hk, ry, k0 (List.length_eq_zero_iff.mp (by omega))⟩
  · obtain ⟨t, rfl⟩ := intItems_at hv
    obtain ⟨h1, h2⟩ := argBest_gt (numAt ys) (ys.size - 1)
    refine ⟨.int _, H2, I2.kept hk, ⟨t, rfl⟩, k (fun e => by have := congrArg List.length e; simp only [List.length_nil] at this; omega) _ ?_ fun a ha => ?_⟩
    · rw [← hnum, numAt_eq]; exact getD_mem (by rw [List.length_map, Array.length_toList]; omega)
    · rw [← hnum] at ha
      obtain ⟨j, hj, rfl⟩ := mem_getD ha
      rw [List.length_map, Array.length_toList] at hj
      rw [← numAt_eq]; exact h2 j (by omega)
theorem qe_minD {e f : Expr} {p pos kp : Pos} {tl td : TE} (hK : X.K = K) (hc : X.calm = true) (hg : Gl X "min") (hm : X.mg "min" = none) (hl : QE X e tl) (hf : QE X f td) (hs : starEach [e] X.env = [(false, eval e X.env)] := by rfl) : QE X (.Call (.Name "min" p) [e] [⟨some (Str.ofString "default"), f, kp⟩] pos) (tMinD K tl td) := ⟨hK ▸ pe_minD hc hg hm hl hf hs⟩
theorem qe_maxD {e f : Expr} {p pos kp : Pos} {tl td : TE} (hK : X.K = K) (hc : X.calm = true) (hg : Gl X "max") (hm : X.mg "max" = none) (hl : QE X e tl) (hf : QE X f td) (hs : starEach [e] X.env = [(false, eval e X.env)] := by rfl) : QE X (.Call (.Name "max" p) [e] [⟨some (Str.ofString "default"), f, kp⟩] pos) (tMaxD K tl td) := ⟨hK ▸ pe_maxD hc hg hm hl hf hs⟩
variable {σ : St} {H : Hp} {Q : VK}
theorem rd_minD {tl td : TE} (h : tl σ H fun x H1 => td σ H1 fun y H2 => ∃ (p : Addr) (ns : List Int), x = .ref p ∧ SqL K H2 p (ns.map V.int) ∧ (ns = [] → Q y H2) ∧ (ns ≠ [] → ∀ M, M ∈ ns → (∀ a, a ∈ ns → M ≤ a) → Q (.int M) H2)) : tMinD K tl td σ H Q := h
theorem rd_maxD {tl td : TE} (h : tl σ H fun x H1 => td σ H1 fun y H2 => ∃ (p : Addr) (ns : List Int), x = .ref p ∧ SqL K H2 p (ns.map V.int) ∧ (ns = [] → Q y H2) ∧ (ns ≠ [] → ∀ M, M ∈ ns → (∀ a, a ∈ ns → a ≤ M) → Q (.int M) H2)) : tMaxD K tl td σ H Q := h
theorem rd_dsetd {td ty tx : TE} (h : td σ H fun x H1 => ∃ d, x = .ref d ∧ IsD H1 d ∧ ty σ H1 fun y H2 => tx σ H2 fun z H3 => ∃ kvs k a, H3 d = some (.dT kvs) ∧ y = .ref a ∧ H3 a = some (.tup (k.map kV)) ∧ kvs.length < sizeLine ∧
  (∀ v, valV kvs k = some v → Q v H3) ∧ (valV kvs k = none → Q z (upd H3 d (.dT (putK kvs k z))))) : tDSetD td ty tx σ H Q := h
theorem rd_dget2 {td ty tx : TE} (h : td σ H fun x H1 => ∃ a, x = .ref a ∧ IsD H1 a ∧ ty σ H1 fun y H2 => tx σ H2 fun z H3 => ∃ o, DGet H3 a y o ∧ Q (o.getD z) H3) : tDGet2 td ty tx σ H Q := h
end
end L2
set_option Elab.async false
set_option linter.all false
set_option maxRecDepth 100000
set_option maxHeartbeats 4000000
namespace Pc
open PySem L2 Srt
def lnI (ax : Ax) (c : C3) : List Int := match ax with
  | .x => [c.y, c.z]
  | .y => [c.x, c.z]
  | .z => [c.x, c.y]
def kI (k : List Int) : List Key := k.map Sum.inl
theorem kI_v (k : List Int) : (kI k).map kV = k.map V.int := by unfold kI; rw [List.map_map]; rfl
theorem kI_inj {k k' : List Int} (h : kI k = kI k') : k = k' := by
  unfold kI at h
  induction k generalizing k' with
  | nil => cases k' with
    | nil => rfl
    | cons => simp at h
  | cons a k ih => cases k' with
    | nil => simp at h
    | cons b k' =>
      simp only [List.map_cons, List.cons.injEq] at h
      rw [Sum.inl.inj h.1, ih h.2]
def numsAt (ax : Ax) (cs : List C3) (k : List Int) : List Int := (cs.filter fun c => decide (lnI ax c = k)).map ax.at
theorem numsAt_snoc (ax : Ax) (cs : List C3) (c : C3) (k : List Int) : numsAt ax (cs ++ [c]) k = numsAt ax cs k ++ (if lnI ax c = k then [ax.at c] else []) := by
  unfold numsAt
  rw [List.filter_append, List.map_append]
  by_cases h : lnI ax c = k
  · rw [if_pos h, List.filter_cons, if_pos (decide_eq_true h)]; rfl
  · rw [if_neg h, List.filter_cons, if_neg (by simpa using h)]; rfl
structure Ln (H0 H : Hp) (d : Addr) (ax : Ax) (cs : List C3) (kvs : List (List Key × V)) : Prop where
  e : H d = some (.dT kvs)
  len : kvs.length ≤ cs.length
  at' : ∀ k : List Int, (valV kvs (kI k) = none ∧ numsAt ax cs k = []) ∨ ∃ l, valV kvs (kI k) = some (.ref l) ∧ H l = some (.lst ((numsAt ax cs k).map V.int)) ∧ H0 l = none
  inj : ∀ k k' v, valV kvs (kI k) = some v → valV kvs (kI k') = some v → k = k'
def Lines (H : Hp) (d : Addr) (ax : Ax) (cs : List C3) : Prop := ∃ kvs, H d = some (.dT kvs) ∧ ∀ k : List Int, (valV kvs (kI k) = none ∧ numsAt ax cs k = []) ∨ ∃ l, valV kvs (kI k) = some (.ref l) ∧ H l = some (.lst ((numsAt ax cs k).map V.int))
theorem Lines.up {H H' : Hp} {d : Addr} {ax : Ax} {cs : List C3} (s : Same H H') (h : Lines H d ax cs) : Lines H' d ax cs := by
  obtain ⟨kvs, e, q⟩ := h
  exact ⟨kvs, s _ _ e, fun k => (q k).imp id fun ⟨l, a, b⟩ => ⟨l, a, s _ _ b⟩⟩
def ahd (up : Bool) (here n : Int) : Prop := if up = true then here < n else n < here
def IsNear (u : Wy) (ss : List C3) (c : C3) : Option Int → Prop
  | none => ∀ d ∈ ss, lnI u.ax d = lnI u.ax c → ¬ ahd u.up (u.ax.at c) (u.ax.at d)
  | some M => (∃ d ∈ ss, lnI u.ax d = lnI u.ax c ∧ u.ax.at d = M) ∧ ahd u.up (u.ax.at c) M ∧ ∀ d ∈ ss, lnI u.ax d = lnI u.ax c → ahd u.up (u.ax.at c) (u.ax.at d) → ¬ ahd u.up (u.ax.at d) M
def NV (H : Hp) (u : Wy) (c : C3) (v : V) : Option Int → Prop
  | none => v = .non
  | some M => ∃ p, v = .ref p ∧ H p = some (.tup (u.ax.put M c).v)
def IsHind (u : Wy) (bs ss : List C3) : Option (C3 × C3) → Prop
  | none => ∀ c ∈ bs, IsNear u ss c none
  | some (c, d) => ∃ i : Nat, bs[i]? = some c ∧ (∀ x ∈ bs.take i, IsNear u ss x none) ∧ ∃ M, IsNear u ss c (some M) ∧ d = u.ax.put M c
def HV (H : Hp) (v : V) : Option (C3 × C3) → Prop
  | none => v = .non
  | some (c, d) => ∃ p a b, v = .ref p ∧ H p = some (.tup [.ref a, .ref b]) ∧ H a = some (.tup c.v) ∧ H b = some (.tup d.v)
def spLine (K : PySem.W.Frag) : Sp := fun vs H Q _ => ∃ (a : Addr) (ax : Ax) (c : C3), vs = [.ref a, .str ax.s] ∧ SqT K H a c.v ∧ ∀ p H', Same H H' → H' p = some (.tup ((lnI ax c).map V.int)) → Q (.ref p) H'
def spLines (K : PySem.W.Frag) : Sp := fun vs H Q _ => ∃ (a : Addr) (ax : Ax) (ys : List V) (cs : List C3), vs = [.ref a, .str ax.s] ∧ SqL K H a ys ∧ Cs H ys cs ∧ cs.length ≤ 100000 ∧ ∀ d H', Same H H' → H d = none → Lines H' d ax cs → Q (.ref d) H'
def spNearest (K : PySem.W.Frag) : Sp := fun vs H Q _ => ∃ (a d : Addr) (u : Wy) (c : C3) (ss : List C3), vs = [.ref a, .ref d, .str u.s] ∧ SqT K H a c.v ∧ Lines H d u.ax ss ∧ ss.length ≤ 100000 ∧ ∀ (o : Option Int) v H', IsNear u ss c o → Same H H' → NV H' u c v o → Q v H'
def spHind (K : PySem.W.Frag) : Sp := fun vs H Q _ => ∃ (a b : Addr) (u : Wy) (ys zs : List V) (bs ss : List C3), vs = [.ref a, .ref b, .str u.s] ∧ SqL K H a ys ∧ Cs H ys bs ∧ SqL K H b zs ∧ Cs H zs ss ∧ bs.length ≤ 100000 ∧ ss.length ≤ 100000 ∧
  ∀ (o : Option (C3 × C3)) v H', IsHind u bs ss o → Same H H' → HV H' v o → Q v H'
end Pc
namespace L2
open PySem PySem.W Pc
theorem rd_top {K : PySem.W.Frag} {w : World} {H : Hp} {Q : VK} {a : Addr} {ax : Ax} (t : TopD K w a plD) (q : Q (.int ax.n) H) : rIxTop K w (.ref a) (.str ax.s) H Q := ⟨_, _, _, _, rfl, rfl, t, mem_ax ax, q⟩
end L2
namespace L2
open PySem PySem.W PyProof.Rows Srt Pc
theorem rd_isNn {H : Hp} {Q : VK} (h : Q (.bl true) H) : rIsN false .non .non H Q := ⟨rfl, h⟩
theorem rd_notNn {H : Hp} {Q : VK} (h : Q (.bl false) H) : rIsN true .non .non H Q := ⟨rfl, h⟩
theorem rd_isNi {H : Hp} {Q : VK} {i : Int} (h : Q (.bl false) H) : rIsN false (.int i) .non H Q := ⟨rfl, h⟩
end L2
namespace Pc
open PySem L2 Srt
theorem cut_ax (ax : Ax) (c : C3) (v : Int) : cutV c.v none (some ax.n) ++ [V.int v] ++ cutV c.v (some (ax.n + 1)) none = (ax.put v c).v := by
  obtain ⟨x, y, z⟩ := c
  cases ax <;> rfl
theorem ax_n03 (ax : Ax) : 0 ≤ ax.n ∧ ax.n < 3 := by cases ax <;> decide
theorem ln_put (ax : Ax) (c : C3) (v : Int) : lnI ax (ax.put v c) = lnI ax c := by obtain ⟨x, y, z⟩ := c; cases ax <;> rfl
theorem at_put (ax : Ax) (c : C3) (v : Int) : ax.at (ax.put v c) = v := by obtain ⟨x, y, z⟩ := c; cases ax <;> rfl
theorem put_at (ax : Ax) {c e : C3} (h : lnI ax e = lnI ax c) : e = ax.put (ax.at e) c := by
  obtain ⟨x, y, z⟩ := c
  obtain ⟨x', y', z'⟩ := e
  cases ax <;> simp only [lnI, List.cons.injEq, and_true] at h <;> obtain ⟨rfl, rfl⟩ := h <;> rfl
theorem put_put (ax : Ax) (c : C3) (v w : Int) : ax.put w (ax.put v c) = ax.put w c := by obtain ⟨x, y, z⟩ := c; cases ax <;> rfl
def stN (u : Wy) (c : C3) (k : Nat) : C3 := u.ax.put (u.ax.at c + (k : Int) * sg u.up) c
theorem stN_0 (u : Wy) (c : C3) : stN u c 0 = c := by
  unfold stN
  obtain ⟨⟩ | ⟨⟩ | ⟨⟩ := u.ax <;> obtain ⟨x, y, z⟩ := c <;> simp [Ax.put, Ax.at]
theorem stN_s (u : Wy) (c : C3) (k : Nat) : u.next (stN u c k) = stN u c (k + 1) := by
  unfold stN
  show u.ax.put (u.ax.at (u.ax.put (u.ax.at c + (k : Int) * sg u.up) c) + sg u.up) (u.ax.put (u.ax.at c + (k : Int) * sg u.up) c) = _
  rw [at_put, put_put]
  congr 1
  have : ((k + 1 : Nat) : Int) * sg u.up = (k : Int) * sg u.up + sg u.up := by
    rw [Int.natCast_add, Int.add_mul]; simp
  rw [this]; omega
theorem sg_cases (up : Bool) : (up = true ∧ sg up = 1) ∨ (up = false ∧ sg up = -1) := by cases up <;> simp [sg]
theorem ahead_st {u : Wy} {c e : C3} (h : lnI u.ax e = lnI u.ax c) (ha : ahd u.up (u.ax.at c) (u.ax.at e)) : ∃ j : Nat, 1 ≤ j ∧ (j : Int) = (if u.up = true then u.ax.at e - u.ax.at c else u.ax.at c - u.ax.at e) ∧ e = stN u c j := by
  unfold ahd at ha
  rcases sg_cases u.up with ⟨hu, hs⟩ | ⟨hu, hs⟩
  · rw [hu, if_pos rfl] at ha
    refine ⟨(u.ax.at e - u.ax.at c).toNat, by omega, by rw [hu, if_pos rfl]; omega, ?_⟩
    refine (put_at u.ax h).trans ?_
    unfold stN
    rw [hs]
    congr 1
    omega
  · rw [hu, if_neg (by decide)] at ha
    refine ⟨(u.ax.at c - u.ax.at e).toNat, by omega, by rw [hu, if_neg (by decide)]; omega, ?_⟩
    refine (put_at u.ax h).trans ?_
    unfold stN
    rw [hs]
    congr 1
    omega
end Pc
namespace Pc
open PySem L2 Srt
def IsW : Hp → V → Wy → Prop := fun _ v u => v = .str u.s
instance : Rep IsW := ⟨fun _ h => h, fun _ h => h⟩
theorem rs_ways {H : Hp} : ∀ us : List Wy, Rs IsW H (us.map fun u => V.str u.s) us
  | [] => .nil
  | u :: us => .cons rfl (rs_ways us)
end Pc
set_option Elab.async false
set_option linter.all false
set_option maxRecDepth 100000
set_option maxHeartbeats 4000000
namespace Pc
open PySem L2 Srt
def IsBump (u : Wy) (bs ss : List C3) : Option Nat → Prop
  | none => ∀ c ∈ bs, IsNear u ss c none
  | some k => 1 ≤ k ∧ (∃ c ∈ bs, stN u c k ∈ ss) ∧ ∀ c ∈ bs, ∀ j : Nat, 1 ≤ j → j < k → stN u c j ∉ ss
theorem ahd_st {u : Wy} {c : C3} {j : Nat} (h : 1 ≤ j) : ahd u.up (u.ax.at c) (u.ax.at (stN u c j)) := by
  have e : u.ax.at (stN u c j) = u.ax.at c + (j : Int) * sg u.up := at_put _ _ _
  rw [e]
  unfold ahd
  rcases sg_cases u.up with ⟨hu, hs⟩ | ⟨hu, hs⟩
  · rw [hs]; rw [hu, if_pos rfl]; omega
  · rw [hs]; rw [hu, if_neg (by decide)]; omega
theorem none_st {u : Wy} {ss : List C3} {c : C3} (h : IsNear u ss c none) {j : Nat} (hj : 1 ≤ j) : stN u c j ∉ ss := fun hm => h _ hm (ln_put _ _ _) (ahd_st hj)
theorem near_st {u : Wy} {ss : List C3} {c : C3} {M : Int} (h : IsNear u ss c (some M)) : ∃ j : Nat, 1 ≤ j ∧ M = u.ax.at c + (j : Int) * sg u.up ∧ stN u c j ∈ ss ∧ ∀ j' : Nat, 1 ≤ j' → j' < j → stN u c j' ∉ ss := by
  obtain ⟨⟨d, hd, e1, e2⟩, ha, hm⟩ := h
  subst e2
  obtain ⟨j, j1, j2, j3⟩ := ahead_st e1 ha
  have e0 : u.ax.at d = u.ax.at c + (j : Int) * sg u.up := by rw [j3]; exact at_put _ _ _
  refine ⟨j, j1, e0, j3 ▸ hd, fun j' h1 h2 hs => ?_⟩
  have h3 := hm _ hs (ln_put _ _ _) (ahd_st h1)
  have e : u.ax.at (stN u c j') = u.ax.at c + (j' : Int) * sg u.up := at_put _ _ _
  rw [e, e0] at h3
  unfold ahd at h3
  rcases sg_cases u.up with ⟨hu, hs⟩ | ⟨hu, hs⟩
  · rw [hs] at h3; rw [hu, if_pos rfl] at h3; omega
  · rw [hs] at h3; rw [hu, if_neg (by decide)] at h3; omega
def bv : Option Nat → V
  | none => .non
  | some k => .int (k : Int)
def spBump (K : PySem.W.Frag) : Sp := fun vs H Q _ => ∃ (a b : Addr) (u : Wy) (ys zs : List V) (bs ss : List C3), vs = [.ref a, .ref b, .str u.s] ∧ SqL K H a ys ∧ Cs H ys bs ∧ SqL K H b zs ∧ Cs H zs ss ∧ bs.length ≤ 1000 ∧ ss.length ≤ 1000 ∧ (∀ c ∈ bs, c.within 60) ∧ (∀ c ∈ ss, c.within 60) ∧
  ∀ (o : Option Nat) H', IsBump u bs ss o → Same H H' → Q (bv o) H'
end Pc
set_option Elab.async false
set_option linter.all false
set_option maxRecDepth 100000
set_option maxHeartbeats 4000000
namespace L2
open PySem PySem.Spec PyProof.Rows PySem.W Srt Pc
def ItnL (K : PySem.W.Frag) (a : Addr) : It :=
  ⟨fun i H => ∃ xs x, SqL K H a xs ∧ xs[i]? = some x, fun i H v H' => ∃ T x, H T = none ∧ v = .ref T ∧ H' = upd H T (.tup [.int (i : Int), x]) ∧ ∀ xs, SqL K H a xs → xs[i]? = some x, fun i H => ∃ xs, SqL K H a xs ∧ xs.length = i⟩
theorem turn_enumL {P : Program} {w : World} {K : PySem.W.Frag} {elts : List Expr} {tk : Nat} {tpos : Pos} {a e it : Addr} (hei : e ≠ it) (hea : e ≠ a) (hia : a ≠ it) :
    Turn P w K (.Tuple elts tk tpos) (ItnL K a) [e, it] e (fun i h => (∃ old, IsEnum h e it i old) ∧ h.IsListIter it a i) where
  mem := by simp
  obj := fun i h st b hb => by
    obtain ⟨⟨old, h1⟩, ⟨o, h2, h3, h4⟩⟩ := st
    simp only [List.mem_cons, List.not_mem_nil, or_false] at hb
    rcases hb with rfl | rfl
    · exact ⟨_, h1, fun v z => by cases z⟩
    · exact ⟨_, h2, fun v z => by rw [h4] at z; cases z⟩
  keep := fun i h h' st k => ⟨let ⟨old, h1⟩ := st.1; ⟨old, k e (by simp) _ h1⟩, st.2.at fun o z => k it (by simp) o z⟩
  item := by
    rintro X rfl rfl rfl hc i pins s σ H E I hf ⟨⟨old, h1⟩, h2⟩ ⟨xs, x, sx, ex⟩
    obtain ⟨its, rv, p, hz⟩ := I.list sx
    have p : s.heap.IsList a its.toArray := p.isList
    obtain ⟨u, hu, ru⟩ := rv.get ex
    have hl := rv.length
    have hlt : i < its.toArray.size := by
      rw [List.size_toArray]
      exact (List.getElem?_eq_some_iff.mp hu).1
    refine wpAny_pyNext_enum_itemD (Draws.list (prog := X.prog) (w := X.w) (A := X.A.in1) (I.ok.hd hc) it a hia its.toArray) h1 ⟨h2, p⟩ hlt hei (by simp [hei, hea]) fun v h' tk hv ho st' hT hsz kk => ?_
    have hv : its.toArray[i]? = some v := hv
    rw [List.getElem?_toArray, hu] at hv
    cases hv
    refine ⟨_, rfl, wpAny_letOwnedTupleGo_enum ho fun h'' b1 b2 => ?_⟩
    have elt : e < s.heap.objs.size := Heap.lt_size h1
    obtain ⟨oi, hoi, _⟩ := id h2
    have ilt : it < s.heap.objs.size := Heap.lt_size hoi
    have I2 := I.turnNew (t' := tk + 1) (h' := h'') (fp := [e, it]) (its := [.int (i : Int) tk, u]) (xs := [.int (i : Int), x]) hf (fun b o hb z => by
        simp only [List.mem_cons, List.not_mem_nil, or_false, not_or] at hb
        exact b2.extBut b o hb.1 (kk b o hb.1 hb.2 z))
      (b2.extBut _ _ (Nat.ne_of_gt elt) hT) rfl rfl (.cons ⟨tk, rfl⟩ (.cons ru .nil)) (by show 2 ≤ sizeLine; decide)
    refine ⟨.ref s.heap.objs.size, _, I2, rfl, ⟨_, x, I.fresh, rfl, rfl, fun xs' q => by rw [I.list_inj q sx]; exact ex⟩, ⟨⟨u, by simpa using b1⟩, st'.1.at fun o z => b2.extBut _ _ hei.symm z⟩, fun b hb => ?_⟩
    have : b < s.heap.objs.size := by
      simp only [List.mem_cons, List.not_mem_nil, or_false] at hb
      rcases hb with rfl | rfl
      · exact elt
      · exact ilt
    rw [upd_ne (Nat.ne_of_lt this)]
    exact (hf b hb).1
  done := by
    rintro X rfl rfl rfl hc i pins s σ H E I hf ⟨⟨old, h1⟩, h2⟩ ⟨xs, sx, hlen⟩
    obtain ⟨its, rv, p, hz⟩ := I.list sx
    have p : s.heap.IsList a its.toArray := p.isList
    have hl := rv.length
    have e0 : its.toArray.size = i := by rw [List.size_toArray]; omega
    obtain ⟨f0, f1, f2, f3, f4, f5⟩ := hf it (by simp)
    exact wpAny_pyNext_enum_endD (Draws.list (prog := X.prog) (w := X.w) (A := X.A.in1) (I.ok.hd hc) it a hia its.toArray) h1 ⟨e0 ▸ h2, p⟩ fun h' eb => ⟨rfl, I.turned (t' := s.toks) (fun b o hb z => eb b o hb z) f0 f1 f3 f4 f5⟩
  self := fun _ _ _ _ _ st h => let ⟨_, h1⟩ := st.1; wpAny_pyIter_enum h1 h
section
variable {X : Cx} {K : PySem.W.Frag}
def iEnumL (K : PySem.W.Frag) (ta : TA) : TI := fun σ H R => ta σ H fun vs H1 => ∃ a, vs = [.ref a] ∧ (∃ xs, SqL K H1 a xs) ∧ R (ItnL K a) H1
theorem pi_enumL {elts : List Expr} {tk : Nat} {tpos : Pos} {a : Expr} {ta : TA} {p pos : Pos} (hg : Gl X "enumerate") (hm : X.mg "enumerate" = none) (ha : PA X [a] ta) (hs : starEach [a] X.env = [(false, eval a X.env)] := by rfl) :
    PI X (.Tuple elts tk tpos) (.Call (.Name "enumerate" p) [a] [] pos) (iEnumL X.K ta) := by
  intro pins s σ H R I h
  refine Call_ (ld_blt I hg hm b_enumerate (PyProof.Rows.callWith_type1 (thn (ha pos pins s σ H _ I h) fun us s1 ⟨vs, H1, I1, r1, q1⟩ => ?_) hs rfl))
  obtain ⟨x, e, ⟨xs, sx⟩, q⟩ := q1
  subst e
  cases r1 with
  | cons r rr =>
    cases rr
    cases r
    obtain ⟨its, rv, p1, hz⟩ := I1.list sx
    have p1 : s1.heap.IsList x its.toArray := p1.isList
    obtain ⟨o1, e1, _⟩ := id p1
    have xlt := Heap.lt_size e1
    refine call_enumerate_list p1 fun h' he hit _ hk => wpAny_pyIter_enum he ?_
    have I2 : Inv X pins σ H1 { s1 with heap := h' } := I1.kept (t' := s1.toks) hk
    refine ⟨s1.heap.objs.size + 1, [s1.heap.objs.size + 1, s1.heap.objs.size], _, _, H1, rfl, I2, turn_enumL (a := x) (Nat.succ_ne_self _) (Nat.ne_of_gt (Nat.lt_succ_of_lt xlt)) (Nat.ne_of_lt xlt), ⟨⟨_, he⟩, hit⟩, fun b hb => ?_, q⟩
    have hge : s1.heap.objs.size ≤ b := by
      simp only [List.mem_cons, List.not_mem_nil, or_false] at hb
      rcases hb with rfl | rfl <;> omega
    exact I1.fpOk hge (I1.hok.fresh hge)
theorem qi_enumL {elts : List Expr} {tk : Nat} {tpos : Pos} {a : Expr} {ta : TA} {p pos : Pos} (hK : X.K = K) (hg : Gl X "enumerate") (hm : X.mg "enumerate" = none) (ha : QA X [a] ta) (hs : starEach [a] X.env = [(false, eval a X.env)] := by rfl) :
    QI X (.Tuple elts tk tpos) (.Call (.Name "enumerate" p) [a] [] pos) (iEnumL K ta) := ⟨hK ▸ pi_enumL hg hm ha.r hs⟩
theorem rd_ienumL {σ : St} {H : Hp} {ta : TA} {R : It → Hp → Prop} (h : ta σ H fun vs H1 => ∃ a, vs = [.ref a] ∧ (∃ xs, SqL K H1 a xs) ∧ R (ItnL K a) H1) : iEnumL K ta σ H R := h
theorem feeds_enumL {α : Type} {R : Hp → V → α → Prop} [Rep R] {H : Hp} {a : Addr} {ys : List V} {xs : List α} (h : SqL K H a ys) (r : Rs R H ys xs) : Feeds (ItnL K a) H ((List.range xs.length).zip xs) (IsN R) where
  stop := fun H' s => ⟨ys, s.seq h, by rw [r.len]; simp⟩
  go := fun i x H' s e => by
    have hi : i < xs.length := by
      rcases Nat.lt_or_ge i xs.length with z | z
      · exact z
      · rw [List.getElem?_eq_none (by simpa using z)] at e; cases e
    rw [List.getElem?_zip_eq_some] at e
    obtain ⟨e1, e2⟩ := e
    rw [List.getElem?_range hi] at e1
    have e1 : i = x.1 := Option.some.inj e1
    obtain ⟨v, e3, q⟩ := r.get' e2
    refine ⟨⟨ys, v, s.seq h, e3⟩, fun v' H2 y => ?_⟩
    obtain ⟨T, u, hT, rfl, rfl, hu⟩ := y
    have e4 := hu _ (s.seq h)
    rw [e3] at e4
    obtain rfl := Option.some.inj e4
    refine ⟨same_new hT, T, _, rfl, ?_, Rep.up (s.trans (same_new hT)) q⟩
    rw [upd_same, e1]
end
end L2
namespace Pc
open PySem L2 Srt
structure Mp (f : C3 → C3) (ax ax' : Ax) (k : Int) (cs cs' : List C3) : Prop where
  inj : ∀ c d, f c = f d → c = d
  at' : ∀ c, ax'.at (f c) = ax.at c + k
  nx : ∀ up c, (Wy.mk ax' up).next (f c) = f ((Wy.mk ax up).next c)
  mem : ∀ d, d ∈ cs' ↔ ∃ c ∈ cs, f c = d
section
variable {f : C3 → C3} {ax ax' : Ax} {k : Int} {cs cs' : List C3}
end
section
variable {ax : Ax} {cs : List C3}
end
end Pc
set_option Elab.async false
set_option linter.all false
set_option maxRecDepth 100000
set_option maxHeartbeats 4000000
namespace L2
open PySem PySem.Spec PyProof.Rows PySem.W
section
variable {X : Cx} {K : PySem.W.Frag}
end
end L2
namespace Pc
open PySem L2 Srt
def tw (h n : Int) : Int := if h ≤ n then n - 1 else n + 1
def SpR (sz lo : C3) : Hp → V → Int → Prop := fun _ v i => ∃ n : Int, v = .int n ∧ ∀ ax : Ax, ax.n = i → ax.at lo ≤ n ∧ n < ax.at lo + ax.at sz
instance {sz lo : C3} : Rep (SpR sz lo) := ⟨fun _ h => h, fun _ h => h⟩
theorem ax_of {i : Int} (h0 : 0 ≤ i) (h3 : i < 3) : ∃ ax : Ax, ax.n = i := by
  rcases (by omega : i = 0 ∨ i = 1 ∨ i = 2) with h | h | h <;> subst h
  · exact ⟨.x, rfl⟩
  · exact ⟨.y, rfl⟩
  · exact ⟨.z, rfl⟩
theorem ax_str (ax : Ax) : ∃ c, atI (Str.ofString "xyz").cps.toList ax.n = some c ∧ (⟨#[c]⟩ : Str) = ax.s := by
  cases ax <;> exact ⟨_, rfl, by decide +kernel⟩
end Pc
set_option Elab.async false
set_option linter.all false
set_option maxRecDepth 100000
set_option maxHeartbeats 400000
namespace L2
open PySem PySem.W PySem.Spec PyProof.Rows Srt Pc
section
variable {X : Cx} {K : PySem.W.Frag}
def rSortI (K : PySem.W.Frag) : List V → Hp → VK → Prop := fun xs H Q => ∃ (l : Addr) (ns : List Int), xs = [.ref l] ∧ SqL K H l (ns.map V.int) ∧ ns.length < 64 ∧
  ∀ (p : Addr) (ms : List Int), H p = none → ms.Perm ns → ms.Pairwise (· ≤ ·) → Q (.ref p) (upd H p (.lst (ms.map V.int)))
theorem vals_of_ints : ∀ {its : List Value} {ns : List Int}, IntsAre its ns → Vals (ns.map V.int) its
  | _, _, .nil => .nil
  | _, _, .cons n t h => .cons ⟨t, rfl⟩ (vals_of_ints h)
theorem key_ints {its : List Value} {ns : List Int} (hI : IntsAre its ns) (h2 : 2 ≤ its.length) : keyKind' its.toArray = pure oneType' := by
  cases its with
  | nil => simp at h2
  | cons v1 r =>
    cases r with
    | nil => simp at h2
    | cons v2 rest => exact keyKind_ints hI
theorem asc_short {ns : List Int} (h : ns.length < 2) : ns.Pairwise (· ≤ ·) := by
  cases ns with
  | nil => exact .nil
  | cons a r =>
    cases r with
    | nil => exact .cons (fun _ h => nomatch h) .nil
    | cons b r => simp only [List.length_cons] at h; omega
theorem intO : Ordr (fun a b : Int => decide (a < b)) := by
  refine ⟨fun a => by simp, fun a b c h1 h2 => ?_, fun a b h1 h2 => ?_, fun a b h => ?_⟩
  all_goals simp only [decide_eq_false_iff_not, decide_eq_true_eq] at *
  all_goals omega
theorem call_sortI : CallR X (.builtin "sorted") (rSortI X.K) := by
  intro pins s σ H xs us Q I r h
  obtain ⟨l, ns, rfl, hl, h64, q⟩ := h
  obtain ⟨u, rfl, ru⟩ := vals1 r
  cases ru
  obtain ⟨its, rv, pl, hz⟩ := I.list hl
  have hI := intsAre_of rv
  have hlen : its.length = ns.length := by have := rv.length; simpa using this.symm
  have hz' : its.length ≤ sizeLine := by have := rv.length; omega
  have hn : H (s.heap.objs.size + 1) = none := I.hok.fresh (Nat.le_succ _)
  by_cases h2 : 2 ≤ its.length
  · refine Tim.sorted_any (lt := fun a b : Int => decide (a < b)) (k := fun x => numOf x.1) (S := fun x => x.1 ∈ its) (kind := oneType') pl.isList h2 (by omega) (fun h' kk {Q' E'} hQ => ?_) (fun h' kk => ⟨intO, fun x y hx hy {Q' E'} hQ => ?_⟩) (fun v hv => hv) fun out hp hs => ?_
    · rw [key_ints hI h2]
      exact wpAny_pure hQ
    · obtain ⟨a, t, ea⟩ := hI.all _ hx
      obtain ⟨b, t', eb⟩ := hI.all _ hy
      rw [ea, eb] at hQ ⊢
      rw [keyLt'_oneType]
      exact oneLt_int hQ
    · have hO : IntsAre out (out.map numOf) := intsAre_map out fun v hv => hI.all v (hp.mem_iff.mp hv)
      have hN : its.map numOf = ns := hI.nums
      have hP : (out.map numOf).Perm ns := by rw [← hN]; exact hp.map _
      have hS : (out.map numOf).Pairwise (· ≤ ·) := by
        rw [List.pairwise_map]
        refine hs.imp fun {x y} z => ?_
        have z : decide (numOf y < numOf x) = false := z
        rw [decide_eq_false_iff_not] at z
        omega
      obtain ⟨e, he⟩ := sortedAll_at s.heap its out.toArray
      have q2 := vals_of_ints hO
      have hzl : ((out.map numOf).map V.int).length ≤ sizeLine := by rw [q2.length, hp.length_eq]; exact hz'
      exact ⟨.ref (s.heap.objs.size + 1), upd H (s.heap.objs.size + 1) (.lst ((out.map numOf).map V.int)), I.laid (t' := s.toks) (fun b o h => sortedAll_old h) (Nat.le_succ _) ⟨hzl, out, e, q2, he⟩, rfl, q _ _ hn hP hS⟩
  · refine sorted_short pl.isList (by omega) ?_
    obtain ⟨e, he⟩ := sortedAll_at s.heap its its.toArray
    refine ⟨.ref (s.heap.objs.size + 1), upd H (s.heap.objs.size + 1) (.lst (ns.map V.int)), I.laid (t' := s.toks) (fun b o h => sortedAll_old h) (Nat.le_succ _) ⟨hz, its, e, rv, he⟩, rfl, q _ ns hn (List.Perm.refl _) (asc_short (by omega))⟩
theorem qc_sortI (h : X.K = K) : QCl X (.builtin "sorted") (rSortI K) := ⟨h ▸ call_sortI⟩
theorem rd_sortI {H : Hp} {Q : VK} {l : Addr} {ns : List Int} (h : SqL K H l (ns.map V.int)) (h64 : ns.length < 64) (q : ∀ (p : Addr) (ms : List Int), H p = none → ms.Perm ns → ms.Pairwise (· ≤ ·) → Q (.ref p) (upd H p (.lst (ms.map V.int)))) : rSortI K [.ref l] H Q := ⟨l, ns, rfl, h, h64, q⟩
theorem hid_upd {H : Hp} {p : Addr} {o : HO} : hid (upd H p o) p = hid H p := by
  funext q
  unfold hid
  by_cases h : q = p
  · rw [if_pos h, if_pos h]
  · rw [if_neg h, if_neg h, upd_ne h]
theorem hid_up {H H' : Hp} {p : Addr} (s : Same H H') : Same (hid H p) (hid H' p) := fun b o h => by
  unfold hid at h ⊢
  split at h
  · cases h
  · rename_i hb
    rw [if_neg hb]
    exact s _ _ h
theorem comp_relL {α : Type} {R S : Hp → V → α → Prop} (Sup : ∀ {H H' : Hp} {v : V} {x : α}, Same H H' → S H v x → S H' v x) {J : It} {xs : List α} {acc : Addr} {Q : VK} {g : TG} {tc : TT} {te : TE} {H : Hp} (p : α → Bool) (n : Nat) (rest : St) (hF : Feeds J H xs R) (hz : xs.length ≤ 16000000) (hacc : H acc = none)
    (turn : ∀ (os : St) (v : V) (x : α) (H' : Hp) (zs : List V) (R1 : St → VK) (R0 : St → Hp → Prop), os.length = n → Same H H' → H' acc = some (.lst zs) → x ∈ xs → R H' v x →
      (∀ os' r H'', os'.length = n → Same H' H'' → p x = true → S (hid H'' acc) r x → R1 (os' ++ rest) r H'') → (∀ os' H'', os'.length = n → Same H' H'' → p x = false → R0 (os' ++ rest) H'') →
      g v (os ++ rest) H' fun σ3 H3 => tc σ3 H3 fun b H4 => if b = true then te σ3 H4 (R1 σ3) else R0 σ3 H4)
    (done : ∀ (zs : List V) (H' : Hp), Same H H' → H' acc = some (.lst zs) → Rs S H' zs (xs.filter p) → Q (.ref acc) H') :
    CompGo acc Q g tc te J (List.replicate n none ++ rest) (upd H acc (.lst [])) := by
  have rup : ∀ {H H' : Hp} {ys : List V} {xs : List α}, Same H H' → Rs S H ys xs → Rs S H' ys xs := fun s h => Paired.mapP h fun _ _ q => Sup s q
  refine comp_turns (n := xs.length) (fun i σ' H' => (∃ os : St, os.length = n ∧ σ' = os ++ rest) ∧ Same H H' ∧ ∃ zs, H' acc = some (.lst zs) ∧ Rs S (hid H' acc) zs ((xs.take i).filter p)) ?_ ?_ ?_
  · exact ⟨⟨_, by simp, rfl⟩, same_new hacc, [], upd_same, .nil⟩
  · rintro σ' H' ⟨_, s1, zs, e1, r1⟩
    rw [List.take_of_length_le (Nat.le_refl _)] at r1
    exact ⟨hF.stop H' s1, done zs H' s1 e1 (rup hid_same r1)⟩
  · rintro i σ' H' hi ⟨⟨os, ho, rfl⟩, s1, zs, e1, r1⟩
    have ex : xs[i]? = some xs[i] := List.getElem?_eq_getElem hi
    obtain ⟨g1, g2⟩ := hF.go i _ H' s1 ex
    refine ⟨g1, fun v H2 y => ?_⟩
    obtain ⟨s2, q⟩ := g2 v H2 y
    refine turn os v xs[i] H2 zs _ _ ho (s1.trans s2) (s2 _ _ e1) (List.getElem_mem hi) q (fun os' r H'' ho' s3 hp hs => ?_) (fun os' H'' ho' s3 hp => ?_)
    · have hl : zs.length < sizeLine := by
        have h1 := r1.len
        have h2 := List.length_filter_le p (xs.take i)
        rw [List.length_take] at h2
        rw [sizeLine_eq]
        omega
      refine ⟨zs, s3 _ _ (s2 _ _ e1), hl, ⟨os', ho', rfl⟩, same_up (s1.trans (s2.trans s3)) hacc, _, upd_same, ?_⟩
      rw [take_snoc ex, List.filter_append, hid_upd]
      have e2 : [xs[i]].filter p = [xs[i]] := by rw [List.filter_cons, hp]; rfl
      rw [e2]
      exact Rs.app (rup (hid_up (s2.trans s3)) r1) (.cons hs .nil)
    · refine ⟨⟨os', ho', rfl⟩, s1.trans (s2.trans s3), zs, s3 _ _ (s2 _ _ e1), ?_⟩
      rw [take_snoc ex, List.filter_append]
      have e2 : [xs[i]].filter p = [] := by rw [List.filter_cons, hp]; rfl
      rw [e2, List.append_nil]
      exact rup (hid_up (s2.trans s3)) r1
end
end L2
set_option Elab.async false
set_option linter.all false
set_option maxRecDepth 100000
set_option maxHeartbeats 1000000
namespace Pc
open PySem L2 Srt
end Pc
namespace Pc
open PySem L2 Srt
def IsIL : Hp → V → List Int → Prop := fun H v ms => ∃ p, v = .ref p ∧ H p = some (.lst (ms.map V.int))
structure LnK (H0 H : Hp) (d : Addr) (ax : Ax) (cs : List C3) (kvs : List (List Key × V)) : Prop extends Ln H0 H d ax cs kvs where
  ks : ∀ kv ∈ kvs, ∃ k, kv.1 = kI k ∧ valV kvs (kI k) = some kv.2
end Pc
namespace L2
open PySem PySem.W PyProof.Rows Srt Pc
theorem rd_neL0 {K : PySem.W.Frag} {H : Hp} {Q : VK} {x : V} {b : Addr} {ds : List PyData} (hx : Dat K H x (.list ds)) (sd : SeqAt.shaped (.list ds) = true) (hb : H b = some (.lst [])) (q : Q (.bl (!ds.isEmpty)) H) : rEqD K true x (.ref b) H Q :=
  ⟨_, .list [], hx, .lst (SqL.of hb) .nil, sd, by decide +kernel, by
    have e : PyData.eqv (.list ds) (.list []) = ds.isEmpty := by
      cases ds <;> simp [PyData.eqv, PyData.eqvAll]
    rw [e]; exact q⟩
theorem shp_ints (ns : List Int) : Shp 1 (.list (ns.map PyData.int)) := shp_map (n := 0) (f := PyData.int) (fun i => shp_int i) ns
theorem dat_ints {K : PySem.W.Frag} {H : Hp} {p : Addr} {ns : List Int} (h : H p = some (.lst (ns.map V.int))) : Dat K H (.ref p) (.list (ns.map PyData.int)) := .lst (SqL.of h) (dats_ints ns)
theorem at_last {ns : List Int} {L : Int} (h : ns.getLast? = some L) : atI (ns.map V.int) (-1) = some (.int L) := by
  have hl : 0 < ns.length := by
    cases ns with
    | nil => cases h
    | cons => simp
  unfold atI ixN
  rw [List.length_map, if_neg (by decide), if_pos (by omega)]
  show (ns.map V.int)[(-1 + (ns.length : Int)).toNat]? = _
  rw [List.getElem?_map, show (-1 + (ns.length : Int)).toNat = ns.length - 1 by omega, ← List.getLast?_eq_getElem?, h]
  rfl
end L2
namespace Pc
open PySem L2 Srt
end Pc
namespace Pc
open PySem L2 Srt
def IsV2 : Hp → V → V × List Int → Prop := fun _ v x => v = x.1
instance : Rep IsV2 := ⟨fun _ h => h, fun _ h => h⟩
end Pc
namespace Pc
open PySem L2 Srt
def IsV : Hp → V → V → Prop := fun _ v x => v = x
instance : Rep IsV := ⟨fun _ h => h, fun _ h => h⟩
theorem rs_v {H : Hp} : ∀ zs : List V, Rs IsV H zs zs
  | [] => .nil
  | _ :: zs => .cons rfl (rs_v zs)
end Pc
set_option Elab.async false
set_option linter.all false
set_option maxRecDepth 100000
set_option maxHeartbeats 1000000
namespace Pc
open PySem L2 Srt
def PA (H : Hp) (v : V) (x : List C3 × Wy) : Prop := ∃ p b ys, v = .ref p ∧ H p = some (.tup [.ref b, .str x.2.s]) ∧ H b = some (.lst ys) ∧ Cs H ys x.1
theorem PA.up {H H' : Hp} {v : V} {x : List C3 × Wy} (s : Same H H') (h : PA H v x) : PA H' v x := let ⟨p, b, ys, e1, e2, e3, e4⟩ := h; ⟨p, b, ys, e1, s _ _ e2, s _ _ e3, Rs.up s e4⟩
def Parts (H : Hp) (a : Addr) (ps : List (List C3 × Wy)) : Prop := ∃ zs, H a = some (.lst zs) ∧ Rs PA H zs ps
theorem Parts.up {H H' : Hp} {a : Addr} {ps : List (List C3 × Wy)} (s : Same H H') (h : Parts H a ps) : Parts H' a ps := let ⟨zs, e, r⟩ := h; ⟨zs, s _ _ e, Paired.mapP r fun _ _ q => PA.up s q⟩
def hinds (u : Wy) (bs ss : List C3) : Prop := ∃ c ∈ bs, ∃ d ∈ ss, lnI u.ax d = lnI u.ax c ∧ ahd u.up (u.ax.at c) (u.ax.at d)
theorem hind_none {u : Wy} {bs ss : List C3} (h : IsHind u bs ss none) : ¬ hinds u bs ss := by
  rintro ⟨c, hc, d, hd, e1, e2⟩
  exact h c hc d hd e1 e2
theorem hind_some {u : Wy} {bs ss : List C3} {p : C3 × C3} (h : IsHind u bs ss (some p)) : hinds u bs ss := by
  obtain ⟨c, d⟩ := p
  obtain ⟨i, ei, _, M, hM, _⟩ := h
  obtain ⟨⟨e, he, e1, e2⟩, h2, _⟩ := hM
  exact ⟨c, List.mem_of_getElem? ei, e, he, e1, by rw [e2]; exact h2⟩
open Classical in
noncomputable def heldB (ps : List (List C3 × Wy)) (i j : Nat) : Bool := decide (j ≠ i ∧ ∃ x y, ps[i]? = some x ∧ ps[j]? = some y ∧ hinds x.2 x.1 y.1)
noncomputable def heldI (ps : List (List C3 × Wy)) (i : Nat) : List Int := ((List.range ps.length).filter (heldB ps i)).map fun j : Nat => (j : Int)
open Classical in
theorem held_eq {ps : List (List C3 × Wy)} {i j : Nat} : heldB ps i j = true ↔ j ≠ i ∧ ∃ x y, ps[i]? = some x ∧ ps[j]? = some y ∧ hinds x.2 x.1 y.1 := by
  unfold heldB
  rw [decide_eq_true_eq]
def PsOk (ps : List (List C3 × Wy)) : Prop := ps.length ≤ 100 ∧ ∀ x ∈ ps, x.1.length ≤ 1000
def spHolders (K : PySem.W.Frag) : Sp := fun vs H Q _ => ∃ (a : Addr) (i : Nat) (ps : List (List C3 × Wy)), vs = [.ref a, .int (i : Int)] ∧ Parts H a ps ∧ PsOk ps ∧ i < ps.length ∧ ∀ p H', Same H H' → H p = none → H' p = some (.lst ((heldI ps i).map V.int)) → Q (.ref p) H'
def IsNL (H0 : Hp) (H : Hp) (v : V) (ms : List Int) : Prop := ∃ p, v = .ref p ∧ H p = some (.lst (ms.map V.int)) ∧ H0 p = none
def spHeld (K : PySem.W.Frag) : Sp := fun vs H Q _ => ∃ (a : Addr) (ps : List (List C3 × Wy)), vs = [.ref a] ∧ Parts H a ps ∧ PsOk ps ∧ ∀ p zs H', Same H H' → H p = none → H' p = some (.lst zs) → Rs (IsNL H) H' zs ((List.range ps.length).map (heldI ps)) → Q (.ref p) H'
theorem rs_map {α β : Type} {R : Hp → V → β → Prop} {H : Hp} {f : α → β} : ∀ {zs : List V} {xs : List α}, Rs (fun H v x => R H v (f x)) H zs xs → Rs R H zs (xs.map f)
  | _, _, .nil => .nil
  | _, _, .cons h t => .cons h (rs_map t)
end Pc
namespace Pc
open PySem L2 Srt
end Pc
namespace Pc
open PySem L2 Srt
end Pc
set_option Elab.async false
set_option linter.all false
set_option maxRecDepth 100000
set_option maxHeartbeats 4000000
namespace L2
open PySem PySem.Spec PyProof.Rows
section
variable {X : Cx}
theorem ints_vals : ∀ {ns : List Int} {its : List Value}, Vals (ns.map V.int) its → IntsAre its ns
  | [], _, h => by cases h; exact .nil
  | n :: r, _, h => by
    cases h with
    | cons a b =>
      obtain ⟨t, rfl⟩ := a
      exact .cons n t (ints_vals b)
theorem map_eraseIdx {α β : Type} (f : α → β) : ∀ (l : List α) (i : Nat), (l.map f).eraseIdx i = (l.eraseIdx i).map f
  | [], _ => rfl
  | _ :: _, 0 => rfl
  | a :: r, i + 1 => by simp [List.eraseIdx_cons_succ, map_eraseIdx f r i]
theorem erase_idx (k : Int) : ∀ l : List Int, l.erase k = l.eraseIdx (l.idxOf k)
  | [] => rfl
  | a :: r => by
    rw [List.erase_cons, List.idxOf_cons]
    cases h : a == k with
    | true => rfl
    | false => simp [erase_idx k r]
def rRemoveI : V → List V → Hp → VK → Prop := fun x vs H Q => ∃ (l : Addr) (ns : List Int) (k : Int), x = .ref l ∧ vs = [.int k] ∧ H l = some (.lst (ns.map V.int)) ∧ k ∈ ns ∧ Q .non (upd H l (.lst ((ns.erase k).map V.int)))
theorem mt_removeI : MtM X "list.remove" rRemoveI := by
  intro pins s σ H x vs v us Q I rx rv h
  obtain ⟨l, ns, k, rfl, rfl, hH, hk, q⟩ := h
  cases rx
  obtain ⟨u, rfl, t, rfl⟩ := rv.one
  obtain ⟨z, its, n, r, hl, e⟩ := I.lstM hH
  have ia := ints_vals r
  have lt : ns.idxOf k < ns.length := List.idxOf_lt_length_iff.mpr hk
  rw [List.length_map] at hl z
  refine call_meets F.slot_list_remove ⟨_, e, rfl⟩ F.entry_list_remove (F.args_list_remove_2 _ _)
    (MeetsSeq.list_remove l its.toArray n (.int k t) (isInt k) (fun y hy => eq_isInt k t ia y (by simpa using hy)) (ns.idxOf k) (by rw [List.size_toArray]; omega) ?_ ?_ (by rw [List.size_toArray]; omega)) ⟨e, ?_⟩
  · show isInt k (its[ns.idxOf k]'(by omega)) = true
    rw [isInt_at k ia (ns.idxOf k) (by omega) lt]
    simp
  · intro j h1 h2
    have h1 : j < its.length := by simpa using h1
    show isInt k its[j] = false
    rw [isInt_at k ia j h1 (by omega)]
    exact ne_of_lt_idxOf h2 (by omega)
  · refine ⟨.non, _, I.lset (its' := its.eraseIdx (ns.idxOf k)) (ys := (ns.erase k).map V.int) hH e ?_ ?_ ?_, rfl, q⟩
    · show its.toArray.eraseIdxIfInBounds (ns.idxOf k) = _
      rw [List.eraseIdxIfInBounds_toArray]
    · rw [erase_idx, ← map_eraseIdx]
      exact r.eraseIdx _
    · rw [List.length_map]
      have := List.length_erase_le (a := k) (l := ns)
      omega
def rIndexI (K : PySem.W.Frag) : V → List V → Hp → VK → Prop := fun x vs H Q => ∃ (l : Addr) (ns : List Int) (k : Int), x = .ref l ∧ vs = [.int k] ∧ SqL K H l (ns.map V.int) ∧ k ∈ ns ∧ ns.length ≤ 100000 ∧ Q (.int (ns.idxOf k : Nat)) H
theorem mt_indexI : MtR X "list.index" (rIndexI X.K) := by
  intro pins s σ H x vs v us Q I rx rv h
  obtain ⟨l, ns, k, rfl, rfl, hH, hk, hz, q⟩ := h
  cases rx
  obtain ⟨u, rfl, t, rfl⟩ := rv.one
  obtain ⟨its, r, pl, _⟩ := I.list hH
  obtain ⟨⟨cls, dd, data, sl⟩, ho, hc, n, hd⟩ := id pl.isList
  simp only at hc hd
  subst hc hd
  have ia := ints_vals r
  have hlen := ia.length
  have lt : ns.idxOf k < ns.length := List.idxOf_lt_length_iff.mpr hk
  refine call_meets F.slot_list_index ⟨_, ho, rfl⟩ F.entry_list_index (F.args_list_index_2 _ _)
    (SeqAt.list_indexAt l its.toArray n dd sl (.int k t) (isInt k) (ns.idxOf k) (by simpa [hlen] using lt) (by omega) ?_ ?_) ⟨ho, fun y hy => (eq_isInt k t ia y (by simpa using hy)).at _ _, ⟨.int (ns.idxOf k : Nat), H, I.tok _, ⟨_, rfl⟩, q⟩⟩
  · show isInt k (its[ns.idxOf k]'(by omega)) = true
    rw [isInt_at k ia (ns.idxOf k) (by omega) lt]
    simp
  · intro j h1 h2
    have h1 : j < its.length := by simpa using h1
    show isInt k its[j] = false
    rw [isInt_at k ia j h1 (by omega)]
    exact ne_of_lt_idxOf h2 (by omega)
end
theorem mt_indexK {X : Cx} {K : PySem.W.Frag} (h : X.K = K) : MtR X "list.index" (rIndexI K) := h ▸ mt_indexI
theorem flat_ints (ns : List Int) : (ns.map V.int).all flatV = true := by
  rw [List.all_map]; exact List.all_eq_true.mpr fun _ _ => rfl
theorem inV_ints (k : Int) (ns : List Int) : inV (.int k) (ns.map V.int) = decide (k ∈ ns) := by
  unfold inV
  rw [List.any_map]
  induction ns with
  | nil => rfl
  | cons a r ih =>
    rw [List.any_cons, ih]
    by_cases h : a = k
    · subst h; simp [eqV]
    · simp [eqV, h, Ne.symm h]
theorem rd_inI {K : PySem.W.Frag} {H : Hp} {Q : VK} {p : Addr} {k : Int} {ns : List Int} (h : SqL K H p (ns.map V.int)) (q : Q (.bl (decide (k ∈ ns))) H) : rIn K false (.int k) (.ref p) H Q := ⟨p, _, rfl, .inl h, rfl, flat_ints ns, by rw [inV_ints]; exact q⟩
theorem rd_notInI {K : PySem.W.Frag} {H : Hp} {Q : VK} {p : Addr} {k : Int} {ns : List Int} (h : SqL K H p (ns.map V.int)) (q : Q (.bl (!decide (k ∈ ns))) H) : rIn K true (.int k) (.ref p) H Q := ⟨p, _, rfl, .inl h, rfl, flat_ints ns, by rw [inV_ints]; exact q⟩
end L2
set_option Elab.async false
set_option linter.all false
set_option maxRecDepth 100000
set_option maxHeartbeats 4000000
namespace Pc
open PySem L2 Srt
theorem cs_hidG {H : Hp} {acc : Addr} {o : HO} {ys : List V} {cs : List C3} (e : H acc = some o) (n : ∀ xs, o ≠ .tup xs) (h : Cs H ys cs) : Cs (hid H acc) ys cs :=
  Paired.mapP h fun _ _ ⟨p, x1, x2⟩ => ⟨p, x1, hid_at (fun z => by subst z; rw [e] at x2; exact n _ (Option.some.inj x2)) x2⟩
theorem feeds_listG {α : Type} {R : Hp → V → α → Prop} (up : ∀ {H H' : Hp} {v : V} {x : α}, Same H H' → R H v x → R H' v x) {K : PySem.W.Frag} {H : Hp} {a : Addr} {ys : List V} {xs : List α} (h : SqL K H a ys) (r : Rs R H ys xs) : Feeds (Itl K a) H xs R where
  stop := fun H' s => by rw [← r.len]; exact itl_stop (s.seq h)
  go := fun i x H' s e => by
    obtain ⟨v, e1, q⟩ := r.get' e
    refine ⟨itl_go (s.seq h) (List.getElem?_eq_some_iff.mp e1).1, fun v' H2 y => ?_⟩
    obtain ⟨rfl, e2⟩ := itl_yld (s.seq h) y
    rw [e1] at e2
    cases e2
    exact ⟨Same.refl _, up s q⟩
def Low (c : C3) : Prop := (0 ≤ c.x ∧ c.x ≤ 3) ∧ (0 ≤ c.y ∧ c.y ≤ 3) ∧ (0 ≤ c.z ∧ c.z ≤ 3)
end Pc
set_option Elab.async false
set_option linter.all false
set_option maxRecDepth 100000
set_option maxHeartbeats 4000000
namespace L2
open PySem PySem.Spec PyProof.Rows
def rngI (n : Nat) : List Int := (List.range n).map fun i : Nat => (i : Int)
section
variable {X : Cx}
theorem small_rng {j : Int} (h0 : 0 ≤ j) (h1 : j ≤ 100000) : Builtin.Range.small 0 j 1 = true := small_one (by omega) (by omega) (by omega) (by omega)
theorem size_rng {j : Int} (h0 : 0 ≤ j) : Builtin.Range.rangeSize 0 j 1 = (j.toNat : Int) := by
  rw [rangeSize_one]
  split <;> omega
theorem vals_rng {us : List Value} : ∀ {n : Nat} {f : Nat → Int}, us.length = n → (∀ (j : Nat) (v : Value), us[j]? = some v → ∃ t, v = .int (f j) t) → Vals (((List.range n).map f).map V.int) us := by
  induction us with
  | nil => intro n f e _; cases e; exact .nil
  | cons u r ih =>
    intro n f e h
    cases e
    obtain ⟨t, ht⟩ := h 0 u rfl
    rw [List.length_cons, List.range_succ_eq_map, List.map_cons, List.map_cons, List.map_map]
    have q := ih (f := f ∘ Nat.succ) rfl fun j v hj => h (j + 1) v hj
    rw [List.map_map] at q
    rw [List.map_map]
    exact .cons ⟨t, ht⟩ q
def tListR (ta : TA) : TE := fun σ H Q => ta σ H fun vs H1 => ∃ j : Int, vs = [.int j] ∧ 0 ≤ j ∧ j ≤ 100000 ∧ ∀ l, H1 l = none → Q (.ref l) (upd H1 l (.lst ((rngI j.toNat).map V.int)))
theorem pe_listR {a : Expr} {ta : TA} {p pos p' pos' : Pos} (hc : X.calm = true) (hg : Gl X "list") (hm : X.mg "list" = none) (hg' : Gl X "range") (hm' : X.mg "range" = none) (hb : bootBuiltins "list" = some (.type "list")) (ha : PA X [a] ta) (hs : starEach [a] X.env = [(false, eval a X.env)] := by rfl)
    (hs' : starEach [Expr.Call (.Name "range" p') [a] [] pos'] X.env = [(false, eval (.Call (.Name "range" p') [a] [] pos') X.env)] := by rfl) : PE X (.Call (.Name "list" p) [.Call (.Name "range" p') [a] [] pos'] [] pos) (tListR ta) := by
  intro pins s σ H Q I h
  refine Call_ (ld_blt I hg hm hb (PyProof.Rows.callWith_type1 ?_ hs' rfl))
  rw [hs']
  refine Calls.spliced_cons ?_
  refine Call_ (ld_blt I hg' hm' boot_range (PyProof.Rows.callWith_type1 (thn (ha pos' pins s σ H _ I h) fun us s1 ⟨vs, H1, I1, r1, q1⟩ => ?_) hs rfl))
  obtain ⟨j, e, h0, h1, q⟩ := q1
  subst e
  obtain ⟨u, rfl, t, rfl⟩ := r1.one
  refine call_range_1 (Calls.spliced_nil ?_)
  have I2 : Inv X pins σ H1 { s1 with heap := s1.heap.push { cls := .type "range", data := .fields #[.int 0 s1.toks, .int j t, .int 1 (s1.toks + 1)] }, toks := s1.toks + 1 + 1 } := I1.kept fun b o e => Heap.get?_push_of_some _ e
  refine call_list_range (I2.ok.hd hc) (IsRange.new ..) (small_rng h0 h1) (size_rng h0) (by omega) fun h' tk acc c hk hD hI => ?_
  have hv : Vals ((rngI j.toNat).map V.int) acc.toList := by
    refine vals_rng (f := fun i : Nat => (i : Int)) (by rw [Array.length_toList]; exact hI.1) fun i v hv => ?_
    obtain ⟨t, ht⟩ := hI.2 i v (by rw [← Array.getElem?_toList]; exact hv)
    exact ⟨t, by rw [ht]; simp⟩
  refine ⟨.ref _, upd H1 _ (.lst ((rngI j.toNat).map V.int)), I2.laid (t' := tk) hk (Nat.le_refl _) ⟨?_, acc.toList, c, hv, ?_⟩, rfl, q _ I2.fresh⟩
  · unfold rngI
    rw [List.length_map, List.length_map, List.length_range, sizeLine_eq]
    omega
  · rw [Array.toArray_toList]
    exact hD
theorem qe_listR {a : Expr} {ta : TA} {p pos p' pos' : Pos} (hc : X.calm = true) (hg : Gl X "list") (hm : X.mg "list" = none) (hg' : Gl X "range") (hm' : X.mg "range" = none) (hb : bootBuiltins "list" = some (.type "list")) (ha : QA X [a] ta) (hs : starEach [a] X.env = [(false, eval a X.env)] := by rfl)
    (hs' : starEach [Expr.Call (.Name "range" p') [a] [] pos'] X.env = [(false, eval (.Call (.Name "range" p') [a] [] pos') X.env)] := by rfl) : QE X (.Call (.Name "list" p) [.Call (.Name "range" p') [a] [] pos'] [] pos) (tListR ta) := ⟨pe_listR hc hg hm hg' hm' hb ha.r hs hs'⟩
theorem rd_listR {ta : TA} {σ : St} {H : Hp} {Q : VK} (h : ta σ H fun vs H1 => ∃ j : Int, vs = [.int j] ∧ 0 ≤ j ∧ j ≤ 100000 ∧ ∀ l, H1 l = none → Q (.ref l) (upd H1 l (.lst ((rngI j.toNat).map V.int)))) : tListR ta σ H Q := h
theorem meets_inRange (r : Addr) (a b c i : Int) (t u v x : Tok) : Meets (Builtin.«range.__contains__» ⟨[.ref r, .int i x], []⟩)
    (fun _ R s => s.heap.get? r = some { cls := .type "range", data := .fields #[.int a t, .int b u, .int c v] } ∧ R (.ok (.ret (.bool (Builtin.Range.rangePlace? a b c i).isSome))) s) :=
  .of_wp fun prog w A R s h => by
    obtain ⟨hp, g, d, tk, os⟩ := s
    obtain ⟨hl, h⟩ := h
    wp_walk using wpAny_loadPart' hl
    exact ⟨_, rfl, h⟩
theorem place_rng {j i : Int} : (Builtin.Range.rangePlace? 0 j 1 i).isSome = (decide (0 ≤ i) && decide (i < j)) := by
  unfold Builtin.Range.rangePlace?
  simp only [show (1 : Int) > 0 by decide, if_true]
  by_cases h : (decide (0 ≤ i) && decide (i < j)) = true
  · rw [h]; simp
  · rw [Bool.not_eq_true] at h; rw [h]; simp
def tInR (neg : Bool) (ti : TE) (ta : TA) : TE := fun σ H Q => ti σ H fun x H1 => ta σ H1 fun vs H2 => ∃ i j : Int, x = .int i ∧ vs = [.int j] ∧ Q (.bl (if neg then !(decide (0 ≤ i) && decide (i < j)) else (decide (0 ≤ i) && decide (i < j)))) H2
theorem pc_notInR {i a : Expr} {ti : TE} {ta : TA} {p' pos' : Pos} (hg' : Gl X "range") (hm' : X.mg "range" = none) (hi : PE X i ti) (ha : PA X [a] ta) (hs : starEach [a] X.env = [(false, eval a X.env)] := by rfl) : PC X .NotIn i (.Call (.Name "range" p') [a] [] pos') (tInR true ti ta) := by
  intro pins s σ H Q I h
  refine thn (hi pins s σ H _ I h) fun iv s1 ⟨y, H1, I1, ry, q1⟩ => ?_
  refine Call_ (ld_blt I1 hg' hm' boot_range (PyProof.Rows.callWith_type1 (thn (ha pos' pins s1 σ H1 _ I1 q1) fun us s2 ⟨vs, H2, I2, r2, q2⟩ => ?_) hs rfl))
  obtain ⟨i, j, rfl, e, q⟩ := q2
  subst e
  obtain ⟨u, rfl, t, rfl⟩ := r2.one
  obtain ⟨t', rfl⟩ := ry
  refine call_range_1 ?_
  have I3 : Inv X pins σ H2 { s2 with heap := s2.heap.push { cls := .type "range", data := .fields #[.int 0 s2.toks, .int j t, .int 1 (s2.toks + 1)] }, toks := s2.toks + 1 + 1 } := I2.kept fun b o e => Heap.get?_push_of_some _ e
  refine SeqRoads2.notIn_meets ⟨_, Heap.get?_push_size _ rfl, rfl⟩ F.slot_range_contains F.entry_range_contains (F.args_range_contains_2 _ _) (meets_inRange _ 0 j 1 i _ _ _ t') ⟨Heap.get?_push_size _ rfl, _, rfl, ?_⟩
  rw [place_rng]
  exact ⟨.bl _, H2, I3, rfl, q⟩
theorem qt_notInR {i a : Expr} {ti : TE} {ta : TA} {p' pos' pos : Pos} (hg' : Gl X "range") (hm' : X.mg "range" = none) (hi : QE X i ti) (ha : QA X [a] ta) (hs : starEach [a] X.env = [(false, eval a X.env)] := by rfl) (h1 : behindInMarks .NotIn (.Call (.Name "range" p') [a] [] pos') = false := by rfl) : QT X (.Compare i [.NotIn] [.Call (.Name "range" p') [a] [] pos'] pos) (tB (tInR true ti ta)) := ⟨pt_cmp (pc_notInR hg' hm' hi.r ha.r hs) h1⟩
theorem rd_inR {neg : Bool} {ti : TE} {ta : TA} {σ : St} {H : Hp} {Q : VK} (h : ti σ H fun x H1 => ta σ H1 fun vs H2 => ∃ i j : Int, x = .int i ∧ vs = [.int j] ∧ Q (.bl (if neg then !(decide (0 ≤ i) && decide (i < j)) else (decide (0 ≤ i) && decide (i < j)))) H2) : tInR neg ti ta σ H Q := h
end
end L2
set_option Elab.async false
set_option linter.all false
set_option maxRecDepth 100000
set_option maxHeartbeats 4000000
namespace Pc
def those (ns ts : List Int) : List Int := ns.filter fun j => decide (j ∈ ts)
def hol (nss : List (List Int)) (i : Int) : List Int := nss.getD i.toNat []
def frees (nss : List (List Int)) (ts : List Int) : List Int := ts.filter fun i => decide (those (hol nss i) ts = [])
def taken (nss : List (List Int)) : Nat → List Int → List Int → Option (List Int)
  | 0, _, gone => some gone
  | n + 1, ts, gone => match frees nss ts with
    | [] => none
    | i :: _ => taken nss n (ts.erase i) (gone ++ [i])
structure HolOk (nss : List (List Int)) : Prop where
  len : nss.length ≤ 100
  each : ∀ ms ∈ nss, ms.length ≤ 100
  rng : ∀ (i : Nat) (ms : List Int), nss[i]? = some ms → ∀ j ∈ ms, 0 ≤ j ∧ j < nss.length ∧ j ≠ (i : Int)
  asc : ∀ ms ∈ nss, ms.Pairwise (· < ·)
theorem hol_at {nss : List (List Int)} {i : Int} (h0 : 0 ≤ i) (h1 : i < nss.length) : nss[i.toNat]? = some (hol nss i) := by
  unfold hol
  have h : i.toNat < nss.length := by omega
  rw [List.getD_eq_getElem?_getD, List.getElem?_eq_getElem h]
  rfl
theorem HolOk.mem {nss : List (List Int)} (ok : HolOk nss) {i j : Int} (h0 : 0 ≤ i) (h1 : i < nss.length) (hj : j ∈ hol nss i) : 0 ≤ j ∧ j < nss.length ∧ j ≠ i := by
  obtain ⟨a, b, c⟩ := ok.rng i.toNat _ (hol_at h0 h1) j hj
  exact ⟨a, b, fun e => c (by omega)⟩
theorem HolOk.short {nss : List (List Int)} (ok : HolOk nss) {i : Int} (h0 : 0 ≤ i) (h1 : i < nss.length) : (hol nss i).length ≤ 100 := ok.each _ (List.mem_of_getElem? (hol_at h0 h1))
structure IsRing (nss : List (List Int)) (r : List Int) : Prop where
  two : 2 ≤ r.length
  nd : r.Nodup
  rng : ∀ i ∈ r, 0 ≤ i ∧ i < nss.length
  nxt : ∀ (k : Nat) (i j : Int), r[k]? = some i → r[k + 1]? = some j → j ∈ hol nss i
  lst : ∀ (i j : Int), r.getLast? = some i → r[0]? = some j → j ∈ hol nss i
theorem nodup_len : ∀ {l m : List Int}, l.Nodup → (∀ x ∈ l, x ∈ m) → l.length ≤ m.length
  | [], _, _, _ => Nat.zero_le _
  | a :: r, m, hn, h => by
    have ha : a ∈ m := h a List.mem_cons_self
    have hn' := List.nodup_cons.mp hn
    have ih := nodup_len (l := r) (m := m.erase a) hn'.2 fun x hx => by
      have hxa : x ≠ a := fun e => hn'.1 (by rw [← e]; exact hx)
      exact (List.mem_erase_of_ne hxa).mpr (h x (List.mem_cons_of_mem _ hx))
    have := List.length_erase_of_mem ha
    have hp : 0 < m.length := List.length_pos_of_mem ha
    rw [List.length_cons]
    omega
structure Walk (nss : List (List Int)) (ts ws : List Int) : Prop where
  ne : ws ≠ []
  nd : ws.Nodup
  sub : ∀ i ∈ ws, i ∈ ts
  nxt : ∀ (k : Nat) (i j : Int), ws[k]? = some i → ws[k + 1]? = some j → j ∈ hol nss i
theorem Walk.snoc {nss : List (List Int)} {ts ws : List Int} {l j : Int} (w : Walk nss ts ws) (hl : ws.getLast? = some l) (hj : j ∈ hol nss l) (ht : j ∈ ts) (hn : j ∉ ws) : Walk nss ts (ws ++ [j]) := by
  refine ⟨by simp, ?_, fun i hi => ?_, fun k a b ha hb => ?_⟩
  · exact List.nodup_append.mpr ⟨w.nd, by simp, fun x hx y hy => by simp at hy; subst hy; exact fun e => hn (e ▸ hx)⟩
  · rcases List.mem_append.mp hi with h | h
    · exact w.sub i h
    · simp at h; subst h; exact ht
  · have hlt : k + 1 < (ws ++ [j]).length := (List.getElem?_eq_some_iff.mp hb).1
    rw [List.length_append, List.length_singleton] at hlt
    by_cases h : k + 1 < ws.length
    · rw [List.getElem?_append_left (by omega)] at ha
      rw [List.getElem?_append_left h] at hb
      exact w.nxt k a b ha hb
    · have e : k + 1 = ws.length := by omega
      rw [List.getElem?_append_right (by omega), e, Nat.sub_self] at hb
      rw [List.getElem?_append_left (by omega)] at ha
      rw [List.getLast?_eq_getElem?, show ws.length - 1 = k by omega] at hl
      simp at hb
      subst hb
      rw [hl] at ha
      cases ha
      exact hj
theorem Walk.ring {nss : List (List Int)} {ts ws : List Int} {l j : Int} (ok : HolOk nss) (hr : ∀ i ∈ ts, 0 ≤ i ∧ i < nss.length) (w : Walk nss ts ws) (hl : ws.getLast? = some l) (hj : j ∈ hol nss l) (hn : j ∈ ws) : IsRing nss (ws.drop (ws.idxOf j)) := by
  have lt : ws.idxOf j < ws.length := List.idxOf_lt_length_iff.mpr hn
  have h0 : (ws.drop (ws.idxOf j))[0]? = some j := by
    rw [List.getElem?_drop, Nat.add_zero, List.getElem?_eq_getElem lt, List.getElem_idxOf]
  have hlm : l ∈ ws := List.mem_of_getLast? hl
  have hlr := hr l (w.sub l hlm)
  have hla : (ws.drop (ws.idxOf j)).getLast? = some l := by
    rw [List.getLast?_drop, if_neg (by omega)]
    exact hl
  have hne : j ≠ l := (ok.mem hlr.1 hlr.2 hj).2.2
  refine ⟨?_, w.nd.sublist (List.drop_sublist _ _), fun i hi => hr i (w.sub i (List.mem_of_mem_drop hi)), fun k a b ha hb => ?_, fun a b ha hb => ?_⟩
  · rcases Nat.lt_or_ge (ws.drop (ws.idxOf j)).length 2 with h | h
    · rw [List.getLast?_eq_getElem?] at hla
      have e : (ws.drop (ws.idxOf j)).length - 1 = 0 := by omega
      rw [e, h0] at hla
      exact absurd (Option.some.inj hla) hne
    · exact h
  · rw [List.getElem?_drop] at ha hb
    exact w.nxt _ a b ha (by rw [← Nat.add_assoc] at hb; exact hb)
  · rw [hla] at ha
    rw [h0] at hb
    cases ha
    cases hb
    exact hj
theorem taken_nil {nss : List (List Int)} {n : Nat} {ts gone : List Int} (h : frees nss ts = []) : taken nss (n + 1) ts gone = none := by
  unfold taken; rw [h]
theorem taken_cons {nss : List (List Int)} {n : Nat} {ts gone r : List Int} {i : Int} (h : frees nss ts = i :: r) : taken nss (n + 1) ts gone = taken nss n (ts.erase i) (gone ++ [i]) := by
  conv => lhs; unfold taken
  rw [h]
theorem frees_mem {nss : List (List Int)} {ts r : List Int} {i : Int} (h : frees nss ts = i :: r) : i ∈ ts := by
  have : i ∈ frees nss ts := by rw [h]; exact List.mem_cons_self
  exact (List.mem_filter.mp this).1
theorem frees_none {nss : List (List Int)} {ts : List Int} (h : frees nss ts = []) : ∀ i ∈ ts, those (hol nss i) ts ≠ [] := fun i hi e => by
  have := List.filter_eq_nil_iff.mp h i hi
  simp [e] at this
theorem mem_those {ns ts : List Int} {j : Int} : j ∈ those ns ts ↔ j ∈ ns ∧ j ∈ ts := by
  unfold those
  rw [List.mem_filter, decide_eq_true_eq]
theorem taken_spec {nss : List (List Int)} : ∀ (n : Nat) (ts gone r : List Int), ts.length = n → taken nss n ts gone = some r →
    ∃ tl, r = gone ++ tl ∧ tl.Perm ts ∧ ∀ (k : Nat) (i : Int), tl[k]? = some i → ∀ j ∈ tl.drop (k + 1), j ∉ hol nss i
  | 0, ts, gone, r, hl, h => by
    unfold taken at h
    cases h
    obtain rfl := List.eq_nil_of_length_eq_zero hl
    exact ⟨[], by simp, .nil, fun k i h => by simp at h⟩
  | n + 1, ts, gone, r, hl, h => by
    cases hf : frees nss ts with
    | nil => rw [taken_nil hf] at h; cases h
    | cons i rr =>
      rw [taken_cons hf] at h
      have hm := frees_mem hf
      have hle := List.length_erase_of_mem hm
      obtain ⟨tl, e1, p1, h1⟩ := taken_spec n (ts.erase i) (gone ++ [i]) r (by omega) h
      refine ⟨i :: tl, by rw [e1]; simp, ((p1.cons i).trans (List.perm_cons_erase hm).symm), fun k a ha j hj => ?_⟩
      cases k with
      | zero =>
        have e : i = a := by simpa using ha
        subst e
        intro hc
        have hi : i ∈ frees nss ts := by rw [hf]; exact List.mem_cons_self
        have hz := (List.mem_filter.mp hi).2
        rw [decide_eq_true_eq] at hz
        have hjt : j ∈ ts := List.mem_of_mem_erase (p1.mem_iff.mp (by simpa using hj))
        have := mem_those.mpr ⟨hc, hjt⟩
        rw [hz] at this
        cases this
      | succ k => exact h1 k a (by simpa using ha) j (by simpa using hj)
def walkedO (nss : List (List Int)) : List Int → Option (Int × Int)
  | [] => none
  | i :: r => match those (hol nss i) r with
    | j :: _ => some (i, j)
    | [] => walkedO nss r
theorem walked_nil {nss : List (List Int)} {i : Int} {r : List Int} (h : those (hol nss i) r = []) : walkedO nss (i :: r) = walkedO nss r := by
  conv => lhs; unfold walkedO
  rw [h]
theorem walked_cons {nss : List (List Int)} {i j : Int} {r t : List Int} (h : those (hol nss i) r = j :: t) : walkedO nss (i :: r) = some (i, j) := by
  unfold walkedO
  rw [h]
open PySem L2 Srt
def Hols (H : Hp) (a : Addr) (nss : List (List Int)) : Prop := ∃ zs, H a = some (.lst zs) ∧ Rs IsIL H zs nss
theorem IsIL.up {H H' : Hp} {v : V} {ms : List Int} (s : Same H H') (h : IsIL H v ms) : IsIL H' v ms := let ⟨p, e1, e2⟩ := h; ⟨p, e1, s _ _ e2⟩
theorem Hols.up {H H' : Hp} {a : Addr} {nss : List (List Int)} (s : Same H H') (h : Hols H a nss) : Hols H' a nss := let ⟨zs, e, r⟩ := h; ⟨zs, s _ _ e, Paired.mapP r fun _ _ q => IsIL.up s q⟩
theorem Hols.get {K : PySem.W.Frag} {H : Hp} {a : Addr} {nss : List (List Int)} (h : Hols H a nss) {i : Int} (h0 : 0 ≤ i) (h1 : i < nss.length) : ∃ zs p, H a = some (.lst zs) ∧ atI zs i = some (.ref p) ∧ H p = some (.lst ((hol nss i).map V.int)) := by
  obtain ⟨zs, e, r⟩ := h
  obtain ⟨v, ev, p, rfl, ep⟩ := Rs.get' r (hol_at h0 h1)
  refine ⟨zs, p, e, ?_, ep⟩
  have hl := r.len
  unfold atI ixN
  rw [if_pos (by omega), if_pos (by omega)]
  exact ev
def spThose (K : PySem.W.Frag) : Sp := fun vs H Q _ => ∃ (a b : Addr) (ns ts : List Int), vs = [.ref a, .ref b] ∧ SqL K H a (ns.map V.int) ∧ SqL K H b (ts.map V.int) ∧ ns.length ≤ 100000 ∧ ∀ p H', Same H H' → H p = none → H' p = some (.lst ((those ns ts).map V.int)) → Q (.ref p) H'
def spRing (K : PySem.W.Frag) : Sp := fun vs H Q _ => ∃ (a b : Addr) (nss : List (List Int)) (ts : List Int), vs = [.ref a, .ref b] ∧ Hols H a nss ∧ HolOk nss ∧ SqL K H b (ts.map V.int) ∧ ts ≠ [] ∧ ts.length ≤ 100 ∧ (∀ i ∈ ts, 0 ≤ i ∧ i < nss.length) ∧ (∀ i ∈ ts, those (hol nss i) ts ≠ []) ∧ ∀ p r H', Same H H' → H p = none → H' p = some (.lst (r.map V.int)) → IsRing nss r → Q (.ref p) H'
noncomputable def holsOf (ps : List (List C3 × Wy)) : List (List Int) := (List.range ps.length).map (heldI ps)
def IsOrd (H0 H : Hp) (v : V) (nss : List (List Int)) : Prop := ∃ q p r w, v = .ref q ∧ H q = some (.tup [.str w, .ref p]) ∧ H p = some (.lst (r.map V.int)) ∧ H0 p = none ∧ H0 q = none ∧ ((w = "order" ∧ taken nss nss.length (rngI nss.length) [] = some r) ∨ (w = "ring" ∧ taken nss nss.length (rngI nss.length) [] = none ∧ IsRing nss r))
def spOrder (K : PySem.W.Frag) : Sp := fun vs H Q _ => ∃ (a : Addr) (ps : List (List C3 × Wy)), vs = [.ref a] ∧ Parts H a ps ∧ PsOk ps ∧ ∀ v H', Same H H' → IsOrd H H' v (holsOf ps) → Q v H'
def spFreed (K : PySem.W.Frag) : Sp := fun vs H Q _ => ∃ (a : Addr) (nss : List (List Int)), vs = [.ref a] ∧ Hols H a nss ∧ HolOk nss ∧ (∀ p r H', taken nss nss.length (rngI nss.length) [] = some r → Same H H' → H p = none → H' p = some (.lst (r.map V.int)) → Q (.ref p) H') ∧ (∀ H', taken nss nss.length (rngI nss.length) [] = none → Same H H' → Q .non H')
theorem mem_rangeI {n : Nat} {i : Int} : i ∈ rngI n ↔ 0 ≤ i ∧ i < n := by
  unfold rngI
  rw [List.mem_map]
  constructor
  · rintro ⟨k, hk, rfl⟩
    have := List.mem_range.mp hk
    omega
  · rintro ⟨h0, h1⟩
    exact ⟨i.toNat, List.mem_range.mpr (by omega), by omega⟩
theorem rangeI_lt (n : Nat) : (rngI n).Pairwise (· < ·) := by
  unfold rngI
  refine List.pairwise_map.mpr ((List.pairwise_lt_range).imp fun h => ?_)
  omega
theorem rangeI_nodup (n : Nat) : (rngI n).Nodup := (rangeI_lt n).imp fun h => by omega
theorem rangeI_len (n : Nat) : (rngI n).length = n := by unfold rngI; simp
theorem hols_ok {ps : List (List C3 × Wy)} (h : PsOk ps) : HolOk (holsOf ps) := by
  have hl : (holsOf ps).length = ps.length := by unfold holsOf; simp
  refine ⟨by rw [hl]; exact h.1, fun ms hm => ?_, fun i ms hi j hj => ?_, fun ms hm => ?_⟩
  · obtain ⟨i, _, rfl⟩ := List.mem_map.mp hm
    unfold heldI
    rw [List.length_map]
    have := List.length_filter_le (heldB ps i) (List.range ps.length)
    rw [List.length_range] at this
    have := h.1
    omega
  · have hi' := (List.getElem?_eq_some_iff.mp hi).1
    unfold holsOf at hi
    rw [List.getElem?_map, List.getElem?_range (by omega)] at hi
    cases hi
    unfold heldI at hj
    obtain ⟨k, hk, rfl⟩ := List.mem_map.mp hj
    obtain ⟨h1, h2⟩ := List.mem_filter.mp hk
    have := List.mem_range.mp h1
    rw [hl]
    have := (held_eq.mp h2).1
    omega
  · obtain ⟨i, _, rfl⟩ := List.mem_map.mp hm
    unfold heldI
    refine List.pairwise_map.mpr (((List.pairwise_lt_range).filter _).imp fun h => ?_)
    omega
theorem ring_len {nss : List (List Int)} {r : List Int} (ok : HolOk nss) (h : IsRing nss r) : r.length ≤ 100 := by
  have := nodup_len (m := rngI nss.length) h.nd fun x hx => mem_rangeI.mpr (h.rng x hx)
  rw [rangeI_len] at this
  have := ok.len
  omega
end Pc
namespace Pc
open PySem L2 Srt
theorem rd_eqN0 {K : PySem.W.Frag} {H : Hp} {Q : VK} {p b : Addr} {ns : List Int} (h : H p = some (.lst (ns.map V.int))) (hb : H b = some (.lst [])) (q : Q (.bl (decide (ns = []))) H) : rEqD K false (.ref p) (.ref b) H Q :=
  rd_eqL0 (dat_ints h) (shp_ints _).ok hb (by
    have e : (ns.map PyData.int).isEmpty = decide (ns = []) := by cases ns <;> simp
    rw [e]; exact q)
theorem rd_neN0 {K : PySem.W.Frag} {H : Hp} {Q : VK} {p b : Addr} {ns : List Int} (h : H p = some (.lst (ns.map V.int))) (hb : H b = some (.lst [])) (q : Q (.bl (!decide (ns = []))) H) : rEqD K true (.ref p) (.ref b) H Q :=
  rd_neL0 (dat_ints h) (shp_ints _).ok hb (by
    have e : (ns.map PyData.int).isEmpty = decide (ns = []) := by cases ns <;> simp
    rw [e]; exact q)
end Pc
namespace Pc
open PySem L2 Srt
theorem nl_il {H0 H : Hp} {zs : List V} {nss : List (List Int)} (h : Rs (IsNL H0) H zs nss) : Rs IsIL H zs nss := Paired.mapP h fun _ _ ⟨p, x1, x2, _⟩ => ⟨p, x1, x2⟩
def encNL (ms : List Int) : PyData := .list (ms.map .int)
theorem dat_nss {K : PySem.W.Frag} {H : Hp} {p : Addr} {zs : List V} {nss : List (List Int)} (e : H p = some (.lst zs)) (r : Rs IsIL H zs nss) : Dat K H (.ref p) (.list (nss.map encNL)) := .lst (SqL.of e) (Dats.of (fun ⟨q, x1, x2⟩ => x1 ▸ dat_ints x2) r)
theorem shp_nss (nss : List (List Int)) : SeqAt.shaped (.list (nss.map encNL)) = true := (shp_map (n := 1) (f := encNL) (fun ms => shp_ints ms) nss).ok
theorem at_head0 (j : Int) (r : List Int) : atI ((j :: r).map V.int) 0 = some (.int j) := by
  unfold atI ixN
  rw [if_pos (by decide), if_pos (by rw [List.length_map, List.length_cons]; omega)]
  rfl
theorem cut_from {ns : List Int} {k : Nat} (h : k ≤ ns.length) : cutV (ns.map V.int) (some (k : Int)) none = (ns.drop k).map V.int := by
  unfold cutV
  rw [HT.sIx_nat, HT.sIx_none, List.length_map, Nat.min_eq_left h, ← List.map_drop, List.take_of_length_le (by simp)]
end Pc
set_option Elab.async false
set_option linter.all false
set_option maxRecDepth 100000
set_option maxHeartbeats 4000000
namespace Pc
open PySem L2 Srt
theorem emp_ints (ns : List Int) : (ns.map V.int).isEmpty = decide (ns = []) := by cases ns <;> simp
theorem ring_prev {nss : List (List Int)} {r : List Int} (h : IsRing nss r) {i : Nat} {c : Int} (hi : r[i]? = some c) : ∃ j, atI (r.map V.int) ((i : Int) - 1) = some (.int j) ∧ c ∈ hol nss j ∧ j ∈ r := by
  cases i with
  | zero =>
    obtain ⟨l, hl⟩ : ∃ l, r.getLast? = some l := ⟨_, List.getLast?_eq_some_getLast (fun e => by subst e; simp at hi)⟩
    exact ⟨l, at_last hl, h.lst l c hl hi, List.mem_of_getLast? hl⟩
  | succ i =>
    have hlt := (List.getElem?_eq_some_iff.mp hi).1
    have e : r[i]? = some r[i] := List.getElem?_eq_getElem (by omega)
    refine ⟨r[i], ?_, h.nxt i _ c e hi, List.getElem_mem _⟩
    rw [show ((i + 1 : Nat) : Int) - 1 = (i : Int) by omega]
    exact atI_nat (by rw [List.getElem?_map, e]; rfl)
end Pc
set_option Elab.async false
set_option linter.all false
set_option maxRecDepth 100000
set_option maxHeartbeats 4000000
namespace Pc
open PySem L2 Srt
def IsTwo (H : Hp) (v : V) : Option (Int × Int) → Prop
  | none => v = .non
  | some (i, j) => ∃ q, v = .ref q ∧ H q = some (.tup [.int i, .int j])
def OsOk (nss : List (List Int)) (os : List Int) : Prop := os.length ≤ 100 ∧ ∀ i ∈ os, 0 ≤ i ∧ i < nss.length
def spWalked (K : PySem.W.Frag) : Sp := fun vs H Q _ => ∃ (a b : Addr) (ps : List (List C3 × Wy)) (os : List Int), vs = [.ref a, .ref b] ∧ Parts H a ps ∧ PsOk ps ∧ H b = some (.lst (os.map V.int)) ∧ OsOk (holsOf ps) os ∧ ∀ v H', Same H H' → IsTwo H' v (walkedO (holsOf ps) os) → Q v H'
theorem cut_at {ns : List Int} {i : Nat} (h : i < ns.length) : cutV (ns.map V.int) (some ((i : Int) + 1)) none = (ns.drop (i + 1)).map V.int := cut_from (k := i + 1) (by omega)
theorem drop_at {os : List Int} {i : Nat} {n : Int} (h : os[i]? = some n) : os.drop i = n :: os.drop (i + 1) := by
  obtain ⟨h1, h2⟩ := List.getElem?_eq_some_iff.mp h
  rw [List.drop_eq_getElem_cons h1, h2]
theorem zip_at {os : List Int} {i : Nat} {p : Nat × Int} (h : ((List.range os.length).zip os)[i]? = some p) : p.1 = i ∧ os[i]? = some p.2 := by
  have h1 := (List.getElem?_eq_some_iff.mp h).1
  rw [List.length_zip, List.length_range] at h1
  rw [List.getElem?_zip_eq_some, List.getElem?_range (by omega)] at h
  exact ⟨(Option.some.inj h.1).symm, h.2⟩
end Pc
set_option Elab.async false
set_option linter.all false
set_option maxRecDepth 100000
set_option maxHeartbeats 4000000
namespace Pc
open PySem L2 Srt
theorem hol_held {ps : List (List C3 × Wy)} {i j : Nat} (hi : i < ps.length) : (j : Int) ∈ hol (holsOf ps) (i : Int) ↔ heldB ps i j = true := by
  have e : hol (holsOf ps) (i : Int) = heldI ps i := by
    unfold hol holsOf
    rw [Int.toNat_natCast, List.getD_eq_getElem?_getD, List.getElem?_map, List.getElem?_range hi]
    rfl
  rw [e]
  unfold heldI
  rw [List.mem_map]
  constructor
  · rintro ⟨k, hk, h⟩
    have : k = j := by omega
    subst this
    exact (List.mem_filter.mp hk).2
  · intro h
    refine ⟨j, List.mem_filter.mpr ⟨List.mem_range.mpr ?_, h⟩, rfl⟩
    obtain ⟨_, _, y, _, hy, _⟩ := held_eq.mp h
    exact (List.getElem?_eq_some_iff.mp hy).1
theorem hols_len (ps : List (List C3 × Wy)) : (holsOf ps).length = ps.length := by unfold holsOf; simp
theorem walked_none {nss : List (List Int)} : ∀ {r : List Int}, (∀ (k : Nat) (i : Int), r[k]? = some i → ∀ j ∈ r.drop (k + 1), j ∉ hol nss i) → walkedO nss r = none
  | [], _ => rfl
  | i :: r, h => by
    have e : those (hol nss i) r = [] := by
      rw [List.eq_nil_iff_forall_not_mem]
      intro j hj
      obtain ⟨h1, h2⟩ := mem_those.mp hj
      exact h 0 i rfl j (by simpa using h2) h1
    rw [walked_nil e]
    exact walked_none fun k a ha j hj => h (k + 1) a (by simpa using ha) j (by simpa using hj)
theorem asc_perm_eq : ∀ {l m : List Int}, l.Pairwise (· ≤ ·) → m.Pairwise (· ≤ ·) → l.Perm m → l = m
  | [], m, _, _, h => (List.nil_perm.mp h).symm
  | a :: l, [], _, _, h => absurd h.length_eq (by simp)
  | a :: l, b :: m, h1, h2, h => by
    have p1 := List.pairwise_cons.mp h1
    have p2 := List.pairwise_cons.mp h2
    have e : a = b := by
      have ha : a ∈ b :: m := h.mem_iff.mp List.mem_cons_self
      have hb : b ∈ a :: l := h.mem_iff.mpr List.mem_cons_self
      rcases List.mem_cons.mp ha with z | z
      · exact z
      · rcases List.mem_cons.mp hb with y | y
        · exact y.symm
        · have := p1.1 b y
          have := p2.1 a z
          omega
    subst e
    rw [asc_perm_eq p1.2 p2.2 (List.Perm.cons_inv h)]
end Pc
set_option Elab.async false
set_option linter.all false
set_option maxRecDepth 100000
set_option maxHeartbeats 4000000
namespace Pc
open PySem L2 Srt
def pt (ps : List (List C3 × Wy)) (j : Int) : List C3 × Wy := ps.getD j.toNat ([], ⟨.x, true⟩)
theorem pt_at {ps : List (List C3 × Wy)} {i : Nat} (h : i < ps.length) : ps[i]? = some (pt ps (i : Int)) := by
  unfold pt
  rw [Int.toNat_natCast, List.getD_eq_getElem?_getD, List.getElem?_eq_getElem h]
  rfl
theorem pt_mem {ps : List (List C3 × Wy)} {j : Int} (h0 : 0 ≤ j) (h1 : j < ps.length) : pt ps j ∈ ps := by
  obtain ⟨i, rfl⟩ : ∃ i : Nat, j = (i : Int) := ⟨j.toNat, by omega⟩
  exact List.mem_of_getElem? (pt_at (by omega))
theorem Parts.at' {H : Hp} {a : Addr} {ps : List (List C3 × Wy)} (h : Parts H a ps) {j : Int} (h0 : 0 ≤ j) (h1 : j < ps.length) : ∃ zs v, H a = some (.lst zs) ∧ atI zs j = some v ∧ PA H v (pt ps j) := by
  obtain ⟨i, rfl⟩ : ∃ i : Nat, j = (i : Int) := ⟨j.toNat, by omega⟩
  obtain ⟨zs, e, r⟩ := h
  have hi : i < ps.length := by omega
  obtain ⟨v, ev, q⟩ := Rs.get' r (pt_at hi)
  exact ⟨zs, v, e, atI_nat ev, q⟩
theorem held_pt {ps : List (List C3 × Wy)} {i j : Int} (hi : 0 ≤ i ∧ i < ps.length) (hj : 0 ≤ j ∧ j < ps.length) : j ∈ hol (holsOf ps) i ↔ j ≠ i ∧ hinds (pt ps i).2 (pt ps i).1 (pt ps j).1 := by
  obtain ⟨a, rfl⟩ : ∃ k : Nat, i = (k : Int) := ⟨i.toNat, by omega⟩
  obtain ⟨b, rfl⟩ : ∃ k : Nat, j = (k : Int) := ⟨j.toNat, by omega⟩
  rw [hol_held (by omega), held_eq]
  constructor
  · rintro ⟨h1, x, y, hx, hy, h⟩
    rw [pt_at (by omega)] at hx hy
    cases hx
    cases hy
    exact ⟨by omega, h⟩
  · rintro ⟨h1, h⟩
    exact ⟨by omega, _, _, pt_at (by omega), pt_at (by omega), h⟩
theorem taken_ok {ps : List (List C3 × Wy)} {r : List Int} (h : taken (holsOf ps) (holsOf ps).length (rngI (holsOf ps).length) [] = some r) : r.Perm (rngI ps.length) ∧ ∀ (k : Nat) (i : Int), r[k]? = some i → ∀ j ∈ r.drop (k + 1), j ∉ hol (holsOf ps) i := by
  obtain ⟨tl, e1, e2, e3⟩ := taken_spec _ _ [] r (rangeI_len _) h
  rw [List.nil_append] at e1
  subst e1
  rw [hols_len] at e2
  exact ⟨e2, e3⟩
theorem sorted_order {ps : List (List C3 × Wy)} {r ms : List Int} (h : taken (holsOf ps) (holsOf ps).length (rngI (holsOf ps).length) [] = some r) (hp : ms.Perm r) (ha : ms.Pairwise (· ≤ ·)) : ms = rngI ps.length :=
  asc_perm_eq ha ((rangeI_lt _).imp fun h => by omega) (hp.trans (taken_ok h).1)
end Pc
set_option Elab.async false
set_option linter.all false
set_option maxRecDepth 100000
set_option maxHeartbeats 4000000
namespace L2
open PySem PySem.W PySem.Spec PyProof.Rows Srt Pc
def PR (H : Hp) (v : V) (x : Int × C3) : Prop := ∃ a b, v = .ref a ∧ H a = some (.tup [.int x.1, .ref b]) ∧ H b = some (.tup x.2.v)
instance : Rep PR := ⟨fun s ⟨a, b, e, q, r⟩ => ⟨a, b, e, s _ _ q, s _ _ r⟩, fun h' ⟨a, b, e, q, r⟩ => ⟨a, b, e, lk_kind h' (by intro z; cases z) q, lk_kind h' (by intro z; cases z) r⟩⟩
end L2
set_option Elab.async false
set_option linter.all false
set_option maxRecDepth 100000
set_option maxHeartbeats 4000000
namespace L2
open PySem PySem.W PySem.Spec PyProof.Rows Srt Pc
section
variable {X : Cx}
end
end L2
namespace Pc
open PySem L2 Srt
def nb (c : C3) : List C3 := [⟨c.x - 1, c.y, c.z⟩, ⟨c.x, c.y - 1, c.z⟩, ⟨c.x, c.y, c.z - 1⟩, ⟨c.x, c.y, c.z + 1⟩, ⟨c.x, c.y + 1, c.z⟩, ⟨c.x + 1, c.y, c.z⟩]
inductive Rch (cs : List C3) (f : C3 → Int) (vs : List C3) : C3 → Prop
  | base {c : C3} : c ∈ vs → c ∈ cs → Rch cs f vs c
  | step {c d : C3} : Rch cs f vs c → d ∈ nb c → d ∈ cs → f d ≤ f c → Rch cs f vs d
def Clo (cs : List C3) (f : C3 → Int) (ds : List C3) (c : C3) (ns : List C3) : Prop := ∀ d ∈ ns, d ∈ cs → f d ≤ f c → d ∈ ds
structure Fl (cs : List C3) (f : C3 → Int) (vs ds ws : List C3) (ex : C3 → Prop) : Prop where
  nd : ds.Nodup
  sound : ∀ c ∈ ds, Rch cs f vs c
  base : ∀ c ∈ vs, c ∈ cs → c ∈ ds
  sub : ∀ c ∈ ws, c ∈ ds
  clo : ∀ c ∈ ds, c ∉ ws → ¬ ex c → Clo cs f ds c (nb c)
section
variable {cs : List C3} {f : C3 → Int} {vs ds ws : List C3} {ex : C3 → Prop}
end
end Pc
set_option Elab.async false
set_option linter.all false
set_option maxRecDepth 100000
set_option maxHeartbeats 4000000
namespace Pc
open PySem L2 Srt
end Pc
set_option Elab.async false
set_option linter.all false
set_option maxRecDepth 100000
set_option maxHeartbeats 4000000
namespace Pc
open PySem L2 Srt
end Pc
set_option Elab.async false
set_option linter.all false
set_option maxRecDepth 100000
set_option maxHeartbeats 4000000
namespace Pc
open PySem L2 Srt
end Pc
set_option Elab.async false
set_option linter.all false
set_option maxRecDepth 100000
set_option maxHeartbeats 4000000
namespace Pc
open PySem L2 Srt
structure Way (f : C3 → Int) (us ds : List C3) (c : C3) (pa : List C3) : Prop where
  ne : pa ≠ []
  hd : pa[0]? = some c
  nd : pa.Nodup
  sub : ∀ d ∈ pa, d ∈ ds
  nxt : ∀ (k : Nat) (a b : C3), pa[k]? = some a → pa[k + 1]? = some b → b ∈ nb a ∧ f a ≤ f b
  lst : ∀ d, pa.getLast? = some d → d ∈ us
structure Wlk (f : C3 → Int) (ds : List C3) (c here : C3) (i : Nat) (pa : List C3) : Prop where
  nd : pa.Nodup
  sub : ∀ d ∈ pa, ∃ j, i < j ∧ ds[j]? = some d
  nxt : ∀ (k : Nat) (a b : C3), pa[k]? = some a → pa[k + 1]? = some b → b ∈ nb a ∧ f a ≤ f b
  at' : ds[i]? = some here
  one : (pa = [] ∧ here = c) ∨ (pa[0]? = some c ∧ ∃ l, pa.getLast? = some l ∧ here ∈ nb l ∧ f l ≤ f here)
end Pc
set_option Elab.async false
set_option linter.all false
set_option maxRecDepth 100000
set_option maxHeartbeats 4000000
namespace Pc
open PySem L2 Srt
end Pc
namespace L2
end L2
namespace Pc
open PySem L2 Srt
end Pc
set_option Elab.async false
set_option linter.all false
set_option maxRecDepth 100000
set_option maxHeartbeats 4000000
namespace Pc
open PySem L2 Srt
inductive Fol (L : List (C3 × Option C3)) : C3 → List C3 → Prop
  | last {c : C3} : (c, none) ∈ L → Fol L c [c]
  | step {c d : C3} {pa : List C3} : (c, some d) ∈ L → Fol L d pa → Fol L c (c :: pa)
end Pc
namespace Pc
open PySem L2 Srt
end Pc
set_option Elab.async false
set_option linter.all false
set_option maxRecDepth 100000
set_option maxHeartbeats 4000000
namespace Pc
open PySem L2 Srt
end Pc
set_option Elab.async false
set_option linter.all false
set_option maxRecDepth 100000
set_option maxHeartbeats 4000000
open PySem PySem.W
namespace L2
end L2
set_option Elab.async false
set_option linter.all false
set_option maxRecDepth 100000
set_option maxHeartbeats 4000000
namespace Pc
open PySem L2 Srt
def rimB (cs : List C3) (c : C3) : Bool := !(nb c).all fun d => decide (d ∈ cs)
def inr (cs : List C3) : List C3 := cs.filter fun c => !rimB cs c
end Pc
set_option Elab.async false
set_option linter.all false
set_option maxRecDepth 100000
set_option maxHeartbeats 4000000
namespace L2
open PySem PySem.W PySem.Spec PyProof.Rows Srt Pc
section
variable {prog : Program} {w : World} {A : Around} {E : Value → Shared → Prop} {s : Shared} {d : Addr} {es : Array DictEntry} {ep : Nat}
end
section
variable {X : Cx}
end
end L2
namespace Pc
open PySem L2 Srt
def IsZ (lo hi : Int) : Hp → V → Unit → Prop := fun _ v _ => ∃ z : Int, v = .int z ∧ lo ≤ z ∧ z ≤ hi
instance {lo hi : Int} : Rep (IsZ lo hi) := ⟨fun _ h => h, fun _ h => h⟩
end Pc
set_option Elab.async false
set_option linter.all false
set_option maxRecDepth 100000
set_option maxHeartbeats 4000000
namespace Pc
open PySem L2 Srt
theorem nodup_fresh {α : Type} {l : List α} (hn : l.Nodup) {i : Nat} {a : α} (h : l[i]? = some a) : a ∉ l.take i := fun z => by
  obtain ⟨j, hj⟩ := List.getElem?_of_mem z
  have hjl := (List.getElem?_eq_some_iff.mp hj).1
  rw [List.length_take] at hjl
  rw [List.getElem?_take] at hj
  split at hj
  · have h1 := (List.getElem?_eq_some_iff.mp h).1
    have := (List.getElem?_inj h1 hn).mp (h.trans hj.symm)
    omega
  · cases hj
def IsM (cs : List C3) : Hp → V → Unit → Prop := fun H v _ => ∃ g c, v = .ref g ∧ H g = some (.tup c.v) ∧ c ∈ cs
instance {cs : List C3} : Rep (IsM cs) := ⟨fun s ⟨g, c, e, q, m⟩ => ⟨g, c, e, s _ _ q, m⟩, fun h' ⟨g, c, e, q, m⟩ => ⟨g, c, e, lk_kind h' (by intro z; cases z) q, m⟩⟩
end Pc
set_option Elab.async false
set_option linter.all false
set_option maxRecDepth 100000
set_option maxHeartbeats 4000000
namespace L2
open PySem PySem.W PySem.Spec PyProof.Rows Srt Pc
section
variable {X : Cx} {K : PySem.W.Frag}
theorem pick_ints {its : List Value} {ns : List Int} (rv : Vals (ns.map V.int) its) (js : List Nat) : ∃ ms : List Int, ms.length ≤ js.length ∧ Vals (ms.map V.int) (js.filterMap fun j => its.toArray[j]?) := by
  induction js with
  | nil => exact ⟨[], Nat.le_refl _, .nil⟩
  | cons j js ih =>
    obtain ⟨ms, h1, h2⟩ := ih
    rw [List.filterMap_cons]
    cases e : its.toArray[j]? with
    | none => exact ⟨ms, by rw [List.length_cons]; omega, h2⟩
    | some v =>
      have e : its[j]? = some v := by simpa using e
      have hl := rv.length
      rw [List.length_map] at hl
      have hj := (List.getElem?_eq_some_iff.mp e).1
      obtain ⟨u, hu, ru⟩ := rv.get (i := j) (x := .int (ns[j]'(by omega))) (by rw [List.getElem?_map, List.getElem?_eq_getElem (by omega)]; rfl)
      rw [e] at hu
      cases hu
      exact ⟨ns[j]'(by omega) :: ms, by rw [List.length_cons, List.length_cons]; omega, .cons ru h2⟩
def tSl3 (K : PySem.W.Frag) (te : TE) (tl th tw : TO) : TE := fun σ H Q => te σ H fun x H1 => tl σ H1 fun lo H2 => th σ H2 fun hi H3 => tw σ H3 fun st H4 => ∃ (a : Addr) (ns : List Int) (k : Int), x = .ref a ∧ SqL K H4 a (ns.map V.int) ∧ st = some k ∧ 0 < k ∧ ∀ (l : Addr) (ms : List Int), H4 l = none → ms.length ≤ ns.length → (∀ U : Nat, hi = some (U : Int) → ms.length ≤ U) → Q (.ref l) (upd H4 l (.lst (ms.map V.int)))
theorem qe_sl3 {e : Expr} {te : TE} {tl th tw : TO} {lo hi : Option Expr} {st : Expr} {p2 pos : Pos} (hK : X.K = K) (he : QE X e te) (hl : QO X lo tl) (hu : QO X hi th) (hs : QO X (some st) tw) : QE X (.Subscript e (.Slice lo hi (some st) p2) pos) (tSl3 K te tl th tw) := ⟨by
  subst hK
  intro pins s σ H Q I h
  refine Subscript_ (thn (he.r pins s σ H _ I h) fun v s1 ⟨x, H1, I1, r1, q1⟩ => ?_)
  refine wpAny_Slice (thn (hl.r pins s1 σ H1 _ I1 q1) fun vl s2 ⟨l, H2, I2, pl, q2⟩ => thn (hu.r pins s2 σ H2 _ I2 q2) fun vu s3 ⟨u, H3, I3, pu, q3⟩ => thn (hs.r pins s3 σ H3 _ I3 q3) fun vw s4 ⟨w0, H4, I4, pw, a, ns, k, ex, sx, ek, hk, q⟩ => ?_)
  subst ex ek
  cases r1
  have I5 : Inv X pins σ H4 { s4 with heap := s4.heap.push { cls := .type "slice", data := .fields #[vl, vu, vw] } } := I4.kept (t' := s4.toks) fun b ob q => Heap.get?_push_of_some _ q
  obtain ⟨its, rv, ht, hz⟩ := I5.list sx
  have hlen := rv.length
  rw [List.length_map] at hlen
  have g : wpAny (model X.prog X.w) X.A (getItem (.ref a) (.ref s4.heap.objs.size)) (EP X pins σ Q) X.xe { s4 with heap := s4.heap.push { cls := .type "slice", data := .fields #[vl, vu, vw] } } := by
    refine wpAny_getItem_list_slice ht.isList (Heap.IsSliceOf.new ..) pl pu pw (by intro z; cases z; omega) ?_ (by rw [List.size_toArray]; rw [List.length_map] at hz; omega)
    obtain ⟨ms, hm1, hm2⟩ := pick_ints rv (sliceRange (sliceBounds l u (some k) its.toArray.size).1 (sliceBounds l u (some k) its.toArray.size).2.1 (sliceBounds l u (some k) its.toArray.size).2.2)
    have hsz := slicePick_size_le its.toArray l u (some k)
    have hml : ms.length ≤ ns.length := by
      have e1 := hm2.length
      unfold slicePick at hsz
      rw [List.size_toArray, List.size_toArray] at hsz
      rw [List.length_map, List.size_toArray] at e1
      omega
    have hmu : ∀ U : Nat, u = some (U : Int) → ms.length ≤ U := fun U hU => by
      subst hU
      refine Nat.le_trans hm1 (sliceRange_length_le _ _ _ _ (fun hc => ?_) fun hc => ?_)
      · simp only [sliceBounds] at hc ⊢
        simp only [hc, if_true]
        constructor
        · cases l with
          | none => simp
          | some i => dsimp only; omega
        · omega
      · simp only [sliceBounds, Option.getD_some] at hc
        exact absurd hk hc
    refine ⟨.ref _, upd H4 _ (.lst (ms.map V.int)), I5.laid (t' := s4.toks) (o := .lst (ms.map V.int)) (fun b ob q => Heap.get?_push_of_some _ q) (Nat.le_refl _) ?_, rfl, q _ ms (I5.hok.fresh (Nat.le_refl _)) hml hmu⟩
    exact ⟨by rw [List.length_map]; rw [List.length_map] at hz; omega, _, 0, hm2, Heap.get?_push_size _ rfl⟩
  exact tail_any (ops := [.ref a, .ref s4.heap.objs.size]) ht.isList.typeIs slot_list_getitem.lookup g (by with_unfolding_all rfl)⟩
theorem rd_sl3 {te : TE} {tl th tw : TO} {σ : St} {H : Hp} {Q : VK} (h : te σ H fun x H1 => tl σ H1 fun lo H2 => th σ H2 fun hi H3 => tw σ H3 fun st H4 => ∃ (a : Addr) (ns : List Int) (k : Int), x = .ref a ∧ SqL K H4 a (ns.map V.int) ∧ st = some k ∧ 0 < k ∧ ∀ (l : Addr) (ms : List Int), H4 l = none → ms.length ≤ ns.length → (∀ U : Nat, hi = some (U : Int) → ms.length ≤ U) → Q (.ref l) (upd H4 l (.lst (ms.map V.int)))) : tSl3 K te tl th tw σ H Q := h
theorem met_len {ns : List Int} (hn : ns.Nodup) : ∀ i, i ≤ ns.length → firstMet (fun j => ns.getD j 0) i = ns.take i
  | 0, _ => by rw [firstMet_zero, List.take_zero]
  | i + 1, h => by
    have hi : i < ns.length := by omega
    rw [firstMet_succ, met_len hn i (by omega), List.getD_eq_getElem?_getD, List.getElem?_eq_getElem hi, Option.getD_some, take_snoc (List.getElem?_eq_getElem hi)]
    unfold step_dedup
    rw [if_neg]
    intro z
    rw [List.any_eq_true] at z
    obtain ⟨y, hy, e⟩ := z
    have e : y = ns[i] := by simpa using e
    rw [e] at hy
    exact nodup_fresh hn (List.getElem?_eq_getElem hi) hy
def rSetI (K : PySem.W.Frag) : List V → Hp → VK → Prop := fun xs H Q => ∃ (l : Addr) (ns : List Int), xs = [.ref l] ∧ SqL K H l (ns.map V.int) ∧ ns.Nodup ∧ ns.length ≤ 1000 ∧ ∀ p S, H p = none → Q (.ref p) (upd H p (.set S ns.length))
theorem call_setI (hc : X.calm = true) : CallR X (.type "set") (rSetI X.K) := by
  intro pins s σ H xs us Q I r h
  obtain ⟨l, ns, rfl, hl, hn, hz, q⟩ := h
  obtain ⟨u, rfl, ru⟩ := vals1 r
  cases ru
  obtain ⟨its, rv, pl, hz'⟩ := I.list hl
  have hI := intsAre_of rv
  have hlen : its.length = ns.length := by have := rv.length; simpa using this.symm
  refine call_set_list (ns := ns) (I.ok.hd hc) pl.isList (by simpa using hI) (by rw [List.size_toArray, hlen]; unfold scanBound; omega) fun h' tk hS hk => ?_
  rw [show its.toArray.size = ns.length by rw [List.size_toArray, hlen], met_len hn _ (Nat.le_refl _), List.take_of_length_le (Nat.le_refl _)] at hS
  exact ⟨.ref s.heap.objs.size, upd H _ (.set _ ns.length), I.laid (t' := tk) (fun b o e => hk b o (Heap.lt_size e) e) (Nat.le_refl _) hS, rfl, q _ _ I.fresh⟩
theorem qc_setI (h : X.K = K) (hc : X.calm = true) : QCl X (.type "set") (rSetI K) := ⟨h ▸ call_setI hc⟩
def rLenS : List V → Hp → VK → Prop := fun xs H Q => ∃ (p : Addr) (S : Int → Bool) (n : Nat), xs = [.ref p] ∧ H p = some (.set S n) ∧ Q (.int n) H
theorem call_lenSet : CallR X (.builtin "len") rLenS := by
  intro pins s σ H xs us Q I r h
  obtain ⟨p, S, n, rfl, ep, q⟩ := h
  obtain ⟨u, rfl, ru⟩ := vals1 r
  cases ru
  obtain ⟨o, es, ey, t, g1, g2, g3, g4, g5, g6, g7, g8⟩ := (show s.heap.SetOf (intKind X.prog X.w) p S n from I.hok p _ ep)
  subst g8
  exact call_len_set g1 g2 g3 g7 (by unfold scanBound at g6; omega) ⟨.int es.size, H, I.tok _, ⟨_, rfl⟩, q⟩
theorem qc_lenSet : QCl X (.builtin "len") rLenS := ⟨call_lenSet⟩
end
end L2
set_option Elab.async false
set_option linter.all false
set_option maxRecDepth 100000
set_option maxHeartbeats 4000000
namespace Pc
open PySem L2 Srt
def spWayOf (K : PySem.W.Frag) : Sp := fun vs H Q _ => ∃ (s : Addr) (u : Wy), vs = [.ref s] ∧ H s = some (.tup (u.next .o).v) ∧ ∀ H', Same H H' → Q (.str u.s) H'
def spQW (K : PySem.W.Frag) : Sp := fun vs H Q _ => ∃ (u : Wy) (ax : Ax), vs = [.str u.s, .str ax.s] ∧ ∀ H', Same H H' → Q (.str (qW u ax).s) H'
theorem hid_upd2 {H : Hp} {p d : Addr} {o : HO} : hid (hid (upd H p o) d) p = hid (hid H d) p := by
  funext b
  unfold hid
  by_cases h : b = p
  · rw [if_pos h, if_pos h]
  · rw [if_neg h, if_neg h]
    split
    · rfl
    · exact upd_ne h
theorem range_filter (m : Nat) (p : Nat → Bool) : (((List.range m).map fun t : Nat => (0 : Int) + (t : Int)).filter fun n => p n.toNat) = ((List.range m).filter p).map fun j : Nat => (j : Int) := by
  rw [List.filter_map]
  have e1 : ((fun n : Int => p n.toNat) ∘ fun t : Nat => (0 : Int) + (t : Int)) = p := by
    funext t
    simp [Function.comp]
  rw [e1]
  exact List.map_congr_left fun j _ => by omega
theorem l_inj {c d : C3} (h : c.l = d.l) : c = d := by
  obtain ⟨x, y, z⟩ := c
  obtain ⟨a, b, e⟩ := d
  simp only [C3.l, List.cons.injEq] at h
  obtain ⟨rfl, rfl, rfl, _⟩ := h
  rfl
theorem ways_one (u : Wy) : allW.filter (fun w => decide (w.next .o = u.next .o)) = [u] := by
  obtain ⟨a, p⟩ := u
  cases a <;> cases p <;> decide
def spBumpsB (K : PySem.W.Frag) : Sp := fun vs H Q _ => ∃ (a b : Addr) (u : Wy) (ys zs : List V) (bs ss : List C3), vs = [.ref a, .ref b, .str u.s] ∧ SqL K H a ys ∧ Cs H ys bs ∧ SqL K H b zs ∧ Cs H zs ss ∧ bs.length ≤ 1000 ∧ ss.length ≤ 1000 ∧ (∀ c ∈ bs, c.within 4) ∧ (∀ c ∈ ss, c.within 4) ∧ ∀ (r : Bool) H', (r = true ↔ hinds u bs ss) → Same H H' → Q (.bl r) H'
theorem hinds_st {u : Wy} {bs ss : List C3} (w1 : ∀ c ∈ bs, c.within 4) (w2 : ∀ c ∈ ss, c.within 4) : hinds u bs ss ↔ ∃ c ∈ bs, ∃ j : Nat, 1 ≤ j ∧ j ≤ 12 ∧ stN u c j ∈ ss := by
  constructor
  · rintro ⟨c, hc, d, hd, h1, h2⟩
    obtain ⟨j, j1, j2, j3⟩ := ahead_st h1 h2
    have a := within_at u.ax (w1 c hc)
    have b := within_at u.ax (w2 d hd)
    exact ⟨c, hc, j, j1, by split at j2 <;> omega, j3 ▸ hd⟩
  · rintro ⟨c, hc, j, j1, _, j3⟩
    exact ⟨c, hc, _, j3, ln_put _ _ _, ahd_st j1⟩
def PsNear (ps : List (List C3 × Wy)) : Prop := ps.length ≤ 8 ∧ ∀ x ∈ ps, x.1.length ≤ 63 ∧ ∀ c ∈ x.1, c.within 4
def spPartsK (K : PySem.W.Frag) : Sp := fun vs H Q _ => ∃ (x : Addr) (ns : List Int), vs = [.ref x] ∧ SqL K H x (ns.map V.int) ∧ ns.length ≤ 200 ∧ ∀ p ps H', Same H H' → H p = none → Parts H' p ps → PsNear ps → Q (.ref p) H'
def spHeldK (K : PySem.W.Frag) : Sp := fun vs H Q _ => ∃ (a : Addr) (ps : List (List C3 × Wy)), vs = [.ref a] ∧ Parts H a ps ∧ PsNear ps ∧ ∀ p zs H', Same H H' → H p = none → H' p = some (.lst zs) → Rs IsIL H' zs (holsOf ps) → Q (.ref p) H'
def spIsOrderK (K : PySem.W.Frag) : Sp := fun vs H Q _ => ∃ (a b : Addr) (ps : List (List C3 × Wy)) (r : List Int), vs = [.ref a, .ref b] ∧ Parts H a ps ∧ PsNear ps ∧ H b = some (.lst (r.map V.int)) ∧ taken (holsOf ps) (holsOf ps).length (rngI (holsOf ps).length) [] = some r ∧ ∀ H', Same H H' → Q (.bl true) H'
def spIsRingK (K : PySem.W.Frag) : Sp := fun vs H Q _ => ∃ (p a : Addr) (nss : List (List Int)) (r : List Int), vs = [.ref a, .ref p] ∧ H p = some (.lst (r.map V.int)) ∧ Hols H a nss ∧ HolOk nss ∧ IsRing nss r ∧ ∀ H', Same H H' → Q (.bl true) H'
theorem within_up {c : C3} (h : c.within 4) : c.within 60 := by
  unfold C3.within at h ⊢
  omega
theorem near_ok {ps : List (List C3 × Wy)} (h : PsNear ps) : PsOk ps := ⟨by have := h.1; omega, fun x hx => by have := (h.2 x hx).1; omega⟩
theorem ahd_turn (u : Wy) (ax : Ax) (c d : C3) : (lnI (qW u ax).ax (qC ax d) = lnI (qW u ax).ax (qC ax c) ∧ ahd (qW u ax).up ((qW u ax).ax.at (qC ax c)) ((qW u ax).ax.at (qC ax d))) ↔ (lnI u.ax d = lnI u.ax c ∧ ahd u.up (u.ax.at c) (u.ax.at d)) := by
  obtain ⟨b, up⟩ := u
  obtain ⟨x, y, z⟩ := c
  obtain ⟨x', y', z'⟩ := d
  cases ax <;> cases b <;> cases up <;> simp [lnI, qW, qC, ahd, Ax.at] <;> omega
def trn (ax : Ax) (x : List C3 × Wy) : List C3 × Wy := (srtC (x.1.map (qC ax)), qW x.2 ax)
theorem hinds_turn (ax : Ax) (x y : List C3 × Wy) : hinds (trn ax x).2 (trn ax x).1 (trn ax y).1 ↔ hinds x.2 x.1 y.1 := by
  unfold trn hinds
  constructor
  · rintro ⟨c, hc, d, hd, h⟩
    obtain ⟨c', hc', rfl⟩ := List.mem_map.mp ((srtC_perm _).mem_iff.mp hc)
    obtain ⟨d', hd', rfl⟩ := List.mem_map.mp ((srtC_perm _).mem_iff.mp hd)
    exact ⟨c', hc', d', hd', (ahd_turn _ _ _ _).mp h⟩
  · rintro ⟨c, hc, d, hd, h⟩
    exact ⟨qC ax c, (srtC_perm _).mem_iff.mpr (List.mem_map.mpr ⟨c, hc, rfl⟩), qC ax d, (srtC_perm _).mem_iff.mpr (List.mem_map.mpr ⟨d, hd, rfl⟩), (ahd_turn _ _ _ _).mpr h⟩
theorem hols_turn (ax : Ax) (ps : List (List C3 × Wy)) : holsOf (ps.map (trn ax)) = holsOf ps := by
  have hb : ∀ i j, heldB (ps.map (trn ax)) i j = heldB ps i j := fun i j => by
    rw [Bool.eq_iff_iff, held_eq, held_eq]
    constructor
    · rintro ⟨h, x, y, hx, hy, hh⟩
      rw [List.getElem?_map] at hx hy
      obtain ⟨x', ex, rfl⟩ := Option.map_eq_some_iff.mp hx
      obtain ⟨y', ey, rfl⟩ := Option.map_eq_some_iff.mp hy
      exact ⟨h, x', y', ex, ey, (hinds_turn ax x' y').mp hh⟩
    · rintro ⟨h, x, y, hx, hy, hh⟩
      exact ⟨h, trn ax x, trn ax y, by rw [List.getElem?_map, hx]; rfl, by rw [List.getElem?_map, hy]; rfl, (hinds_turn ax x y).mpr hh⟩
  unfold holsOf heldI
  rw [List.length_map]
  refine List.map_congr_left fun i _ => ?_
  congr 1
  exact List.filter_congr fun j _ => hb i j
end Pc
set_option Elab.async false
set_option linter.all false
set_option maxRecDepth 100000
set_option maxHeartbeats 4000000
local macro_rules | `(tactic| walk_at "lk") => `(tactic| first | assumption | exact L2.upd_same | ((apply L2.lk_old); (assumption); (walk_at "lk")) | ((apply L2.lk_same); (assumption); (walk_at "lk")) | ((apply L2.lk_ne); (assumption); (walk_at "lk")))
local macro_rules | `(tactic| walk_at "sq") => `(tactic| first | assumption | ((with_reducible apply L2.SqL.of); (walk_at "lk")) | ((with_reducible apply L2.SqT.of); (walk_at "lk")) | ((with_reducible apply L2.sqL_new); (assumption); (walk_at "sq")) | ((with_reducible apply L2.sqT_new); (assumption); (walk_at "sq")) | ((with_reducible apply L2.Same.seq); (assumption); (walk_at "sq")) | ((with_reducible apply L2.sqT_up); (assumption); (walk_at "sq")))
local macro_rules | `(tactic| walk_at "sz") => `(tactic| first | exact Pc.le0 | exact Pc.le1 | exact Pc.le2 | exact Pc.le3 | exact Pc.le4 | exact Pc.le5 | exact Pc.le6)
local macro_rules | `(tactic| walk_at "rd1") => `(tactic| first
  | with_reducible refine L2.rd_seq ?_
  | with_reducible refine L2.rd_asg ?_
  | with_reducible refine L2.rd_gname ?_
  | ((with_reducible apply L2.rd_var); (exact rfl))
  | with_reducible refine L2.rd_c ?_
  | with_reducible refine L2.rd_op ?_
  | with_reducible refine L2.rd_un ?_
  | with_reducible refine L2.rd_i0 ?_
  | ((with_reducible refine L2.rd_mod ?_ ?_); (first | decide | omega))
  | ((with_reducible refine L2.rd_fdiv ?_ ?_); (first | decide | (constructor <;> omega)))
  | ((with_reducible refine L2.rd_mulR ?_ ?_); (first | decide | (constructor <;> omega)))
  | ((with_reducible refine L2.rd_pow ?_ ?_); (decide))
  | with_reducible refine L2.rd_u ?_
  | with_reducible refine L2.rd_eqI ?_
  | with_reducible refine L2.rd_neI ?_
  | with_reducible refine L2.rd_eqS ?_
  | with_reducible refine L2.rd_test ?_
  | with_reducible refine L2.rd_tb ?_
  | with_reducible refine L2.rd_bl ?_
  | with_reducible refine L2.rd_ifs ?_
  | with_reducible refine L2.rd_and ?_
  | with_reducible refine L2.rd_or ?_
  | with_reducible refine L2.rd_not ?_
  | with_reducible refine L2.rd_andV ?_
  | with_reducible refine L2.rd_next ?_
  | with_reducible refine L2.rd_ret ?_
  | with_reducible refine L2.rd_drop ?_
  | with_reducible refine L2.rd_nil ?_
  | with_reducible refine L2.rd_cons ?_
  | with_reducible refine L2.rd_tup ?_
  | with_reducible refine L2.rd_lst ?_
  | with_reducible refine L2.rd_call ?_
  | with_reducible refine L2.rd_cb ?_
  | with_reducible refine L2.rd_bm ?_
  | with_reducible refine L2.rd_sl ?_
  | with_reducible refine L2.rd_nop ?_
  | with_reducible refine L2.rd_part ?_
  | with_reducible refine L2.rd_int ?_
  | ((with_reducible apply L2.rd_ixLn); (walk_at "sq"); (exact rfl))
  | ((with_reducible apply L2.rd_ixTn); (walk_at "sq"); (exact rfl))
  | with_reducible refine L2.rd_true ?_
  | with_reducible refine L2.rd_false ?_
  | with_reducible refine L2.rd_ntrue ?_
  | with_reducible refine L2.rd_nfalse ?_
  | ((with_reducible apply L2.rd_gtup); (walk_at "sq"); (exact rfl))
  | with_reducible refine L2.rd_gnil ?_
  | with_reducible refine L2.rd_gcons ?_
  | with_reducible refine L2.rd_yes ?_
  | with_reducible refine L2.rd_intB ?_
  | with_reducible refine L2.rd_abs ?_
  | ((with_reducible apply L2.rd_isTT); (walk_at "lk"))
  | ((with_reducible apply L2.rd_isLL); (walk_at "lk"))
  | ((with_reducible apply L2.rd_lenL); (walk_at "sq"))
  | ((with_reducible apply L2.rd_lenT); (walk_at "sq"))
  | ((with_reducible apply L2.rd_listL); (walk_at "sq"))
  | ((with_reducible apply L2.rd_tupL); (walk_at "sq"))
  | ((with_reducible apply L2.rd_sll); (walk_at "sq"))
  | with_reducible refine L2.rd_for ?_
  | with_reducible refine L2.rd_comp ?_
  | with_reducible refine L2.rd_ilist ?_
  | with_reducible refine L2.rd_itup ?_
  | ((with_reducible apply L2.rd_il); (walk_at "sq"))
  | ((with_reducible apply L2.rd_it); (walk_at "sq"))
  | with_reducible refine L2.rd_irng1 ?_
  | ((with_reducible refine L2.rd_ir1 ?_ ?_ ?_); (first | decide | omega); (first | decide | omega))
  | with_reducible refine L2.rd_isNr ?_
  | with_reducible refine L2.rd_notNr ?_
  | with_reducible refine L2.rd_dput ?_
  | with_reducible refine L2.rd_din ?_
  | with_reducible refine L2.rd_dnotin ?_
  | with_reducible refine L2.rd_dnewT ?_
  | with_reducible refine L2.rd_truthx ?_
  | with_reducible refine L2.rd_ienumT ?_
  | with_reducible refine L2.rd_minD ?_
  | with_reducible refine L2.rd_maxD ?_
  | with_reducible refine L2.rd_dsetd ?_
  | with_reducible refine L2.rd_dget2 ?_
  | with_reducible refine L2.rd_ienumL ?_
  | with_reducible refine L2.rd_listR ?_
  | with_reducible refine L2.rd_inR ?_
  | with_reducible refine L2.rd_isNn ?_
  | with_reducible refine L2.rd_notNn ?_
  | with_reducible refine L2.rd_isNi ?_
  | with_reducible refine L2.rd_notNi ?_)
local macro_rules | `(tactic| walk_at "rd") => `(tactic| repeat walk_at "rd1")
local macro_rules | `(tactic| walk_at "rdE") => `(tactic| repeat (first
  | with_reducible refine L2.rd_asg ?_
  | with_reducible refine L2.rd_gname ?_
  | ((with_reducible apply L2.rd_var); (exact rfl))
  | with_reducible refine L2.rd_c ?_
  | with_reducible refine L2.rd_op ?_
  | with_reducible refine L2.rd_i0 ?_
  | ((with_reducible refine L2.rd_mod ?_ ?_); (first | decide | omega))
  | ((with_reducible refine L2.rd_fdiv ?_ ?_); (first | decide | (constructor <;> omega)))
  | with_reducible refine L2.rd_int ?_
  | with_reducible refine L2.rd_next ?_))
namespace P97
open PySem L2 Srt Pc
def top (i : Nat) : Stmt := PySem.Challenge.pw_pourhall_k97_whole_away_in_order.main.body.getD i (.Pass ⟨0, 0, 0, 0⟩)
abbrev s_along : Stmt := top 4
abbrev s_placed : Stmt := top 5
abbrev s_line_of : Stmt := top 6
abbrev s_next_cell : Stmt := top 7
abbrev s_quarter_cell : Stmt := top 8
abbrev s_way_of_step : Stmt := top 9
abbrev s_quarter_way : Stmt := top 10
abbrev s_quarter : Stmt := top 12
abbrev s_lines_of : Stmt := top 13
abbrev s_nearest_ahead : Stmt := top 15
abbrev s_hindrance : Stmt := top 16
abbrev s_first_bump : Stmt := top 17
abbrev s_holders_of : Stmt := top 19
abbrev s_held_by : Stmt := top 20
abbrev s_those_among : Stmt := top 21
abbrev s_ring_among : Stmt := top 22
abbrev s_order_of : Stmt := top 23
abbrev s_walked : Stmt := top 24
abbrev s__law_cell_at : Stmt := top 26
abbrev s__law_mix : Stmt := top 27
abbrev s__law_step : Stmt := top 28
abbrev s__law_drawn : Stmt := top 29
abbrev s__law_next : Stmt := top 30
abbrev s__law_bumps : Stmt := top 31
abbrev s__law_parts : Stmt := top 32
abbrev s__law_held : Stmt := top 33
abbrev s__law_taken : Stmt := top 34
abbrev s__law_is_order : Stmt := top 35
abbrev s__law_is_ring : Stmt := top 36
abbrev s__law_asked_so : Stmt := top 37
abbrev s__law_wide : Stmt := top 38
abbrev s_law : Stmt := top 39
structure Ad where
  a_PLACES : Addr
  a_WAYS : Addr
  a_ORIGIN : Addr
  f_along : Addr
  d_along : FuncData
  f_placed : Addr
  d_placed : FuncData
  f_line_of : Addr
  d_line_of : FuncData
  f_next_cell : Addr
  d_next_cell : FuncData
  f_quarter_cell : Addr
  d_quarter_cell : FuncData
  f_way_of_step : Addr
  d_way_of_step : FuncData
  f_quarter_way : Addr
  d_quarter_way : FuncData
  f_quarter : Addr
  d_quarter : FuncData
  f_lines_of : Addr
  d_lines_of : FuncData
  f_nearest_ahead : Addr
  d_nearest_ahead : FuncData
  f_hindrance : Addr
  d_hindrance : FuncData
  f_first_bump : Addr
  d_first_bump : FuncData
  f_holders_of : Addr
  d_holders_of : FuncData
  f_held_by : Addr
  d_held_by : FuncData
  f_those_among : Addr
  d_those_among : FuncData
  f_ring_among : Addr
  d_ring_among : FuncData
  f_order_of : Addr
  d_order_of : FuncData
  f_walked : Addr
  d_walked : FuncData
  f__law_cell_at : Addr
  d__law_cell_at : FuncData
  f__law_mix : Addr
  d__law_mix : FuncData
  f__law_step : Addr
  d__law_step : FuncData
  f__law_drawn : Addr
  d__law_drawn : FuncData
  f__law_next : Addr
  d__law_next : FuncData
  f__law_bumps : Addr
  d__law_bumps : FuncData
  f__law_parts : Addr
  d__law_parts : FuncData
  f__law_held : Addr
  d__law_held : FuncData
  f__law_taken : Addr
  d__law_taken : FuncData
  f__law_is_order : Addr
  d__law_is_order : FuncData
  f__law_is_ring : Addr
  d__law_is_ring : FuncData
  f__law_asked_so : Addr
  d__law_asked_so : FuncData
  f__law_wide : Addr
  d__law_wide : FuncData
  f_law : Addr
  d_law : FuncData
structure All (K : PySem.W.Frag) (w : World) (mg : Str → Option Value) (ad : Ad) : Prop where
  m_PLACES : mg "PLACES" = some (.ref ad.a_PLACES)
  t_PLACES : TopD K w ad.a_PLACES plD
  m_WAYS : mg "WAYS" = some (.ref ad.a_WAYS)
  t_WAYS : ∀ H, SqT K H ad.a_WAYS (allW.map fun u => V.str u.s)
  m_ORIGIN : mg "ORIGIN" = some (.ref ad.a_ORIGIN)
  t_ORIGIN : ∀ H, SqT K H ad.a_ORIGIN C3.o.v
  n_abs : mg "abs" = none
  n_dict : mg "dict" = none
  n_enumerate : mg "enumerate" = none
  n_int : mg "int" = none
  n_isinstance : mg "isinstance" = none
  n_len : mg "len" = none
  n_list : mg "list" = none
  n_max : mg "max" = none
  n_min : mg "min" = none
  n_range : mg "range" = none
  n_set : mg "set" = none
  n_sorted : mg "sorted" = none
  n_tuple : mg "tuple" = none
  along : Fn K mg "along" s_along ad.f_along ad.d_along ["cell", "axis"]
  placed : Fn K mg "placed" s_placed ad.f_placed ad.d_placed ["cell", "axis", "number"]
  line_of : Fn K mg "line_of" s_line_of ad.f_line_of ad.d_line_of ["cell", "axis"]
  next_cell : Fn K mg "next_cell" s_next_cell ad.f_next_cell ad.d_next_cell ["cell", "way"]
  quarter_cell : Fn K mg "quarter_cell" s_quarter_cell ad.f_quarter_cell ad.d_quarter_cell ["cell", "axis"]
  way_of_step : Fn K mg "way_of_step" s_way_of_step ad.f_way_of_step ad.d_way_of_step ["step"]
  quarter_way : Fn K mg "quarter_way" s_quarter_way ad.f_quarter_way ad.d_quarter_way ["way", "axis"]
  quarter : Fn K mg "quarter" s_quarter ad.f_quarter ad.d_quarter ["body", "axis"]
  lines_of : Fn K mg "lines_of" s_lines_of ad.f_lines_of ad.d_lines_of ["body", "axis"]
  nearest_ahead : Fn K mg "nearest_ahead" s_nearest_ahead ad.f_nearest_ahead ad.d_nearest_ahead ["cell", "sand_lines", "way"]
  hindrance : Fn K mg "hindrance" s_hindrance ad.f_hindrance ad.d_hindrance ["body", "sand", "way"]
  first_bump : Fn K mg "first_bump" s_first_bump ad.f_first_bump ad.d_first_bump ["body", "sand", "way"]
  holders_of : Fn K mg "holders_of" s_holders_of ad.f_holders_of ad.d_holders_of ["parts", "number"]
  held_by : Fn K mg "held_by" s_held_by ad.f_held_by ad.d_held_by ["parts"]
  those_among : Fn K mg "those_among" s_those_among ad.f_those_among ad.d_those_among ["numbers", "there"]
  ring_among : Fn K mg "ring_among" s_ring_among ad.f_ring_among ad.d_ring_among ["holders", "there"]
  order_of : Fn K mg "order_of" s_order_of ad.f_order_of ad.d_order_of ["parts"]
  walked : Fn K mg "walked" s_walked ad.f_walked ad.d_walked ["parts", "order"]
  _law_cell_at : Fn K mg "_law_cell_at" s__law_cell_at ad.f__law_cell_at ad.d__law_cell_at ["_law_script", "_law_k"]
  _law_mix : Fn K mg "_law_mix" s__law_mix ad.f__law_mix ad.d__law_mix ["_law_cell", "_law_k"]
  _law_step : Fn K mg "_law_step" s__law_step ad.f__law_step ad.d__law_step ["_law_cell", "_law_number"]
  _law_drawn : Fn K mg "_law_drawn" s__law_drawn ad.f__law_drawn ad.d__law_drawn ["_law_cells", "_law_room"]
  _law_next : Fn K mg "_law_next" s__law_next ad.f__law_next ad.d__law_next ["_law_cell", "_law_way"]
  _law_bumps : Fn K mg "_law_bumps" s__law_bumps ad.f__law_bumps ad.d__law_bumps ["_law_body", "_law_other", "_law_way"]
  _law_parts : Fn K mg "_law_parts" s__law_parts ad.f__law_parts ad.d__law_parts ["_law_script"]
  _law_held : Fn K mg "_law_held" s__law_held ad.f__law_held ad.d__law_held ["_law_parts_here"]
  _law_taken : Fn K mg "_law_taken" s__law_taken ad.f__law_taken ad.d__law_taken ["_law_held_here"]
  _law_is_order : Fn K mg "_law_is_order" s__law_is_order ad.f__law_is_order ad.d__law_is_order ["_law_parts_here", "_law_order"]
  _law_is_ring : Fn K mg "_law_is_ring" s__law_is_ring ad.f__law_is_ring ad.d__law_is_ring ["_law_held_here", "_law_ring"]
  _law_asked_so : Fn K mg "_law_asked_so" s__law_asked_so ad.f__law_asked_so ad.d__law_asked_so ["_law_script"]
  _law_wide : Fn K mg "_law_wide" s__law_wide ad.f__law_wide ad.d__law_wide ["_law_script"]
  law : Fn K mg "law" s_law ad.f_law ad.d_law ["_law_script"]
section
variable {P : Program} {w : World} {K : PySem.W.Frag} {mg : Str → Option Value} {base : Heap} {ad : Ad}
theorem sc_along : FnScope ["cell", "axis"] ["cell", "axis"] (defScope s_along) := ⟨rfl, rfl, rfl, by decide +kernel, rfl, by decide +kernel, by decide +kernel⟩
theorem sc_placed : FnScope ["cell", "axis", "number", "numbers"] ["cell", "axis", "number"] (defScope s_placed) := ⟨rfl, rfl, rfl, by decide +kernel, rfl, by decide +kernel, by decide +kernel⟩
theorem sc_line_of : FnScope ["cell", "axis"] ["cell", "axis"] (defScope s_line_of) := ⟨rfl, rfl, rfl, by decide +kernel, rfl, by decide +kernel, by decide +kernel⟩
theorem sc_next_cell : FnScope ["cell", "way", "axis", "step"] ["cell", "way"] (defScope s_next_cell) := ⟨rfl, rfl, rfl, by decide +kernel, rfl, by decide +kernel, by decide +kernel⟩
theorem sc_quarter_cell : FnScope ["cell", "axis", "x", "y", "z"] ["cell", "axis"] (defScope s_quarter_cell) := ⟨rfl, rfl, rfl, by decide +kernel, rfl, by decide +kernel, by decide +kernel⟩
theorem sc_way_of_step : FnScope ["step"] ["step"] (defScope s_way_of_step) := ⟨rfl, rfl, rfl, by decide +kernel, rfl, by decide +kernel, by decide +kernel⟩
theorem sc_quarter_way : FnScope ["way", "axis"] ["way", "axis"] (defScope s_quarter_way) := ⟨rfl, rfl, rfl, by decide +kernel, rfl, by decide +kernel, by decide +kernel⟩
theorem sc_quarter : FnScope ["body", "axis"] ["body", "axis"] (defScope s_quarter) := ⟨rfl, rfl, rfl, by decide +kernel, rfl, by decide +kernel, by decide +kernel⟩
theorem sc_lines_of : FnScope ["body", "axis", "lines", "cell"] ["body", "axis"] (defScope s_lines_of) := ⟨rfl, rfl, rfl, by decide +kernel, rfl, by decide +kernel, by decide +kernel⟩
theorem sc_nearest_ahead : FnScope ["cell", "sand_lines", "way", "axis", "here", "numbers", "nearest"] ["cell", "sand_lines", "way"] (defScope s_nearest_ahead) := ⟨rfl, rfl, rfl, by decide +kernel, rfl, by decide +kernel, by decide +kernel⟩
theorem sc_hindrance : FnScope ["body", "sand", "way", "sand_lines", "cell", "ahead"] ["body", "sand", "way"] (defScope s_hindrance) := ⟨rfl, rfl, rfl, by decide +kernel, rfl, by decide +kernel, by decide +kernel⟩
theorem sc_first_bump : FnScope ["body", "sand", "way", "axis", "sand_lines", "counts", "cell", "ahead"] ["body", "sand", "way"] (defScope s_first_bump) := ⟨rfl, rfl, rfl, by decide +kernel, rfl, by decide +kernel, by decide +kernel⟩
theorem sc_holders_of : FnScope ["parts", "number", "body", "way", "found", "other", "part"] ["parts", "number"] (defScope s_holders_of) := ⟨rfl, rfl, rfl, by decide +kernel, rfl, by decide +kernel, by decide +kernel⟩
theorem sc_held_by : FnScope ["parts"] ["parts"] (defScope s_held_by) := ⟨rfl, rfl, rfl, by decide +kernel, rfl, by decide +kernel, by decide +kernel⟩
theorem sc_those_among : FnScope ["numbers", "there"] ["numbers", "there"] (defScope s_those_among) := ⟨rfl, rfl, rfl, by decide +kernel, rfl, by decide +kernel, by decide +kernel⟩
theorem sc_ring_among : FnScope ["holders", "there", "walk", "holder"] ["holders", "there"] (defScope s_ring_among) := ⟨rfl, rfl, rfl, by decide +kernel, rfl, by decide +kernel, by decide +kernel⟩
theorem sc_order_of : FnScope ["parts", "holders", "there", "gone", "free"] ["parts"] (defScope s_order_of) := ⟨rfl, rfl, rfl, by decide +kernel, rfl, by decide +kernel, by decide +kernel⟩
theorem sc_walked : FnScope ["parts", "order", "holders", "place", "number", "holding"] ["parts", "order"] (defScope s_walked) := ⟨rfl, rfl, rfl, by decide +kernel, rfl, by decide +kernel, by decide +kernel⟩
theorem sc__law_cell_at : FnScope ["_law_script", "_law_k"] ["_law_script", "_law_k"] (defScope s__law_cell_at) := ⟨rfl, rfl, rfl, by decide +kernel, rfl, by decide +kernel, by decide +kernel⟩
theorem sc__law_mix : FnScope ["_law_cell", "_law_k"] ["_law_cell", "_law_k"] (defScope s__law_mix) := ⟨rfl, rfl, rfl, by decide +kernel, rfl, by decide +kernel, by decide +kernel⟩
theorem sc__law_step : FnScope ["_law_cell", "_law_number", "_law_place", "_law_more"] ["_law_cell", "_law_number"] (defScope s__law_step) := ⟨rfl, rfl, rfl, by decide +kernel, rfl, by decide +kernel, by decide +kernel⟩
theorem sc__law_drawn : FnScope ["_law_cells", "_law_room", "_law_found", "_law_here", "_law_k", "_law_number"] ["_law_cells", "_law_room"] (defScope s__law_drawn) := ⟨rfl, rfl, rfl, by decide +kernel, rfl, by decide +kernel, by decide +kernel⟩
theorem sc__law_next : FnScope ["_law_cell", "_law_way", "_law_place", "_law_more"] ["_law_cell", "_law_way"] (defScope s__law_next) := ⟨rfl, rfl, rfl, by decide +kernel, rfl, by decide +kernel, by decide +kernel⟩
theorem sc__law_bumps : FnScope ["_law_body", "_law_other", "_law_way", "_law_there", "_law_cell", "_law_here", "_law_step_here"] ["_law_body", "_law_other", "_law_way"] (defScope s__law_bumps) := ⟨rfl, rfl, rfl, by decide +kernel, rfl, by decide +kernel, by decide +kernel⟩
theorem sc__law_parts : FnScope ["_law_script", "_law_many", "_law_taken_here", "_law_parts_here", "_law_k", "_law_cells", "_law_body", "_law_cell", "_law_way"] ["_law_script"] (defScope s__law_parts) := ⟨rfl, rfl, rfl, by decide +kernel, rfl, by decide +kernel, by decide +kernel⟩
theorem sc__law_held : FnScope ["_law_parts_here", "_law_found", "_law_k", "_law_body", "_law_way"] ["_law_parts_here"] (defScope s__law_held) := ⟨rfl, rfl, rfl, by decide +kernel, rfl, by decide +kernel, by decide +kernel⟩
theorem sc__law_taken : FnScope ["_law_held_here", "_law_left", "_law_order", "_law_free"] ["_law_held_here"] (defScope s__law_taken) := ⟨rfl, rfl, rfl, by decide +kernel, rfl, by decide +kernel, by decide +kernel⟩
theorem sc__law_is_order : FnScope ["_law_parts_here", "_law_order", "_law_at", "_law_body", "_law_way", "_law_other"] ["_law_parts_here", "_law_order"] (defScope s__law_is_order) := ⟨rfl, rfl, rfl, by decide +kernel, rfl, by decide +kernel, by decide +kernel⟩
theorem sc__law_is_ring : FnScope ["_law_held_here", "_law_ring", "_law_at"] ["_law_held_here", "_law_ring"] (defScope s__law_is_ring) := ⟨rfl, rfl, rfl, by decide +kernel, rfl, by decide +kernel, by decide +kernel⟩
theorem sc__law_asked_so : FnScope ["_law_script", "_law_parts_here", "_law_held_here", "_law_found", "_law_due", "_law_axis", "_law_turned"] ["_law_script"] (defScope s__law_asked_so) := ⟨rfl, rfl, rfl, by decide +kernel, rfl, by decide +kernel, by decide +kernel⟩
theorem sc__law_wide : FnScope ["_law_script", "_law_found", "_law_number"] ["_law_script"] (defScope s__law_wide) := ⟨rfl, rfl, rfl, by decide +kernel, rfl, by decide +kernel, by decide +kernel⟩
theorem sc_law : FnScope ["_law_script"] ["_law_script"] (defScope s_law) := ⟨rfl, rfl, rfl, by decide +kernel, rfl, by decide +kernel, by decide +kernel⟩
end
end P97
namespace P97
open PySem L2 Srt Pc
section
variable {P : Program} {w : World} {K : PySem.W.Frag} {mg : Str → Option Value} {base : Heap} {ad : Ad}
theorem ok_along (L : All K w mg ad) : FnOk P w K mg base CX0 1 ad.f_along ad.d_along ["cell", "axis"] (spAlong K) := by
  refine L.along.F.okQ sc_along (fun vs H Q E h => ?_) (fun cdv A outer s H vs Q E hr h => ?_)
  · obtain ⟨a, ax, c, rfl, _⟩ := h
    rfl
  obtain ⟨a, ax, c, rfl, hS, k⟩ := h
  refine ⟨_, (qss_one (qs_ret (qe_ix (qx_tup (K := K) rfl) (qv 0) (qe_ix (qx_top (K := K) (w := w) rfl rfl) (qe_glob (v := .ref ad.a_PLACES) rfl L.m_PLACES rfl) (qv 1) (fun _ _ => rfl)) (fun _ _ => rfl)))), ?_⟩
  exact ⟨_, rfl, _, rfl, _, _, _, _, rfl, rfl, L.t_PLACES, mem_ax ax, a, _, _, _, rfl, rfl, hS, at_ax ax c, k⟩
theorem ok_placed (L : All K w mg ad) : FnOk P w K mg base CX0 1 ad.f_placed ad.d_placed ["cell", "axis", "number"] (spPlaced K) := by
  refine L.placed.F.okQ sc_placed (fun vs H Q E h => ?_) (fun cdv A outer s H vs Q E hr h => ?_)
  · obtain ⟨a, ax, c, v, rfl, _⟩ := h
    rfl
  obtain ⟨a, ax, c, v, rfl, hS, k⟩ := h
  refine ⟨_, (qss_cons (qs_set (i := 3) sc_placed.nd rfl (Or.inl rfl) (qe_callTy (qc_list (K := K) rfl) rfl L.n_list b_list (qa_cons (qv 0) qa_nil)))
    (qss_cons (qs_asg (qv 2) (qg_sub (qv 3) (qe_ix (qx_top (K := K) (w := w) rfl rfl) (qe_glob (v := .ref ad.a_PLACES) rfl L.m_PLACES rfl) (qv 1) (fun _ _ => rfl))))
    (qss_one (qs_ret (qe_callTy (qc_tuple (K := K) rfl) rfl L.n_tuple b_tuple (qa_cons (qv 3) qa_nil)))))), ?_⟩
  obtain ⟨j, ej, hj⟩ := ix_ax ax c
  refine ⟨_, rfl, a, _, rfl, .inr hS, fun l hl => ?_⟩
  refine ⟨_, rfl, _, rfl, _, rfl, _, _, _, _, rfl, rfl, L.t_PLACES, mem_ax ax, l, _, _, _, rfl, rfl, upd_same, ej, ?_⟩
  refine ⟨_, rfl, l, _, rfl, .inl ⟨SqL.of upd_same, fun p hp => ?_⟩⟩
  rw [hj]
  rw [hj] at hp
  exact k p _ (same_nw (same_up (same_nw (Same.refl H) hl) hl) hp) upd_same
theorem ok_line_of (L : All K w mg ad) : FnOk P w K mg base CX0 1 ad.f_line_of ad.d_line_of ["cell", "axis"] (spLine K) := by
  refine L.line_of.F.okQ sc_line_of (fun vs H Q E h => ?_) (fun cdv A outer s H vs Q E hr h => ?_)
  · obtain ⟨a, ax, c, rfl, _⟩ := h
    rfl
  obtain ⟨a, ax, c, rfl, hS, k⟩ := h
  refine ⟨_, (qss_one (qs_ret (qe_callTy (qc_tuple (K := K) rfl) rfl L.n_tuple b_tuple (qa_cons (qe_comp (N := ["place", "number", "axis"]) ["place", "number"] [1] rfl rfl rfl rfl (qi_enumT (K := K) rfl rfl L.n_enumerate (qa_cons (qv 0) qa_nil)) (fun _ _ _ _ => (qg_tup (K := K) (n := 2) rfl rfl (qgs_cons (qg_name (i := 0) (by show (["place", "number", "axis"] : List Str).Nodup; decide +kernel) rfl (Or.inl rfl)) (qgs_cons (qg_name (i := 1) (by show (["place", "number", "axis"] : List Str).Nodup; decide +kernel) rfl (Or.inl rfl)) qgs_nil)))) (fun _ _ _ _ => (qf_one (qt_cmpR qo_ne (qv 0) (qe_ix (qx_top (K := K) (w := w) rfl rfl) (qe_glob (v := .ref ad.a_PLACES) rfl L.m_PLACES rfl) (qv 2) (fun _ _ => rfl)) (nomark _)))) (fun _ _ _ _ => (qv 1))) qa_nil)))), ?_⟩
  walk_at "rd"
  refine ⟨a, rfl, ⟨_, hS⟩, ?_⟩
  intro acc hacc
  refine comp_fm (R := IsN IsI) (S := IsI) (fun x : Nat × Int => !decide ((x.1 : Int) = ax.n)) (fun x : Nat × Int => x.2) 2 [some (.str ax.s)] (feeds_enumT hS (Rs.ints c.l)) (by show 3 ≤ 16000000; decide) hacc ?_ ?_
  · rintro os v ⟨i, n⟩ H' R1 R0 ho s1 _ ⟨T, u, rfl, eT, hu⟩ k1 k0
    have hu : u = .int n := hu
    subst hu
    match os, ho with
    | [o1, o2], _ =>
      walk_at "rd"
      refine rd_top L.t_PLACES ?_
      walk_at "rd"
      by_cases h : (i : Int) = ax.n
      · rw [decide_eq_true h]
        refine iteF ?_
        exact k0 [_, _] _ rfl (Same.refl _) (by show (!decide ((i : Int) = ax.n)) = false; rw [decide_eq_true h]; rfl)
      · rw [decide_eq_false h]
        refine iteT ?_
        walk_at "rd"
        exact k1 [_, _] _ _ rfl (Same.refl _) (by show (!decide ((i : Int) = ax.n)) = true; rw [decide_eq_false h]; rfl) rfl
  · intro zs H1 s1 e1 r1
    walk_at "rd"
    intro p hp
    have ez := ints_eq r1
    have el : (((List.range c.l.length).zip c.l).filter fun x : Nat × Int => !decide ((x.1 : Int) = ax.n)).map (fun x : Nat × Int => x.2) = lnI ax c := by
      obtain ⟨x, y, z⟩ := c
      cases ax <;> rfl
    rw [ez, el]
    exact k p _ (s1.trans (same_new hp)) upd_same
theorem ok_next_cell (L : All K w mg ad) : FnOk P w K mg base CX0 2 ad.f_next_cell ad.d_next_cell ["cell", "way"] (spNext K) := by
  refine L.next_cell.F.okQ sc_next_cell (fun vs H Q E h => ?_) (fun cdv A outer s H vs Q E hr h => ?_)
  · obtain ⟨a, u, c, rfl, _⟩ := h
    rfl
  obtain ⟨a, u, c, rfl, hS, k⟩ := h
  refine ⟨_, (qss_cons (qs_set (i := 2) sc_next_cell.nd rfl (Or.inl rfl) (qe_ix qx_str (qv 1) qe_int (fun _ _ => rfl)))
    (qss_cons (qs_set (i := 3) sc_next_cell.nd rfl (Or.inl rfl) (qe_ifExp (qt_cmpR qo_eq (qe_ix qx_str (qv 1) qe_int (fun _ _ => rfl)) qe_str (nomark _)) qe_int (qe_neg qe_int)))
    (qss_one (qs_ret (qe_call ((ok_placed L).mono (by decide)) hr rfl L.placed.m L.placed.F.kp L.placed.b .nil pass0 (qa_cons (qv 0) (qa_cons (qv 2) (qa_cons (qe_op qo_add (qe_call ((ok_along L).mono (by decide)) hr rfl L.along.m L.along.F.kp L.along.b .nil pass0 (qa_cons (qv 0) (qa_cons (qv 2) qa_nil))) (qv 3)) qa_nil)))))))), ?_⟩
  obtain ⟨c1, e1, q1⟩ := way_ax u
  obtain ⟨c0, e0, q0⟩ := way_sg u
  refine ⟨_, rfl, u.s, 1, c1, rfl, rfl, way_len u, e1, ?_⟩
  rw [q1]
  refine ⟨_, rfl, u.s, 0, c0, rfl, rfl, way_len u, e0, rfl, _, rfl, ?_⟩
  rw [q0]
  have nx : u.next c = u.ax.put (u.ax.at c + sg u.up) c := rfl
  cases hu : u.up
  · refine iteF ?_
    rw [hu] at nx
    rw [nx] at k
    exact ⟨1, rfl, _, rfl, _, rfl, _, rfl, _, rfl, a, u.ax, c, rfl, hS, _, rfl, _, _, rfl, rfl, a, u.ax, c, _, rfl, hS, k⟩
  · refine iteT ?_
    rw [hu] at nx
    rw [nx] at k
    exact ⟨_, rfl, _, rfl, _, rfl, _, rfl, a, u.ax, c, rfl, hS, _, rfl, _, _, rfl, rfl, a, u.ax, c, _, rfl, hS, k⟩
theorem ok_quarter_cell (L : All K w mg ad) : FnOk P w K mg base CX0 1 ad.f_quarter_cell ad.d_quarter_cell ["cell", "axis"] (spQC K) := by
  refine L.quarter_cell.F.okQ sc_quarter_cell (fun vs H Q E h => ?_) (fun cdv A outer s H vs Q E hr h => ?_)
  · obtain ⟨a, ax, c, rfl, _⟩ := h
    rfl
  obtain ⟨a, ax, c, rfl, hS, k⟩ := h
  refine ⟨_, (qss_cons (qs_set (i := 2) sc_quarter_cell.nd rfl (Or.inl rfl) (qe_ix (qx_tup (K := K) rfl) (qv 0) qe_int (fun _ _ => rfl)))
    (qss_cons (qs_set (i := 3) sc_quarter_cell.nd rfl (Or.inl rfl) (qe_ix (qx_tup (K := K) rfl) (qv 0) qe_int (fun _ _ => rfl)))
    (qss_cons (qs_set (i := 4) sc_quarter_cell.nd rfl (Or.inl rfl) (qe_ix (qx_tup (K := K) rfl) (qv 0) qe_int (fun _ _ => rfl)))
    (qss_cons (qs_if (qt_cmpR qo_eq (qv 1) qe_str (nomark _)) (qss_one (qs_ret (qe_tup (qa_cons (qv 2) (qa_cons (qe_neg (qv 4)) (qa_cons (qv 3) qa_nil)))))) qss_nil)
    (qss_cons (qs_if (qt_cmpR qo_eq (qv 1) qe_str (nomark _)) (qss_one (qs_ret (qe_tup (qa_cons (qv 4) (qa_cons (qv 3) (qa_cons (qe_neg (qv 2)) qa_nil)))))) qss_nil)
    (qss_one (qs_ret (qe_tup (qa_cons (qe_neg (qv 3)) (qa_cons (qv 2) (qa_cons (qv 4) qa_nil))))))))))), ?_⟩
  obtain ⟨x, y, z⟩ := c
  walk_at "rd"
  refine ite2 (fun e => ?_) (fun e => ?_)
  · walk_at "rd"
    refine ⟨le3, fun p hp => ?_⟩
    cases ax
    · exact k p _ (same_new hp) upd_same
    · exact absurd (of_decide_eq_true e) (by decide +kernel)
    · exact absurd (of_decide_eq_true e) (by decide +kernel)
  walk_at "rd"
  refine ite2 (fun e2 => ?_) (fun e2 => ?_)
  · walk_at "rd"
    refine ⟨le3, fun p hp => ?_⟩
    cases ax
    · exact absurd rfl (fun z => e (decide_eq_true z))
    · exact k p _ (same_new hp) upd_same
    · exact absurd (of_decide_eq_true e2) (by decide +kernel)
  · walk_at "rd"
    refine ⟨le3, fun p hp => ?_⟩
    cases ax
    · exact absurd rfl (fun z => e (decide_eq_true z))
    · exact absurd rfl (fun z => e2 (decide_eq_true z))
    · exact k p _ (same_new hp) upd_same
theorem ok_quarter (L : All K w mg ad) : FnOk P w K mg base CX0 2 ad.f_quarter ad.d_quarter ["body", "axis"] (spMap K qC) := by
  refine L.quarter.F.okQ sc_quarter (fun vs H Q E h => ?_) (fun cdv A outer s H vs Q E hr h => ?_)
  · obtain ⟨b, ax, ys, cs, rfl, _⟩ := h
    rfl
  obtain ⟨b, ax, ys, cs, rfl, hb, hc, h64, k⟩ := h
  refine ⟨_, (qss_one (qs_ret (qe_callB (qc_sortC (K := K) rfl) rfl L.n_sorted b_sorted (qa_cons (qe_comp (N := ["cell", "axis"]) ["cell"] [1] rfl rfl rfl rfl (qi_list (K := K) rfl (qv 0)) (fun _ _ _ _ => (qg_name (i := 0) (by show (["cell", "axis"] : List Str).Nodup; decide +kernel) rfl (Or.inl rfl))) (fun _ _ _ _ => qf_nil) (fun _ _ _ _ => (qe_call ((ok_quarter_cell L).mono (by decide)) hr rfl L.quarter_cell.m L.quarter_cell.F.kp L.quarter_cell.b .nil pass0 (qa_cons (qv 0) (qa_cons (qv 1) qa_nil))))) qa_nil)))), ?_⟩
  walk_at "rd"
  intro acc hacc
  refine comp_map (S := IsC) (qC ax) 1 [some (.str ax.s)] (feeds_list hb hc) (by omega) hacc ?_ ?_
  · rintro os v c H' R1 ho s1 _ ⟨a, rfl, ea⟩ kk
    obtain ⟨o, rfl⟩ := List.length_eq_one_iff.mp ho
    walk_at "rd"
    refine ⟨a, ax, c, rfl, SqT.of ea, fun p H2 s2 e2 => ?_⟩
    exact kk [_] _ _ rfl s2 ⟨p, rfl, e2⟩
  · intro zs H' s1 e1 r1
    walk_at "rd"
    refine rd_sortC (SqL.of e1) r1 (by rw [List.length_map]; exact h64) fun p qs hp hq => ?_
    exact k p qs _ (same_nw s1 hp) (s1.free hp) upd_same hq
theorem ok_lines_of (L : All K w mg ad) : FnOk P w K mg base CX0 2 ad.f_lines_of ad.d_lines_of ["body", "axis"] (spLines K) := by
  refine L.lines_of.F.okQ sc_lines_of (fun vs H Q E h => ?_) (fun cdv A outer s H vs Q E hr h => ?_)
  · obtain ⟨a, ax, ys, cs, rfl, _⟩ := h
    rfl
  obtain ⟨a, ax, ys, cs, rfl, hS, hc, hl, k⟩ := h
  refine ⟨_, (qss_cons (qs_set (i := 2) sc_lines_of.nd rfl (Or.inl rfl) qe_dnewT)
    (qss_cons (qs_for PassesOwn.never rfl (qi_list (K := K) rfl (qv 0)) (qg_name (i := 3) sc_lines_of.nd rfl (Or.inl rfl))
      (qss_one (qs_expr (qe_bm (K := K) rfl PySem.F.plainAttrs_list PySem.F.slot_list_append PySem.F.type_list_append mt_append (qe_dsetd (hu_of hr) (qv 2) (qe_call ((ok_line_of L).mono (by decide)) hr rfl L.line_of.m L.line_of.F.kp L.line_of.b .nil pass0 (qa_cons (qv 3) (qa_cons (qv 1) qa_nil))) (qe_lst qa_nil) ⟨rfl, rfl, rfl, rfl⟩) (qa_cons (qe_call ((ok_along L).mono (by decide)) hr rfl L.along.m L.along.F.kp L.along.b .nil pass0 (qa_cons (qv 3) (qa_cons (qv 1) qa_nil))) qa_nil)))))
    (qss_one (qs_ret (qv 2))))), ?_⟩
  walk_at "rd"
  intro d hd
  walk_at "rd"
  refine for_feeds (R := IsC) (H0 := H) (fun i σ H' => (∃ o, σ = [some (.ref a), some (.str ax.s), some (.ref d), o]) ∧ Same H H' ∧ ∃ kvs, Ln H H' d ax (cs.take i) kvs) (feeds_list hS hc) (fun _ _ _ q => q.2.1)
    ⟨⟨_, rfl⟩, same_new hd, [], upd_same, Nat.zero_le _, fun k => .inl ⟨rfl, rfl⟩, fun k k' v e => by cases e⟩ ?_ ?_
  · rintro σ H' ⟨⟨o, rfl⟩, s1, kvs, L1⟩
    rw [List.take_of_length_le (Nat.le_refl _)] at L1
    walk_at "rd"
    exact k d H' s1 hd ⟨kvs, L1.e, fun k => (L1.at' k).imp id fun ⟨l, x, y, _⟩ => ⟨l, x, y⟩⟩
  · rintro i c v σ H1 H' hi ex ⟨⟨o, rfl⟩, s1, kvs, L1⟩ s2 ⟨b, rfl, eb⟩
    rw [take_snoc ex]
    have hlen : kvs.length ≤ 100000 := by have := L1.len; rw [List.length_take] at this; omega
    have ed := s2 _ _ L1.e
    walk_at "rd"
    refine ⟨d, rfl, .inr ⟨kvs, .inl ed⟩, ?_⟩
    walk_at "rd"
    refine ⟨b, ax, c, rfl, SqT.of eb, fun p H2 s3 e3 => ?_⟩
    walk_at "rd"
    refine ⟨le0, fun q hq => ?_⟩
    have s4 := s2.trans (s3.trans (same_new (o := .lst []) hq))
    have sH := s1.trans s4
    have ek : upd H2 q (.lst []) p = some (.tup ((kI (lnI ax c)).map kV)) := by rw [kI_v]; exact lk_old hq e3
    have ed4 := s4 _ _ L1.e
    have eb4 := (s3.trans (same_new (o := .lst []) hq)) _ _ eb
    have hqH : H q = none := (s1.trans (s2.trans s3)).free hq
    refine ⟨kvs, kI (lnI ax c), p, ed4, rfl, ek, smallM (by omega), fun v hv => ?_, fun hv => ?_⟩
    · rcases L1.at' (lnI ax c) with ⟨z, _⟩ | ⟨l, hv', el, nl⟩
      · rw [z] at hv; cases hv
      rw [hv'] at hv
      obtain rfl := Option.some.inj hv
      have el4 := s4 _ _ el
      have ndl : d ≠ l := fun e => by subst e; rw [ed4] at el4; cases el4
      walk_at "rd"
      refine ⟨.inl ⟨rfl, _, SqL.of el4⟩, ?_⟩
      walk_at "rd"
      refine ⟨b, ax, c, rfl, SqT.of eb4, ?_⟩
      walk_at "rd"
      have nlen : (numsAt ax (cs.take i) (lnI ax c)).length ≤ 100000 := by
        unfold numsAt
        rw [List.length_map]
        have h1 := List.length_filter_le (fun x => decide (lnI ax x = lnI ax c)) (cs.take i)
        rw [List.length_take] at h1
        omega
      refine ⟨l, _, _, rfl, rfl, el4, smallM (by rw [List.length_map]; omega), ?_⟩
      walk_at "rd"
      refine ⟨⟨_, rfl⟩, same_up sH nl, kvs, lk_ne ndl ed4, by have := L1.len; rw [List.length_append]; omega, fun k' => ?_, L1.inj⟩
      rw [numsAt_snoc]
      by_cases hk : lnI ax c = k'
      · subst hk
        rw [if_pos rfl]
        exact .inr ⟨l, hv', by rw [upd_same, List.map_append]; rfl, nl⟩
      · rw [if_neg hk, List.append_nil]
        rcases L1.at' k' with z | ⟨l', hv2, el2, nl2⟩
        · exact .inl z
        · refine .inr ⟨l', hv2, lk_ne (fun e => ?_) (s4 _ _ el2), nl2⟩
          subst e
          exact hk (L1.inj _ _ _ hv' hv2)
    · have hnil : numsAt ax (cs.take i) (lnI ax c) = [] := by
        rcases L1.at' (lnI ax c) with ⟨_, z⟩ | ⟨l, hv', _⟩
        · exact z
        · rw [hv] at hv'; cases hv'
      have ndq : d ≠ q := fun e => by subst e; rw [(s2.trans s3) _ _ L1.e] at hq; cases hq
      have eq5 : upd (upd H2 q (.lst [])) d (.dT (putK kvs (kI (lnI ax c)) (.ref q))) q = some (.lst []) := lk_ne ndq.symm upd_same
      walk_at "rd"
      refine ⟨.inl ⟨rfl, _, SqL.of eq5⟩, ?_⟩
      walk_at "rd"
      refine ⟨b, ax, c, rfl, SqT.of (lk_kind ed4 (by intro z; cases z) eb4), ?_⟩
      walk_at "rd"
      refine ⟨q, _, _, rfl, rfl, eq5, small1000 (by simp), ?_⟩
      walk_at "rd"
      refine ⟨⟨_, rfl⟩, same_up (same_up sH hd) hqH, _, lk_ne ndq upd_same, ?_, fun k' => ?_, fun k1 k2 v h1 h2 => ?_⟩
      · have h1 := length_putK kvs (kI (lnI ax c)) (.ref q)
        have h2 := L1.len
        rw [List.length_append, List.length_singleton]
        omega
      · rw [numsAt_snoc, valV_put]
        by_cases hk : lnI ax c = k'
        · subst hk
          rw [if_pos rfl, if_pos rfl, hnil]
          exact .inr ⟨q, rfl, upd_same, hqH⟩
        · rw [if_neg hk, List.append_nil, if_neg (fun e => hk (kI_inj e).symm)]
          rcases L1.at' k' with z | ⟨l', hv2, el2, nl2⟩
          · exact .inl z
          · have el4 := s4 _ _ el2
            refine .inr ⟨l', hv2, ?_, nl2⟩
            rw [upd_ne, upd_ne]
            · exact el4
            · intro e; subst e; rw [ed4] at el4; cases el4
            · intro e; subst e; rw [(s2.trans s3) _ _ el2] at hq; cases hq
      · rw [valV_put] at h1 h2
        have old : ∀ k', valV kvs (kI k') = some (.ref q) → False := fun k' h => by
          rcases L1.at' k' with ⟨z, _⟩ | ⟨l', hv2, el2, _⟩
          · rw [z] at h; cases h
          · rw [hv2] at h
            cases Option.some.inj h
            rw [(s2.trans s3) _ _ el2] at hq
            cases hq
        by_cases e1 : kI k1 = kI (lnI ax c)
        · by_cases e2 : kI k2 = kI (lnI ax c)
          · exact kI_inj (e1.trans e2.symm)
          · rw [if_pos e1] at h1
            rw [if_neg e2] at h2
            obtain rfl := Option.some.inj h1
            exact absurd (old k2 h2) id
        · rw [if_neg e1] at h1
          by_cases e2 : kI k2 = kI (lnI ax c)
          · rw [if_pos e2] at h2
            obtain rfl := Option.some.inj h2
            exact absurd (old k1 h1) id
          · rw [if_neg e2] at h2
            exact L1.inj _ _ _ h1 h2
theorem ok_nearest_ahead (L : All K w mg ad) : FnOk P w K mg base CX0 2 ad.f_nearest_ahead ad.d_nearest_ahead ["cell", "sand_lines", "way"] (spNearest K) := by
  refine L.nearest_ahead.F.okQ sc_nearest_ahead (fun vs H Q E h => ?_) (fun cdv A outer s H vs Q E hr h => ?_)
  · obtain ⟨a, d, u, c, ss, rfl, _⟩ := h
    rfl
  obtain ⟨a, d, u, c, ss, rfl, hS, hd, hl, k⟩ := h
  refine ⟨_, (qss_cons (qs_set (i := 3) sc_nearest_ahead.nd rfl (Or.inl rfl) (qe_ix qx_str (qv 2) qe_int (fun _ _ => rfl)))
    (qss_cons (qs_set (i := 4) sc_nearest_ahead.nd rfl (Or.inr rfl) (qe_call ((ok_along L).mono (by decide)) hr rfl L.along.m L.along.F.kp L.along.b .nil pass0 (qa_cons (qv 0) (qa_cons (qv 3) qa_nil))))
    (qss_cons (qs_set (i := 5) sc_nearest_ahead.nd rfl (Or.inl rfl) (qe_dget2 (hu_of hr) (qv 1) (qe_call ((ok_line_of L).mono (by decide)) hr rfl L.line_of.m L.line_of.F.kp L.line_of.b .nil pass0 (qa_cons (qv 0) (qa_cons (qv 3) qa_nil))) (qe_lst qa_nil) ⟨rfl, rfl, rfl, rfl⟩))
    (qss_cons (qs_if (qt_cmpR qo_eq (qe_ix qx_str (qv 2) qe_int (fun _ _ => rfl)) qe_str (nomark _)) (qss_one (qs_set (i := 6) sc_nearest_ahead.nd rfl (Or.inl rfl) (qe_minD (K := K) rfl rfl rfl L.n_min (qe_comp (N := ["number", "here"]) ["number"] [4] rfl rfl rfl rfl (qi_list (K := K) rfl (qv 5)) (fun _ _ _ _ => (qg_name (i := 0) (by show (["number", "here"] : List Str).Nodup; decide +kernel) rfl (Or.inl rfl))) (fun _ _ _ _ => (qf_one (qt_cmpR qo_gt (qv 0) (qv 1) (nomark _)))) (fun _ _ _ _ => (qv 0))) qe_non))) (qss_one (qs_set (i := 6) sc_nearest_ahead.nd rfl (Or.inl rfl) (qe_maxD (K := K) rfl rfl rfl L.n_max (qe_comp (N := ["number", "here"]) ["number"] [4] rfl rfl rfl rfl (qi_list (K := K) rfl (qv 5)) (fun _ _ _ _ => (qg_name (i := 0) (by show (["number", "here"] : List Str).Nodup; decide +kernel) rfl (Or.inl rfl))) (fun _ _ _ _ => (qf_one (qt_cmpR qo_lt (qv 0) (qv 1) (nomark _)))) (fun _ _ _ _ => (qv 0))) qe_non))))
    (qss_cons (qs_if (qt_cmpR qo_isN (qv 6) qe_non (nomark _)) (qss_one (qs_ret qe_non)) qss_nil)
    (qss_one (qs_ret (qe_call ((ok_placed L).mono (by decide)) hr rfl L.placed.m L.placed.F.kp L.placed.b .nil pass0 (qa_cons (qv 0) (qa_cons (qv 3) (qa_cons (qv 6) qa_nil))))))))))), ?_⟩
  obtain ⟨c1, ec1, q1⟩ := way_ax u
  obtain ⟨c0, ec0, q0⟩ := way_sg u
  walk_at "rd"
  refine rd_str (way_len u) ec1 ?_
  rw [q1]
  walk_at "rd"
  refine ⟨a, u.ax, c, rfl, hS, ?_⟩
  walk_at "rd"
  obtain ⟨kvs, ed, hk⟩ := id hd
  refine ⟨d, rfl, .inr ⟨kvs, .inl ed⟩, ?_⟩
  walk_at "rd"
  refine ⟨a, u.ax, c, rfl, hS, fun p H1 s1 e1 => ?_⟩
  walk_at "rd"
  refine ⟨le0, fun q hq => ?_⟩
  have s2 := s1.trans (same_new (o := .lst []) hq)
  have eg : DGet (upd H1 q (.lst [])) d (.ref p) (valV kvs (kI (lnI u.ax c))) := .inr ⟨kvs, _, p, .inl (s2 _ _ ed), rfl, by rw [kI_v]; exact lk_old hq e1, rfl⟩
  refine ⟨_, eg, ?_⟩
  have hnums : ∃ l, (valV kvs (kI (lnI u.ax c))).getD (.ref q) = .ref l ∧ upd H1 q (.lst []) l = some (.lst ((numsAt u.ax ss (lnI u.ax c)).map V.int)) := by
    rcases hk (lnI u.ax c) with ⟨z1, z2⟩ | ⟨l, z1, z2⟩
    · exact ⟨q, by rw [z1]; rfl, by rw [upd_same, z2]; rfl⟩
    · exact ⟨l, by rw [z1]; rfl, s2 _ _ z2⟩
  obtain ⟨l, el, hl1⟩ := hnums
  rw [el]
  have hnl : (numsAt u.ax ss (lnI u.ax c)).length ≤ 100000 := by
    unfold numsAt
    rw [List.length_map]
    exact Nat.le_trans (List.length_filter_le _ _) hl
  have hmem : ∀ n, n ∈ numsAt u.ax ss (lnI u.ax c) ↔ ∃ e ∈ ss, lnI u.ax e = lnI u.ax c ∧ u.ax.at e = n := fun n => by
    unfold numsAt
    simp only [List.mem_map, List.mem_filter, decide_eq_true_eq]
    exact ⟨fun ⟨e, ⟨h1, h2⟩, h3⟩ => ⟨e, h1, h2, h3⟩, fun ⟨e, h1, h2, h3⟩ => ⟨e, ⟨h1, h2⟩, h3⟩⟩
  with_reducible refine rd_gname ?_
  with_reducible refine rd_seqK fun N hN => ?_
  have last0 : ∀ (H2 : Hp), IsNear u ss c none → Same H H2 → N [some (.ref a), some (.ref d), some (.str u.s), some (.str u.ax.s), some (.int (u.ax.at c)), some (.ref l), some .non] H2 := by
    intro H2 hn s3
    apply hN
    walk_at "rd"
    exact k none _ H2 hn s3 rfl
  have last1 : ∀ (M : Int) (H2 : Hp), IsNear u ss c (some M) → Same H H2 → N [some (.ref a), some (.ref d), some (.str u.s), some (.str u.ax.s), some (.int (u.ax.at c)), some (.ref l), some (.int M)] H2 := by
    intro M H2 hn s3
    apply hN
    walk_at "rd"
    refine ⟨a, u.ax, c, M, rfl, same_tup s3 hS, fun p2 H3 s4 e4 => ?_⟩
    exact k (some M) _ H3 hn (s3.trans s4) ⟨p2, rfl, e4⟩
  walk_at "rd"
  refine rd_str (way_len u) ec0 ?_
  refine ⟨rfl, ?_⟩
  rw [q0]
  walk_at "rd"
  cases hup : u.up
  · walk_at "rd"
    intro acc hacc
    refine comp_fm (R := IsI) (S := IsI) (fun n : Int => decide (n < u.ax.at c)) id 1 [some (.int (u.ax.at c))] (feeds_list (SqL.of hl1) (Rs.ints _)) (by omega) hacc ?_ ?_
    · rintro os v n H' R1 R0 ho s3 _ rfl k1 k0
      obtain ⟨o, rfl⟩ := List.length_eq_one_iff.mp ho
      walk_at "rd"
      by_cases h : n < u.ax.at c
      · rw [decide_eq_true h]
        refine iteT ?_
        walk_at "rd"
        exact k1 [_] _ _ rfl (Same.refl _) (decide_eq_true h) rfl
      · rw [decide_eq_false h]
        refine iteF ?_
        exact k0 [_] _ rfl (Same.refl _) (decide_eq_false h)
    intro zs H2 s3 e3 r3
    rw [List.map_id] at r3
    rw [ints_eq r3] at e3
    walk_at "rd"
    refine ⟨acc, _, rfl, SqL.of e3, fun h0 => ?_, fun hne M hM hle => ?_⟩
    · refine last0 H2 (fun e he h1 h2 => ?_) (s2.trans s3)
      unfold ahd at h2
      rw [hup, if_neg (by decide)] at h2
      have : u.ax.at e ∈ ((numsAt u.ax ss (lnI u.ax c)).filter fun n : Int => decide (n < u.ax.at c)) := List.mem_filter.mpr ⟨(hmem _).mpr ⟨e, he, h1, rfl⟩, decide_eq_true h2⟩
      rw [h0] at this
      cases this
    · obtain ⟨h1, h2⟩ := List.mem_filter.mp hM
      have h2 : M < u.ax.at c := of_decide_eq_true h2
      refine last1 M H2 ⟨(hmem M).mp h1, ?_, fun e he e1 e2 => ?_⟩ (s2.trans s3)
      · unfold ahd; rw [hup, if_neg (by decide)]; exact h2
      · unfold ahd at e2 ⊢
        rw [hup, if_neg (by decide)] at e2 ⊢
        have := hle _ (List.mem_filter.mpr ⟨(hmem _).mpr ⟨e, he, e1, rfl⟩, decide_eq_true e2⟩)
        omega
  · walk_at "rd"
    intro acc hacc
    refine comp_fm (R := IsI) (S := IsI) (fun n : Int => decide (u.ax.at c < n)) id 1 [some (.int (u.ax.at c))] (feeds_list (SqL.of hl1) (Rs.ints _)) (by omega) hacc ?_ ?_
    · rintro os v n H' R1 R0 ho s3 _ rfl k1 k0
      obtain ⟨o, rfl⟩ := List.length_eq_one_iff.mp ho
      walk_at "rd"
      by_cases h : u.ax.at c < n
      · rw [decide_eq_true h]
        refine iteT ?_
        walk_at "rd"
        exact k1 [_] _ _ rfl (Same.refl _) (decide_eq_true h) rfl
      · rw [decide_eq_false h]
        refine iteF ?_
        exact k0 [_] _ rfl (Same.refl _) (decide_eq_false h)
    intro zs H2 s3 e3 r3
    rw [List.map_id] at r3
    rw [ints_eq r3] at e3
    walk_at "rd"
    refine ⟨acc, _, rfl, SqL.of e3, fun h0 => ?_, fun hne M hM hle => ?_⟩
    · refine last0 H2 (fun e he h1 h2 => ?_) (s2.trans s3)
      unfold ahd at h2
      rw [hup, if_pos rfl] at h2
      have : u.ax.at e ∈ ((numsAt u.ax ss (lnI u.ax c)).filter fun n : Int => decide (u.ax.at c < n)) := List.mem_filter.mpr ⟨(hmem _).mpr ⟨e, he, h1, rfl⟩, decide_eq_true h2⟩
      rw [h0] at this
      cases this
    · obtain ⟨h1, h2⟩ := List.mem_filter.mp hM
      have h2 : u.ax.at c < M := of_decide_eq_true h2
      refine last1 M H2 ⟨(hmem M).mp h1, ?_, fun e he e1 e2 => ?_⟩ (s2.trans s3)
      · unfold ahd; rw [hup, if_pos rfl]; exact h2
      · unfold ahd at e2 ⊢
        rw [hup, if_pos rfl] at e2 ⊢
        have := hle _ (List.mem_filter.mpr ⟨(hmem _).mpr ⟨e, he, e1, rfl⟩, decide_eq_true e2⟩)
        omega
theorem ok_hindrance (L : All K w mg ad) : FnOk P w K mg base CX0 3 ad.f_hindrance ad.d_hindrance ["body", "sand", "way"] (spHind K) := by
  refine L.hindrance.F.okQ sc_hindrance (fun vs H Q E h => ?_) (fun cdv A outer s H vs Q E hr h => ?_)
  · obtain ⟨a, b, u, ys, zs, bs, ss, rfl, _⟩ := h
    rfl
  obtain ⟨a, b, u, ys, zs, bs, ss, rfl, ha, hba, hb, hcb, hl1, hl2, k⟩ := h
  refine ⟨_, (qss_cons (qs_set (i := 3) sc_hindrance.nd rfl (Or.inl rfl) (qe_call ((ok_lines_of L).mono (by decide)) hr rfl L.lines_of.m L.lines_of.F.kp L.lines_of.b .nil pass0 (qa_cons (qv 1) (qa_cons (qe_ix qx_str (qv 2) qe_int (fun _ _ => rfl)) qa_nil))))
    (qss_cons (qs_for PassesOwn.never rfl (qi_list (K := K) rfl (qv 0)) (qg_name (i := 4) sc_hindrance.nd rfl (Or.inl rfl))
      (qss_cons (qs_set (i := 5) sc_hindrance.nd rfl (Or.inl rfl) (qe_call ((ok_nearest_ahead L).mono (by decide)) hr rfl L.nearest_ahead.m L.nearest_ahead.F.kp L.nearest_ahead.b .nil pass0 (qa_cons (qv 4) (qa_cons (qv 3) (qa_cons (qv 2) qa_nil)))))
    (qss_one (qs_if (qt_cmpR qo_notN (qv 5) qe_non (nomark _)) (qss_one (qs_ret (qe_tup (qa_cons (qv 4) (qa_cons (qv 5) qa_nil))))) qss_nil))))
    (qss_one (qs_ret qe_non)))), ?_⟩
  obtain ⟨c1, ec1, q1⟩ := way_ax u
  walk_at "rd"
  refine rd_str (way_len u) ec1 ?_
  rw [q1]
  walk_at "rd"
  refine ⟨b, u.ax, zs, ss, rfl, hb, hcb, hl2, fun d H1 s1 nd e1 => ?_⟩
  have ha1 := s1.seq ha
  walk_at "rd"
  refine for_feeds (R := IsC) (H0 := H1) (fun i σ H' => (∃ o4 o5, σ = [some (.ref a), some (.ref b), some (.str u.s), some (.ref d), o4, o5]) ∧ Same H1 H' ∧ ∀ c ∈ bs.take i, IsNear u ss c none) (feeds_list ha1 (Rs.up s1 hba)) (fun _ _ _ q => q.2.1) ⟨⟨_, _, rfl⟩, Same.refl _, fun _ h => by simp at h⟩ ?_ ?_
  · rintro σ H' ⟨⟨o4, o5, rfl⟩, s2, hn⟩
    rw [List.take_of_length_le (Nat.le_refl _)] at hn
    walk_at "rd"
    exact k none _ H' hn (s1.trans s2) rfl
  · rintro i c v σ H2 H' hi ex ⟨⟨o4, o5, rfl⟩, s2, hn⟩ s3 ⟨p, rfl, ep⟩
    walk_at "rd"
    refine ⟨p, d, u, c, ss, rfl, SqT.of ep, e1.up (s2.trans s3), hl2, fun o v H3 hno s4 hv => ?_⟩
    have ep3 := s4 _ _ ep
    cases o with
    | none =>
      have hv : v = .non := hv
      subst hv
      walk_at "rd"
      refine ⟨⟨_, _, rfl⟩, s2.trans (s3.trans s4), fun c' hc' => ?_⟩
      rw [take_snoc ex] at hc'
      rcases List.mem_append.mp hc' with z | z
      · exact hn c' z
      · rw [List.mem_singleton] at z; subst z; exact hno
    | some M =>
      obtain ⟨q, rfl, eq⟩ := hv
      walk_at "rd"
      refine ⟨le2, fun t ht => ?_⟩
      walk_at "rd"
      exact k (some (c, u.ax.put M c)) _ _ ⟨i, ex, hn, M, hno, rfl⟩ (s1.trans (s2.trans (s3.trans (s4.trans (same_new ht))))) ⟨t, p, q, rfl, upd_same, lk_old ht ep3, lk_old ht eq⟩
theorem ok_first_bump (L : All K w mg ad) : FnOk P w K mg base CX0 3 ad.f_first_bump ad.d_first_bump ["body", "sand", "way"] (spBump K) := by
  refine L.first_bump.F.okQ sc_first_bump (fun vs H Q E h => ?_) (fun cdv A outer s H vs Q E hr h => ?_)
  · obtain ⟨a, b, u, ys, zs, bs, ss, rfl, _⟩ := h
    rfl
  obtain ⟨a, b, u, ys, zs, bs, ss, rfl, ha, hba, hb, hcb, hl1, hl2, w1, w2, k⟩ := h
  refine ⟨_, (qss_cons (qs_set (i := 3) sc_first_bump.nd rfl (Or.inl rfl) (qe_ix qx_str (qv 2) qe_int (fun _ _ => rfl)))
    (qss_cons (qs_set (i := 4) sc_first_bump.nd rfl (Or.inl rfl) (qe_call ((ok_lines_of L).mono (by decide)) hr rfl L.lines_of.m L.lines_of.F.kp L.lines_of.b .nil pass0 (qa_cons (qv 1) (qa_cons (qv 3) qa_nil))))
    (qss_cons (qs_set (i := 5) sc_first_bump.nd rfl (Or.inl rfl) (qe_lst qa_nil))
    (qss_cons (qs_for PassesOwn.never rfl (qi_list (K := K) rfl (qv 0)) (qg_name (i := 6) sc_first_bump.nd rfl (Or.inl rfl))
      (qss_cons (qs_set (i := 7) sc_first_bump.nd rfl (Or.inl rfl) (qe_call ((ok_nearest_ahead L).mono (by decide)) hr rfl L.nearest_ahead.m L.nearest_ahead.F.kp L.nearest_ahead.b .nil pass0 (qa_cons (qv 6) (qa_cons (qv 4) (qa_cons (qv 2) qa_nil)))))
    (qss_one (qs_if (qt_cmpR qo_notN (qv 7) qe_non (nomark _)) (qss_one (qs_expr (qe_bm (K := K) rfl PySem.F.plainAttrs_list PySem.F.slot_list_append PySem.F.type_list_append mt_append (qv 5) (qa_cons (qe_callB qc_abs rfl L.n_abs b_abs (qa_cons (qe_op qo_sub (qe_call ((ok_along L).mono (by decide)) hr rfl L.along.m L.along.F.kp L.along.b .nil pass0 (qa_cons (qv 7) (qa_cons (qv 3) qa_nil))) (qe_call ((ok_along L).mono (by decide)) hr rfl L.along.m L.along.F.kp L.along.b .nil pass0 (qa_cons (qv 6) (qa_cons (qv 3) qa_nil)))) qa_nil)) qa_nil)))) qss_nil))))
    (qss_one (qs_ret (qe_minD (K := K) rfl rfl rfl L.n_min (qv 5) qe_non))))))), ?_⟩
  obtain ⟨c1, ec1, q1⟩ := way_ax u
  walk_at "rd"
  refine rd_str (way_len u) ec1 ?_
  rw [q1]
  walk_at "rd"
  refine ⟨b, u.ax, zs, ss, rfl, hb, hcb, by omega, fun d H1 s1 nd e1 => ?_⟩
  have ha1 := s1.seq ha
  walk_at "rd"
  refine ⟨le0, fun l hl => ?_⟩
  have ha2 := sqL_new (o := .lst []) hl ha1
  walk_at "rd"
  have hlH := s1.free hl
  have ndl : ∀ kvs : List (List Key × V), H1 d = some (.dT kvs) → d ≠ l := fun kvs e => ne_of_none e hl
  refine for_feeds (R := IsC) (H0 := H1) (fun i σ H' => (∃ o6 o7, σ = [some (.ref a), some (.ref b), some (.str u.s), some (.str u.ax.s), some (.ref d), some (.ref l), o6, o7]) ∧ Same H1 H' ∧ ∃ ns : List Int, H' l = some (.lst (ns.map V.int)) ∧ ns.length ≤ i ∧
      (∀ n ∈ ns, ∃ c ∈ bs, ∃ j : Nat, 1 ≤ j ∧ n = (j : Int) ∧ stN u c j ∈ ss) ∧ ∀ c ∈ bs.take i, IsNear u ss c none ∨ ∃ j : Nat, (j : Int) ∈ ns ∧ ∀ j' : Nat, 1 ≤ j' → j' < j → stN u c j' ∉ ss) (feeds_list ha1 (Rs.up s1 hba)) (fun _ _ _ q => q.2.1)
    ⟨⟨_, _, rfl⟩, same_new hl, [], upd_same, Nat.zero_le _, (fun _ h => nomatch h), fun _ h => by simp at h⟩ ?_ ?_
  · rintro σ H' ⟨⟨o6, o7, rfl⟩, s2, ns, el, nl, h1, h2⟩
    rw [List.take_of_length_le (Nat.le_refl _)] at h2
    walk_at "rd"
    refine ⟨l, ns, rfl, SqL.of el, fun e => ?_, fun hne M hM hle => ?_⟩
    · subst e
      refine k none H' (fun c hc => ?_) (s1.trans s2)
      rcases h2 c hc with z | ⟨j, hj, _⟩
      · exact z
      · cases hj
    · obtain ⟨c, hc, j, j1, rfl, hj⟩ := h1 M hM
      refine k (some j) H' ⟨j1, ⟨c, hc, hj⟩, fun c' hc' j' g1 g2 => ?_⟩ (s1.trans s2)
      rcases h2 c' hc' with z | ⟨j2, hj2, hn2⟩
      · exact none_st z g1
      · have := hle _ hj2
        exact hn2 j' g1 (by omega)
  · rintro i c v σ H2 H' hi ex ⟨⟨o6, o7, rfl⟩, s2, ns, el, nl, h1, h2⟩ s3 ⟨p, rfl, ep⟩
    have hcb' := List.mem_of_getElem? ex
    rw [take_snoc ex]
    have el3 := s3 _ _ el
    walk_at "rd"
    refine ⟨p, d, u, c, ss, rfl, SqT.of ep, e1.up (s2.trans s3), by omega, fun o v H3 hno s4 hv => ?_⟩
    have ep3 := s4 _ _ ep
    have el4 := s4 _ _ el3
    cases o with
    | none =>
      have hv : v = .non := hv
      subst hv
      walk_at "rd"
      refine ⟨⟨_, _, rfl⟩, s2.trans (s3.trans s4), ns, el4, by omega, h1, fun c' hc' => ?_⟩
      rcases List.mem_append.mp hc' with z | z
      · exact h2 c' z
      · rw [List.mem_singleton] at z; subst z; exact .inl hno
    | some M =>
      obtain ⟨q, rfl, eq⟩ := hv
      obtain ⟨j, j1, eM, hj, hmin⟩ := near_st hno
      walk_at "rd"
      refine ⟨.inl ⟨rfl, _, SqL.of el4⟩, ?_⟩
      walk_at "rd"
      refine ⟨q, u.ax, _, rfl, SqT.of eq, ?_⟩
      walk_at "rd"
      refine ⟨p, u.ax, c, rfl, SqT.of ep3, ?_⟩
      walk_at "rd"
      rw [at_put]
      have eabs : (if M - u.ax.at c < 0 then -(M - u.ax.at c) else M - u.ax.at c) = (j : Int) := by
        rw [eM]
        rcases sg_cases u.up with ⟨hu, hs⟩ | ⟨hu, hs⟩ <;> rw [hs] <;> split <;> omega
      rw [eabs]
      refine ⟨l, _, _, rfl, rfl, el4, small1000 (by rw [List.length_map]; omega), ?_⟩
      walk_at "rd"
      refine ⟨⟨_, _, rfl⟩, same_up (s2.trans (s3.trans s4)) hl, ns ++ [(j : Int)], by rw [upd_same, List.map_append]; rfl, by rw [List.length_append, List.length_singleton]; omega, fun n hn => ?_, fun c' hc' => ?_⟩
      · rcases List.mem_append.mp hn with z | z
        · exact h1 n z
        · rw [List.mem_singleton] at z; exact ⟨c, hcb', j, j1, z, hj⟩
      · rcases List.mem_append.mp hc' with z | z
        · exact (h2 c' z).imp id fun ⟨j, a, b⟩ => ⟨j, List.mem_append_left _ a, b⟩
        · rw [List.mem_singleton] at z; subst z
          exact .inr ⟨j, List.mem_append_right _ (List.mem_singleton.mpr rfl), hmin⟩
end
end P97
set_option Elab.async false
set_option linter.all false
set_option maxRecDepth 100000
set_option maxHeartbeats 4000000
namespace P97
open PySem L2 Srt Pc
section
variable {P : Program} {w : World} {K : PySem.W.Frag} {mg : Str → Option Value} {base : Heap} {ad : Ad}
theorem ok_holders_of (L : All K w mg ad) : FnOk P w K mg base CX0 4 ad.f_holders_of ad.d_holders_of ["parts", "number"] (spHolders K) := by
  refine L.holders_of.F.okQ sc_holders_of (fun vs H Q E h => ?_) (fun cdv A outer s H vs Q E hr h => ?_)
  · obtain ⟨a, i, ps, rfl, _⟩ := h
    rfl
  obtain ⟨a, i, ps, rfl, ⟨zs, ea, rz⟩, ⟨hn, hlen⟩, hi, k⟩ := h
  refine ⟨_, (qss_cons (qs_set (i := 2) sc_holders_of.nd rfl (Or.inl rfl) (qe_ix (qx_tup (K := K) rfl) (qe_ix (qx_list (K := K) rfl) (qv 0) (qv 1) (fun _ _ => rfl)) qe_int (fun _ _ => rfl)))
    (qss_cons (qs_set (i := 3) sc_holders_of.nd rfl (Or.inl rfl) (qe_ix (qx_tup (K := K) rfl) (qe_ix (qx_list (K := K) rfl) (qv 0) (qv 1) (fun _ _ => rfl)) qe_int (fun _ _ => rfl)))
    (qss_cons (qs_set (i := 4) sc_holders_of.nd rfl (Or.inl rfl) (qe_lst qa_nil))
    (qss_cons (qs_for PassesOwn.never rfl (qi_enumL (K := K) rfl rfl L.n_enumerate (qa_cons (qv 0) qa_nil)) (qg_tup (K := K) (n := 2) rfl rfl (qgs_cons (qg_name (i := 5) sc_holders_of.nd rfl (Or.inl rfl)) (qgs_cons (qg_name (i := 6) sc_holders_of.nd rfl (Or.inl rfl)) qgs_nil)))
      (qss_one (qs_if (QW.t (qw_and (qt_cmpR qo_ne (qv 5) (qv 1) (nomark _)) (qw_and1 (qt_cmpR qo_notN (qe_call ((ok_hindrance L).mono (by decide)) hr rfl L.hindrance.m L.hindrance.F.kp L.hindrance.b .nil pass0 (qa_cons (qv 2) (qa_cons (qe_ix (qx_tup (K := K) rfl) (qv 6) qe_int (fun _ _ => rfl)) (qa_cons (qv 3) qa_nil)))) qe_non (nomark _))))) (qss_one (qs_expr (qe_bm (K := K) rfl PySem.F.plainAttrs_list PySem.F.slot_list_append PySem.F.type_list_append mt_append (qv 4) (qa_cons (qv 5) qa_nil)))) qss_nil)))
    (qss_one (qs_ret (qv 4))))))), ?_⟩
  obtain ⟨v0, ev0, p0, b0, ys0, rfl, f1, f2, f3⟩ := Rs.get' rz (List.getElem?_eq_getElem hi)
  have at0 : atI zs (i : Int) = some (.ref p0) := by
    unfold atI ixN
    rw [if_pos (by omega), if_pos (by have := rz.len; omega)]
    exact ev0
  have hx0 := hlen _ (List.getElem_mem hi)
  generalize hx : ps[i] = x0 at f1 f2 f3 hx0
  obtain ⟨bs, u⟩ := x0
  walk_at "rd"
  refine rd_ixL (SqL.of ea) at0 ?_
  walk_at "rd"
  refine rd_ixL (SqL.of ea) at0 ?_
  walk_at "rd"
  refine ⟨le0, fun l hl => ?_⟩
  walk_at "rd"
  have eal := lk_old (o := .lst []) hl ea
  refine ⟨a, rfl, ⟨_, SqL.of eal⟩, ?_⟩
  have sl := same_new (o := .lst []) hl
  refine for_feeds (R := IsN IsV) (H0 := H) (fun j σ H' => (∃ o1 o2, σ = [some (.ref a), some (.int (i : Int)), some (.ref b0), some (.str u.s), some (.ref l), o1, o2]) ∧ Same H H' ∧ H' l = some (.lst ((((List.range ps.length).take j).filter (heldB ps i)).map fun j : Nat => V.int (j : Int)))) (feeds_enumL (SqL.of ea) (rs_v zs)) (fun _ _ _ q => q.2.1) ⟨⟨_, _, rfl⟩, sl, upd_same⟩ ?_ ?_
  · rintro σ H' ⟨⟨o1, o2, rfl⟩, s1, e1⟩
    have hzl : ((List.range zs.length).zip zs).length = ps.length := by simp [rz.len]
    rw [hzl, List.take_of_length_le (by simp)] at e1
    walk_at "rd"
    refine k l H' s1 hl ?_
    rw [e1]
    unfold heldI
    rw [List.map_map]
    rfl
  · rintro j ⟨jn, v⟩ v' σ H1 H' hj ex ⟨⟨o1, o2, rfl⟩, s1, e1⟩ s2 ⟨T, w, rfl, eT, rfl⟩
    obtain ⟨ex1, ex2⟩ := List.getElem?_zip_eq_some.mp ex
    have hjz : j < zs.length := (List.getElem?_eq_some_iff.mp ex2).1
    rw [List.getElem?_range hjz] at ex1
    obtain rfl : j = jn := Option.some.inj ex1
    have hjp : j < ps.length := by have := rz.len; omega
    obtain ⟨x, exp, p1, b1, ys1, rfl, g1, g2, g3⟩ := Rs.get rz ex2
    have hx1 := hlen x (List.mem_of_getElem? exp)
    have s3 := s1.trans s2
    have g1' := s3 _ _ g1
    have e1' := s2 _ _ e1
    have hi' : ps[i]? = some (bs, u) := by rw [← hx]; exact List.getElem?_eq_getElem hi
    rw [take_snoc (List.getElem?_range hjp), List.filter_append]
    have no : heldB ps i j = false → ∀ H3, Same H' H3 → Same H H3 ∧ H3 l = some (.lst ((((List.range ps.length).take j).filter (heldB ps i) ++ [j].filter (heldB ps i)).map fun j : Nat => V.int (j : Int))) := fun q H3 s4 => by
      rw [List.filter_cons, q]
      exact ⟨s3.trans s4, by simpa using s4 _ _ e1'⟩
    walk_at "rd"
    by_cases hji : (j : Int) = (i : Int)
    · rw [decide_eq_true hji]
      walk_at "rd"
      exact ⟨⟨_, _, rfl⟩, no (by
        cases q : heldB ps i j with
        | false => rfl
        | true => exact absurd (Int.ofNat.inj hji) (held_eq.mp q).1) _ (Same.refl _)⟩
    · rw [decide_eq_false hji]
      walk_at "rd"
      refine ⟨b0, b1, u, ys0, ys1, bs, x.1, rfl, SqL.of (s3 _ _ f2), Rs.up s3 f3, SqL.of (s3 _ _ g2), Rs.up s3 g3, Nat.le_trans hx0 (by omega), by omega, fun oo vv H3 io s4 hv => ?_⟩
      cases oo with
      | none =>
        have hv : vv = .non := hv
        subst hv
        walk_at "rd"
        refine ⟨⟨_, _, rfl⟩, no ?_ _ s4⟩
        cases q : heldB ps i j with
        | false => rfl
        | true =>
          obtain ⟨_, x', y', z1, z2, z3⟩ := held_eq.mp q
          rw [hi'] at z1
          rw [exp] at z2
          cases z1
          cases z2
          exact absurd z3 (hind_none io)
      | some pr =>
        obtain ⟨c1, c2⟩ := pr
        obtain ⟨q, q1, q2, rfl, _⟩ := hv
        have yes : heldB ps i j = true := held_eq.mpr ⟨fun e => hji (by rw [e]), _, _, hi', exp, hind_some io⟩
        walk_at "rd"
        refine ⟨.inl ⟨rfl, _, SqL.of (s4 _ _ e1')⟩, ?_⟩
        walk_at "rd"
        refine ⟨l, _, _, rfl, rfl, s4 _ _ e1', small1000 ?_, ?_⟩
        · rw [List.length_map]
          refine Nat.le_trans (List.length_filter_le _ _) ?_
          rw [List.length_take]
          omega
        · refine ⟨⟨_, _, rfl⟩, same_up (s3.trans s4) hl, ?_⟩
          rw [upd_same, List.filter_cons, yes, List.map_append]
          rfl
theorem ok_held_by (L : All K w mg ad) : FnOk P w K mg base CX0 5 ad.f_held_by ad.d_held_by ["parts"] (spHeld K) := by
  refine L.held_by.F.okQ sc_held_by (fun vs H Q E h => ?_) (fun cdv A outer s H vs Q E hr h => ?_)
  · obtain ⟨a, ps, rfl, _⟩ := h
    rfl
  obtain ⟨a, ps, rfl, hP, hok, k⟩ := h
  refine ⟨_, (qss_one (qs_ret (qe_comp (N := ["number", "parts"]) ["number"] [0] rfl rfl rfl rfl (qi_range1 rfl L.n_range (qa_cons (qe_callB (qc_len (K := K) rfl) rfl L.n_len b_len (qa_cons (qv 0) qa_nil)) qa_nil)) (fun _ _ _ _ => (qg_name (i := 0) (by show (["number", "parts"] : List Str).Nodup; decide +kernel) rfl (Or.inl rfl))) (fun _ _ _ _ => qf_nil) (fun _ _ _ _ => (qe_call ((ok_holders_of L).mono (by decide)) hr rfl L.holders_of.m L.holders_of.F.kp L.holders_of.b .nil pass0 (qa_cons (qv 1) (qa_cons (qv 0) qa_nil))))))), ?_⟩
  have hP' := hP
  obtain ⟨zs, ea, rz⟩ := hP'
  have hn := hok.1
  have hzl := rz.len
  walk_at "rd"
  intro acc hacc
  refine comp_relL (R := IsI) (S := fun H' v (x : Int) => IsNL H H' v (heldI ps x.toNat)) (fun {H H' v x} s ⟨p, x1, x2, x3⟩ => ⟨p, x1, s _ _ x2, x3⟩) (fun _ => true) 1 [some (.ref a)] feeds_range (by rw [List.length_map, List.length_range]; omega) hacc ?_ ?_
  · rintro os v n H' zz R1 R0 ho s2 ez hm rfl k1 k0
    obtain ⟨o, rfl⟩ := List.length_eq_one_iff.mp ho
    obtain ⟨j, hj, rfl⟩ := List.mem_map.mp hm
    have hj : j < ps.length := by have := List.mem_range.mp hj; omega
    walk_at "rd"
    refine ⟨a, j, ps, by rw [Int.zero_add]; rfl, Parts.up s2 hP, hok, hj, fun p H2 s3 np ep => ?_⟩
    have npa : p ≠ acc := fun e => by subst e; rw [ez] at np; cases np
    exact k1 [_] _ _ rfl s3 rfl ⟨p, rfl, hid_at npa (by rw [ep, Int.zero_add]; rfl), s2.free np⟩
  · intro zz H' s2 ez r2
    rw [List.filter_eq_self.mpr fun _ _ => rfl] at r2
    refine k acc zz H' s2 hacc ez ?_
    have r3 := rs_map (R := IsNL H) (f := fun x : Int => heldI ps x.toNat) r2
    rw [List.map_map] at r3
    have e : ((fun x : Int => heldI ps x.toNat) ∘ fun i : Nat => (0 : Int) + (i : Int)) = heldI ps := by
      funext i
      show heldI ps ((0 : Int) + (i : Int)).toNat = _
      rw [show ((0 : Int) + (i : Int)).toNat = i by omega]
    rw [e, show (zs.length : Int).toNat = ps.length by omega] at r3
    exact r3
theorem ok_those_among (L : All K w mg ad) : FnOk P w K mg base CX0 1 ad.f_those_among ad.d_those_among ["numbers", "there"] (spThose K) := by
  refine L.those_among.F.okQ sc_those_among (fun vs H Q E h => ?_) (fun cdv A outer s H vs Q E hr h => ?_)
  · obtain ⟨a, b, ns, ts, rfl, _⟩ := h
    rfl
  obtain ⟨a, b, ns, ts, rfl, ha, hb, hl, k⟩ := h
  refine ⟨_, (qss_one (qs_ret (qe_comp (N := ["number", "there"]) ["number"] [1] rfl rfl rfl rfl (qi_list (K := K) rfl (qv 0)) (fun _ _ _ _ => (qg_name (i := 0) (by show (["number", "there"] : List Str).Nodup; decide +kernel) rfl (Or.inl rfl))) (fun _ _ _ _ => (qf_one (qt_cmpR (qo_in (K := K) rfl) (qv 0) (qv 1) rfl))) (fun _ _ _ _ => (qv 0))))), ?_⟩
  walk_at "rd"
  intro acc hacc
  refine comp_fm (S := IsI) (fun j => decide (j ∈ ts)) (fun j : Int => j) 1 [some (.ref b)] (feeds_list ha (Rs.ints ns)) (by omega) hacc ?_ ?_
  · rintro os v j H' R1 R0 ho s2 _ rfl k1 k0
    obtain ⟨o, rfl⟩ := List.length_eq_one_iff.mp ho
    walk_at "rd"
    refine rd_inI (s2.seq hb) ?_
    cases e : decide (j ∈ ts) with
    | true =>
      walk_at "rd"
      exact k1 [_] _ _ rfl (Same.refl _) e rfl
    | false =>
      walk_at "rd"
      exact k0 [_] _ rfl (Same.refl _) e
  intro zs H1 s1 e1 r1
  rw [ints_eq r1, List.map_id'] at e1
  exact k acc H1 s1 hacc e1
theorem ok_ring_among (L : All K w mg ad) : FnOk P w K mg base CX0 2 ad.f_ring_among ad.d_ring_among ["holders", "there"] (spRing K) := by
  refine L.ring_among.F.okQ sc_ring_among (fun vs H Q E h => ?_) (fun cdv A outer s H vs Q E hr h => ?_)
  · obtain ⟨a, b, nss, ts, rfl, _⟩ := h
    rfl
  obtain ⟨a, b, nss, ts, rfl, hH, ok, hb, hne, hl, hrg, hf, k⟩ := h
  refine ⟨_, (qss_cons (qs_set (i := 2) sc_ring_among.nd rfl (Or.inl rfl) (qe_lst (qa_cons (qe_ix (qx_list (K := K) rfl) (qv 1) qe_int (fun _ _ => rfl)) qa_nil)))
    (qss_one (qs_while PassesOwn.never (qt_val qe_bl)
      (qss_cons (qs_set (i := 3) sc_ring_among.nd rfl (Or.inl rfl) (qe_ix (qx_list (K := K) rfl) (qe_call ((ok_those_among L).mono (by decide)) hr rfl L.those_among.m L.those_among.F.kp L.those_among.b .nil pass0 (qa_cons (qe_ix (qx_list (K := K) rfl) (qv 0) (qe_ix (qx_list (K := K) rfl) (qv 2) (qe_neg qe_int) (fun _ _ => rfl)) (fun _ _ => rfl)) (qa_cons (qv 1) qa_nil))) qe_int (fun _ _ => rfl)))
    (qss_cons (qs_if (qt_cmpR (qo_in (K := K) rfl) (qv 3) (qv 2) rfl) (qss_one (qs_ret (qe_slL (K := K) rfl (qv 2) (qo_some (qe_bm (K := K) rfl PySem.F.plainAttrs_list PySem.F.slot_list_index PySem.F.type_list_index (mt_indexK (K := K) rfl) (qv 2) (qa_cons (qv 3) qa_nil))) qo_none))) qss_nil)
    (qss_one (qs_expr (qe_bm (K := K) rfl PySem.F.plainAttrs_list PySem.F.slot_list_append PySem.F.type_list_append mt_append (qv 2) (qa_cons (qv 3) qa_nil))))))))), ?_⟩
  obtain ⟨t0, tr, rfl⟩ : ∃ t0 tr, ts = t0 :: tr := List.exists_cons_of_ne_nil hne
  walk_at "rd"
  refine rd_ixL hb (at_head0 t0 tr) ?_
  walk_at "rd"
  refine ⟨le1, fun w hw => ?_⟩
  have sw := same_new (o := .lst [.int t0]) hw
  walk_at "rd"
  refine rd_while (fun m σ H' => ∃ o, σ = [some (.ref a), some (.ref b), some (.ref w), o] ∧ Same H H' ∧ ∃ (ws : List Int), H' w = some (.lst (ws.map V.int)) ∧ Walk nss (t0 :: tr) ws ∧ m + ws.length = 101) 100 ⟨_, rfl, sw, [t0], upd_same, ⟨by simp, by simp, fun i hi => by simp at hi; subst hi; exact List.mem_cons_self, fun k i j h1 h2 => by simp at h2⟩, rfl⟩ ?_
  rintro m σ H' ⟨o, rfl, s1, ws, ew, wk, hm⟩
  walk_at "rd"
  refine ⟨_, fun σ' H' q => q, ?_⟩
  obtain ⟨l, hla⟩ : ∃ l, ws.getLast? = some l := ⟨_, List.getLast?_eq_some_getLast wk.ne⟩
  have hlt := hrg l (wk.sub l (List.mem_of_getLast? hla))
  obtain ⟨zs, pl, ez, az, ep⟩ := (Hols.up s1 hH).get (K := K) hlt.1 hlt.2
  walk_at "rd"
  refine rd_ixL (SqL.of ew) (at_last hla) ?_
  walk_at "rd"
  refine rd_ixL (SqL.of ez) az ?_
  walk_at "rd"
  refine ⟨pl, b, hol nss l, t0 :: tr, rfl, SqL.of ep, s1.seq hb, by have := ok.short hlt.1 hlt.2; omega, fun p H2 s2 hp e2 => ?_⟩
  obtain ⟨j, jr, ej⟩ : ∃ j jr, those (hol nss l) (t0 :: tr) = j :: jr := List.exists_cons_of_ne_nil (hf l (wk.sub l (List.mem_of_getLast? hla)))
  rw [ej] at e2
  have hj := mem_those.mp (show j ∈ those (hol nss l) (t0 :: tr) by rw [ej]; exact List.mem_cons_self)
  walk_at "rd"
  refine rd_ixL (SqL.of e2) (at_head0 j jr) ?_
  walk_at "rd"
  have ew2 := s2 _ _ ew
  refine rd_inI (SqL.of ew2) ?_
  have hwl0 := nodup_len wk.nd wk.sub
  by_cases hin : j ∈ ws
  · rw [decide_eq_true hin]
    have lt : ws.idxOf j < ws.length := List.idxOf_lt_length_iff.mpr hin
    walk_at "rd"
    refine ⟨.inl ⟨rfl, _, SqL.of ew2⟩, ?_⟩
    walk_at "rd"
    refine ⟨w, ws, j, rfl, rfl, SqL.of ew2, hin, by omega, ?_⟩
    refine ⟨_, rfl, ?_⟩
    walk_at "rd"
    intro p3 hp3
    walk_at "rd"
    refine k p3 (ws.drop (ws.idxOf j)) _ ((s1.trans s2).trans (same_new hp3)) ((s1.trans s2).free hp3) ?_ (wk.ring ok hrg hla hj.1 hin)
    rw [upd_same, cut_from (by omega)]
  · rw [decide_eq_false hin]
    walk_at "rd"
    refine ⟨.inl ⟨rfl, _, SqL.of ew2⟩, ?_⟩
    walk_at "rd"
    have wk2 := wk.snoc hla hj.1 hj.2 hin
    have hwl := nodup_len wk2.nd wk2.sub
    rw [List.length_append, List.length_singleton] at hwl
    refine ⟨w, _, _, rfl, rfl, ew2, small1000 (by rw [List.length_map]; omega), ?_⟩
    walk_at "rd"
    refine ⟨m - 1, by omega, _, rfl, same_up (s1.trans s2) hw, ws ++ [j], by rw [upd_same, List.map_append]; rfl, wk2, by rw [List.length_append, List.length_singleton]; omega⟩
theorem ok_order_of (L : All K w mg ad) : FnOk P w K mg base CX0 6 ad.f_order_of ad.d_order_of ["parts"] (spOrder K) := by
  refine L.order_of.F.okQ sc_order_of (fun vs H Q E h => ?_) (fun cdv A outer s H vs Q E hr h => ?_)
  · obtain ⟨a, ps, rfl, _⟩ := h
    rfl
  obtain ⟨a, ps, rfl, hP, hok, k⟩ := h
  refine ⟨_, (qss_cons (qs_set (i := 1) sc_order_of.nd rfl (Or.inr rfl) (qe_call ((ok_held_by L).mono (by decide)) hr rfl L.held_by.m L.held_by.F.kp L.held_by.b .nil pass0 (qa_cons (qv 0) qa_nil)))
    (qss_cons (qs_set (i := 2) sc_order_of.nd rfl (Or.inr rfl) (qe_listR rfl rfl L.n_list rfl L.n_range b_list (qa_cons (qe_callB (qc_len (K := K) rfl) rfl L.n_len b_len (qa_cons (qv 0) qa_nil)) qa_nil)))
    (qss_cons (qs_set (i := 3) sc_order_of.nd rfl (Or.inl rfl) (qe_lst qa_nil))
    (qss_cons (qs_while PassesOwn.never (qt_truth (K := K) (qv 2) (fun _ => rfl) rfl)
      (qss_cons (qs_setU (i := 4) (N := ["number", "there", "holders"]) ["number"] [2, 1] sc_order_of.nd rfl (Or.inl rfl) rfl rfl rfl rfl (qi_list (K := K) rfl (qv 2)) (fun _ _ _ _ => (qg_name (i := 0) (by show (["number", "there", "holders"] : List Str).Nodup; decide +kernel) rfl (Or.inl rfl))) (fun _ _ _ _ => (qf_one (qt_not (qt_truth (K := K) (qe_call ((ok_those_among L).mono (by decide)) hr rfl L.those_among.m L.those_among.F.kp L.those_among.b .nil pass0 (qa_cons (qe_ix (qx_list (K := K) rfl) (qv 2) (qv 0) (fun _ _ => rfl)) (qa_cons (qv 1) qa_nil))) (fun _ => rfl) rfl)))) (fun _ _ _ _ => (qv 0)))
    (qss_cons (qs_if (qt_not (qt_truth (K := K) (qv 4) (fun _ => rfl) rfl)) (qss_one (qs_ret (qe_tup (qa_cons qe_str (qa_cons (qe_call ((ok_ring_among L).mono (by decide)) hr rfl L.ring_among.m L.ring_among.F.kp L.ring_among.b .nil pass0 (qa_cons (qv 1) (qa_cons (qv 2) qa_nil))) qa_nil))))) qss_nil)
    (qss_cons (qs_expr (qe_bm (K := K) rfl PySem.F.plainAttrs_list PySem.F.slot_list_append PySem.F.type_list_append mt_append (qv 3) (qa_cons (qe_ix (qx_list (K := K) rfl) (qv 4) qe_int (fun _ _ => rfl)) qa_nil)))
    (qss_one (qs_expr (qe_bm (K := K) rfl PySem.F.plainAttrs_list PySem.F.slot_list_remove PySem.F.type_list_remove mt_removeI (qv 2) (qa_cons (qe_ix (qx_list (K := K) rfl) (qv 4) qe_int (fun _ _ => rfl)) qa_nil))))))))
    (qss_one (qs_ret (qe_tup (qa_cons qe_str (qa_cons (qv 3) qa_nil))))))))), ?_⟩
  have hP' := hP
  obtain ⟨zp, ezp, rzp⟩ := hP'
  have hpl := rzp.len
  walk_at "rd"
  refine ⟨a, ps, rfl, hP, hok, fun ph zh H1 s1 nh eh rh => ?_⟩
  have hH : Hols H1 ph (holsOf ps) := ⟨zh, eh, Paired.mapP rh fun _ _ ⟨p, x1, x2, _⟩ => ⟨p, x1, x2⟩⟩
  have ok := hols_ok hok
  have hn100 := ok.len
  have hn : (holsOf ps).length = ps.length := by unfold holsOf; simp
  have ezp1 := s1 _ _ ezp
  generalize holsOf ps = nss at *
  walk_at "rd"
  refine ⟨_, rfl, by omega, by have := hok.1; omega, fun lt hlt => ?_⟩
  walk_at "rd"
  refine ⟨le0, fun lg hlg => ?_⟩
  have e0 : (zp.length : Int).toNat = nss.length := by omega
  rw [e0] at hlg ⊢
  have sT := same_new (o := .lst ((rngI nss.length).map V.int)) hlt
  have sG := same_new (o := .lst []) hlg
  have ngt : lg ≠ lt := fun e => by subst e; rw [upd_same] at hlg; cases hlg
  have hlgH : H1 lg = none := sT.free hlg
  walk_at "rd"
  refine rd_while (fun m σ H' => ∃ o, σ = [some (.ref a), some (.ref ph), some (.ref lt), some (.ref lg), o] ∧ Same H1 H' ∧ ∃ (ts gone : List Int), H' lt = some (.lst (ts.map V.int)) ∧ H' lg = some (.lst (gone.map V.int)) ∧ ts.length = m ∧ gone.length + m = nss.length ∧ (∀ i ∈ ts, 0 ≤ i ∧ i < nss.length) ∧ taken nss nss.length (rngI nss.length) [] = taken nss m ts gone) nss.length
    ⟨_, rfl, sT.trans sG, rngI nss.length, [], lk_old hlg upd_same, upd_same, rangeI_len _, by simp, fun i hi => mem_rangeI.mp hi, rfl⟩ ?_
  rintro m σ H' ⟨o, rfl, s2, ts, gone, et, eg, hm, hgm, hr, htk⟩
  walk_at "rd"
  refine ⟨_, (SqL.of et).tru, ?_⟩
  by_cases hts : ts = []
  · subst hts
    rw [show (!(([] : List Int).map V.int).isEmpty) = false from rfl]
    walk_at "rd"
    refine ⟨le2, fun q hq => ?_⟩
    refine k (.ref q) _ (s1.trans (s2.trans (same_new hq))) ⟨q, lg, gone, _, rfl, upd_same, lk_old hq eg, s1.free hlgH, (s1.trans s2).free hq, .inl ⟨rfl, ?_⟩⟩
    have hm0 : m = 0 := hm.symm
    subst hm0
    exact htk
  · have e1 : (ts.map V.int).isEmpty = false := by cases ts <;> simp at hts ⊢
    rw [e1]
    walk_at "rd"
    refine ⟨_, fun _ _ q => q, ?_⟩
    walk_at "rd"
    intro acc hacc
    refine comp_fm (S := IsI) (fun i => decide (those (hol nss i) ts = [])) (fun j : Int => j) 1 [some (.ref lt), some (.ref ph)] (feeds_list (SqL.of et) (Rs.ints ts)) (by omega) hacc ?_ ?_
    · rintro os v j H3 R1 R0 ho s4 hmj rfl k1 k0
      obtain ⟨o, rfl⟩ := List.length_eq_one_iff.mp ho
      have hj := hr j hmj
      obtain ⟨zs, pl, ez, az, ep⟩ := (Hols.up (s2.trans s4) hH).get (K := K) hj.1 hj.2
      walk_at "rd"
      refine rd_ixL (SqL.of ez) az ?_
      walk_at "rd"
      refine ⟨pl, lt, hol nss j, ts, rfl, SqL.of ep, SqL.of (s4 _ _ et), by have := ok.short hj.1 hj.2; omega, fun p H4 s5 hp e5 => ?_⟩
      walk_at "rd"
      refine ⟨_, (SqL.of e5).tru, ?_⟩
      rw [emp_ints, Bool.not_not]
      cases e : decide (those (hol nss j) ts = []) with
      | true =>
        walk_at "rd"
        exact k1 [_] _ _ rfl s5 e rfl
      | false =>
        walk_at "rd"
        exact k0 [_] _ rfl s5 e
    · intro zs4 H4 s4 e4 r4
      rw [ints_eq r4, List.map_id'] at e4
      have e4 : H4 acc = some (.lst ((frees nss ts).map V.int)) := e4
      have s24 := s2.trans s4
      have et4 := s4 _ _ et
      have eg4 := s4 _ _ eg
      walk_at "rd"
      refine ⟨_, (SqL.of e4).tru, ?_⟩
      rw [emp_ints, Bool.not_not]
      have hmp : m = m - 1 + 1 := by
        have := List.length_pos_iff.mpr hts
        omega
      cases hf : frees nss ts with
      | nil =>
        rw [decide_eq_true rfl]
        walk_at "rd"
        refine ⟨ph, lt, nss, ts, rfl, Hols.up s24 hH, ok, SqL.of et4, hts, by omega, hr, frees_none hf, fun p r H5 s5 hp e5 hring => ?_⟩
        walk_at "rd"
        refine ⟨le2, fun q hq => ?_⟩
        walk_at "rd"
        refine k (.ref q) _ (s1.trans (s24.trans (s5.trans (same_new hq)))) ⟨q, p, r, _, rfl, upd_same, lk_old hq e5, (s1.trans s24).free hp, (s1.trans (s24.trans s5)).free hq, .inr ⟨rfl, ?_, hring⟩⟩
        rw [htk, hmp, taken_nil hf]
      | cons j jr =>
        rw [hf] at e4
        rw [decide_eq_false (by simp)]
        have nat : acc ≠ lt := fun e => by subst e; rw [et] at hacc; cases hacc
        have nag : acc ≠ lg := fun e => by subst e; rw [eg] at hacc; cases hacc
        walk_at "rd"
        refine ⟨.inl ⟨rfl, _, SqL.of eg4⟩, ?_⟩
        walk_at "rd"
        refine rd_ixL (SqL.of e4) (at_head0 j jr) ?_
        walk_at "rd"
        refine ⟨lg, _, _, rfl, rfl, eg4, small1000 (by rw [List.length_map]; omega), ?_⟩
        walk_at "rd"
        refine ⟨.inl ⟨rfl, _, SqL.of (lk_ne ngt.symm et4)⟩, ?_⟩
        walk_at "rd"
        refine rd_ixL (SqL.of (lk_ne nag e4)) (at_head0 j jr) ?_
        walk_at "rd"
        refine ⟨lt, ts, j, rfl, rfl, lk_ne ngt.symm et4, frees_mem hf, ?_⟩
        walk_at "rd"
        have hle := List.length_erase_of_mem (frees_mem hf)
        refine ⟨m - 1, by omega, _, rfl, same_up (same_up s24 hlgH) hlt, ts.erase j, gone ++ [j], upd_same, ?_, by omega, by rw [List.length_append, List.length_singleton]; omega, fun q hq => hr q (List.mem_of_mem_erase hq), ?_⟩
        · rw [upd_ne ngt, upd_same, List.map_append]
          rfl
        · rw [htk]
          conv => lhs; rw [hmp]
          exact taken_cons hf
theorem ok_walked (L : All K w mg ad) : FnOk P w K mg base CX0 6 ad.f_walked ad.d_walked ["parts", "order"] (spWalked K) := by
  refine L.walked.F.okQ sc_walked (fun vs H Q E h => ?_) (fun cdv A outer s H vs Q E hr h => ?_)
  · obtain ⟨a, b, ps, os, rfl, _⟩ := h
    rfl
  obtain ⟨a, b, ps, os, rfl, hP, hok, eb, hos, k⟩ := h
  refine ⟨_, (qss_cons (qs_set (i := 2) sc_walked.nd rfl (Or.inl rfl) (qe_call ((ok_held_by L).mono (by decide)) hr rfl L.held_by.m L.held_by.F.kp L.held_by.b .nil pass0 (qa_cons (qv 0) qa_nil)))
    (qss_cons (qs_for PassesOwn.never rfl (qi_enumL (K := K) rfl rfl L.n_enumerate (qa_cons (qv 1) qa_nil)) (qg_tup (K := K) (n := 2) rfl rfl (qgs_cons (qg_name (i := 3) sc_walked.nd rfl (Or.inl rfl)) (qgs_cons (qg_name (i := 4) sc_walked.nd rfl (Or.inl rfl)) qgs_nil)))
      (qss_cons (qs_set (i := 5) sc_walked.nd rfl (Or.inl rfl) (qe_call ((ok_those_among L).mono (by decide)) hr rfl L.those_among.m L.those_among.F.kp L.those_among.b .nil pass0 (qa_cons (qe_ix (qx_list (K := K) rfl) (qv 2) (qv 4) (fun _ _ => rfl)) (qa_cons (qe_slL (K := K) rfl (qv 1) (qo_some (qe_op qo_add (qv 3) qe_int)) qo_none) qa_nil))))
    (qss_one (qs_if (qt_truth (K := K) (qv 5) (fun _ => rfl) rfl) (qss_one (qs_ret (qe_tup (qa_cons (qv 4) (qa_cons (qe_ix (qx_list (K := K) rfl) (qv 5) qe_int (fun _ _ => rfl)) qa_nil))))) qss_nil))))
    (qss_one (qs_ret qe_non)))), ?_⟩
  walk_at "rd"
  refine ⟨a, ps, rfl, hP, hok, fun ph zh H1 s1 nh eh rh => ?_⟩
  have hH : Hols H1 ph (holsOf ps) := ⟨zh, eh, nl_il rh⟩
  have ok := hols_ok hok
  generalize holsOf ps = nss at *
  have eb1 := s1 _ _ eb
  walk_at "rd"
  refine ⟨b, rfl, ⟨_, SqL.of eb1⟩, ?_⟩
  refine for_feeds (R := IsN IsI) (H0 := H1) (fun i σ H' => (∃ o1 o2 o3, σ = [some (.ref a), some (.ref b), some (.ref ph), o1, o2, o3]) ∧ Same H1 H' ∧ walkedO nss os = walkedO nss (os.drop i)) (feeds_enumL (SqL.of eb1) (Rs.ints os)) (fun _ _ _ q => q.2.1) ⟨⟨_, _, _, rfl⟩, Same.refl _, rfl⟩ ?_ ?_
  · rintro σ H2 ⟨⟨o1, o2, o3, rfl⟩, s2, hw⟩
    walk_at "rd"
    refine k .non _ (s1.trans s2) ?_
    rw [hw, List.drop_of_length_le (by simp)]
    rfl
  · rintro i ⟨pl, nn⟩ v σ H2 H3 hi ex ⟨⟨o1, o2, o3, rfl⟩, s2, hw⟩ s3 ⟨T, u, rfl, eT, rfl⟩
    obtain ⟨e1, e2⟩ := zip_at ex
    have e1 : pl = i := e1
    have e2 : os[i]? = some nn := e2
    subst e1
    have hlt := (List.getElem?_eq_some_iff.mp e2).1
    have hn := hos.2 nn (List.mem_of_getElem? e2)
    have s23 := s2.trans s3
    obtain ⟨zs, ql, ez, az, el⟩ := (Hols.up s23 hH).get (K := K) hn.1 hn.2
    have eb3 := s23 _ _ eb1
    walk_at "rd"
    refine rd_ixL (SqL.of ez) az ?_
    walk_at "rd"
    intro l hl
    have sl := same_new (o := .lst (cutV (os.map V.int) (some ((pl : Int) + 1)) none)) hl
    walk_at "rd"
    refine ⟨ql, l, hol nss nn, os.drop (pl + 1), rfl, SqL.of (sl _ _ el), SqL.of (by rw [← cut_at hlt]; exact upd_same), by have := ok.short hn.1 hn.2; omega, fun p H4 s4 hp e4 => ?_⟩
    walk_at "rd"
    refine ⟨_, (SqL.of e4).tru, ?_⟩
    rw [emp_ints]
    rw [drop_at e2] at hw
    have sA := s23.trans (sl.trans s4)
    cases ht : those (hol nss nn) (os.drop (pl + 1)) with
    | nil =>
      rw [decide_eq_true rfl]
      walk_at "rd"
      exact ⟨⟨_, _, _, rfl⟩, sA, hw.trans (walked_nil ht)⟩
    | cons j t =>
      rw [ht] at e4
      rw [decide_eq_false (by simp)]
      walk_at "rd"
      refine rd_ixL (SqL.of e4) (at_head0 j t) ?_
      walk_at "rd"
      refine ⟨le2, fun q hq => ?_⟩
      refine k (.ref q) _ (s1.trans (sA.trans (same_new hq))) ?_
      rw [hw, walked_cons ht]
      exact ⟨q, rfl, upd_same⟩
end
end P97
set_option Elab.async false
set_option linter.all false
set_option maxRecDepth 100000
set_option maxHeartbeats 4000000
namespace P97
open PySem L2 Srt Pc
section
variable {P : Program} {w : World} {K : PySem.W.Frag} {mg : Str → Option Value} {base : Heap} {ad : Ad}
theorem ok__law_cell_at (L : All K w mg ad) : FnOk P w K mg base CX0 1 ad.f__law_cell_at ad.d__law_cell_at ["_law_script", "_law_k"] (spCellAt K) := by
  refine L._law_cell_at.F.okQ sc__law_cell_at (fun vs H Q E h => ?_) (fun cdv A outer s H vs Q E hr h => ?_)
  · obtain ⟨a, ns, k, rfl, _⟩ := h
    rfl
  obtain ⟨a, ns, k, rfl, hS, h0, q⟩ := h
  refine ⟨_, (qss_cons (qs_if (qt_cmpR qo_lt (qv 1) (qe_callB (qc_len (K := K) rfl) rfl L.n_len b_len (qa_cons (qv 0) qa_nil)) (nomark _)) (qss_one (qs_ret (qe_ix (qx_list (K := K) rfl) (qv 0) (qv 1) (fun _ _ => rfl)))) qss_nil)
    (qss_one (qs_ret qe_int))), ?_⟩
  refine ⟨_, rfl, _, rfl, a, _, rfl, .inl hS, _, _, rfl, rfl, _, rfl, ?_⟩
  refine ite2 (fun c => ?_) (fun c => q 0)
  have c' := of_decide_eq_true c
  rw [List.length_map] at c'
  have hk : k.toNat < ns.length := by omega
  have e : atI (ns.map V.int) k = some (.int ns[k.toNat]) := by
    have q : atI (ns.map V.int) ((k.toNat : Nat) : Int) = some (.int ns[k.toNat]) := atI_nat (by rw [List.getElem?_map, List.getElem?_eq_getElem hk] <;> rfl)
    rwa [show ((k.toNat : Nat) : Int) = k by omega] at q
  exact ⟨_, rfl, _, rfl, a, _, _, _, rfl, rfl, hS, e, q _⟩
theorem ok__law_mix (L : All K w mg ad) : FnOk P w K mg base CX0 1 ad.f__law_mix ad.d__law_mix ["_law_cell", "_law_k"] spMix := by
  refine L._law_mix.F.okQ sc__law_mix (fun vs H Q E h => ?_) (fun cdv A outer s H vs Q E hr h => ?_)
  · obtain ⟨a, b, rfl, _⟩ := h
    rfl
  obtain ⟨a, b, rfl, b0, b1, k⟩ := h
  refine ⟨_, (qss_one (qs_ret (qe_op qo_mod (qe_op qo_mul (qe_op qo_add (qe_op qo_add (qe_op qo_mod (qv 0) qe_int) (qe_op qo_mul qe_int (qv 1))) qe_int) qe_int) qe_int))), ?_⟩
  walk_at "rd"
  exact k _ (Int.emod_nonneg _ (by decide)) (Int.emod_lt_of_pos _ (by decide))
theorem ok__law_step (L : All K w mg ad) : FnOk P w K mg base CX0 1 ad.f__law_step ad.d__law_step ["_law_cell", "_law_number"] (spStepD K) := by
  refine L._law_step.F.okQ sc__law_step (fun vs H Q E h => ?_) (fun cdv A outer s H vs Q E hr h => ?_)
  · obtain ⟨a, c, n, rfl, _⟩ := h
    rfl
  obtain ⟨a, c, n, rfl, hS, n0, k⟩ := h
  refine ⟨_, (qss_cons (qs_set (i := 2) sc__law_step.nd rfl (Or.inl rfl) (qe_op qo_mod (qv 1) qe_int))
    (qss_cons (qs_set (i := 3) sc__law_step.nd rfl (Or.inl rfl) (qe_op qo_add (qe_ix (qx_tup (K := K) rfl) (qv 0) (qv 2) (fun _ _ => rfl)) (qe_ix (qx_list (K := K) rfl) (qe_lst (qa_cons qe_int (qa_cons (qe_neg qe_int) (qa_cons qe_int (qa_cons (qe_neg qe_int) (qa_cons qe_int (qa_cons (qe_neg qe_int) qa_nil))))))) (qe_op qo_mod (qe_op qo_fdiv (qv 1) qe_int) qe_int) (fun _ _ => rfl))))
    (qss_one (qs_ret (qe_op qo_catG (qe_op qo_catG (qe_slT (K := K) rfl (qv 0) qo_none (qo_some (qv 2))) (qe_tup (qa_cons (qv 3) qa_nil))) (qe_slT (K := K) rfl (qv 0) (qo_some (qe_op qo_add (qv 2) qe_int)) qo_none)))))), ?_⟩
  have ht0 : 0 ≤ n % 3 := Int.emod_nonneg _ (by decide)
  have ht1 : n % 3 < 3 := Int.emod_lt_of_pos _ (by decide)
  have hm0 : 0 ≤ n / 3 % 6 := Int.emod_nonneg _ (by decide)
  have hm1 : n / 3 % 6 < 6 := Int.emod_lt_of_pos _ (by decide)
  obtain ⟨q1, hq1⟩ := at3 c _ ht0 ht1
  obtain ⟨q2, hq2⟩ := at6 1 (-1) 1 (-1) 2 (-3) _ hm0 hm1
  walk_at "rd"
  refine rd_ixT hS hq1 ?_
  walk_at "rd"
  refine ⟨le6, fun l hl => ?_⟩
  walk_at "rd"
  refine rd_ixL (SqL.of upd_same) hq2 ?_
  walk_at "rd"
  have s0 := same_new (o := .lst [V.int 1, V.int (-1), V.int 1, V.int (-1), V.int 2, V.int (-3)]) hl
  refine rd_slT (same_tup s0 hS) (cut_lo c _ ht0 ht1) fun p1 h1 => ?_
  have s1 := s0.trans (same_new (o := .tup (cutV c.v none (some (n % 3)))) h1)
  walk_at "rd"
  refine ⟨le1, fun p2 h2 => ?_⟩
  have s2 := s1.trans (same_new (o := .tup [V.int (q1 + q2)]) h2)
  have z1 := cut_z (xs := c.v) (lo := none) (hi := some (n % 3)) (by show 3 ≤ 10; decide)
  have z2 := cut_z (xs := c.v) (lo := some (n % 3 + 1)) (hi := none) (by show 3 ≤ 10; decide)
  refine rd_catG (lk_old h2 upd_same) upd_same (Nat.le_of_lt (small1000 (by simp only [List.length_cons, List.length_nil]; omega))) fun p3 H3 s3 e3 => ?_
  walk_at "rd"
  refine rd_slT (same_tup (s2.trans s3) hS) (cut_hi c _ ht0 ht1) fun p4 h4 => ?_
  walk_at "rd"
  refine rd_catG (lk_old h4 e3) upd_same (Nat.le_of_lt (small1000 (by simp only [List.length_append, List.length_cons, List.length_nil]; omega))) fun p5 H5 s5 e5 => ?_
  obtain ⟨d, ed⟩ := cut_put c.x c.y c.z (q1 + q2) _ ht0 ht1
  have ed : cutV c.v none (some (n % 3)) ++ [V.int (q1 + q2)] ++ cutV c.v (some (n % 3 + 1)) none = d.v := ed
  rw [ed] at e5
  exact k p5 d H5 ((s2.trans s3).trans ((same_new h4).trans s5)) e5
theorem ok__law_drawn (L : All K w mg ad) : FnOk P w K mg base CX0 2 ad.f__law_drawn ad.d__law_drawn ["_law_cells", "_law_room"] (spDrawnS K) := by
  refine L._law_drawn.F.okQ sc__law_drawn (fun vs H Q E h => ?_) (fun cdv A outer s H vs Q E hr h => ?_)
  · obtain ⟨a, ns, room, rfl, _⟩ := h
    rfl
  obtain ⟨a, ns, room, rfl, hS, hn, hroom, k⟩ := h
  refine ⟨_, (qss_cons (qs_set (i := 2) sc__law_drawn.nd rfl (Or.inl rfl) (qe_lst qa_nil))
    (qss_cons (qs_set (i := 3) sc__law_drawn.nd rfl (Or.inl rfl) (qe_tup (qa_cons qe_int (qa_cons qe_int (qa_cons qe_int qa_nil)))))
    (qss_cons (qs_for PassesOwn.never rfl (qi_range1 rfl L.n_range (qa_cons (qe_callB (qc_len (K := K) rfl) rfl L.n_len b_len (qa_cons (qv 0) qa_nil)) qa_nil)) (qg_name (i := 4) sc__law_drawn.nd rfl (Or.inl rfl))
      (qss_cons (qs_set (i := 5) sc__law_drawn.nd rfl (Or.inl rfl) (qe_call ((ok__law_mix L).mono (by decide)) hr rfl L._law_mix.m L._law_mix.F.kp L._law_mix.b .nil pass0 (qa_cons (qe_ix (qx_list (K := K) rfl) (qv 0) (qv 4) (fun _ _ => rfl)) (qa_cons (qv 4) qa_nil))))
    (qss_cons (qs_if (QW.t (qw_and (qt_cmpR (qo_neR (K := K) rfl hr.units) (qv 2) (qe_lst qa_nil) (nomark _)) (qw_and1 (qt_cmpR qo_eq (qe_op qo_mod (qv 5) qe_int) qe_int (nomark _))))) (qss_one (qs_set (i := 3) sc__law_drawn.nd rfl (Or.inl rfl) (qe_ix (qx_list (K := K) rfl) (qv 2) (qe_op qo_mod (qe_op qo_fdiv (qv 5) qe_int) (qe_callB (qc_len (K := K) rfl) rfl L.n_len b_len (qa_cons (qv 2) qa_nil))) (fun _ _ => rfl)))) qss_nil)
    (qss_cons (qs_set (i := 3) sc__law_drawn.nd rfl (Or.inl rfl) (qe_call ((ok__law_step L).mono (by decide)) hr rfl L._law_step.m L._law_step.F.kp L._law_step.b .nil pass0 (qa_cons (qv 3) (qa_cons (qe_op qo_fdiv (qv 5) qe_int) qa_nil))))
    (qss_cons (qs_if (qt_cmpR qo_gt (qe_callB (qc_maxL (K := K) rfl rfl) rfl L.n_max b_max (qa_cons (qe_comp (N := ["_law_part"]) ["_law_part"] [] rfl rfl rfl rfl (qi_tup (K := K) rfl (qv 3)) (fun _ _ _ _ => (qg_name (i := 0) (by show (["_law_part"] : List Str).Nodup; decide +kernel) rfl (Or.inl rfl))) (fun _ _ _ _ => qf_nil) (fun _ _ _ _ => (qe_callB qc_abs rfl L.n_abs b_abs (qa_cons (qv 0) qa_nil)))) qa_nil)) (qv 1) (nomark _)) (qss_one (qs_set (i := 3) sc__law_drawn.nd rfl (Or.inl rfl) (qe_tup (qa_cons (qe_op qo_mod (qv 5) qe_int) (qa_cons (qe_op qo_mod (qe_op qo_fdiv (qv 5) qe_int) qe_int) (qa_cons (qe_op qo_mod (qe_op qo_fdiv (qv 5) qe_int) qe_int) qa_nil)))))) qss_nil)
    (qss_one (qs_if (qt_cmpR (qo_notInC (K := K) rfl hr.units) (qv 3) (qv 2) rfl) (qss_one (qs_expr (qe_bm (K := K) rfl PySem.F.plainAttrs_list PySem.F.slot_list_append PySem.F.type_list_append mt_append (qv 2) (qa_cons (qv 3) qa_nil)))) qss_nil)))))))
    (qss_one (qs_ret (qv 2)))))), ?_⟩
  walk_at "rd"
  refine ⟨le0, fun l hl => ?_⟩
  walk_at "rd"
  refine ⟨le3, fun h0 hh0 => ?_⟩
  walk_at "rd"
  have elen : ((ns.map V.int).length : Int).toNat = ns.length := by simp
  have elen2 : ((List.range ns.length).map fun i : Nat => (0 : Int) + (i : Int)).length = ns.length := by simp
  refine ⟨_, rfl, by rw [List.length_map]; omega, by rw [List.length_map]; omega, ?_⟩
  rw [elen]
  refine for_feeds (R := IsI) (H0 := H) (fun i σ H' => (∃ hp hc o4 o5, σ = [some (.ref a), some (.int room), some (.ref l), some (.ref hp), o4, o5] ∧ H' hp = some (.tup (C3.v hc))) ∧ Same H H' ∧ ∃ ys cs, H' l = some (.lst ys) ∧ Cs H' ys cs ∧ cs.Nodup ∧ (∀ c ∈ cs, C3.within room c) ∧ cs.length ≤ i) feeds_range (fun _ _ _ q => q.2.1)
    ⟨⟨h0, ⟨0, 0, 0⟩, none, none, rfl, upd_same⟩, (same_new hl).trans (same_new hh0), [], [], lk_old hh0 upd_same, .nil, List.nodup_nil, (fun _ h => nomatch h), Nat.le_refl _⟩ ?_ ?_
  · rintro σ H' ⟨⟨hp, hc, o4, o5, rfl, eh⟩, s1, ys, cs, e1, r1, nd, wi, hlc⟩
    walk_at "rd"
    rw [elen2] at hlc
    exact k l ys cs H' s1 hl e1 r1 nd wi hlc
  · rintro i x v σ H1 H' hi ex ⟨⟨hp, hc, o4, o5, rfl, eh⟩, s1, ys, cs, e1, r1, nd, wi, hlc⟩ s2 rfl
    rw [elen2] at hi
    have hx : x = (i : Int) := by
      rw [List.getElem?_map, List.getElem?_eq_getElem (by simpa using hi)] at ex
      have ex : (0 : Int) + ((List.range ns.length)[i]'(by simpa using hi) : Int) = x := Option.some.inj ex
      rw [List.getElem_range] at ex
      omega
    subst hx
    walk_at "rd"
    refine rd_ixL ((s1.trans s2).seq hS) (atI_nat (by rw [List.getElem?_map, List.getElem?_eq_getElem hi]; rfl)) ?_
    walk_at "rd"
    refine ⟨_, _, rfl, by omega, by omega, fun n n0 n1 => ?_⟩
    refine rd_gname ?_
    with_reducible refine rd_seqK fun N hN => ?_
    have el := s2 _ _ e1
    have rest : ∀ (hp' : Addr) (hc' : C3) (H2 : Hp), Same H' H2 → H2 hp' = some (.tup hc'.v) → N [some (.ref a), some (.int room), some (.ref l), some (.ref hp'), some (.int (i : Int)), some (.int n)] H2 := by
      intro hp' hc' H2 s3 eh'
      apply hN
      walk_at "rd"
      refine ⟨_, hc', _, rfl, SqT.of eh', by omega, fun p d H3 s4 e4 => ?_⟩
      refine rd_gname ?_
      with_reducible refine rd_seqK fun N2 hN2 => ?_
      have last : ∀ (q : Addr) (c : C3) (H4 : Hp), Same H3 H4 → H4 q = some (.tup c.v) → C3.within room c → N2 [some (.ref a), some (.int room), some (.ref l), some (.ref q), some (.int (i : Int)), some (.int n)] H4 := by
        intro q c H4 s5 e5 w
        have s6 : Same H' H4 := s3.trans (s4.trans s5)
        apply hN2
        walk_at "rd"
        refine rd_notInC (SqT.of e5) (SqL.of (s6 _ _ el)) (Rs.up (s2.trans s6) r1) ?_
        walk_at "rd"
        by_cases hm : c ∈ cs
        · rw [decide_eq_true hm]
          walk_at "rd"
          exact ⟨⟨q, c, _, _, rfl, e5⟩, s1.trans (s2.trans s6), ys, cs, s6 _ _ el, Rs.up (s2.trans s6) r1, nd, wi, Nat.le_succ_of_le hlc⟩
        · rw [decide_eq_false hm]
          walk_at "rd"
          refine ⟨.inl ⟨rfl, _, SqL.of (s6 _ _ el)⟩, ?_⟩
          walk_at "rd"
          have hz : ys.length < sizeLine := by
            have := r1.len
            exact small1000 (by omega)
          refine ⟨l, _, _, rfl, rfl, s6 _ _ el, hz, ?_⟩
          walk_at "rd"
          refine ⟨⟨q, c, _, _, rfl, lk_kind (s6 _ _ el) (by intro z; cases z) e5⟩, same_up (s1.trans (s2.trans s6)) hl, _, cs ++ [c], upd_same, Rs.lst (s6 _ _ el) (Rs.app (Rs.up (s2.trans s6) r1) (.cons ⟨q, rfl, e5⟩ .nil)), ?_, ?_, ?_⟩
          · rw [List.nodup_append]
            refine ⟨nd, by simp, fun x hx y hy => ?_⟩
            rw [List.mem_singleton] at hy
            subst hy
            exact fun e => hm (e ▸ hx)
          · intro y hy
            rcases List.mem_append.mp hy with hy | hy
            · exact wi y hy
            · rw [List.mem_singleton] at hy
              subst hy
              exact w
          · rw [List.length_append, List.length_singleton]
            omega
      walk_at "rd"
      intro acc hacc
      refine comp_map (S := IsI) (fun z : Int => if z < 0 then -z else z) 1 [] (feeds_tup (SqT.of e4) (Rs.ints d.l)) (by show 3 ≤ 16000000; decide) hacc ?_ ?_
      · rintro os v z H4 R1 ho s5 _ rfl kk
        obtain ⟨o, rfl⟩ := List.length_eq_one_iff.mp ho
        walk_at "rd"
        exact kk [_] _ _ rfl (Same.refl _) rfl
      · intro zs H4 s5 e5 r5
        walk_at "rd"
        have ez := ints_eq r5
        rw [ez] at e5
        refine rd_maxL (SqL.of e5) (by simp [C3.l]) fun M hM hle => ?_
        walk_at "rd"
        by_cases hg : room < M
        · rw [decide_eq_true hg]
          walk_at "rd"
          refine ⟨le3, fun q hq => ?_⟩
          walk_at "rd"
          refine last q ⟨n % 3, n / 3 % 3, n / 9 % 3⟩ _ (s5.trans (same_new hq)) upd_same ?_
          refine ⟨?_, ?_, ?_⟩ <;> constructor <;> dsimp only <;> omega
        · rw [decide_eq_false hg]
          walk_at "rd"
          refine last p d H4 s5 (s5 _ _ e4) ?_
          exact within_of fun z hz => by
            have := hle (if z < 0 then -z else z) (List.mem_map.mpr ⟨z, hz, rfl⟩)
            omega
    walk_at "rd"
    refine ⟨le0, fun p0 hp0 => ?_⟩
    have el0 : upd H' p0 (.lst []) l = some (.lst ys) := lk_old hp0 el
    have r0 : Cs (upd H' p0 (.lst [])) ys cs := Rs.up (s2.trans (same_new hp0)) r1
    refine rd_neR (SqL.of el0) r0 (SqL.of upd_same) .nil ?_
    walk_at "rd"
    by_cases hcs : cs = []
    · rw [decide_eq_true hcs]
      walk_at "rd"
      exact rest hp hc _ (same_new hp0) (lk_old hp0 (s2 _ _ eh))
    · rw [decide_eq_false hcs]
      walk_at "rd"
      have hpos : 0 < ys.length := by
        have := r1.len
        have := List.length_pos_iff.mpr hcs
        omega
      by_cases h5 : n % 5 = 0
      · rw [decide_eq_true h5]
        walk_at "rd"
        have hi0 : 0 ≤ n / 5 % (ys.length : Int) := Int.emod_nonneg _ (by omega)
        have hi1 : n / 5 % (ys.length : Int) < (ys.length : Int) := Int.emod_lt_of_pos _ (by omega)
        obtain ⟨j, hj⟩ : ∃ j : Nat, n / 5 % (ys.length : Int) = (j : Int) := ⟨_, (Int.toNat_of_nonneg hi0).symm⟩
        rw [hj] at hi1 ⊢
        have hjl : j < ys.length := by omega
        obtain ⟨c', hc', a', ea', ta'⟩ := r0.get (List.getElem?_eq_getElem hjl)
        refine rd_ixL (SqL.of el0) (atI_nat (List.getElem?_eq_getElem hjl)) ?_
        rw [ea']
        refine rd_gname ?_
        exact rest a' c' _ (same_new hp0) ta'
      · rw [decide_eq_false h5]
        walk_at "rd"
        exact rest hp hc _ (same_new hp0) (lk_old hp0 (s2 _ _ eh))
theorem ok__law_next (L : All K w mg ad) : FnOk P w K mg base CX0 1 ad.f__law_next ad.d__law_next ["_law_cell", "_law_way"] (spNext K) := by
  refine L._law_next.F.okQ sc__law_next (fun vs H Q E h => ?_) (fun cdv A outer s H vs Q E hr h => ?_)
  · obtain ⟨a, u, c, rfl, _⟩ := h
    rfl
  obtain ⟨a, u, c, rfl, hS, k⟩ := h
  refine ⟨_, (qss_cons (qs_set (i := 2) sc__law_next.nd rfl (Or.inl rfl) (qe_bm (K := K) rfl PySem.F.plainAttrs_str PySem.F.slot_str_index PySem.F.type_str_index mt_index qe_str (qa_cons (qe_ix qx_str (qv 1) qe_int (fun _ _ => rfl)) qa_nil)))
    (qss_cons (qs_set (i := 3) sc__law_next.nd rfl (Or.inl rfl) (qe_op qo_add (qe_ix (qx_tup (K := K) rfl) (qv 0) (qv 2) (fun _ _ => rfl)) (qe_ix (qx_list (K := K) rfl) (qe_lst (qa_cons qe_int (qa_cons (qe_neg qe_int) qa_nil))) (qe_callTy qc_int rfl L.n_int b_int (qa_cons (qe_cmpR qo_eq (qe_ix qx_str (qv 1) qe_int (fun _ _ => rfl)) qe_str (nomark _)) qa_nil)) (fun _ _ => rfl))))
    (qss_one (qs_ret (qe_op qo_catG (qe_op qo_catG (qe_slT (K := K) rfl (qv 0) qo_none (qo_some (qv 2))) (qe_tup (qa_cons (qv 3) qa_nil))) (qe_slT (K := K) rfl (qv 0) (qo_some (qe_op qo_add (qv 2) qe_int)) qo_none)))))), ?_⟩
  obtain ⟨c1, ec1, q1⟩ := way_ax u
  obtain ⟨c0, ec0, q0⟩ := way0 u
  obtain ⟨rest, eo⟩ := ax_occ u.ax
  obtain ⟨n0, n3⟩ := ax_n03 u.ax
  walk_at "rd"
  refine ⟨rfl, ?_⟩
  walk_at "rd"
  refine rd_str (way_len u) ec1 ?_
  rw [q1]
  walk_at "rd"
  refine ⟨_, _, u.ax.n.toNat, rest, rfl, rfl, eo, ?_⟩
  rw [ax_nat]
  walk_at "rd"
  refine rd_ixT hS (at_ax u.ax c) ?_
  walk_at "rd"
  refine ⟨le2, fun l hl => ?_⟩
  walk_at "rd"
  refine rd_str (way_len u) ec0 ?_
  rw [q0]
  walk_at "rd"
  have key : atI [V.int 1, V.int (-1)] (if decide ((if u.up = true then ("+" : Str) else ("-" : Str)) = Str.ofString "-") = true then 1 else 0) = some (.int (sg u.up)) := by cases u.up <;> decide +kernel
  refine rd_ixL (SqL.of upd_same) key ?_
  walk_at "rd"
  have s0 := same_new (o := .lst [V.int 1, V.int (-1)]) hl
  refine rd_slT (same_tup s0 hS) (cut_lo c _ n0 n3) fun p1 h1 => ?_
  have s1 := s0.trans (same_new (o := .tup (cutV c.v none (some u.ax.n))) h1)
  walk_at "rd"
  refine ⟨le1, fun p2 h2 => ?_⟩
  have s2 := s1.trans (same_new (o := .tup [V.int (u.ax.at c + sg u.up)]) h2)
  have z1 := cut_z (xs := c.v) (lo := none) (hi := some u.ax.n) (by show 3 ≤ 10; decide)
  have z2 := cut_z (xs := c.v) (lo := some (u.ax.n + 1)) (hi := none) (by show 3 ≤ 10; decide)
  refine rd_catG (lk_old h2 upd_same) upd_same (Nat.le_of_lt (small1000 (by simp only [List.length_cons, List.length_nil]; omega))) fun p3 H3 s3 e3 => ?_
  walk_at "rd"
  refine rd_slT (same_tup (s2.trans s3) hS) (cut_hi c _ n0 n3) fun p4 h4 => ?_
  walk_at "rd"
  refine rd_catG (lk_old h4 e3) upd_same (Nat.le_of_lt (small1000 (by simp only [List.length_append, List.length_cons, List.length_nil]; omega))) fun p5 H5 s5 e5 => ?_
  rw [cut_ax] at e5
  exact k p5 H5 ((s2.trans s3).trans ((same_new h4).trans s5)) e5
theorem ok__law_wide (L : All K w mg ad) : FnOk P w K mg base CX0 1 ad.f__law_wide ad.d__law_wide ["_law_script"] (spWide K) := by
  refine L._law_wide.F.okQ sc__law_wide (fun vs H Q E h => ?_) (fun cdv A outer s H vs Q E hr h => ?_)
  · obtain ⟨a, ns, rfl, _⟩ := h
    rfl
  obtain ⟨a, ns, rfl, hS, hl, k⟩ := h
  refine ⟨_, (qss_cons (qs_if (QW.t (qw_or (qt_cmpR qo_lt (qe_callB (qc_len (K := K) rfl) rfl L.n_len b_len (qa_cons (qv 0) qa_nil)) qe_int (nomark _)) (qw_or1 (qt_cmpR qo_lt (qe_callB qc_abs rfl L.n_abs b_abs (qa_cons (qe_ix (qx_list (K := K) rfl) (qv 0) qe_int (fun _ _ => rfl)) qa_nil)) (qe_op qo_pow qe_int qe_int) (nomark _))))) (qss_one (qs_ret (qv 0))) qss_nil)
    (qss_cons (qs_set (i := 1) sc__law_wide.nd rfl (Or.inl rfl) (qe_lst qa_nil))
    (qss_cons (qs_set (i := 2) sc__law_wide.nd rfl (Or.inl rfl) (qe_callB qc_abs rfl L.n_abs b_abs (qa_cons (qe_ix (qx_list (K := K) rfl) (qv 0) qe_int (fun _ _ => rfl)) qa_nil)))
    (qss_cons (qs_while PassesOwn.never (QW.t (qw_and (qt_cmpR qo_gt (qv 2) qe_int (nomark _)) (qw_and1 (qt_cmpR qo_lt (qe_callB (qc_len (K := K) rfl) rfl L.n_len b_len (qa_cons (qv 1) qa_nil)) qe_int (nomark _)))))
      (qss_cons (qs_expr (qe_bm (K := K) rfl PySem.F.plainAttrs_list PySem.F.slot_list_append PySem.F.type_list_append mt_append (qv 1) (qa_cons (qe_op qo_mod (qv 2) (qe_op qo_pow qe_int qe_int)) qa_nil)))
    (qss_one (qs_set (i := 2) sc__law_wide.nd rfl (Or.inl rfl) (qe_op qo_fdiv (qv 2) (qe_op qo_pow qe_int qe_int))))))
    (qss_one (qs_ret (qe_op qo_cat (qv 1) (qe_slL (K := K) rfl (qv 0) (qo_some qe_int) qo_none)))))))), ?_⟩
  walk_at "rd"
  rw [List.length_map]
  by_cases h2 : (ns.length : Int) < 2
  · rw [decide_eq_true h2]
    walk_at "rd"
    exact k a ns H (Same.refl _) hS (by omega)
  rw [decide_eq_false h2]
  have hn : 1 < ns.length := by omega
  have e1 : atI (ns.map V.int) 1 = some (.int ns[1]) := by
    have q : atI (ns.map V.int) ((1 : Nat) : Int) = some (.int ns[1]) := atI_nat (by rw [List.getElem?_map, List.getElem?_eq_getElem hn] <;> rfl)
    exact q
  walk_at "rd"
  refine rd_ixL hS e1 ?_
  walk_at "rd"
  cases hd : decide ((if ns[1] < 0 then -ns[1] else ns[1]) < 10 ^ (18 : Int).toNat)
  · walk_at "rd"
    refine ⟨le0, fun l hl0 => ?_⟩
    have hS1 := sqL_new (o := .lst []) hl0 hS
    walk_at "rd"
    refine rd_ixL hS1 e1 ?_
    walk_at "rd"
    refine rd_while (fun m σ H' => ∃ (n : Int) (ms : List Int), σ = [some (.ref a), some (.ref l), some (.int n)] ∧ Same H H' ∧ H' l = some (.lst (ms.map V.int)) ∧ 0 ≤ n ∧ ms.length ≤ 63 ∧ m = 63 - ms.length) 63 ⟨_, [], rfl, same_new hl0, upd_same, by split <;> omega, by simp, rfl⟩ ?_
    rintro m σ H' ⟨n, ms, rfl, s1, e2, hn0, hm, rfl⟩
    have fin : ∀ H2 : Hp, Same H H2 → H2 l = some (.lst (ms.map V.int)) → tRet (tOp rCat (tVar 1) (tSl (rSlL K) (tVar 0) (tPart (tC (.int 2))) tNoPart)) { nx := fun _ H' => Q .non H', rt := Q } [some (.ref a), some (.ref l), some (.int n)] H2 := by
      intro H2 s2 e3
      have hS2 := s2.seq hS
      walk_at "rd"
      intro q hq
      have cl := cutX_len ns (some 2) none
      refine rd_catL (lk_old hq e3) upd_same (by rw [cut_ints, List.length_map, List.length_map]; exact Nat.le_of_lt (small1000 (by omega))) fun p hp => ?_
      refine k p (ms ++ cutX ns (some 2) none) _ (s2.trans ((same_new hq).trans (same_new hp))) (SqL.of ?_) (by rw [List.length_append]; omega)
      rw [upd_same, cut_ints, List.map_append]
    walk_at "rd"
    by_cases hp : 0 < n
    · rw [decide_eq_true hp]
      walk_at "rd"
      rw [List.length_map]
      by_cases h63 : (ms.length : Int) < 63
      · rw [decide_eq_true h63]
        refine iteT ?_
        refine ⟨fun σ' H'' => ∃ (n' : Int) (ms' : List Int), σ' = [some (.ref a), some (.ref l), some (.int n')] ∧ Same H H'' ∧ H'' l = some (.lst (ms'.map V.int)) ∧ 0 ≤ n' ∧ ms'.length = ms.length + 1, fun σ' H'' ⟨n', ms', e, s, el, h0, h1⟩ => ⟨63 - ms'.length, by omega, n', ms', e, s, el, h0, by omega, rfl⟩, ?_⟩
        walk_at "rd"
        refine ⟨.inl ⟨rfl, _, SqL.of e2⟩, ?_⟩
        walk_at "rd"
        refine ⟨l, _, _, rfl, rfl, e2, small1000 (by rw [List.length_map]; omega), ?_⟩
        walk_at "rd"
        exact ⟨_, ms ++ [n % 10 ^ (6 : Int).toNat], rfl, same_up s1 hl0, by rw [upd_same, List.map_append]; rfl, Int.ediv_nonneg hn0 (by decide), by simp⟩
      · rw [decide_eq_false h63]
        refine iteF ?_
        exact fin H' s1 e2
    · rw [decide_eq_false hp]
      refine iteF ?_
      exact fin H' s1 e2
  · walk_at "rd"
    exact k a ns H (Same.refl _) hS (by omega)
end
end P97
set_option Elab.async false
set_option linter.all false
set_option maxRecDepth 100000
set_option maxHeartbeats 4000000
namespace P97
open PySem L2 Srt Pc
section
variable {P : Program} {w : World} {K : PySem.W.Frag} {mg : Str → Option Value} {base : Heap} {ad : Ad}
theorem ok_way_of_step (L : All K w mg ad) : FnOk P w K mg base CX0 3 ad.f_way_of_step ad.d_way_of_step ["step"] (spWayOf K) := by
  refine L.way_of_step.F.okQ sc_way_of_step (fun vs H Q E h => ?_) (fun cdv A outer s H vs Q E hr h => ?_)
  · obtain ⟨s, u, rfl, _⟩ := h
    rfl
  obtain ⟨s', u, rfl, es, k⟩ := h
  refine ⟨_, (qss_one (qs_ret (qe_ix (qx_list (K := K) rfl) (qe_comp (N := ["way", "step"]) ["way"] [0] rfl rfl rfl rfl (qi_tup (K := K) rfl (qe_glob (v := .ref ad.a_WAYS) rfl L.m_WAYS rfl)) (fun _ _ _ _ => (qg_name (i := 0) (by show (["way", "step"] : List Str).Nodup; decide +kernel) rfl (Or.inl rfl))) (fun _ _ _ _ => (qf_one (qt_cmpR (qo_eqT (K := K) rfl hr.units) (qe_call ((ok_next_cell L).mono (by decide)) hr rfl L.next_cell.m L.next_cell.F.kp L.next_cell.b .nil pass0 (qa_cons (qe_glob (v := .ref ad.a_ORIGIN) rfl L.m_ORIGIN rfl) (qa_cons (qv 0) qa_nil))) (qv 1) (nomark _)))) (fun _ _ _ _ => (qv 0))) qe_int (fun _ _ => rfl)))), ?_⟩
  walk_at "rd"
  refine ⟨_, rfl, ⟨_, L.t_WAYS _⟩, ?_⟩
  intro acc hacc
  refine comp_fm (R := IsW) (S := IsW) (fun w : Wy => decide (w.next .o = u.next .o)) id 1 [some (.ref s')] (feeds_tup (L.t_WAYS _) (rs_ways allW)) (by show 6 ≤ 16000000; decide) hacc ?_ ?_
  · rintro os v w1 H1 R1 R0 ho s1 _ rfl k1 k0
    obtain ⟨o, rfl⟩ := List.length_eq_one_iff.mp ho
    walk_at "rd"
    refine ⟨_, w1, .o, rfl, L.t_ORIGIN _, fun p H2 s2 e2 => ?_⟩
    walk_at "rd"
    refine rd_eqT (ns := (w1.next .o).l) (ms := (u.next .o).l) (SqT.of e2) (SqT.of ((s1.trans s2) _ _ es)) ?_
    have hd : decide ((w1.next .o).l = (u.next .o).l) = decide (w1.next .o = u.next .o) := by
      by_cases z : w1.next .o = u.next .o
      · rw [decide_eq_true z, decide_eq_true (by rw [z])]
      · rw [decide_eq_false z, decide_eq_false (fun y => z (l_inj y))]
    rw [hd]
    by_cases z : w1.next .o = u.next .o
    · rw [decide_eq_true z]
      walk_at "rd"
      exact k1 [_] _ _ rfl s2 (decide_eq_true z) rfl
    · rw [decide_eq_false z]
      walk_at "rd"
      exact k0 [_] _ rfl s2 (decide_eq_false z)
  · intro zs H1 s1 e1 r1
    rw [ways_one, List.map_id] at r1
    cases r1 with
    | cons h1 t1 =>
      cases t1
      have h1 : _ = V.str u.s := h1
      subst h1
      walk_at "rd"
      exact k _ s1
theorem ok_quarter_way (L : All K w mg ad) : FnOk P w K mg base CX0 4 ad.f_quarter_way ad.d_quarter_way ["way", "axis"] (spQW K) := by
  refine L.quarter_way.F.okQ sc_quarter_way (fun vs H Q E h => ?_) (fun cdv A outer s H vs Q E hr h => ?_)
  · obtain ⟨u, ax, rfl, _⟩ := h
    rfl
  obtain ⟨u, ax, rfl, k⟩ := h
  refine ⟨_, (qss_one (qs_ret (qe_call ((ok_way_of_step L).mono (by decide)) hr rfl L.way_of_step.m L.way_of_step.F.kp L.way_of_step.b .nil pass0 (qa_cons (qe_call ((ok_quarter_cell L).mono (by decide)) hr rfl L.quarter_cell.m L.quarter_cell.F.kp L.quarter_cell.b .nil pass0 (qa_cons (qe_call ((ok_next_cell L).mono (by decide)) hr rfl L.next_cell.m L.next_cell.F.kp L.next_cell.b .nil pass0 (qa_cons (qe_glob (v := .ref ad.a_ORIGIN) rfl L.m_ORIGIN rfl) (qa_cons (qv 0) qa_nil))) (qa_cons (qv 1) qa_nil))) qa_nil)))), ?_⟩
  walk_at "rd"
  refine ⟨_, u, .o, rfl, L.t_ORIGIN _, fun p H1 s1 e1 => ?_⟩
  walk_at "rd"
  refine ⟨p, ax, _, rfl, SqT.of e1, fun p2 H2 s2 e2 => ?_⟩
  walk_at "rd"
  rw [qW_o] at e2
  exact ⟨p2, qW u ax, rfl, e2, fun H3 s3 => k H3 (s1.trans (s2.trans s3))⟩
theorem ok__law_bumps (L : All K w mg ad) : FnOk P w K mg base CX0 2 ad.f__law_bumps ad.d__law_bumps ["_law_body", "_law_other", "_law_way"] (spBumpsB K) := by
  refine L._law_bumps.F.okQ sc__law_bumps (fun vs H Q E h => ?_) (fun cdv A outer s H vs Q E hr h => ?_)
  · obtain ⟨a, b, u, ys, zs, bs, ss, rfl, _⟩ := h
    rfl
  obtain ⟨a, b, u, ys, zs, bs, ss, rfl, ha, hba, hb, hcb, hl1, hl2, w1, w2, k⟩ := h
  refine ⟨_, (qss_cons (qs_set (i := 3) sc__law_bumps.nd rfl (Or.inl rfl) (qe_callTy (qc_dictP (K := K) rfl rfl (hu2_of hr)) rfl L.n_dict b_dict (qa_cons (qe_comp (N := ["_law_cell"]) ["_law_cell"] [] rfl rfl rfl rfl (qi_list (K := K) rfl (qv 1)) (fun _ _ _ _ => (qg_name (i := 0) (by show (["_law_cell"] : List Str).Nodup; decide +kernel) rfl (Or.inl rfl))) (fun _ _ _ _ => qf_nil) (fun _ _ _ _ => (qe_tup (qa_cons (qv 0) (qa_cons qe_bl qa_nil))))) qa_nil)))
    (qss_cons (qs_for PassesOwn.never rfl (qi_list (K := K) rfl (qv 0)) (qg_name (i := 4) sc__law_bumps.nd rfl (Or.inl rfl))
      (qss_cons (qs_set (i := 5) sc__law_bumps.nd rfl (Or.inl rfl) (qv 4))
    (qss_one (qs_for PassesOwn.never rfl (qi_range1 rfl L.n_range (qa_cons qe_int qa_nil)) (qg_name (i := 6) sc__law_bumps.nd rfl (Or.inl rfl))
      (qss_cons (qs_set (i := 5) sc__law_bumps.nd rfl (Or.inl rfl) (qe_call ((ok__law_next L).mono (by decide)) hr rfl L._law_next.m L._law_next.F.kp L._law_next.b .nil pass0 (qa_cons (qv 5) (qa_cons (qv 2) qa_nil))))
    (qss_one (qs_if (qt_din (hu_of hr) (qv 5) (qv 3) rfl) (qss_one (qs_ret qe_bl)) qss_nil)))))))
    (qss_one (qs_ret qe_bl)))), ?_⟩
  walk_at "rd"
  intro acc hacc
  refine comp_map (S := IsKV) (fun c : C3 => (c, V.bl true)) 1 [] (feeds_list hb hcb) (by omega) hacc ?_ ?_
  · rintro os v c H' R1 ho s1 _ ⟨p, rfl, ep⟩ kk
    obtain ⟨o, rfl⟩ := List.length_eq_one_iff.mp ho
    walk_at "rd"
    refine ⟨le2, fun t ht => ?_⟩
    exact kk [_] _ _ rfl (same_new ht) ⟨t, p, rfl, upd_same, lk_old ht ep⟩
  intro us H1 s1 e1 r1
  walk_at "rd"
  refine rd_dictP (SqL.of e1) r1 fun d hd => ?_
  have s2 := s1.trans (same_new (o := .dT (dctC (ss.map fun c => (c, V.bl true)))) hd)
  have ed : upd H1 d (.dT (dctC (ss.map fun c => (c, V.bl true)))) d = some (.dT (dctC (ss.map fun c => (c, V.bl true)))) := upd_same
  generalize upd H1 d (.dT (dctC (ss.map fun c => (c, V.bl true)))) = H2 at s2 ed ⊢
  have ha2 := s2.seq ha
  walk_at "rd"
  refine for_feeds (R := IsC) (H0 := H2) (fun i σ H' => (∃ o4 o5 o6, σ = [some (.ref a), some (.ref b), some (.str u.s), some (.ref d), o4, o5, o6]) ∧ Same H2 H' ∧ ∀ c ∈ bs.take i, ∀ j : Nat, 1 ≤ j → j ≤ 12 → stN u c j ∉ ss) (feeds_list ha2 (Rs.up s2 hba)) (fun _ _ _ q => q.2.1) ⟨⟨_, _, _, rfl⟩, Same.refl _, fun _ h => by simp at h⟩ ?_ ?_
  · rintro σ H3 ⟨⟨o4, o5, o6, rfl⟩, s3, hn⟩
    rw [List.take_of_length_le (Nat.le_refl _)] at hn
    walk_at "rd"
    refine k false _ ⟨(fun z => nomatch z), fun z => ?_⟩ (s2.trans s3)
    obtain ⟨c, hc, j, j1, j2, j3⟩ := (hinds_st w1 w2).mp z
    exact absurd j3 (hn c hc j j1 j2)
  · rintro i c v σ H3 H4 hi ex ⟨⟨o4, o5, o6, rfl⟩, s3, hn⟩ s4 ⟨p, rfl, ep⟩
    have hcm : c ∈ bs := List.mem_of_getElem? ex
    have s34 := s3.trans s4
    have hlr : ((List.range (Int.toNat 12)).map fun i : Nat => (0 : Int) + (i : Int)).length = 12 := by simp
    walk_at "rd"
    refine for_feeds (R := IsI) (H0 := H4) (fun j σ H' => (∃ q o6, σ = [some (.ref a), some (.ref b), some (.str u.s), some (.ref d), some (.ref p), some (.ref q), o6] ∧ H' q = some (.tup (stN u c j).v)) ∧ Same H4 H' ∧ ∀ m : Nat, 1 ≤ m → m ≤ j → stN u c m ∉ ss) feeds_range (fun _ _ _ q => q.2.1) ⟨⟨p, _, rfl, by rw [stN_0]; exact ep⟩, Same.refl _, fun m h1 h2 => by omega⟩ ?_ ?_
    · rintro σ H5 ⟨⟨q, o6, rfl, eq⟩, s5, hno⟩
      rw [hlr] at hno
      refine ⟨⟨_, _, _, rfl⟩, s34.trans s5, fun x hx => ?_⟩
      rw [take_snoc ex] at hx
      rcases List.mem_append.mp hx with z | z
      · exact hn x z
      · rw [List.mem_singleton] at z
        subst z
        exact hno
    · rintro j n v σ H5 H6 hj exj ⟨⟨q, o6, rfl, eq⟩, s5, hno⟩ s6 rfl
      rw [hlr] at hj
      walk_at "rd"
      refine ⟨q, u, stN u c j, rfl, SqT.of (s6 _ _ eq), fun q2 H7 s7 e7 => ?_⟩
      rw [stN_s] at e7
      have sX := s34.trans (s5.trans (s6.trans s7))
      have e7' : H7 q2 = some (.tup ((keyC (stN u c (j + 1))).map kV)) := by rw [keyC_v]; exact e7
      walk_at "rd"
      refine ⟨d, _, rfl, .inr ⟨_, keyC (stN u c (j + 1)), q2, .inl (sX _ _ ed), rfl, e7', rfl⟩, ?_⟩
      rw [val_dct]
      by_cases hm : stN u c (j + 1) ∈ ss
      · rw [if_pos hm]
        walk_at "rd"
        exact k true _ ⟨fun _ => (hinds_st w1 w2).mpr ⟨c, hcm, j + 1, by omega, by omega, hm⟩, fun _ => rfl⟩ (s2.trans sX)
      · rw [if_neg hm]
        walk_at "rd"
        refine ⟨⟨q2, _, rfl, e7⟩, s5.trans (s6.trans s7), fun m h1 h2 => ?_⟩
        by_cases e : m = j + 1
        · subst e; exact hm
        · exact hno m h1 (by omega)
end
end P97
set_option Elab.async false
set_option linter.all false
set_option maxRecDepth 100000
set_option maxHeartbeats 4000000
namespace P97
open PySem L2 Srt Pc
section
variable {P : Program} {w : World} {K : PySem.W.Frag} {mg : Str → Option Value} {base : Heap} {ad : Ad}
theorem ok__law_parts (L : All K w mg ad) : FnOk P w K mg base CX0 3 ad.f__law_parts ad.d__law_parts ["_law_script"] (spPartsK K) := by
  refine L._law_parts.F.okQ sc__law_parts (fun vs H Q E h => ?_) (fun cdv A outer s H vs Q E hr h => ?_)
  · obtain ⟨x, ns, rfl, _⟩ := h
    rfl
  obtain ⟨x, ns, rfl, hS, hl, k⟩ := h
  refine ⟨_, (qss_cons (qs_set (i := 1) sc__law_parts.nd rfl (Or.inl rfl) (qe_op qo_add qe_int (qe_op qo_mod (qe_call ((ok__law_cell_at L).mono (by decide)) hr rfl L._law_cell_at.m L._law_cell_at.F.kp L._law_cell_at.b .nil pass0 (qa_cons (qv 0) (qa_cons qe_int qa_nil))) qe_int)))
    (qss_cons (qs_set (i := 2) sc__law_parts.nd rfl (Or.inr rfl) qe_dnewT)
    (qss_cons (qs_set (i := 3) sc__law_parts.nd rfl (Or.inl rfl) (qe_lst qa_nil))
    (qss_cons (qs_for PassesOwn.never rfl (qi_range1 rfl L.n_range (qa_cons (qv 1) qa_nil)) (qg_name (i := 4) sc__law_parts.nd rfl (Or.inl rfl))
      (qss_cons (qs_set (i := 5) sc__law_parts.nd rfl (Or.inl rfl) (qe_sl3 (K := K) rfl (qv 0) (qo_some (qe_op qo_add qe_int (qv 4))) (qo_some qe_int) (qo_some (qv 1))))
    (qss_cons (qs_set (i := 6) sc__law_parts.nd rfl (Or.inl rfl) (qe_callB (qc_sortC (K := K) rfl) rfl L.n_sorted b_sorted (qa_cons (qe_comp (N := ["_law_cell", "_law_taken_here"]) ["_law_cell"] [2] rfl rfl rfl rfl (qi_list (K := K) rfl (qe_call ((ok__law_drawn L).mono (by decide)) hr rfl L._law_drawn.m L._law_drawn.F.kp L._law_drawn.b .nil pass0 (qa_cons (qv 5) (qa_cons qe_int qa_nil)))) (fun _ _ _ _ => (qg_name (i := 0) (by show (["_law_cell", "_law_taken_here"] : List Str).Nodup; decide +kernel) rfl (Or.inl rfl))) (fun _ _ _ _ => (qf_one (qt_dnotin (hu_of hr) (qv 0) (qv 1) rfl))) (fun _ _ _ _ => (qv 0))) qa_nil)))
    (qss_cons (qs_for PassesOwn.never rfl (qi_list (K := K) rfl (qv 6)) (qg_name (i := 7) sc__law_parts.nd rfl (Or.inl rfl))
      (qss_one (qs_dput (hu_of hr) (qv 2) (qv 7) qe_bl rfl)))
    (qss_cons (qs_set (i := 8) sc__law_parts.nd rfl (Or.inl rfl) (qe_ix (qx_list (K := K) rfl) (qe_lst (qa_cons qe_str (qa_cons qe_str (qa_cons qe_str (qa_cons qe_str (qa_cons qe_str (qa_cons qe_str qa_nil))))))) (qe_op qo_mod (qe_call ((ok__law_mix L).mono (by decide)) hr rfl L._law_mix.m L._law_mix.F.kp L._law_mix.b .nil pass0 (qa_cons (qe_call ((ok__law_cell_at L).mono (by decide)) hr rfl L._law_cell_at.m L._law_cell_at.F.kp L._law_cell_at.b .nil pass0 (qa_cons (qv 0) (qa_cons (qe_op qo_add qe_int (qv 4)) qa_nil))) (qa_cons (qe_op qo_add qe_int (qv 4)) qa_nil))) qe_int) (fun _ _ => rfl)))
    (qss_one (qs_if (qt_cmpR (qo_neR (K := K) rfl hr.units) (qv 6) (qe_lst qa_nil) (nomark _)) (qss_one (qs_expr (qe_bm (K := K) rfl PySem.F.plainAttrs_list PySem.F.slot_list_append PySem.F.type_list_append mt_append (qv 3) (qa_cons (qe_tup (qa_cons (qv 6) (qa_cons (qv 8) qa_nil))) qa_nil)))) qss_nil)))))))
    (qss_one (qs_ret (qv 3))))))), ?_⟩
  walk_at "rd"
  refine ⟨x, ns, 0, rfl, hS, by decide, fun m0 => ?_⟩
  walk_at "rd"
  intro d hd
  have sd := same_new (o := .dT []) hd
  walk_at "rd"
  refine ⟨le0, fun lp hlp => ?_⟩
  have slp := same_new (o := .lst []) hlp
  have hlpH : H lp = none := sd.free hlp
  have ndl : d ≠ lp := ne_of_none upd_same hlp
  walk_at "rd"
  have hlr : ((List.range (2 + m0 % 7).toNat).map fun i : Nat => (0 : Int) + (i : Int)).length = (2 + m0 % 7).toNat := by simp
  refine for_feeds (R := IsI) (H0 := H) (fun i σ H' => (∃ o4 o5 o6 o7 o8, σ = [some (.ref x), some (.int (2 + m0 % 7)), some (.ref d), some (.ref lp), o4, o5, o6, o7, o8]) ∧ Same H H' ∧ ∃ kvs zs ps, H' d = some (.dT kvs) ∧ kvs.length ≤ 300 * i ∧ H' lp = some (.lst zs) ∧ Rs PA (hid (hid H' d) lp) zs ps ∧ ps.length ≤ i ∧ ∀ y ∈ ps, y.1.length ≤ 63 ∧ ∀ c ∈ y.1, c.within 4) feeds_range (fun _ _ _ q => q.2.1)
    ⟨⟨_, _, _, _, _, rfl⟩, sd.trans slp, [], [], [], slp _ _ upd_same, Nat.zero_le _, upd_same, .nil, Nat.le_refl _, (fun _ h => nomatch h)⟩ ?_ ?_
  · rintro σ H1 ⟨⟨o4, o5, o6, o7, o8, rfl⟩, s1, kvs, zs, ps, ed1, hkl, el1, rp1, hpl, hps⟩
    rw [hlr] at hpl
    walk_at "rd"
    refine k lp ps H1 s1 hlpH ⟨zs, el1, Paired.mapP rp1 fun _ _ q => PA.up (hid_same.trans hid_same) q⟩ ⟨by omega, hps⟩
  · rintro i kk v σ H1 H2 hi ex ⟨⟨o4, o5, o6, o7, o8, rfl⟩, s1, kvs, zs, ps, ed1, hkl, el1, rp1, hpl, hps⟩ s2 rfl
    rw [hlr] at hi
    have hkk : 0 ≤ kk ∧ kk ≤ 8 := by
      obtain ⟨t, ht, rfl⟩ := List.mem_map.mp (List.mem_of_getElem? ex)
      have := List.mem_range.mp ht
      omega
    have s12 := s1.trans s2
    have hi8 : i ≤ 8 := by omega
    have hzl := rp1.len
    walk_at "rd"
    refine rd_sl3 ?_
    walk_at "rd"
    refine ⟨x, ns, 2 + m0 % 7, rfl, s12.seq hS, rfl, by omega, fun lc ms hlc hml hmu => ?_⟩
    have hm61 := hmu 61 rfl
    have sc := same_new (o := .lst (ms.map V.int)) hlc
    walk_at "rd"
    refine ⟨lc, ms, 4, rfl, SqL.of upd_same, by omega, by decide, fun pb ys cs H3 s3 npb eb cb hnd hw hcl => ?_⟩
    have s13 := s12.trans (sc.trans s3)
    have ed3 := (s2.trans (sc.trans s3)) _ _ ed1
    have el3 := (s2.trans (sc.trans s3)) _ _ el1
    have rp3 : Rs PA (hid (hid H3 d) lp) zs ps := Paired.mapP rp1 fun _ _ q => PA.up (hid_up (hid_up (s2.trans (sc.trans s3)))) q
    walk_at "rd"
    intro acc hacc
    refine comp_fm (S := IsC) (fun c => !(valV kvs (keyC c)).isSome) (fun c : C3 => c) 1 [some (.ref d)] (feeds_list (SqL.of eb) cb) (by omega) hacc ?_ ?_
    · rintro os v c H4 R1 R0 ho s4 _ ⟨g, rfl, eg⟩ k1 k0
      obtain ⟨o, rfl⟩ := List.length_eq_one_iff.mp ho
      have eg' : H4 g = some (.tup ((keyC c).map kV)) := by rw [keyC_v]; exact eg
      walk_at "rd"
      refine ⟨d, _, rfl, .inr ⟨kvs, keyC c, g, .inl (s4 _ _ ed3), rfl, eg', rfl⟩, ?_⟩
      cases e : (valV kvs (keyC c)).isSome with
      | true =>
        walk_at "rd"
        exact k0 [_] _ rfl (Same.refl _) (by rw [e]; rfl)
      | false =>
        walk_at "rd"
        exact k1 [_] _ _ rfl (Same.refl _) (by rw [e]; rfl) ⟨g, rfl, eg⟩
    intro zf H4 s4 e4 r4
    rw [List.map_id'] at r4
    have hfl : (cs.filter fun c => !(valV kvs (keyC c)).isSome).length ≤ cs.length := List.length_filter_le _ _
    have hfw : ∀ c ∈ cs.filter (fun c => !(valV kvs (keyC c)).isSome), c.within 4 := fun c hc => hw c (List.mem_filter.mp hc).1
    generalize cs.filter (fun c => !(valV kvs (keyC c)).isSome) = fs at *
    walk_at "rd"
    refine rd_sortC (SqL.of e4) r4 (by omega) fun pS zS hpS cS => ?_
    have sS := same_new (o := .lst zS) hpS
    have eS : upd H4 pS (.lst zS) pS = some (.lst zS) := upd_same
    have hSl : (srtC fs).length = fs.length := (srtC_perm fs).length_eq
    have hSw : ∀ c ∈ srtC fs, c.within 4 := fun c hc => hfw c ((srtC_perm fs).mem_iff.mp hc)
    have ed5 := (s4.trans sS) _ _ ed3
    have el5 := (s4.trans sS) _ _ el3
    have s15 := s13.trans (s4.trans sS)
    have npd : pS ≠ d := fun z => by subst z; rw [s4 _ _ ed3] at hpS; cases hpS
    have npl : pS ≠ lp := fun z => by subst z; rw [s4 _ _ el3] at hpS; cases hpS
    have rp5 : Rs PA (hid (hid (upd H4 pS (.lst zS)) d) lp) zs ps := Paired.mapP rp3 fun _ _ q => PA.up (hid_up (hid_up (s4.trans sS))) q
    generalize upd H4 pS (.lst zS) = H5 at *
    generalize srtC fs = bs at *
    walk_at "rd"
    refine for_feeds (R := IsC) (H0 := hid H5 d) (fun j σ H' => (∃ o7, σ = [some (.ref x), some (.int (2 + m0 % 7)), some (.ref d), some (.ref lp), some (.int kk), some (.ref lc), some (.ref pS), o7, o8]) ∧ Same (hid H5 d) H' ∧ ∃ kv', H' d = some (.dT kv') ∧ kv'.length ≤ kvs.length + j) (feeds_list (SqL.of (hid_at npd eS)) (cs_hidG ed5 (by intro xs z; cases z) cS)) (fun _ _ _ q => q.2.1)
      ⟨⟨_, rfl⟩, hid_same, kvs, ed5, Nat.le_refl _⟩ ?_ ?_
    · rintro σ H6 ⟨⟨o7, rfl⟩, s6, kv6, ed6, hkv6⟩
      have sH6 : Same H H6 := (same_hid s15 hd).trans s6
      have el6 : H6 lp = some (.lst zs) := s6 _ _ (hid_at ndl.symm el5)
      have eS6 : H6 pS = some (.lst zS) := s6 _ _ (hid_at npd eS)
      have cS6 : Cs H6 zS bs := Rs.up s6 (cs_hidG ed5 (by intro xs z; cases z) cS)
      have rp6 : Rs PA (hid (hid H6 d) lp) zs ps := Paired.mapP rp5 fun _ _ q => PA.up (hid_up (same_hid s6 hid_none)) q
      walk_at "rd"
      refine ⟨le6, fun q hq => ?_⟩
      have sq := same_new (o := .lst [.str "+x", .str "-x", .str "+y", .str "-y", .str "+z", .str "-z"]) hq
      walk_at "rd"
      refine ⟨x, ns, 1 + kk, rfl, (sH6.trans sq).seq hS, by omega, fun mw => ?_⟩
      walk_at "rd"
      refine ⟨mw, 33 + kk, rfl, by omega, by omega, fun r r0 r1 => ?_⟩
      obtain ⟨u, eu⟩ : ∃ u : Wy, atI [V.str "+x", V.str "-x", V.str "+y", V.str "-y", V.str "+z", V.str "-z"] (r % 6) = some (.str u.s) := by
        rcases (by omega : r % 6 = 0 ∨ r % 6 = 1 ∨ r % 6 = 2 ∨ r % 6 = 3 ∨ r % 6 = 4 ∨ r % 6 = 5) with h | h | h | h | h | h <;> rw [h]
        · exact ⟨⟨.x, true⟩, rfl⟩
        · exact ⟨⟨.x, false⟩, rfl⟩
        · exact ⟨⟨.y, true⟩, rfl⟩
        · exact ⟨⟨.y, false⟩, rfl⟩
        · exact ⟨⟨.z, true⟩, rfl⟩
        · exact ⟨⟨.z, false⟩, rfl⟩
      walk_at "rd"
      refine rd_ixL (SqL.of upd_same) eu ?_
      have el7 := sq _ _ el6
      have eS7 := sq _ _ eS6
      have ed7 := sq _ _ ed6
      have cS7 : Cs _ zS bs := Rs.up sq cS6
      have rp7 : Rs PA (hid (hid (upd H6 q (.lst [.str "+x", .str "-x", .str "+y", .str "-y", .str "+z", .str "-z"])) d) lp) zs ps := Paired.mapP rp6 fun _ _ q => PA.up (hid_up (hid_up sq)) q
      have sH7 := sH6.trans sq
      generalize upd H6 q (.lst [.str "+x", .str "-x", .str "+y", .str "-y", .str "+z", .str "-z"]) = H7 at *
      walk_at "rd"
      refine ⟨le0, fun qn hqn => ?_⟩
      have sn := same_new (o := .lst []) hqn
      walk_at "rd"
      refine rd_neR (SqL.of (sn _ _ eS7)) (Rs.up sn cS7) (SqL.of upd_same) .nil ?_
      have el8 := sn _ _ el7
      have eS8 := sn _ _ eS7
      have ed8 := sn _ _ ed7
      have cS8 : Cs _ zS bs := Rs.up sn cS7
      have rp8 : Rs PA (hid (hid (upd H7 qn (.lst [])) d) lp) zs ps := Paired.mapP rp7 fun _ _ q => PA.up (hid_up (hid_up sn)) q
      have sH8 := sH7.trans sn
      generalize upd H7 qn (.lst []) = H8 at *
      by_cases hb : bs = []
      · rw [decide_eq_true hb]
        walk_at "rd"
        exact ⟨⟨_, _, _, _, _, rfl⟩, sH8, kv6, zs, ps, ed8, by omega, el8, rp8, by omega, hps⟩
      · rw [decide_eq_false hb]
        walk_at "rd"
        refine ⟨.inl ⟨rfl, _, SqL.of el8⟩, ?_⟩
        walk_at "rd"
        refine ⟨le2, fun t ht => ?_⟩
        have st := same_new (o := .tup [.ref pS, .str u.s]) ht
        walk_at "rd"
        refine ⟨lp, zs, .ref t, rfl, rfl, st _ _ el8, small1000 (by omega), ?_⟩
        walk_at "rd"
        have ntd : t ≠ d := fun z => by subst z; rw [ed8] at ht; cases ht
        have ntl : t ≠ lp := fun z => by subst z; rw [el8] at ht; cases ht
        refine ⟨⟨_, _, _, _, _, rfl⟩, same_up (sH8.trans st) hlpH, kv6, _, ps ++ [(bs, u)], lk_ne ndl (st _ _ ed8), by omega, upd_same, ?_, by rw [List.length_append, List.length_singleton]; omega, fun y hy => ?_⟩
        · rw [hid_upd2]
          refine Rs.app (Paired.mapP rp8 fun _ _ q => PA.up (hid_up (hid_up st)) q) (.cons ⟨t, pS, zS, rfl, hid_at ntl (hid_at ntd upd_same), hid_at npl (hid_at npd (st _ _ eS8)), ?_⟩ .nil)
          exact cs_hidG (o := .lst zs) (hid_at ndl.symm (st _ _ el8)) (by intro xs z; cases z) (cs_hidG (st _ _ ed8) (by intro xs z; cases z) (Rs.up st cS8))
        · rcases List.mem_append.mp hy with z | z
          · exact hps y z
          · rw [List.mem_singleton] at z
            subst z
            exact ⟨by show bs.length ≤ 63; omega, hSw⟩
    · rintro j c v σ H6 H7 hj exj ⟨⟨o7, rfl⟩, s6, kv6, ed6, hkv6⟩ s7 ⟨g, rfl, eg⟩
      have ed7 := s7 _ _ ed6
      walk_at "rd"
      refine ⟨d, _, rfl, dput_c ed7 eg (smallM (by omega)), ?_⟩
      refine ⟨⟨_, rfl⟩, same_up (s6.trans s7) hid_none, _, upd_same, ?_⟩
      have := length_putK kv6 (keyC c) (.bl true)
      omega
end
end P97
set_option Elab.async false
set_option linter.all false
set_option maxRecDepth 100000
set_option maxHeartbeats 4000000
namespace P97
open PySem L2 Srt Pc
section
variable {P : Program} {w : World} {K : PySem.W.Frag} {mg : Str → Option Value} {base : Heap} {ad : Ad}
theorem ok__law_held (L : All K w mg ad) : FnOk P w K mg base CX0 3 ad.f__law_held ad.d__law_held ["_law_parts_here"] (spHeldK K) := by
  refine L._law_held.F.okQ sc__law_held (fun vs H Q E h => ?_) (fun cdv A outer s H vs Q E hr h => ?_)
  · obtain ⟨a, ps, rfl, _⟩ := h
    rfl
  obtain ⟨a, ps, rfl, hP, hne, k⟩ := h
  have hok := near_ok hne
  refine ⟨_, (qss_cons (qs_set (i := 1) sc__law_held.nd rfl (Or.inl rfl) (qe_lst qa_nil))
    (qss_cons (qs_for PassesOwn.never rfl (qi_range1 rfl L.n_range (qa_cons (qe_callB (qc_len (K := K) rfl) rfl L.n_len b_len (qa_cons (qv 0) qa_nil)) qa_nil)) (qg_name (i := 2) sc__law_held.nd rfl (Or.inr rfl))
      (qss_cons (qs_asg (qe_ix (qx_list (K := K) rfl) (qv 0) (qv 2) (fun _ _ => rfl)) (qg_tup (K := K) (n := 2) rfl rfl (qgs_cons (qg_name (i := 3) sc__law_held.nd rfl (Or.inr rfl)) (qgs_cons (qg_name (i := 4) sc__law_held.nd rfl (Or.inr rfl)) qgs_nil))))
    (qss_one (qs_expr (qe_bm (K := K) rfl PySem.F.plainAttrs_list PySem.F.slot_list_append PySem.F.type_list_append mt_append (qv 1) (qa_cons (qe_comp (N := ["_law_j", "_law_k", "_law_body", "_law_way", "_law_parts_here"]) ["_law_j"] [2, 3, 4, 0] rfl rfl rfl rfl (qi_range1 rfl L.n_range (qa_cons (qe_callB (qc_len (K := K) rfl) rfl L.n_len b_len (qa_cons (qv 0) qa_nil)) qa_nil)) (fun _ _ _ _ => (qg_name (i := 0) (by show (["_law_j", "_law_k", "_law_body", "_law_way", "_law_parts_here"] : List Str).Nodup; decide +kernel) rfl (Or.inl rfl))) (fun _ _ _ _ => (qf_one (QW.t (qw_and (qt_cmpR qo_ne (qv 0) (qv 1) (nomark _)) (qw_and1 (qt_val (qe_call ((ok__law_bumps L).mono (by decide)) hr rfl L._law_bumps.m L._law_bumps.F.kp L._law_bumps.b .nil pass0 (qa_cons (qv 2) (qa_cons (qe_ix (qx_tup (K := K) rfl) (qe_ix (qx_list (K := K) rfl) (qv 4) (qv 0) (fun _ _ => rfl)) qe_int (fun _ _ => rfl)) (qa_cons (qv 3) qa_nil)))))))))) (fun _ _ _ _ => (qv 0))) qa_nil))))))
    (qss_one (qs_ret (qv 1))))), ?_⟩
  have hP' := hP
  obtain ⟨zs, ea, rz⟩ := hP'
  have hn := hne.1
  have hzl := rz.len
  walk_at "rd"
  refine ⟨le0, fun fl hfl => ?_⟩
  have eal := lk_old (o := .lst []) hfl ea
  walk_at "rd"
  have hlen : ((List.range (zs.length : Int).toNat).map fun i : Nat => (0 : Int) + (i : Int)).length = ps.length := by simp; omega
  have nth : ∀ {i : Nat} {n : Int}, ((List.range (zs.length : Int).toNat).map fun i : Nat => (0 : Int) + (i : Int))[i]? = some n → i < ps.length ∧ n = (i : Int) := fun {i n} h => by
    have h1 := (List.getElem?_eq_some_iff.mp h).1
    rw [hlen] at h1
    rw [List.getElem?_map, List.getElem?_range (by omega)] at h
    have : (0 : Int) + (i : Int) = n := Option.some.inj h
    exact ⟨h1, by omega⟩
  have part : ∀ {i : Nat} (hi : i < ps.length), ∃ p b ys x, atI zs (i : Int) = some (.ref p) ∧ ps[i]? = some x ∧ H p = some (.tup [.ref b, .str x.2.s]) ∧ H b = some (.lst ys) ∧ Cs H ys x.1 ∧ x.1.length ≤ 63 ∧ ∀ c ∈ x.1, c.within 4 := fun {i} hi => by
    obtain ⟨v0, ev0, p0, b0, ys0, rfl, f1, f2, f3⟩ := Rs.get' rz (List.getElem?_eq_getElem hi)
    exact ⟨p0, b0, ys0, _, atI_nat ev0, List.getElem?_eq_getElem hi, f1, f2, f3, hne.2 _ (List.getElem_mem hi)⟩
  refine for_feeds (R := IsI) (H0 := H) (fun i σ H' => (∃ o1 o2 o3, σ = [some (.ref a), some (.ref fl), o1, o2, o3]) ∧ Same H H' ∧ ∃ zz, H' fl = some (.lst zz) ∧ Rs IsIL (hid H' fl) zz (((List.range ps.length).take i).map (heldI ps))) feeds_range (fun _ _ _ q => q.2.1) ⟨⟨_, _, _, rfl⟩, same_new hfl, [], upd_same, .nil⟩ ?_ ?_
  · rintro σ H' ⟨⟨o1, o2, o3, rfl⟩, s1, zz, e1, r1⟩
    rw [hlen, List.take_of_length_le (by simp)] at r1
    walk_at "rd"
    exact k fl zz H' s1 hfl e1 (Paired.mapP r1 fun _ _ q => IsIL.up hid_same q)
  · rintro i n v σ H1 H2 hi ex ⟨⟨o1, o2, o3, rfl⟩, s1, zz, e1, r1⟩ s2 rfl
    obtain ⟨hib, rfl⟩ := nth ex
    obtain ⟨p0, b0, ys0, ⟨bs, u⟩, at0, hi', f1, f2, f3, hx0, hx1⟩ := part hib
    have s3 := s1.trans s2
    have ea3 := s3 _ _ ea
    have e13 := s2 _ _ e1
    have f13 := s3 _ _ f1
    have rl := r1.len
    rw [List.length_map, List.length_take] at rl
    walk_at "rd"
    refine rd_ixL (SqL.of ea3) at0 ?_
    walk_at "rd"
    refine ⟨.inl ⟨rfl, _, SqL.of e13⟩, ?_⟩
    walk_at "rd"
    intro acc hacc
    refine comp_fm (S := IsI) (fun n : Int => heldB ps i n.toNat) (fun n : Int => n) 1 [some (.int (i : Int)), some (.ref b0), some (.str u.s), some (.ref a)] feeds_range (by simp; omega) hacc ?_ ?_
    · rintro os v n H3 R1 R0 ho s4 hm rfl k1 k0
      obtain ⟨o, rfl⟩ := List.length_eq_one_iff.mp ho
      obtain ⟨j, hj, rfl⟩ := List.mem_map.mp hm
      have hj : j < ps.length := by have := List.mem_range.mp hj; omega
      have ejn : ((0 : Int) + (j : Int)).toNat = j := by omega
      rw [ejn] at k1 k0
      have s34 := s3.trans s4
      walk_at "rd"
      by_cases hij : j = i
      · rw [decide_eq_true (by omega : (0 : Int) + (j : Int) = (i : Int))]
        walk_at "rd"
        refine k0 [_] _ rfl (Same.refl _) ?_
        cases e : heldB ps i j with
        | false => rfl
        | true => exact absurd hij (held_eq.mp e).1
      · rw [decide_eq_false (by omega : ¬ (0 : Int) + (j : Int) = (i : Int))]
        obtain ⟨p1, b1, ys1, ⟨ss, u1⟩, at1, hj', g1, g2, g3, hy0, hy1⟩ := part hj
        have at1' : atI zs ((0 : Int) + (j : Int)) = some (.ref p1) := by rw [show (0 : Int) + (j : Int) = (j : Int) by omega]; exact at1
        have g14 := s34 _ _ g1
        walk_at "rd"
        refine rd_ixL (SqL.of (s34 _ _ ea)) at1' ?_
        walk_at "rd"
        refine ⟨b0, b1, u, ys0, ys1, bs, ss, rfl, SqL.of (s34 _ _ f2), Rs.up s34 f3, SqL.of (s34 _ _ g2), Rs.up s34 g3, by have : bs.length ≤ 63 := hx0; omega, by have : ss.length ≤ 63 := hy0; omega, hx1, hy1, fun r H5 hr' s5 => ?_⟩
        have hr2 : heldB ps i j = r := by
          rw [Bool.eq_iff_iff, held_eq, hr']
          constructor
          · rintro ⟨_, x, y, hx, hy, hh⟩
            rw [hi'] at hx
            rw [hj'] at hy
            cases hx
            cases hy
            exact hh
          · intro hh
            exact ⟨hij, _, _, hi', hj', hh⟩
        cases r with
        | true =>
          walk_at "rd"
          exact k1 [_] _ _ rfl s5 hr2 rfl
        | false =>
          walk_at "rd"
          exact k0 [_] _ rfl s5 hr2
    · intro zs4 H4 s4 e4 r4
      rw [ints_eq r4, List.map_id', range_filter] at e4
      have e4 : H4 acc = some (.lst ((heldI ps i).map V.int)) := by
        rw [e4]
        unfold heldI
        rw [show (zs.length : Int).toNat = ps.length by omega]
      have e14 := s4 _ _ e13
      have nfa : acc ≠ fl := fun z => by subst z; rw [e13] at hacc; cases hacc
      walk_at "rd"
      refine ⟨fl, zz, .ref acc, rfl, rfl, e14, small1000 (by omega), ?_⟩
      walk_at "rd"
      refine ⟨⟨_, _, _, rfl⟩, same_up (s3.trans s4) hfl, _, upd_same, ?_⟩
      rw [take_snoc (List.getElem?_range hib), List.map_append, hid_upd]
      exact Rs.app (Paired.mapP r1 fun _ _ q => IsIL.up ((hid_up s2).trans (hid_up s4)) q) (.cons ⟨acc, rfl, hid_at nfa e4⟩ .nil)
theorem ok__law_taken (L : All K w mg ad) : FnOk P w K mg base CX0 1 ad.f__law_taken ad.d__law_taken ["_law_held_here"] (spFreed K) := by
  refine L._law_taken.F.okQ sc__law_taken (fun vs H Q E h => ?_) (fun cdv A outer s H vs Q E hr h => ?_)
  · obtain ⟨a, nss, rfl, _⟩ := h
    rfl
  obtain ⟨a, nss, rfl, hH, ok, ky, kn⟩ := h
  refine ⟨_, (qss_cons (qs_set (i := 1) sc__law_taken.nd rfl (Or.inr rfl) (qe_listR rfl rfl L.n_list rfl L.n_range b_list (qa_cons (qe_callB (qc_len (K := K) rfl) rfl L.n_len b_len (qa_cons (qv 0) qa_nil)) qa_nil)))
    (qss_cons (qs_set (i := 2) sc__law_taken.nd rfl (Or.inl rfl) (qe_lst qa_nil))
    (qss_cons (qs_set (i := 3) sc__law_taken.nd rfl (Or.inr rfl) (qv 1))
    (qss_cons (qs_while PassesOwn.never (qt_cmpR (qo_neD (K := K) rfl hr.units) (qv 3) (qe_lst qa_nil) (nomark _))
      (qss_cons (qs_set (i := 3) sc__law_taken.nd rfl (Or.inr rfl) (qe_comp (N := ["_law_k", "_law_held_here", "_law_left"]) ["_law_k"] [0, 1] rfl rfl rfl rfl (qi_list (K := K) rfl (qv 1)) (fun _ _ _ _ => (qg_name (i := 0) (by show (["_law_k", "_law_held_here", "_law_left"] : List Str).Nodup; decide +kernel) rfl (Or.inl rfl))) (fun _ _ _ _ => (qf_one (qt_cmpR (qo_eqD (K := K) rfl hr.units) (qe_comp (N := ["_law_j", "_law_left"]) ["_law_j"] [2] rfl rfl rfl rfl (qi_list (K := K) rfl (qe_ix (qx_list (K := K) rfl) (qv 1) (qv 0) (fun _ _ => rfl))) (fun _ _ _ _ => (qg_name (i := 0) (by show (["_law_j", "_law_left"] : List Str).Nodup; decide +kernel) rfl (Or.inl rfl))) (fun _ _ _ _ => (qf_one (qt_cmpR (qo_in (K := K) rfl) (qv 0) (qv 1) rfl))) (fun _ _ _ _ => (qv 0))) (qe_lst qa_nil) (nomark _)))) (fun _ _ _ _ => (qv 0))))
    (qss_one (qs_if (qt_cmpR (qo_neD (K := K) rfl hr.units) (qv 3) (qe_lst qa_nil) (nomark _)) (qss_cons (qs_expr (qe_bm (K := K) rfl PySem.F.plainAttrs_list PySem.F.slot_list_append PySem.F.type_list_append mt_append (qv 2) (qa_cons (qe_ix (qx_list (K := K) rfl) (qv 3) qe_int (fun _ _ => rfl)) qa_nil)))
    (qss_one (qs_set (i := 1) sc__law_taken.nd rfl (Or.inr rfl) (qe_comp (N := ["_law_k", "_law_free"]) ["_law_k"] [3] rfl rfl rfl rfl (qi_list (K := K) rfl (qv 1)) (fun _ _ _ _ => (qg_name (i := 0) (by show (["_law_k", "_law_free"] : List Str).Nodup; decide +kernel) rfl (Or.inl rfl))) (fun _ _ _ _ => (qf_one (qt_cmpR qo_ne (qv 0) (qe_ix (qx_list (K := K) rfl) (qv 1) qe_int (fun _ _ => rfl)) (nomark _)))) (fun _ _ _ _ => (qv 0)))))) qss_nil))))
    (qss_cons (qs_if (qt_cmpR (qo_neD (K := K) rfl hr.units) (qv 1) (qe_lst qa_nil) (nomark _)) (qss_one (qs_ret qe_non)) qss_nil)
    (qss_one (qs_ret (qv 2)))))))), ?_⟩
  have hH' := hH
  obtain ⟨zp, ezp, rzp⟩ := hH'
  have hpl := rzp.len
  have hn := ok.len
  walk_at "rd"
  refine ⟨_, rfl, by omega, by omega, fun l0 hl0 => ?_⟩
  have e0 : (zp.length : Int).toNat = nss.length := by omega
  rw [e0]
  have sT := same_new (o := .lst ((rngI nss.length).map V.int)) hl0
  walk_at "rd"
  refine ⟨le0, fun lg hlg => ?_⟩
  have sG := same_new (o := .lst []) hlg
  have hlgH : H lg = none := sT.free hlg
  have n0g : l0 ≠ lg := ne_of_none upd_same hlg
  walk_at "rd"
  refine rd_while (fun m σ H' => ∃ (lt lf : Addr) (ts gone fs : List Int), σ = [some (.ref a), some (.ref lt), some (.ref lg), some (.ref lf)] ∧ Same H H' ∧ lt ≠ lg ∧ lf ≠ lg ∧ H' lt = some (.lst (ts.map V.int)) ∧ H' lg = some (.lst (gone.map V.int)) ∧ H' lf = some (.lst (fs.map V.int)) ∧ gone.length + ts.length = nss.length ∧ (∀ j ∈ ts, 0 ≤ j ∧ j < nss.length) ∧ ts.Nodup ∧ fs.length ≤ 100 ∧ taken nss nss.length (rngI nss.length) [] = taken nss ts.length ts gone ∧ (fs = [] → ts = [] ∨ frees nss ts = []) ∧ m = if fs = [] then 0 else ts.length + 1) (if rngI nss.length = [] then 0 else (rngI nss.length).length + 1)
    ⟨l0, l0, rngI nss.length, [], rngI nss.length, rfl, sT.trans sG, n0g, n0g, sG _ _ upd_same, upd_same, sG _ _ upd_same, by rw [rangeI_len]; simp, fun i hi => mem_rangeI.mp hi, rangeI_nodup _, by rw [rangeI_len]; omega, by rw [rangeI_len], fun h => .inl h, rfl⟩ ?_
  rintro m σ H1 ⟨lt, lf, ts, gone, fs, rfl, s1, ntg, nfg, et, eg, ef, hlen, hrng, hnd, hfl, htk, hend, hm⟩
  walk_at "rd"
  refine ⟨le0, fun q hq => ?_⟩
  have sq := same_new (o := .lst []) hq
  walk_at "rd"
  refine rd_neN0 (sq _ _ ef) upd_same ?_
  have et := sq _ _ et
  have eg := sq _ _ eg
  have s1 := s1.trans sq
  generalize upd H1 q (.lst []) = H2 at *
  by_cases hf0 : fs = []
  · rw [decide_eq_true hf0]
    walk_at "rd"
    refine ⟨le0, fun q2 hq2 => ?_⟩
    have sq2 := same_new (o := .lst []) hq2
    walk_at "rd"
    refine rd_neN0 (sq2 _ _ et) upd_same ?_
    by_cases ht0 : ts = []
    · rw [decide_eq_true ht0]
      walk_at "rd"
      subst ht0
      exact ky lg gone _ htk (s1.trans sq2) hlgH (sq2 _ _ eg)
    · rw [decide_eq_false ht0]
      walk_at "rd"
      have hfr := (hend hf0).resolve_left ht0
      have hpos := List.length_pos_iff.mpr ht0
      refine kn _ (htk.trans ?_) (s1.trans sq2)
      rw [show ts.length = (ts.length - 1) + 1 by omega, taken_nil hfr]
  · rw [decide_eq_false hf0]
    rw [if_neg hf0] at hm
    walk_at "rd"
    refine ⟨_, fun _ _ q => q, ?_⟩
    walk_at "rd"
    intro acc hacc
    refine comp_fm (S := IsI) (fun i => decide (those (hol nss i) ts = [])) (fun j : Int => j) 1 [some (.ref a), some (.ref lt)] (feeds_list (SqL.of et) (Rs.ints ts)) (by omega) hacc ?_ ?_
    · rintro os v j H3 R1 R0 ho s4 hmj rfl k1 k0
      obtain ⟨o, rfl⟩ := List.length_eq_one_iff.mp ho
      have hj := hrng j hmj
      obtain ⟨zs, pl, ez, az, ep⟩ := (Hols.up (s1.trans s4) hH).get (K := K) hj.1 hj.2
      walk_at "rd"
      refine rd_ixL (SqL.of ez) az ?_
      walk_at "rd"
      intro acc2 hacc2
      refine comp_fm (S := IsI) (fun q => decide (q ∈ ts)) (fun q : Int => q) 1 [some (.ref lt)] (feeds_list (SqL.of ep) (Rs.ints _)) (by have := ok.short hj.1 hj.2; omega) hacc2 ?_ ?_
      · rintro os v q H4 R2 R3 ho2 s5 _ rfl k2 k3
        obtain ⟨o, rfl⟩ := List.length_eq_one_iff.mp ho2
        walk_at "rd"
        refine rd_inI (SqL.of (s5 _ _ (s4 _ _ et))) ?_
        cases e : decide (q ∈ ts) with
        | true =>
          walk_at "rd"
          exact k2 [_] _ _ rfl (Same.refl _) e rfl
        | false =>
          walk_at "rd"
          exact k3 [_] _ rfl (Same.refl _) e
      · intro zs2 H4 s5 e5 r5
        rw [ints_eq r5, List.map_id'] at e5
        walk_at "rd"
        refine ⟨le0, fun q hq => ?_⟩
        walk_at "rd"
        refine rd_eqN0 (ns := those (hol nss j) ts) (lk_old hq e5) upd_same ?_
        have s6 := s5.trans (same_new (o := .lst []) hq)
        cases e : decide (those (hol nss j) ts = []) with
        | true =>
          walk_at "rd"
          exact k1 [_] _ _ rfl s6 e rfl
        | false =>
          walk_at "rd"
          exact k0 [_] _ rfl s6 e
    · intro zs4 H4 s4 e4 r4
      rw [ints_eq r4, List.map_id'] at e4
      have e4 : H4 acc = some (.lst ((frees nss ts).map V.int)) := e4
      have et4 := s4 _ _ et
      have eg4 := s4 _ _ eg
      have nag : acc ≠ lg := fun e => by subst e; rw [eg] at hacc; cases hacc
      have hfrl : (frees nss ts).length ≤ ts.length := List.length_filter_le _ _
      walk_at "rd"
      refine ⟨le0, fun q hq => ?_⟩
      walk_at "rd"
      have sq := same_new (o := .lst []) hq
      refine rd_neN0 (lk_old hq e4) upd_same ?_
      have s5 := s1.trans (s4.trans sq)
      cases hf : frees nss ts with
      | nil =>
        rw [decide_eq_true rfl]
        walk_at "rd"
        rw [hf] at e4
        exact ⟨0, by omega, lt, acc, ts, gone, [], rfl, s5, ntg, nag, sq _ _ et4, sq _ _ eg4, sq _ _ e4, hlen, hrng, hnd, Nat.zero_le _, htk, fun _ => .inr hf, rfl⟩
      | cons j jr =>
        rw [hf] at e4 hfrl
        rw [decide_eq_false (by simp)]
        have et5 := sq _ _ et4
        have eg5 := sq _ _ eg4
        have ea5 := sq _ _ e4
        generalize upd H4 q (.lst []) = H5 at *
        walk_at "rd"
        refine ⟨.inl ⟨rfl, _, SqL.of eg5⟩, ?_⟩
        walk_at "rd"
        refine rd_ixL (SqL.of ea5) (at_head0 j jr) ?_
        walk_at "rd"
        refine ⟨lg, _, _, rfl, rfl, eg5, small1000 (by rw [List.length_map]; omega), ?_⟩
        have et6 : upd H5 lg (.lst (gone.map V.int ++ [.int j])) lt = some (.lst (ts.map V.int)) := lk_ne ntg et5
        have ea6 : upd H5 lg (.lst (gone.map V.int ++ [.int j])) acc = some (.lst ((j :: jr).map V.int)) := lk_ne nag ea5
        have eg6 : upd H5 lg (.lst (gone.map V.int ++ [.int j])) lg = some (.lst ((gone ++ [j]).map V.int)) := by rw [upd_same, List.map_append]; rfl
        have s6 : Same H (upd H5 lg (.lst (gone.map V.int ++ [.int j]))) := same_up s5 hlgH
        generalize upd H5 lg (.lst (gone.map V.int ++ [.int j])) = H6 at *
        walk_at "rd"
        intro ac2 hac2
        refine comp_fm (S := IsI) (fun i => !decide (i = j)) (fun j : Int => j) 1 [some (.ref acc)] (feeds_list (SqL.of et6) (Rs.ints ts)) (by omega) hac2 ?_ ?_
        · rintro os v i H7 R1 R0 ho s7 hmi rfl k1 k0
          obtain ⟨o, rfl⟩ := List.length_eq_one_iff.mp ho
          walk_at "rd"
          refine rd_ixL (SqL.of (s7 _ _ ea6)) (at_head0 j jr) ?_
          walk_at "rd"
          by_cases e : i = j
          · rw [decide_eq_true e]
            walk_at "rd"
            exact k0 [_] _ rfl (Same.refl _) (by simp [e])
          · rw [decide_eq_false e]
            walk_at "rd"
            exact k1 [_] _ _ rfl (Same.refl _) (by simp [e]) rfl
        · intro zs7 H7 s7 e7 r7
          rw [ints_eq r7, List.map_id'] at e7
          have hjm := frees_mem hf
          have hers : (ts.filter fun i => !decide (i = j)) = ts.erase j := by
            rw [hnd.erase_eq_filter]
            refine List.filter_congr fun i _ => ?_
            by_cases e : i = j <;> simp [e]
          rw [hers] at e7
          have hle := List.length_erase_of_mem hjm
          have hps : 0 < ts.length := List.length_pos_of_mem hjm
          have na2 : ac2 ≠ lg := fun e => by subst e; rw [eg6] at hac2; cases hac2
          walk_at "rd"
          refine ⟨ts.length, by omega, ac2, acc, ts.erase j, gone ++ [j], j :: jr, rfl, s6.trans s7, na2, nag, e7, s7 _ _ eg6, s7 _ _ ea6, by rw [List.length_append, List.length_singleton]; omega, fun i hi => hrng i (List.mem_of_mem_erase hi), hnd.erase j, by omega, ?_, fun z => by simp at z, by rw [if_neg (by simp)]; omega⟩
          rw [htk, show ts.length = (ts.erase j).length + 1 by omega, taken_cons hf]
end
end P97
set_option Elab.async false
set_option linter.all false
set_option maxRecDepth 100000
set_option maxHeartbeats 4000000
namespace P97
open PySem L2 Srt Pc
section
variable {P : Program} {w : World} {K : PySem.W.Frag} {mg : Str → Option Value} {base : Heap} {ad : Ad}
theorem ok__law_is_ring (L : All K w mg ad) : FnOk P w K mg base CX0 1 ad.f__law_is_ring ad.d__law_is_ring ["_law_held_here", "_law_ring"] (spIsRingK K) := by
  refine L._law_is_ring.F.okQ sc__law_is_ring (fun vs H Q E h => ?_) (fun cdv A outer s H vs Q E hr h => ?_)
  · obtain ⟨p, a, nss, r, rfl, _⟩ := h
    rfl
  obtain ⟨p, a, nss, r, rfl, ep, hH, ok, hR, k⟩ := h
  refine ⟨_, (qss_cons (qs_if (QW.t (qw_or (qt_cmpR qo_lt (qe_callB (qc_len (K := K) rfl) rfl L.n_len b_len (qa_cons (qv 1) qa_nil)) qe_int (nomark _)) (qw_or1 (qt_cmpR qo_ne (qe_callB qc_lenSet rfl L.n_len b_len (qa_cons (qe_callTy (qc_setI (K := K) rfl rfl) rfl L.n_set b_set (qa_cons (qv 1) qa_nil)) qa_nil)) (qe_callB (qc_len (K := K) rfl) rfl L.n_len b_len (qa_cons (qv 1) qa_nil)) (nomark _))))) (qss_one (qs_ret qe_bl)) qss_nil)
    (qss_cons (qs_for PassesOwn.never rfl (qi_range1 rfl L.n_range (qa_cons (qe_callB (qc_len (K := K) rfl) rfl L.n_len b_len (qa_cons (qv 1) qa_nil)) qa_nil)) (qg_name (i := 2) sc__law_is_ring.nd rfl (Or.inl rfl))
      (qss_one (qs_if (QW.t (qw_or (qt_notInR rfl L.n_range (qe_ix (qx_list (K := K) rfl) (qv 1) (qe_op qo_sub (qv 2) qe_int) (fun _ _ => rfl)) (qa_cons (qe_callB (qc_len (K := K) rfl) rfl L.n_len b_len (qa_cons (qv 0) qa_nil)) qa_nil)) (qw_or1 (qt_cmpR (qo_notIn (K := K) rfl) (qe_ix (qx_list (K := K) rfl) (qv 1) (qv 2) (fun _ _ => rfl)) (qe_ix (qx_list (K := K) rfl) (qv 0) (qe_ix (qx_list (K := K) rfl) (qv 1) (qe_op qo_sub (qv 2) qe_int) (fun _ _ => rfl)) (fun _ _ => rfl)) rfl)))) (qss_one (qs_ret qe_bl)) qss_nil)))
    (qss_one (qs_ret qe_bl)))), ?_⟩
  have hlen := ring_len ok hR
  have h2 := hR.two
  have hH' := hH
  obtain ⟨zp, ezp, rzp⟩ := hH'
  have hpl := rzp.len
  have hn100 := ok.len
  walk_at "rd"
  rw [List.length_map, decide_eq_false (by omega)]
  walk_at "rd"
  refine ⟨p, r, rfl, SqL.of ep, hR.nd, by omega, fun q S hq => ?_⟩
  have sq := same_new (o := .set S r.length) hq
  walk_at "rd"
  refine ⟨q, S, r.length, rfl, upd_same, ?_⟩
  have ep1 := sq _ _ ep
  have ezp1 := sq _ _ ezp
  walk_at "rd"
  rw [List.length_map, decide_eq_true rfl]
  generalize upd H q (.set S r.length) = H1 at *
  walk_at "rd"
  rw [List.length_map]
  refine ⟨_, rfl, by omega, by omega, ?_⟩
  have hlr : ((List.range (r.length : Int).toNat).map fun i : Nat => (0 : Int) + (i : Int)).length = r.length := by simp
  refine for_feeds (R := IsI) (H0 := H) (fun i σ H' => (∃ o1, σ = [some (.ref a), some (.ref p), o1]) ∧ Same H H') feeds_range (fun _ _ _ q => q.2) ⟨⟨_, rfl⟩, sq⟩ ?_ ?_
  · rintro σ H2 ⟨⟨o3, rfl⟩, s2⟩
    walk_at "rd"
    exact k _ s2
  · rintro i n v σ H2 H3 hi ex ⟨⟨o3, rfl⟩, s2⟩ s3 rfl
    rw [hlr] at hi
    have hn : n = (i : Int) := by
      rw [List.getElem?_map, List.getElem?_range (by omega)] at ex
      have : (0 : Int) + (i : Int) = n := Option.some.inj ex
      omega
    subst hn
    have s4 := s2.trans s3
    have ep4 := s4 _ _ ep
    have ezp4 := s4 _ _ ezp
    have ec : r[i]? = some r[i] := List.getElem?_eq_getElem hi
    have eat : atI (r.map V.int) (i : Int) = some (.int r[i]) := atI_nat (by rw [List.getElem?_map, ec]; rfl)
    obtain ⟨j, ej, hj, hjr⟩ := ring_prev hR ec
    have hjn := hR.rng j hjr
    obtain ⟨zs, pl, ez, az, el⟩ := (Hols.up s4 hH).get (K := K) hjn.1 hjn.2
    have hzz : zs = zp := by
      rw [ezp4] at ez
      cases ez
      rfl
    subst hzz
    walk_at "rd"
    refine rd_ixL (SqL.of ep4) ej ?_
    walk_at "rd"
    have e : (!(decide (0 ≤ j) && decide (j < (zs.length : Int)))) = false := by
      rw [decide_eq_true hjn.1, decide_eq_true (by omega)]
      rfl
    refine ⟨j, _, rfl, rfl, false, by rw [if_pos rfl, e], ?_⟩
    walk_at "rd"
    refine rd_ixL (SqL.of ep4) eat ?_
    walk_at "rd"
    refine rd_ixL (SqL.of ep4) ej ?_
    walk_at "rd"
    refine rd_ixL (SqL.of ez) az ?_
    walk_at "rd"
    refine rd_notInI (SqL.of el) ?_
    rw [decide_eq_true hj]
    walk_at "rd"
    exact ⟨⟨_, rfl⟩, s4⟩
theorem ok__law_is_order (L : All K w mg ad) : FnOk P w K mg base CX0 7 ad.f__law_is_order ad.d__law_is_order ["_law_parts_here", "_law_order"] (spIsOrderK K) := by
  refine L._law_is_order.F.okQ sc__law_is_order (fun vs H Q E h => ?_) (fun cdv A outer s H vs Q E hr h => ?_)
  · obtain ⟨a, b, ps, r, rfl, _⟩ := h
    rfl
  obtain ⟨a, b, ps, r, rfl, hP, hne, eb, htk, k⟩ := h
  have hok := near_ok hne
  refine ⟨_, (qss_cons (qs_if (QW.t (qw_or (qt_cmpR (qo_neD (K := K) rfl hr.units) (qe_callB (qc_sortI (K := K) rfl) rfl L.n_sorted b_sorted (qa_cons (qv 1) qa_nil)) (qe_listR rfl rfl L.n_list rfl L.n_range b_list (qa_cons (qe_callB (qc_len (K := K) rfl) rfl L.n_len b_len (qa_cons (qv 0) qa_nil)) qa_nil)) (nomark _)) (qw_or1 (qt_cmpR qo_notN (qe_call ((ok_walked L).mono (by decide)) hr rfl L.walked.m L.walked.F.kp L.walked.b .nil pass0 (qa_cons (qv 0) (qa_cons (qe_callTy (qc_list (K := K) rfl) rfl L.n_list b_list (qa_cons (qv 1) qa_nil)) qa_nil))) qe_non (nomark _))))) (qss_one (qs_ret qe_bl)) qss_nil)
    (qss_cons (qs_for PassesOwn.never rfl (qi_range1 rfl L.n_range (qa_cons (qe_callB (qc_len (K := K) rfl) rfl L.n_len b_len (qa_cons (qv 1) qa_nil)) qa_nil)) (qg_name (i := 2) sc__law_is_order.nd rfl (Or.inl rfl))
      (qss_cons (qs_asg (qe_ix (qx_list (K := K) rfl) (qv 0) (qe_ix (qx_list (K := K) rfl) (qv 1) (qv 2) (fun _ _ => rfl)) (fun _ _ => rfl)) (qg_tup (K := K) (n := 2) rfl rfl (qgs_cons (qg_name (i := 3) sc__law_is_order.nd rfl (Or.inl rfl)) (qgs_cons (qg_name (i := 4) sc__law_is_order.nd rfl (Or.inl rfl)) qgs_nil))))
    (qss_one (qs_for PassesOwn.never rfl (qi_list (K := K) rfl (qe_slL (K := K) rfl (qv 1) (qo_some (qe_op qo_add (qv 2) qe_int)) qo_none)) (qg_name (i := 5) sc__law_is_order.nd rfl (Or.inl rfl))
      (qss_one (qs_if (qt_cmpR qo_notN (qe_call ((ok_first_bump L).mono (by decide)) hr rfl L.first_bump.m L.first_bump.F.kp L.first_bump.b .nil pass0 (qa_cons (qv 3) (qa_cons (qe_ix (qx_tup (K := K) rfl) (qe_ix (qx_list (K := K) rfl) (qv 0) (qv 5) (fun _ _ => rfl)) qe_int (fun _ _ => rfl)) (qa_cons (qv 4) qa_nil)))) qe_non (nomark _)) (qss_one (qs_ret qe_bl)) qss_nil))))))
    (qss_one (qs_ret qe_bl)))), ?_⟩
  obtain ⟨hperm, hlate⟩ := taken_ok htk
  have hrl : r.length = ps.length := by rw [hperm.length_eq, rangeI_len]
  have hn := hne.1
  have hP' := hP
  obtain ⟨zp, ezp, rzp⟩ := hP'
  have hpl := rzp.len
  have hrg : ∀ i ∈ r, 0 ≤ i ∧ i < ps.length := fun i hi => mem_rangeI.mp (hperm.mem_iff.mp hi)
  have hwn := walked_none hlate
  walk_at "rd"
  refine rd_sortI (SqL.of eb) (by omega) fun lm ms hlm hpm hasc => ?_
  have hms : ms = rngI ps.length := sorted_order htk hpm hasc
  subst hms
  have sm := same_new (o := .lst ((rngI ps.length).map V.int)) hlm
  have ezp1 := sm _ _ ezp
  walk_at "rd"
  refine ⟨_, rfl, by omega, by omega, fun l0 hl0 => ?_⟩
  rw [show (zp.length : Int).toNat = ps.length by omega]
  have sl := same_new (o := .lst ((rngI ps.length).map V.int)) hl0
  walk_at "rd"
  refine rd_neD (dat_ints (sl _ _ upd_same)) (dat_ints upd_same) (shp_ints _).ok ?_
  have eb2 := (sm.trans sl) _ _ eb
  have s2 := sm.trans sl
  generalize upd (upd H lm (.lst ((rngI ps.length).map V.int))) l0 (.lst ((rngI ps.length).map V.int)) = H2 at *
  walk_at "rd"
  intro lb hlb
  have slb := same_new (o := .lst (r.map V.int)) hlb
  walk_at "rd"
  refine ⟨a, lb, ps, r, rfl, Parts.up (s2.trans slb) hP, hok, upd_same, ⟨by omega, fun i hi => by rw [hols_len]; exact hrg i hi⟩, fun v H3 s3 hv => ?_⟩
  rw [hwn] at hv
  have hv : v = .non := hv
  subst hv
  have sH3 := s2.trans (slb.trans s3)
  have eb3 := sH3 _ _ eb
  walk_at "rd"
  rw [List.length_map]
  refine ⟨_, rfl, by omega, by omega, ?_⟩
  have hlr : ((List.range (r.length : Int).toNat).map fun i : Nat => (0 : Int) + (i : Int)).length = r.length := by simp
  refine for_feeds (R := IsI) (H0 := H) (fun i σ H' => (∃ o1 o2 o3 o4, σ = [some (.ref a), some (.ref b), o1, o2, o3, o4]) ∧ Same H H') feeds_range (fun _ _ _ q => q.2) ⟨⟨_, _, _, _, rfl⟩, sH3⟩ ?_ ?_
  · rintro σ H4 ⟨⟨o1, o2, o3, o4, rfl⟩, s4⟩
    walk_at "rd"
    exact k _ s4
  · rintro i n v σ H4 H5 hi ex ⟨⟨o1, o2, o3, o4, rfl⟩, s4⟩ s5 rfl
    rw [hlr] at hi
    have hn' : n = (i : Int) := by
      rw [List.getElem?_map, List.getElem?_range (by omega)] at ex
      have : (0 : Int) + (i : Int) = n := Option.some.inj ex
      omega
    subst hn'
    have s45 := s4.trans s5
    have ec : r[i]? = some r[i] := List.getElem?_eq_getElem hi
    have eat : atI (r.map V.int) (i : Int) = some (.int r[i]) := atI_nat (by rw [List.getElem?_map, ec]; rfl)
    generalize r[i] = ri at *
    have hri := hrg ri (List.mem_of_getElem? ec)
    obtain ⟨zs, v0, ez, az, p0, b0, ys0, rfl, f1, f2, f3⟩ := Parts.at' (Parts.up s45 hP) hri.1 hri.2
    have hx := hne.2 _ (pt_mem hri.1 hri.2)
    walk_at "rd"
    refine rd_ixL (SqL.of (s45 _ _ eb)) eat ?_
    walk_at "rd"
    refine rd_ixL (SqL.of ez) az ?_
    walk_at "rd"
    intro lc hlc
    have slc := same_new (o := .lst (cutV (r.map V.int) (some ((i : Int) + 1)) none)) hlc
    have ecut : cutV (r.map V.int) (some ((i : Int) + 1)) none = (r.drop (i + 1)).map V.int := by
      have := cut_from (ns := r) (k := i + 1) (by omega)
      rw [← this]
      rfl
    have elc : upd H5 lc (.lst (cutV (r.map V.int) (some ((i : Int) + 1)) none)) lc = some (.lst ((r.drop (i + 1)).map V.int)) := by rw [← ecut]; exact upd_same
    generalize upd H5 lc (.lst (cutV (r.map V.int) (some ((i : Int) + 1)) none)) = H6 at *
    have s46 := s45.trans slc
    walk_at "rd"
    refine for_feeds (R := IsI) (H0 := H6) (fun j σ H' => (∃ o4, σ = [some (.ref a), some (.ref b), some (.int (i : Int)), some (.ref b0), some (.str (pt ps ri).2.s), o4]) ∧ Same H6 H') (feeds_list (SqL.of elc) (Rs.ints _)) (fun _ _ _ q => q.2) ⟨⟨_, rfl⟩, Same.refl _⟩ ?_ ?_
    · rintro σ H7 ⟨⟨o4, rfl⟩, s7⟩
      exact ⟨⟨_, _, _, _, rfl⟩, s46.trans s7⟩
    · rintro j rj v σ H7 H8 hj exj ⟨⟨o4, rfl⟩, s7⟩ s8 rfl
      have hrjm : rj ∈ r.drop (i + 1) := List.mem_of_getElem? exj
      have hrj := hrg rj (List.mem_of_mem_drop hrjm)
      have s48 := s46.trans (s7.trans s8)
      obtain ⟨zs2, v1, ez2, az2, p1, b1, ys1, rfl, g1, g2, g3⟩ := Parts.at' (Parts.up s48 hP) hrj.1 hrj.2
      have hy := hne.2 _ (pt_mem hrj.1 hrj.2)
      have s58 := slc.trans (s7.trans s8)
      have hnh : ¬ hinds (pt ps ri).2 (pt ps ri).1 (pt ps rj).1 := fun hh => by
        have hnd : r.Nodup := hperm.nodup_iff.mpr (rangeI_nodup _)
        have hne' : rj ≠ ri := fun e => by
          subst e
          obtain ⟨m, hm⟩ := List.getElem?_of_mem hrjm
          rw [List.getElem?_drop] at hm
          have := (List.getElem?_inj (by omega) hnd).mp (ec.trans hm.symm)
          omega
        exact hlate i ri ec rj hrjm ((held_pt hri hrj).mpr ⟨hne', hh⟩)
      walk_at "rd"
      refine rd_ixL (SqL.of ez2) az2 ?_
      walk_at "rd"
      refine ⟨b0, b1, (pt ps ri).2, ys0, ys1, (pt ps ri).1, (pt ps rj).1, rfl, SqL.of (s58 _ _ f2), Rs.up s58 f3, SqL.of g2, g3, by have := hx.1; omega, by have := hy.1; omega, fun c hc => within_up (hx.2 c hc), fun c hc => within_up (hy.2 c hc), fun o H9 ho s9 => ?_⟩
      cases o with
      | none =>
        rw [show bv none = V.non from rfl]
        walk_at "rd"
        exact ⟨⟨_, rfl⟩, s7.trans (s8.trans s9)⟩
      | some m =>
        obtain ⟨m1, ⟨c, hc, hm⟩, _⟩ := ho
        exact absurd ⟨c, hc, _, hm, ln_put _ _ _, ahd_st m1⟩ hnh
end
end P97
set_option Elab.async false
set_option linter.all false
namespace Pc
open PySem L2 Srt
theorem dat_ord {K : PySem.W.Frag} {H : Hp} {q p : Addr} {w : Str} {ns : List Int} (e : H q = some (.tup [.str w, .ref p])) (e2 : H p = some (.lst (ns.map V.int))) : Dat K H (.ref q) (.tuple [.str w, .list (ns.map .int)]) := .tup (SqT.of e) (.cons (.str _) (.cons (dat_ints e2) .nil))
theorem shp_wd {n : Nat} : Shp n (.str "order") := ⟨by decide +kernel, by simp [PyData.depth]⟩
theorem shp_ord (ns : List Int) : SeqAt.shaped (.tuple [.str "order", .list (ns.map .int)]) = true := (shp_tup (n := 1) fun d hd => by
  simp only [List.mem_cons, List.not_mem_nil, or_false] at hd
  rcases hd with rfl | rfl
  · exact shp_wd
  · exact shp_ints ns).ok
end Pc
set_option Elab.async false
set_option linter.all false
set_option maxRecDepth 100000
set_option maxHeartbeats 4000000
namespace P97
open PySem L2 Srt Pc
section
variable {P : Program} {w : World} {K : PySem.W.Frag} {mg : Str → Option Value} {base : Heap} {ad : Ad}
theorem ok__law_asked_so (L : All K w mg ad) : FnOk P w K mg base CX0 8 ad.f__law_asked_so ad.d__law_asked_so ["_law_script"] (spAsked K) := by
  refine L._law_asked_so.F.okQ sc__law_asked_so (fun vs H Q E h => ?_) (fun cdv A outer s H vs Q E hr h => ?_)
  · obtain ⟨x, ns, rfl, _⟩ := h
    rfl
  obtain ⟨x, ns, rfl, hS, hl, k⟩ := h
  refine ⟨_, (qss_cons (qs_set (i := 1) sc__law_asked_so.nd rfl (Or.inl rfl) (qe_call ((ok__law_parts L).mono (by decide)) hr rfl L._law_parts.m L._law_parts.F.kp L._law_parts.b .nil pass0 (qa_cons (qv 0) qa_nil)))
    (qss_cons (qs_set (i := 2) sc__law_asked_so.nd rfl (Or.inl rfl) (qe_call ((ok__law_held L).mono (by decide)) hr rfl L._law_held.m L._law_held.F.kp L._law_held.b .nil pass0 (qa_cons (qv 1) qa_nil)))
    (qss_cons (qs_if (qt_cmpR (qo_neD (K := K) rfl hr.units) (qe_call ((ok_held_by L).mono (by decide)) hr rfl L.held_by.m L.held_by.F.kp L.held_by.b .nil pass0 (qa_cons (qe_callTy (qc_list (K := K) rfl) rfl L.n_list b_list (qa_cons (qv 1) qa_nil)) qa_nil)) (qv 2) (nomark _)) (qss_one (qs_ret qe_bl)) qss_nil)
    (qss_cons (qs_set (i := 3) sc__law_asked_so.nd rfl (Or.inl rfl) (qe_call ((ok_order_of L).mono (by decide)) hr rfl L.order_of.m L.order_of.F.kp L.order_of.b .nil pass0 (qa_cons (qe_callTy (qc_list (K := K) rfl) rfl L.n_list b_list (qa_cons (qv 1) qa_nil)) qa_nil)))
    (qss_cons (qs_if (QW.t (qw_or (qt_not (qt_val (qe_callB (qc_isI (K := K) rfl) rfl L.n_isinstance b_isinstance (qa_cons (qv 3) (qa_cons (qe_bltn (v := .ty "tuple") rfl L.n_tuple b_tuple rfl) qa_nil))))) (qw_or (qt_cmpR qo_ne (qe_callB (qc_len (K := K) rfl) rfl L.n_len b_len (qa_cons (qv 3) qa_nil)) qe_int (nomark _)) (qw_or1 (qt_not (qt_val (qe_callB (qc_isI (K := K) rfl) rfl L.n_isinstance b_isinstance (qa_cons (qe_ix (qx_tup (K := K) rfl) (qv 3) qe_int (fun _ _ => rfl)) (qa_cons (qe_bltn (v := .ty "list") rfl L.n_list b_list rfl) qa_nil))))))))) (qss_one (qs_ret qe_bl)) qss_nil)
    (qss_cons (qs_set (i := 4) sc__law_asked_so.nd rfl (Or.inl rfl) (qe_call ((ok__law_taken L).mono (by decide)) hr rfl L._law_taken.m L._law_taken.F.kp L._law_taken.b .nil pass0 (qa_cons (qv 2) qa_nil)))
    (qss_cons (qs_set (i := 5) sc__law_asked_so.nd rfl (Or.inr rfl) (qe_ix qx_str qe_str (qe_op qo_mod (qe_op qo_fdiv (qe_call ((ok__law_cell_at L).mono (by decide)) hr rfl L._law_cell_at.m L._law_cell_at.F.kp L._law_cell_at.b .nil pass0 (qa_cons (qv 0) (qa_cons qe_int qa_nil))) qe_int) qe_int) (fun _ _ => rfl)))
    (qss_cons (qs_setU (i := 6) (N := ["_law_body", "_law_way", "_law_axis"]) ["_law_body", "_law_way"] [5] sc__law_asked_so.nd rfl (Or.inl rfl) rfl rfl rfl rfl (qi_list (K := K) rfl (qv 1)) (fun _ _ _ _ => (qg_tup (K := K) (n := 2) rfl rfl (qgs_cons (qg_name (i := 0) (by show (["_law_body", "_law_way", "_law_axis"] : List Str).Nodup; decide +kernel) rfl (Or.inl rfl)) (qgs_cons (qg_name (i := 1) (by show (["_law_body", "_law_way", "_law_axis"] : List Str).Nodup; decide +kernel) rfl (Or.inl rfl)) qgs_nil)))) (fun _ _ _ _ => qf_nil) (fun _ _ _ _ => (qe_tup (qa_cons (qe_call ((ok_quarter L).mono (by decide)) hr rfl L.quarter.m L.quarter.F.kp L.quarter.b .nil pass0 (qa_cons (qv 0) (qa_cons (qv 2) qa_nil))) (qa_cons (qe_call ((ok_quarter_way L).mono (by decide)) hr rfl L.quarter_way.m L.quarter_way.F.kp L.quarter_way.b .nil pass0 (qa_cons (qv 1) (qa_cons (qv 2) qa_nil))) qa_nil)))))
    (qss_cons (qs_if (QW.t (qw_and (qt_cmpR qo_notN (qv 4) qe_non (nomark _)) (qw_and1 (qt_cmpR (qo_neD (K := K) rfl hr.units) (qe_call ((ok_order_of L).mono (by decide)) hr rfl L.order_of.m L.order_of.F.kp L.order_of.b .nil pass0 (qa_cons (qv 6) qa_nil)) (qv 3) (nomark _))))) (qss_one (qs_ret qe_bl)) qss_nil)
    (qss_cons (qs_if (qt_cmpR qo_isN (qv 4) qe_non (nomark _)) (qss_one (qs_ret (qe_and (qe_cmpR qo_eq (qe_ix (qx_tup (K := K) rfl) (qv 3) qe_int (fun _ _ => rfl)) qe_str (nomark _)) (qe_one (qe_call ((ok__law_is_ring L).mono (by decide)) hr rfl L._law_is_ring.m L._law_is_ring.F.kp L._law_is_ring.b .nil pass0 (qa_cons (qv 2) (qa_cons (qe_ix (qx_tup (K := K) rfl) (qv 3) qe_int (fun _ _ => rfl)) qa_nil))))))) qss_nil)
    (qss_one (qs_ret (qe_and (qe_cmpR (qo_eqD (K := K) rfl hr.units) (qv 3) (qe_tup (qa_cons qe_str (qa_cons (qv 4) qa_nil))) (nomark _)) (qe_one (qe_call ((ok__law_is_order L).mono (by decide)) hr rfl L._law_is_order.m L._law_is_order.F.kp L._law_is_order.b .nil pass0 (qa_cons (qv 1) (qa_cons (qe_ix (qx_tup (K := K) rfl) (qv 3) qe_int (fun _ _ => rfl)) qa_nil))))))))))))))))), ?_⟩
  walk_at "rd"
  refine ⟨x, ns, rfl, hS, hl, fun lp ps H1 s1 nlp hP hne => ?_⟩
  have hok := near_ok hne
  have hn := hne.1
  walk_at "rd"
  refine ⟨lp, ps, rfl, hP, hne, fun lh zh H2 s2 nlh eh rh => ?_⟩
  have hP2 := Parts.up s2 hP
  obtain ⟨zp, ezp, rzp⟩ := hP2
  have hholok := hols_ok hok
  have hHol : Hols H2 lh (holsOf ps) := ⟨zh, eh, rh⟩
  walk_at "rd"
  intro lc hlc
  have sc := same_new (o := .lst zp) hlc
  have hPc : Parts (upd H2 lc (.lst zp)) lc ps := ⟨zp, upd_same, Paired.mapP rzp fun _ _ q => PA.up sc q⟩
  walk_at "rd"
  refine ⟨lc, ps, rfl, hPc, hok, fun lq zq H3 s3 nlq eq rq => ?_⟩
  have s23 := sc.trans s3
  have rq' : Rs IsIL H3 zq (holsOf ps) := Paired.mapP rq fun _ _ q => let ⟨p, x1, x2, _⟩ := q; ⟨p, x1, x2⟩
  walk_at "rd"
  refine rd_neD (dat_nss eq rq') (dat_nss (s23 _ _ eh) (Paired.mapP rh fun _ _ q => IsIL.up s23 q)) (shp_nss _) ?_
  have ezp3 := s23 _ _ ezp
  walk_at "rd"
  intro ld hld
  have sd := same_new (o := .lst zp) hld
  have hPd : Parts (upd H3 ld (.lst zp)) ld ps := ⟨zp, upd_same, Paired.mapP rzp fun _ _ q => PA.up (s23.trans sd) q⟩
  walk_at "rd"
  refine ⟨ld, ps, rfl, hPd, hok, fun v H4 s4 hord => ?_⟩
  obtain ⟨qo, po, r, wd, rfl, eqo, epo, npo, nqo, hcase⟩ := hord
  have s24 := s23.trans (sd.trans s4)
  have hHol4 := Hols.up s24 hHol
  walk_at "rd"
  rw [show (([V.str wd, V.ref po].length : Nat) : Int) = 2 from rfl, decide_eq_true rfl]
  walk_at "rd"
  refine ⟨lh, holsOf ps, rfl, hHol4, hholok, fun pt' r' H5 htk s5 npt ept => ?_, fun H5 htk s5 => ?_⟩
  · -- the order is there
    have hwr : wd = "order" ∧ r = r' := by
      rcases hcase with ⟨e1, e2⟩ | ⟨_, e2, _⟩
      · rw [htk] at e2
        cases e2
        exact ⟨e1, rfl⟩
      · rw [htk] at e2
        cases e2
    obtain ⟨rfl, rfl⟩ := hwr
    have s25 := s24.trans s5
    have eqo5 := s5 _ _ eqo
    have epo5 := s5 _ _ epo
    walk_at "rd"
    refine ⟨x, ns, 0, rfl, (s1.trans (s2.trans s25)).seq hS, by decide, fun m0 => ?_⟩
    walk_at "rd"
    obtain ⟨ax, hax⟩ := ax_of (i := m0 / 7 % 3) (by omega) (by omega)
    obtain ⟨cc, ecc, ecs⟩ := ax_str ax
    rw [hax] at ecc
    refine rd_str (by decide) ecc ?_
    rw [ecs]
    walk_at "rd"
    have hP5 : Parts H5 lp ps := Parts.up (s2.trans s25) hP
    have ezp5 := s25 _ _ ezp
    have rzp5 : Rs PA H5 zp ps := Paired.mapP rzp fun _ _ q => PA.up s25 q
    intro acc hacc
    refine comp_relL (R := PA) (S := fun H v y => PA H v (trn ax y)) (fun s h => PA.up s h) (fun _ => true) 2 [some (.str ax.s)] (feeds_listG (R := PA) (fun s h => PA.up s h) (SqL.of ezp5) rzp5) (by have := rzp.len; omega) hacc ?_ ?_
    · rintro os v y H6 zs6 R1 R0 ho s6 ez6 hy ⟨p, b, ys, rfl, f1, f2, f3⟩ k1 k0
      match os, ho with
      | [oo1, oo2], _ =>
        have hyl := (hne.2 y hy).1
        walk_at "rd"
        refine ⟨b, ax, ys, y.1, rfl, SqL.of f2, f3, by omega, fun pq zq' H7 s7 npq eq7 cq7 => ?_⟩
        walk_at "rd"
        refine ⟨y.2, ax, rfl, fun H8 s8 => ?_⟩
        walk_at "rd"
        refine ⟨le2, fun t ht => ?_⟩
        have st := same_new (o := .tup [.ref pq, .str (qW y.2 ax).s]) ht
        have ez7 := (s7.trans s8) _ _ ez6
        have nta : t ≠ acc := fun z => by subst z; rw [ez7] at ht; cases ht
        have npa : pq ≠ acc := fun z => by subst z; rw [ez6] at npq; cases npq
        refine k1 [_, _] _ _ rfl (s7.trans (s8.trans st)) rfl ⟨t, pq, zq', rfl, hid_at nta upd_same, hid_at npa ((s8.trans st) _ _ eq7), ?_⟩
        exact cs_hidG (st _ _ ez7) (by intro xs z; cases z) (Rs.up (s8.trans st) cq7)
    · intro zt H6 s6 e6 r6
      rw [List.filter_eq_self.mpr (fun _ _ => rfl)] at r6
      have hPt : Parts H6 acc (ps.map (trn ax)) := ⟨zt, e6, rs_map r6⟩
      have hokT : PsOk (ps.map (trn ax)) := ⟨by rw [List.length_map]; exact hok.1, fun y hy => by
        obtain ⟨z, hz, rfl⟩ := List.mem_map.mp hy
        unfold trn
        rw [(srtC_perm _).length_eq, List.length_map]
        exact hok.2 z hz⟩
      have epo6 := s6 _ _ epo5
      have eqo6 := s6 _ _ eqo5
      walk_at "rd"
      refine ⟨acc, _, rfl, hPt, hokT, fun v H7 s7 hord2 => ?_⟩
      obtain ⟨qo2, po2, r2, wd2, rfl, eqo2, epo2, _, _, hcase2⟩ := hord2
      rw [hols_turn] at hcase2
      have hwr2 : wd2 = "order" ∧ r2 = r := by
        rcases hcase2 with ⟨e1, e2⟩ | ⟨_, e2, _⟩
        · rw [htk] at e2
          cases e2
          exact ⟨e1, rfl⟩
        · rw [htk] at e2
          cases e2
      obtain ⟨rfl, rfl⟩ := hwr2
      walk_at "rd"
      refine rd_neD (dat_ord eqo2 epo2) (dat_ord (s7 _ _ eqo6) (s7 _ _ epo6)) (shp_ord _) ?_
      have s57 := s6.trans s7
      walk_at "rd"
      refine ⟨le2, fun t ht => ?_⟩
      have st := same_new (o := .tup [.str "order", .ref pt']) ht
      have s5t := s57.trans st
      walk_at "rd"
      refine rd_eqD (dat_ord (s5t _ _ eqo5) (s5t _ _ epo5)) (dat_ord upd_same (s5t _ _ ept)) (shp_ord _) ?_
      have eqoX := s5t _ _ eqo5
      walk_at "rd"
      refine ⟨lp, po, ps, _, rfl, Parts.up (s2.trans (s25.trans s5t)) hP, hne, s5t _ _ epo5, htk, fun H9 s9 => ?_⟩
      walk_at "rd"
      exact k _
  · -- a ring
    have hwr : wd = "ring" ∧ IsRing (holsOf ps) r := by
      rcases hcase with ⟨_, e2⟩ | ⟨e1, _, e3⟩
      · rw [htk] at e2
        cases e2
      · exact ⟨e1, e3⟩
    obtain ⟨rfl, hring⟩ := hwr
    have s25 := s24.trans s5
    have eqo5 := s5 _ _ eqo
    have epo5 := s5 _ _ epo
    walk_at "rd"
    refine ⟨x, ns, 0, rfl, (s1.trans (s2.trans s25)).seq hS, by decide, fun m0 => ?_⟩
    walk_at "rd"
    obtain ⟨ax, hax⟩ := ax_of (i := m0 / 7 % 3) (by omega) (by omega)
    obtain ⟨cc, ecc, ecs⟩ := ax_str ax
    rw [hax] at ecc
    refine rd_str (by decide) ecc ?_
    rw [ecs]
    walk_at "rd"
    have ezp5 := s25 _ _ ezp
    have rzp5 : Rs PA H5 zp ps := Paired.mapP rzp fun _ _ q => PA.up s25 q
    intro acc hacc
    refine comp_relL (R := PA) (S := fun _ _ _ => True) (fun _ h => h) (fun _ => true) 2 [some (.str ax.s)] (feeds_listG (R := PA) (fun s h => PA.up s h) (SqL.of ezp5) rzp5) (by have := rzp.len; omega) hacc ?_ ?_
    · rintro os v y H6 zs6 R1 R0 ho s6 ez6 hy ⟨p, b, ys, rfl, f1, f2, f3⟩ k1 k0
      match os, ho with
      | [oo1, oo2], _ =>
        have hyl := (hne.2 y hy).1
        walk_at "rd"
        refine ⟨b, ax, ys, y.1, rfl, SqL.of f2, f3, by omega, fun pq zq' H7 s7 npq eq7 cq7 => ?_⟩
        walk_at "rd"
        refine ⟨y.2, ax, rfl, fun H8 s8 => ?_⟩
        walk_at "rd"
        refine ⟨le2, fun t ht => ?_⟩
        exact k1 [_, _] _ _ rfl (s7.trans (s8.trans (same_new ht))) rfl trivial
    · intro zt H6 s6 e6 r6
      have eqo6 := s6 _ _ eqo5
      walk_at "rd"
      rw [if_pos (decide_eq_true rfl)]
      walk_at "rd"
      refine ⟨po, lh, holsOf ps, r, rfl, s6 _ _ epo5, Hols.up (s25.trans s6) hHol, hholok, hring, fun H9 s9 => ?_⟩
      walk_at "rd"
      exact k _
end
end P97
set_option Elab.async false
set_option linter.all false
set_option maxRecDepth 100000
set_option maxHeartbeats 4000000
namespace P97
open PySem L2 Srt Pc
section
variable {P : Program} {w : World} {K : PySem.W.Frag} {mg : Str → Option Value} {base : Heap} {ad : Ad}
theorem ok_law (L : All K w mg ad) : FnOk P w K mg base CX0 9 ad.f_law ad.d_law ["_law_script"] (spLaw K) := by
  refine L.law.F.okQ sc_law (fun vs H Q E h => ?_) (fun cdv A outer s H vs Q E hr h => ?_)
  · obtain ⟨x, ns, rfl, _⟩ := h
    rfl
  obtain ⟨x, ns, rfl, hS, hl, k⟩ := h
  refine ⟨_, (qss_one (qs_ret (qe_call ((ok__law_asked_so L).mono (by decide)) hr rfl L._law_asked_so.m L._law_asked_so.F.kp L._law_asked_so.b .nil pass0 (qa_cons (qe_call ((ok__law_wide L).mono (by decide)) hr rfl L._law_wide.m L._law_wide.F.kp L._law_wide.b .nil pass0 (qa_cons (qv 0) qa_nil)) qa_nil)))), ?_⟩
  walk_at "rd"
  refine ⟨x, ns, rfl, hS, hl, fun p ms H1 s1 hp hm => ?_⟩
  walk_at "rd"
  exact ⟨p, ms, rfl, hp, hm, k⟩
end
end P97
set_option Elab.async false
namespace Pc
theorem args1 {us : List PySem.Value} (h : us.length = 1) : ∃ a0, us = [a0] := by
  cases us with
  | nil => cases h
  | cons a0 us =>
  replace h := Nat.succ.inj h
  cases us with
  | nil => exact ⟨a0, rfl⟩
  | cons _ _ => cases h
theorem args2 {us : List PySem.Value} (h : us.length = 2) : ∃ a0 a1, us = [a0, a1] := by
  cases us with
  | nil => cases h
  | cons a0 us =>
  replace h := Nat.succ.inj h
  cases us with
  | nil => cases h
  | cons a1 us =>
  replace h := Nat.succ.inj h
  cases us with
  | nil => exact ⟨a0, a1, rfl⟩
  | cons _ _ => cases h
theorem args3 {us : List PySem.Value} (h : us.length = 3) : ∃ a0 a1 a2, us = [a0, a1, a2] := by
  cases us with
  | nil => cases h
  | cons a0 us =>
  replace h := Nat.succ.inj h
  cases us with
  | nil => cases h
  | cons a1 us =>
  replace h := Nat.succ.inj h
  cases us with
  | nil => cases h
  | cons a2 us =>
  replace h := Nat.succ.inj h
  cases us with
  | nil => exact ⟨a0, a1, a2, rfl⟩
  | cons _ _ => cases h
end Pc
open PySem PySem.W PyProof.Rows
set_option maxRecDepth 100000 in
set_option maxHeartbeats 0 in
theorem PySem.Challenge.cw_pourhall_k97_whole_away_in_order_holds : PySem.Challenge.rw_pourhall_k97_whole_away_in_order.Holds := by
  w_on; o_law; k_head; (case hw => w_witness2)
  k_fill
  refine Pc.walkK (l := PySem.Challenge.rw_pourhall_k97_whole_away_in_order) (k := 9) (by decide) rfl rfl (fun w h Y => PySem.W.kIn_of Y) ?F
  case F =>
    intro w mg fa h KX G hmg
    have t_PLACES : ∃ a, mg "PLACES" = some (.ref a) ∧ L2.TopD (L2.KOf KX) w a Pc.plD := by
      dsimp only [L2.KOf]
      refine' Pc.place_mk KX G ?m ?l ?k ?x0 ?x1 ?x2
      (case m => k_is); (case l => k_is); (case k => k_keys); (case x0 => k_is); (case x1 => k_is); (case x2 => k_is)
    obtain ⟨a_PLACES, m_PLACES, t_PLACES⟩ := t_PLACES
    have t_WAYS : ∃ a, mg "WAYS" = some (.ref a) ∧ ∀ H, L2.SqT (L2.KOf KX) H a (Pc.allW.map fun u => L2.V.str u.s) := by
      dsimp only [L2.KOf]
      refine' Pc.tup_mk KX G ?m ?l ?r ?z
      (case m => k_is); (case l => k_is)
      (case r => exact .cons ⟨_, rfl⟩ (.cons ⟨_, rfl⟩ (.cons ⟨_, rfl⟩ (.cons ⟨_, rfl⟩ (.cons ⟨_, rfl⟩ (.cons ⟨_, rfl⟩ .nil))))))
      (case z => exact Pc.le6)
    obtain ⟨a_WAYS, m_WAYS, t_WAYS⟩ := t_WAYS
    have t_ORIGIN : ∃ a, mg "ORIGIN" = some (.ref a) ∧ ∀ H, L2.SqT (L2.KOf KX) H a Pc.C3.o.v := by
      dsimp only [L2.KOf]
      refine' Pc.tup_mk KX G ?m ?l ?r ?z
      (case m => k_is); (case l => k_is)
      (case r => exact .cons ⟨_, rfl⟩ (.cons ⟨_, rfl⟩ (.cons ⟨_, rfl⟩ .nil)))
      (case z => exact Pc.le3)
    obtain ⟨a_ORIGIN, m_ORIGIN, t_ORIGIN⟩ := t_ORIGIN
    have n_abs : mg "abs" = none := by refine' PySem.W.mg_none_of KX G ?e; (case e => k_is)
    have n_dict : mg "dict" = none := by refine' PySem.W.mg_none_of KX G ?e; (case e => k_is)
    have n_enumerate : mg "enumerate" = none := by refine' PySem.W.mg_none_of KX G ?e; (case e => k_is)
    have n_int : mg "int" = none := by refine' PySem.W.mg_none_of KX G ?e; (case e => k_is)
    have n_isinstance : mg "isinstance" = none := by refine' PySem.W.mg_none_of KX G ?e; (case e => k_is)
    have n_len : mg "len" = none := by refine' PySem.W.mg_none_of KX G ?e; (case e => k_is)
    have n_list : mg "list" = none := by refine' PySem.W.mg_none_of KX G ?e; (case e => k_is)
    have n_max : mg "max" = none := by refine' PySem.W.mg_none_of KX G ?e; (case e => k_is)
    have n_min : mg "min" = none := by refine' PySem.W.mg_none_of KX G ?e; (case e => k_is)
    have n_range : mg "range" = none := by refine' PySem.W.mg_none_of KX G ?e; (case e => k_is)
    have n_set : mg "set" = none := by refine' PySem.W.mg_none_of KX G ?e; (case e => k_is)
    have n_sorted : mg "sorted" = none := by refine' PySem.W.mg_none_of KX G ?e; (case e => k_is)
    have n_tuple : mg "tuple" = none := by refine' PySem.W.mg_none_of KX G ?e; (case e => k_is)
    have h_along : ∃ f fd, Pc.Fn (L2.KOf KX) mg "along" P97.s_along f fd ["cell", "axis"] := by
      dsimp only [L2.KOf]
      refine' Pc.fn_mk KX G ?a ?l ?c ?k ?b
      (case a => k_is); (case l => k_is); (case c => k_is); (case k => k_is); (case b => exact fun _ _ _ _ _ _ us hl => by obtain ⟨_, _, rfl⟩ := Pc.args2 hl; rfl)
    obtain ⟨f_along, d_along, h_along⟩ := h_along
    have h_placed : ∃ f fd, Pc.Fn (L2.KOf KX) mg "placed" P97.s_placed f fd ["cell", "axis", "number"] := by
      dsimp only [L2.KOf]
      refine' Pc.fn_mk KX G ?a ?l ?c ?k ?b
      (case a => k_is); (case l => k_is); (case c => k_is); (case k => k_is); (case b => exact fun _ _ _ _ _ _ us hl => by obtain ⟨_, _, _, rfl⟩ := Pc.args3 hl; rfl)
    obtain ⟨f_placed, d_placed, h_placed⟩ := h_placed
    have h_line_of : ∃ f fd, Pc.Fn (L2.KOf KX) mg "line_of" P97.s_line_of f fd ["cell", "axis"] := by
      dsimp only [L2.KOf]
      refine' Pc.fn_mk KX G ?a ?l ?c ?k ?b
      (case a => k_is); (case l => k_is); (case c => k_is); (case k => k_is); (case b => exact fun _ _ _ _ _ _ us hl => by obtain ⟨_, _, rfl⟩ := Pc.args2 hl; rfl)
    obtain ⟨f_line_of, d_line_of, h_line_of⟩ := h_line_of
    have h_next_cell : ∃ f fd, Pc.Fn (L2.KOf KX) mg "next_cell" P97.s_next_cell f fd ["cell", "way"] := by
      dsimp only [L2.KOf]
      refine' Pc.fn_mk KX G ?a ?l ?c ?k ?b
      (case a => k_is); (case l => k_is); (case c => k_is); (case k => k_is); (case b => exact fun _ _ _ _ _ _ us hl => by obtain ⟨_, _, rfl⟩ := Pc.args2 hl; rfl)
    obtain ⟨f_next_cell, d_next_cell, h_next_cell⟩ := h_next_cell
    have h_quarter_cell : ∃ f fd, Pc.Fn (L2.KOf KX) mg "quarter_cell" P97.s_quarter_cell f fd ["cell", "axis"] := by
      dsimp only [L2.KOf]
      refine' Pc.fn_mk KX G ?a ?l ?c ?k ?b
      (case a => k_is); (case l => k_is); (case c => k_is); (case k => k_is); (case b => exact fun _ _ _ _ _ _ us hl => by obtain ⟨_, _, rfl⟩ := Pc.args2 hl; rfl)
    obtain ⟨f_quarter_cell, d_quarter_cell, h_quarter_cell⟩ := h_quarter_cell
    have h_way_of_step : ∃ f fd, Pc.Fn (L2.KOf KX) mg "way_of_step" P97.s_way_of_step f fd ["step"] := by
      dsimp only [L2.KOf]
      refine' Pc.fn_mk KX G ?a ?l ?c ?k ?b
      (case a => k_is); (case l => k_is); (case c => k_is); (case k => k_is); (case b => exact fun _ _ _ _ _ _ us hl => by obtain ⟨_, rfl⟩ := Pc.args1 hl; rfl)
    obtain ⟨f_way_of_step, d_way_of_step, h_way_of_step⟩ := h_way_of_step
    have h_quarter_way : ∃ f fd, Pc.Fn (L2.KOf KX) mg "quarter_way" P97.s_quarter_way f fd ["way", "axis"] := by
      dsimp only [L2.KOf]
      refine' Pc.fn_mk KX G ?a ?l ?c ?k ?b
      (case a => k_is); (case l => k_is); (case c => k_is); (case k => k_is); (case b => exact fun _ _ _ _ _ _ us hl => by obtain ⟨_, _, rfl⟩ := Pc.args2 hl; rfl)
    obtain ⟨f_quarter_way, d_quarter_way, h_quarter_way⟩ := h_quarter_way
    have h_quarter : ∃ f fd, Pc.Fn (L2.KOf KX) mg "quarter" P97.s_quarter f fd ["body", "axis"] := by
      dsimp only [L2.KOf]
      refine' Pc.fn_mk KX G ?a ?l ?c ?k ?b
      (case a => k_is); (case l => k_is); (case c => k_is); (case k => k_is); (case b => exact fun _ _ _ _ _ _ us hl => by obtain ⟨_, _, rfl⟩ := Pc.args2 hl; rfl)
    obtain ⟨f_quarter, d_quarter, h_quarter⟩ := h_quarter
    have h_lines_of : ∃ f fd, Pc.Fn (L2.KOf KX) mg "lines_of" P97.s_lines_of f fd ["body", "axis"] := by
      dsimp only [L2.KOf]
      refine' Pc.fn_mk KX G ?a ?l ?c ?k ?b
      (case a => k_is); (case l => k_is); (case c => k_is); (case k => k_is); (case b => exact fun _ _ _ _ _ _ us hl => by obtain ⟨_, _, rfl⟩ := Pc.args2 hl; rfl)
    obtain ⟨f_lines_of, d_lines_of, h_lines_of⟩ := h_lines_of
    have h_nearest_ahead : ∃ f fd, Pc.Fn (L2.KOf KX) mg "nearest_ahead" P97.s_nearest_ahead f fd ["cell", "sand_lines", "way"] := by
      dsimp only [L2.KOf]
      refine' Pc.fn_mk KX G ?a ?l ?c ?k ?b
      (case a => k_is); (case l => k_is); (case c => k_is); (case k => k_is); (case b => exact fun _ _ _ _ _ _ us hl => by obtain ⟨_, _, _, rfl⟩ := Pc.args3 hl; rfl)
    obtain ⟨f_nearest_ahead, d_nearest_ahead, h_nearest_ahead⟩ := h_nearest_ahead
    have h_hindrance : ∃ f fd, Pc.Fn (L2.KOf KX) mg "hindrance" P97.s_hindrance f fd ["body", "sand", "way"] := by
      dsimp only [L2.KOf]
      refine' Pc.fn_mk KX G ?a ?l ?c ?k ?b
      (case a => k_is); (case l => k_is); (case c => k_is); (case k => k_is); (case b => exact fun _ _ _ _ _ _ us hl => by obtain ⟨_, _, _, rfl⟩ := Pc.args3 hl; rfl)
    obtain ⟨f_hindrance, d_hindrance, h_hindrance⟩ := h_hindrance
    have h_first_bump : ∃ f fd, Pc.Fn (L2.KOf KX) mg "first_bump" P97.s_first_bump f fd ["body", "sand", "way"] := by
      dsimp only [L2.KOf]
      refine' Pc.fn_mk KX G ?a ?l ?c ?k ?b
      (case a => k_is); (case l => k_is); (case c => k_is); (case k => k_is); (case b => exact fun _ _ _ _ _ _ us hl => by obtain ⟨_, _, _, rfl⟩ := Pc.args3 hl; rfl)
    obtain ⟨f_first_bump, d_first_bump, h_first_bump⟩ := h_first_bump
    have h_holders_of : ∃ f fd, Pc.Fn (L2.KOf KX) mg "holders_of" P97.s_holders_of f fd ["parts", "number"] := by
      dsimp only [L2.KOf]
      refine' Pc.fn_mk KX G ?a ?l ?c ?k ?b
      (case a => k_is); (case l => k_is); (case c => k_is); (case k => k_is); (case b => exact fun _ _ _ _ _ _ us hl => by obtain ⟨_, _, rfl⟩ := Pc.args2 hl; rfl)
    obtain ⟨f_holders_of, d_holders_of, h_holders_of⟩ := h_holders_of
    have h_held_by : ∃ f fd, Pc.Fn (L2.KOf KX) mg "held_by" P97.s_held_by f fd ["parts"] := by
      dsimp only [L2.KOf]
      refine' Pc.fn_mk KX G ?a ?l ?c ?k ?b
      (case a => k_is); (case l => k_is); (case c => k_is); (case k => k_is); (case b => exact fun _ _ _ _ _ _ us hl => by obtain ⟨_, rfl⟩ := Pc.args1 hl; rfl)
    obtain ⟨f_held_by, d_held_by, h_held_by⟩ := h_held_by
    have h_those_among : ∃ f fd, Pc.Fn (L2.KOf KX) mg "those_among" P97.s_those_among f fd ["numbers", "there"] := by
      dsimp only [L2.KOf]
      refine' Pc.fn_mk KX G ?a ?l ?c ?k ?b
      (case a => k_is); (case l => k_is); (case c => k_is); (case k => k_is); (case b => exact fun _ _ _ _ _ _ us hl => by obtain ⟨_, _, rfl⟩ := Pc.args2 hl; rfl)
    obtain ⟨f_those_among, d_those_among, h_those_among⟩ := h_those_among
    have h_ring_among : ∃ f fd, Pc.Fn (L2.KOf KX) mg "ring_among" P97.s_ring_among f fd ["holders", "there"] := by
      dsimp only [L2.KOf]
      refine' Pc.fn_mk KX G ?a ?l ?c ?k ?b
      (case a => k_is); (case l => k_is); (case c => k_is); (case k => k_is); (case b => exact fun _ _ _ _ _ _ us hl => by obtain ⟨_, _, rfl⟩ := Pc.args2 hl; rfl)
    obtain ⟨f_ring_among, d_ring_among, h_ring_among⟩ := h_ring_among
    have h_order_of : ∃ f fd, Pc.Fn (L2.KOf KX) mg "order_of" P97.s_order_of f fd ["parts"] := by
      dsimp only [L2.KOf]
      refine' Pc.fn_mk KX G ?a ?l ?c ?k ?b
      (case a => k_is); (case l => k_is); (case c => k_is); (case k => k_is); (case b => exact fun _ _ _ _ _ _ us hl => by obtain ⟨_, rfl⟩ := Pc.args1 hl; rfl)
    obtain ⟨f_order_of, d_order_of, h_order_of⟩ := h_order_of
    have h_walked : ∃ f fd, Pc.Fn (L2.KOf KX) mg "walked" P97.s_walked f fd ["parts", "order"] := by
      dsimp only [L2.KOf]
      refine' Pc.fn_mk KX G ?a ?l ?c ?k ?b
      (case a => k_is); (case l => k_is); (case c => k_is); (case k => k_is); (case b => exact fun _ _ _ _ _ _ us hl => by obtain ⟨_, _, rfl⟩ := Pc.args2 hl; rfl)
    obtain ⟨f_walked, d_walked, h_walked⟩ := h_walked
    have h__law_cell_at : ∃ f fd, Pc.Fn (L2.KOf KX) mg "_law_cell_at" P97.s__law_cell_at f fd ["_law_script", "_law_k"] := by
      dsimp only [L2.KOf]
      refine' Pc.fn_mk KX G ?a ?l ?c ?k ?b
      (case a => k_is); (case l => k_is); (case c => k_is); (case k => k_is); (case b => exact fun _ _ _ _ _ _ us hl => by obtain ⟨_, _, rfl⟩ := Pc.args2 hl; rfl)
    obtain ⟨f__law_cell_at, d__law_cell_at, h__law_cell_at⟩ := h__law_cell_at
    have h__law_mix : ∃ f fd, Pc.Fn (L2.KOf KX) mg "_law_mix" P97.s__law_mix f fd ["_law_cell", "_law_k"] := by
      dsimp only [L2.KOf]
      refine' Pc.fn_mk KX G ?a ?l ?c ?k ?b
      (case a => k_is); (case l => k_is); (case c => k_is); (case k => k_is); (case b => exact fun _ _ _ _ _ _ us hl => by obtain ⟨_, _, rfl⟩ := Pc.args2 hl; rfl)
    obtain ⟨f__law_mix, d__law_mix, h__law_mix⟩ := h__law_mix
    have h__law_step : ∃ f fd, Pc.Fn (L2.KOf KX) mg "_law_step" P97.s__law_step f fd ["_law_cell", "_law_number"] := by
      dsimp only [L2.KOf]
      refine' Pc.fn_mk KX G ?a ?l ?c ?k ?b
      (case a => k_is); (case l => k_is); (case c => k_is); (case k => k_is); (case b => exact fun _ _ _ _ _ _ us hl => by obtain ⟨_, _, rfl⟩ := Pc.args2 hl; rfl)
    obtain ⟨f__law_step, d__law_step, h__law_step⟩ := h__law_step
    have h__law_drawn : ∃ f fd, Pc.Fn (L2.KOf KX) mg "_law_drawn" P97.s__law_drawn f fd ["_law_cells", "_law_room"] := by
      dsimp only [L2.KOf]
      refine' Pc.fn_mk KX G ?a ?l ?c ?k ?b
      (case a => k_is); (case l => k_is); (case c => k_is); (case k => k_is); (case b => exact fun _ _ _ _ _ _ us hl => by obtain ⟨_, _, rfl⟩ := Pc.args2 hl; rfl)
    obtain ⟨f__law_drawn, d__law_drawn, h__law_drawn⟩ := h__law_drawn
    have h__law_next : ∃ f fd, Pc.Fn (L2.KOf KX) mg "_law_next" P97.s__law_next f fd ["_law_cell", "_law_way"] := by
      dsimp only [L2.KOf]
      refine' Pc.fn_mk KX G ?a ?l ?c ?k ?b
      (case a => k_is); (case l => k_is); (case c => k_is); (case k => k_is); (case b => exact fun _ _ _ _ _ _ us hl => by obtain ⟨_, _, rfl⟩ := Pc.args2 hl; rfl)
    obtain ⟨f__law_next, d__law_next, h__law_next⟩ := h__law_next
    have h__law_bumps : ∃ f fd, Pc.Fn (L2.KOf KX) mg "_law_bumps" P97.s__law_bumps f fd ["_law_body", "_law_other", "_law_way"] := by
      dsimp only [L2.KOf]
      refine' Pc.fn_mk KX G ?a ?l ?c ?k ?b
      (case a => k_is); (case l => k_is); (case c => k_is); (case k => k_is); (case b => exact fun _ _ _ _ _ _ us hl => by obtain ⟨_, _, _, rfl⟩ := Pc.args3 hl; rfl)
    obtain ⟨f__law_bumps, d__law_bumps, h__law_bumps⟩ := h__law_bumps
    have h__law_parts : ∃ f fd, Pc.Fn (L2.KOf KX) mg "_law_parts" P97.s__law_parts f fd ["_law_script"] := by
      dsimp only [L2.KOf]
      refine' Pc.fn_mk KX G ?a ?l ?c ?k ?b
      (case a => k_is); (case l => k_is); (case c => k_is); (case k => k_is); (case b => exact fun _ _ _ _ _ _ us hl => by obtain ⟨_, rfl⟩ := Pc.args1 hl; rfl)
    obtain ⟨f__law_parts, d__law_parts, h__law_parts⟩ := h__law_parts
    have h__law_held : ∃ f fd, Pc.Fn (L2.KOf KX) mg "_law_held" P97.s__law_held f fd ["_law_parts_here"] := by
      dsimp only [L2.KOf]
      refine' Pc.fn_mk KX G ?a ?l ?c ?k ?b
      (case a => k_is); (case l => k_is); (case c => k_is); (case k => k_is); (case b => exact fun _ _ _ _ _ _ us hl => by obtain ⟨_, rfl⟩ := Pc.args1 hl; rfl)
    obtain ⟨f__law_held, d__law_held, h__law_held⟩ := h__law_held
    have h__law_taken : ∃ f fd, Pc.Fn (L2.KOf KX) mg "_law_taken" P97.s__law_taken f fd ["_law_held_here"] := by
      dsimp only [L2.KOf]
      refine' Pc.fn_mk KX G ?a ?l ?c ?k ?b
      (case a => k_is); (case l => k_is); (case c => k_is); (case k => k_is); (case b => exact fun _ _ _ _ _ _ us hl => by obtain ⟨_, rfl⟩ := Pc.args1 hl; rfl)
    obtain ⟨f__law_taken, d__law_taken, h__law_taken⟩ := h__law_taken
    have h__law_is_order : ∃ f fd, Pc.Fn (L2.KOf KX) mg "_law_is_order" P97.s__law_is_order f fd ["_law_parts_here", "_law_order"] := by
      dsimp only [L2.KOf]
      refine' Pc.fn_mk KX G ?a ?l ?c ?k ?b
      (case a => k_is); (case l => k_is); (case c => k_is); (case k => k_is); (case b => exact fun _ _ _ _ _ _ us hl => by obtain ⟨_, _, rfl⟩ := Pc.args2 hl; rfl)
    obtain ⟨f__law_is_order, d__law_is_order, h__law_is_order⟩ := h__law_is_order
    have h__law_is_ring : ∃ f fd, Pc.Fn (L2.KOf KX) mg "_law_is_ring" P97.s__law_is_ring f fd ["_law_held_here", "_law_ring"] := by
      dsimp only [L2.KOf]
      refine' Pc.fn_mk KX G ?a ?l ?c ?k ?b
      (case a => k_is); (case l => k_is); (case c => k_is); (case k => k_is); (case b => exact fun _ _ _ _ _ _ us hl => by obtain ⟨_, _, rfl⟩ := Pc.args2 hl; rfl)
    obtain ⟨f__law_is_ring, d__law_is_ring, h__law_is_ring⟩ := h__law_is_ring
    have h__law_asked_so : ∃ f fd, Pc.Fn (L2.KOf KX) mg "_law_asked_so" P97.s__law_asked_so f fd ["_law_script"] := by
      dsimp only [L2.KOf]
      refine' Pc.fn_mk KX G ?a ?l ?c ?k ?b
      (case a => k_is); (case l => k_is); (case c => k_is); (case k => k_is); (case b => exact fun _ _ _ _ _ _ us hl => by obtain ⟨_, rfl⟩ := Pc.args1 hl; rfl)
    obtain ⟨f__law_asked_so, d__law_asked_so, h__law_asked_so⟩ := h__law_asked_so
    have h__law_wide : ∃ f fd, Pc.Fn (L2.KOf KX) mg "_law_wide" P97.s__law_wide f fd ["_law_script"] := by
      dsimp only [L2.KOf]
      refine' Pc.fn_mk KX G ?a ?l ?c ?k ?b
      (case a => k_is); (case l => k_is); (case c => k_is); (case k => k_is); (case b => exact fun _ _ _ _ _ _ us hl => by obtain ⟨_, rfl⟩ := Pc.args1 hl; rfl)
    obtain ⟨f__law_wide, d__law_wide, h__law_wide⟩ := h__law_wide
    have h_law : ∃ f fd, Pc.Fn (L2.KOf KX) mg "law" P97.s_law f fd ["_law_script"] := by
      dsimp only [L2.KOf]
      refine' Pc.fn_mk KX G ?a ?l ?c ?k ?b
      (case a => k_is); (case l => k_is); (case c => k_is); (case k => k_is); (case b => exact fun _ _ _ _ _ _ us hl => by obtain ⟨_, rfl⟩ := Pc.args1 hl; rfl)
    obtain ⟨f_law, d_law, h_law⟩ := h_law
    have L : P97.All (L2.KOf KX) w mg ⟨a_PLACES, a_WAYS, a_ORIGIN, f_along, d_along, f_placed, d_placed, f_line_of, d_line_of, f_next_cell, d_next_cell, f_quarter_cell, d_quarter_cell, f_way_of_step, d_way_of_step, f_quarter_way, d_quarter_way, f_quarter, d_quarter, f_lines_of, d_lines_of, f_nearest_ahead, d_nearest_ahead, f_hindrance, d_hindrance, f_first_bump, d_first_bump, f_holders_of, d_holders_of, f_held_by, d_held_by, f_those_among, d_those_among, f_ring_among, d_ring_among, f_order_of, d_order_of, f_walked, d_walked, f__law_cell_at, d__law_cell_at, f__law_mix, d__law_mix, f__law_step, d__law_step, f__law_drawn, d__law_drawn, f__law_next, d__law_next, f__law_bumps, d__law_bumps, f__law_parts, d__law_parts, f__law_held, d__law_held, f__law_taken, d__law_taken, f__law_is_order, d__law_is_order, f__law_is_ring, d__law_is_ring, f__law_asked_so, d__law_asked_so, f__law_wide, d__law_wide, f_law, d_law⟩ := ⟨m_PLACES, t_PLACES, m_WAYS, t_WAYS, m_ORIGIN, t_ORIGIN, n_abs, n_dict, n_enumerate, n_int, n_isinstance, n_len, n_list, n_max, n_min, n_range, n_set, n_sorted, n_tuple, h_along, h_placed, h_line_of, h_next_cell, h_quarter_cell, h_way_of_step, h_quarter_way, h_quarter, h_lines_of, h_nearest_ahead, h_hindrance, h_first_bump, h_holders_of, h_held_by, h_those_among, h_ring_among, h_order_of, h_walked, h__law_cell_at, h__law_mix, h__law_step, h__law_drawn, h__law_next, h__law_bumps, h__law_parts, h__law_held, h__law_taken, h__law_is_order, h__law_is_ring, h__law_asked_so, h__law_wide, h_law⟩
    have q0 := hmg.symm.trans h_law.m
    cases q0
    exact ⟨d_law, fun s u => h_law.bt s [u] rfl, fun base _ _ => P97.ok_law L⟩
