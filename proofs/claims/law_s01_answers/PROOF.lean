import PyProof.Rows.All
import Wide.All
import OpenK.AllK
import Wide.FinOn
import PyProof.EqAt
import PyProof.EqKinds
import PyProof.TupleCall
import KE.BitLaws
import Open.SpecLaws
import KE.OsHead
import KE.OsGo
import PyVasnpe
import KE.KFind
import KE.KDictSum
import PySem.Challenge.RW_holdercounts_s01_answers
set_option Elab.async false
set_option linter.all false
set_option maxRecDepth 100000
namespace L2
open PySem PySem.Spec PyProof.Rows
abbrev Key := Sum Int Str
def keyIs : Key → Value → Bool
  | .inl k, v => Value.isInt k v
  | .inr x, v => Value.isStrOf x v
def keyH (w : World) : Key → Int
  | .inl k => hashInt k
  | .inr x => hashStr w x
theorem keyIs_shape : ∀ {k : Key} {v : Value}, keyIs k v = true → (∃ i t, k = Sum.inl i ∧ v = Value.int i t) ∨ (∃ x t, k = Sum.inr x ∧ v = Value.str x t)
  | .inl i, v, h => by
    obtain ⟨t, e⟩ := Value.isInt_shape (k := i) (v := v) h
    exact .inl ⟨i, t, rfl, e⟩
  | .inr x, v, h => by
    obtain ⟨t, e⟩ := Value.isStrOf_shape (x := x) (v := v) h
    exact .inr ⟨x, t, rfl, e⟩
theorem keyIs_int (i : Int) (t : Tok) : keyIs (.inl i) (.int i t) = true := by simp [keyIs, Value.isInt]
theorem keyIs_str (x : Str) (t : Tok) : keyIs (.inr x) (.str x t) = true := by simp [keyIs, Value.isStrOf]
theorem key_ll (a b : Int) : decide ((Sum.inl a : Key) = Sum.inl b) = (a == b) := by
  by_cases e : a = b
  · subst e; simp
  · have h : ¬ (Sum.inl a : Key) = Sum.inl b := fun q => e (Sum.inl.inj q)
    rw [decide_eq_false h]
    exact (beq_eq_false_iff_ne.mpr e).symm
theorem key_rr (a b : Str) : decide ((Sum.inr a : Key) = Sum.inr b) = decide (a = b) := by
  by_cases e : a = b
  · subst e; simp
  · have h : ¬ (Sum.inr a : Key) = Sum.inr b := fun q => e (Sum.inr.inj q)
    rw [decide_eq_false h, decide_eq_false e]
theorem key_lr (a : Int) (b : Str) : decide ((Sum.inl a : Key) = Sum.inr b) = false := decide_eq_false (fun q => nomatch q)
theorem key_rl (a : Str) (b : Int) : decide ((Sum.inr a : Key) = Sum.inl b) = false := decide_eq_false (fun q => nomatch q)
def mixKind (prog : Program) (w : World) : PySem.KeyKind prog w Key where
  is := keyIs
  hash := keyH w
  inj := fun v a b ha hb => by
    rcases keyIs_shape ha with ⟨i, t, rfl, rfl⟩ | ⟨x, t, rfl, rfl⟩
    · rcases keyIs_shape hb with ⟨j, u, rfl, e⟩ | ⟨y, u, rfl, e⟩
      · injection e with e1 _; rw [e1]
      · exact nomatch e
    · rcases keyIs_shape hb with ⟨j, u, rfl, e⟩ | ⟨y, u, rfl, e⟩
      · exact nomatch e
      · injection e with e1 _; rw [e1]
  byValue := fun k v h => by
    rcases keyIs_shape h with ⟨i, t, rfl, rfl⟩ | ⟨x, t, rfl, rfl⟩ <;> rfl
  pyHash := fun hv h => by
    rcases keyIs_shape hv with ⟨i, t, rfl, rfl⟩ | ⟨x, t, rfl, rfl⟩
    · exact wpAny_pyHash_int h
    · exact wpAny_pyHash_str h
  eqBool := fun hu hv h => by
    rcases keyIs_shape hu with ⟨i, t, rfl, rfl⟩ | ⟨x, t, rfl, rfl⟩
    · rcases keyIs_shape hv with ⟨j, u, rfl, rfl⟩ | ⟨y, u, rfl, rfl⟩
      · rw [key_ll] at h; exact wpAny_eqBool_int h
      · rw [key_lr] at h; exact SeqAt.EqAt.int_str i t y u _ _ _ _ h
    · rcases keyIs_shape hv with ⟨j, u, rfl, rfl⟩ | ⟨y, u, rfl, rfl⟩
      · rw [key_rl] at h; exact SeqAt.EqAt.str_int x t j u _ _ _ _ h
      · rw [key_rr] at h; exact wpAny_eqBool_str h
  «strs» := fun k x t v h => by
    rcases keyIs_shape h with ⟨i, u, rfl, e⟩ | ⟨y, u, rfl, e⟩
    · exact nomatch e
    · injection e with e1 _
      subst e1
      cases v <;> rfl
theorem mixKind_int (prog : Program) (w : World) (i : Int) (t : Tok) : (mixKind prog w).is (.inl i) (.int i t) = true := keyIs_int i t
theorem mixKind_str (prog : Program) (w : World) (x : Str) (t : Tok) : (mixKind prog w).is (.inr x) (.str x t) = true := keyIs_str x t
end L2
namespace L2
open PySem PySem.Spec PyProof.Rows
inductive V where
  | non | bl (b : Bool) | int (i : Int) | str (x : Str) | byt (b : Array UInt8) | flt (b : UInt64) | ref (a : Addr) | ty (n : String)
  deriving DecidableEq
def RelV : V → Value → Prop
  | .non, u => u = Value.none
  | .bl b, u => u = Value.bool b
  | .int i, u => ∃ t, u = Value.int i t
  | .str x, u => ∃ t, u = Value.str x t
  | .byt b, u => ∃ t, u = Value.bytes b t
  | .flt b, u => ∃ t, u = Value.float b t
  | .ref a, u => u = Value.ref a
  | .ty n, u => u = Value.type n
abbrev Vals : List V → List Value → Prop := Paired RelV
theorem Vals.length {xs : List V} {us : List Value} (r : Vals xs us) : xs.length = us.length := Paired.length r
theorem Vals.get : ∀ {xs : List V} {us : List Value} {i : Nat} {x : V}, Vals xs us → xs[i]? = some x → ∃ u, us[i]? = some u ∧ RelV x u
  | _, _, _, _, .nil, e => by simp at e
  | _, _, 0, _, .cons r _, e => by simp at e; subst e; exact ⟨_, rfl, r⟩
  | _, _, i + 1, x, .cons _ t, e => by
    obtain ⟨u, h1, h2⟩ := Vals.get (i := i) (x := x) t (by simpa using e)
    exact ⟨u, by simpa using h1, h2⟩
theorem Vals.set {x : V} {u : Value} (r : RelV x u) : ∀ {xs : List V} {us : List Value} (i : Nat), Vals xs us → Vals (xs.set i x) (us.set i u)
  | _, _, _, .nil => .nil
  | _, _, 0, .cons _ t => .cons r t
  | _, _, i + 1, .cons q t => .cons q (Vals.set r i t)
theorem Vals.append : ∀ {xs ys : List V} {us ws : List Value}, Vals xs us → Vals ys ws → Vals (xs ++ ys) (us ++ ws)
  | _, _, _, _, .nil, s => s
  | _, _, _, _, .cons r t, s => .cons r (Vals.append t s)
theorem Vals.take : ∀ {xs : List V} {us : List Value} (n : Nat), Vals xs us → Vals (xs.take n) (us.take n)
  | _, _, 0, _ => .nil
  | _, _, _ + 1, .nil => .nil
  | _, _, n + 1, .cons r t => .cons r (Vals.take n t)
theorem Vals.drop : ∀ {xs : List V} {us : List Value} (n : Nat), Vals xs us → Vals (xs.drop n) (us.drop n)
  | _, _, 0, r => r
  | _, _, _ + 1, .nil => .nil
  | _, _, n + 1, .cons _ t => Vals.drop n t
def RelO : Option V → Option Value → Prop
  | some v, some u => RelV v u
  | none, none => True
  | _, _ => False
def KV {κ : Type} : List (κ × V) → List (κ × Value) → Prop := Paired fun (p : κ × V) (q : κ × Value) => p.1 = q.1 ∧ RelV p.2 q.2
def kV : Key → V
  | .inl i => .int i
  | .inr x => .str x
inductive HO where
  | lst (xs : List V)
  | tup (xs : List V)
  | dK (kvs : List (Key × V)) | dT (kvs : List (List Key × V))
  | set (S : Int → Bool) (n : Nat)
  | ins (C dx : Addr) (fs : List (Str × V))
  | own (x : Addr)
  | xd (fs : List (Str × V))
  | met (f x : Addr)
  | rng (lo hi : Int)
  | frz (o : Obj) (u : HO)
  | tbl (ps : Array Value)
  | ext (φ : Heap → Prop)
abbrev Hp := Addr → Option HO
def upd (H : Hp) (a : Addr) (o : HO) : Hp := fun b => if b = a then some o else H b
theorem upd_same {H : Hp} {a : Addr} {o : HO} : upd H a o a = some o := by unfold upd; rw [if_pos rfl]
theorem upd_ne {H : Hp} {a b : Addr} {o : HO} (h : b ≠ a) : upd H a o b = H b := by unfold upd; rw [if_neg h]
theorem upd_upd {H : Hp} {a : Addr} {o u : HO} : upd (upd H a o) a u = upd H a u := by
  funext b; unfold upd; split <;> rfl
theorem ne_of {H : Hp} {a b : Addr} {o u : HO} (h : H a = some o) (h' : H b = some u) (d : o ≠ u) : a ≠ b := by
  intro e; subst e; rw [h] at h'; exact d (Option.some.inj h')
theorem ne_of_none {H : Hp} {a b : Addr} {o : HO} (h : H a = some o) (h' : H b = none) : a ≠ b := by
  intro e; subst e; rw [h] at h'; cases h'
section
variable (P : Program) (w : World)
def ObjOk (H : Hp) (h : Heap) (a : Addr) : HO → Prop
  | .lst xs => xs.length ≤ sizeLine ∧ ∃ (its : List Value) (n : Nat), Vals xs its ∧ h.get? a = some { cls := .type "list", data := .seq its.toArray n }
  | .tup xs => xs.length ≤ sizeLine ∧ ∃ its : List Value, Vals xs its ∧ IsTup h a its.toArray
  | .dK kvs => kvs.length ≤ sizeLine ∧ (a == sysModules) = false ∧ ∃ vs, KV kvs vs ∧ h.DictOf (mixKind P w) a vs
  | .dT kvs => kvs.length ≤ sizeLine ∧ (a == sysModules) = false ∧ ∃ xs : List (List Key × Addr × Value),
      Paired (fun (p : List Key × V) (q : List Key × Addr × Value) => p.1 = q.1 ∧ H q.2.1 = some (.tup (p.1.map kV)) ∧ RelV p.2 q.2.2) kvs xs ∧
      ∃ o es ep, h.get? a = some o ∧ o.ExactDict ∧ o.data = .dict es ep ∧ es.toList = xs.map (entryOfKey (tupleKind (mixKind P w))) ∧ (xs.map (·.1)).Nodup
  | .set S n => h.SetOf (intKind P w) a S n
  | .ins C dx fs => H dx = some (.own a) ∧ fs.length ≤ 1000 ∧ dx ≠ a ∧ h.get? a = some (PySem.W.instObj C dx) ∧
      ∃ mA, h.Ns1 dx mA ∧ (∀ f, RelO (fs.lookup f) (mA f)) ∧ PySem.Within mA (fs.map (·.1))
  | .own _ => ∃ o, h.get? a = some o
  | .xd fs => ∃ mA, h.Ns1 a mA ∧ ∀ f, RelO (fs.lookup f) (mA f)
  | .rng lo hi => ∃ t u v, h.get? a = some { cls := .type "range", data := .fields #[.int lo t, .int hi u, .int 1 v] }
  | .frz o u => h.get? a = some o ∧ ObjOk H h a u
  | .tbl ps => h.get? a = some { cls := .none, data := .fields ps }
  | .met f x => h.get? a = some (PySem.W.methodObj (.ref f) (.ref x))
  | .ext φ => φ h ∧ (∃ o, h.get? a = some o) ∧ ∀ h1 h2 : Heap, φ h1 → (∀ o, h1.get? a = some o → h2.get? a = some o) → φ h2
def HOk (H : Hp) (h : Heap) : Prop := ∀ a o, H a = some o → ObjOk P w H h a o
end
section
variable {P : Program} {w : World} {H H' : Hp} {h h' : Heap} {a : Addr} {o : HO}
theorem ObjOk.lt (x : ObjOk P w H h a o) : a < h.objs.size := by
  cases o with
  | lst xs => obtain ⟨_, _, _, _, e⟩ := x; exact Heap.lt_size e
  | tup xs => obtain ⟨_, _, _, p⟩ := x; exact p.lt
  | dK kvs => obtain ⟨_, _, _, _, o, _, _, e, _⟩ := x; exact Heap.lt_size e
  | dT kvs => obtain ⟨_, _, _, _, o, _, _, e, _⟩ := x; exact Heap.lt_size e
  | set S n => obtain ⟨o, _, _, _, e, _⟩ := x; exact Heap.lt_size e
  | ins C dx fs => obtain ⟨_, _, _, e, _⟩ := x; exact Heap.lt_size e
  | own y => obtain ⟨_, e⟩ := x; exact Heap.lt_size e
  | xd fs => obtain ⟨_, ⟨_, _, _, e, _⟩, _⟩ := x; exact Heap.lt_size e
  | rng lo hi => obtain ⟨_, _, _, e⟩ := x; exact Heap.lt_size e
  | frz ob u => obtain ⟨e, _⟩ := x; exact Heap.lt_size e
  | tbl ps => exact Heap.lt_size (show h.get? a = some _ from x)
  | met f y => exact Heap.lt_size (show h.get? a = some _ from x)
  | ext φ => obtain ⟨_, ⟨_, e⟩, _⟩ := x; exact Heap.lt_size e
theorem Paired.mapP {α β : Type} {F G : α → β → Prop} : ∀ {l₁ : List α} {l₂ : List β}, Paired F l₁ l₂ → (∀ a b, F a b → G a b) → Paired G l₁ l₂
  | _, _, .nil, _ => .nil
  | _, _, .cons r t, f => .cons (f _ _ r) (Paired.mapP t f)
theorem ObjOk.stay (x : ObjOk P w H h a o) (k : ∀ b u, (b = a ∨ H b = some (.own a)) → h.get? b = some u → h'.get? b = some u)
    (ho : ∀ b, H b = some (.own a) → H' b = some (.own a)) (ht : ∀ b xs, H b = some (.tup xs) → H' b = some (.tup xs)) : ObjOk P w H' h' a o := by
  induction o with
  | lst xs => obtain ⟨z, its, n, r, e⟩ := x; exact ⟨z, its, n, r, k _ _ (.inl rfl) e⟩
  | tup xs => obtain ⟨z, its, r, ob, e, c⟩ := x; exact ⟨z, its, r, ob, k _ _ (.inl rfl) e, c⟩
  | dK kvs => obtain ⟨z, y, vs, r, ob, es, ep, e, c⟩ := x; exact ⟨z, y, vs, r, ob, es, ep, k _ _ (.inl rfl) e, c⟩
  | dT kvs =>
    obtain ⟨z, y, xs, r, ob, es, ep, e, c⟩ := x
    exact ⟨z, y, xs, Paired.mapP r fun p q z => ⟨z.1, ht _ _ z.2.1, z.2.2⟩, ob, es, ep, k _ _ (.inl rfl) e, c⟩
  | set S n => obtain ⟨ob, es, ep, t, e, c⟩ := x; exact ⟨ob, es, ep, t, k _ _ (.inl rfl) e, c⟩
  | ins C dx fs =>
    obtain ⟨d, z, ne, e, mA, ⟨od, es, ep, e2, c⟩, r⟩ := x
    exact ⟨ho _ d, z, ne, k _ _ (.inl rfl) e, mA, ⟨od, es, ep, k _ _ (.inr d) e2, c⟩, r⟩
  | own y => obtain ⟨ob, e⟩ := x; exact ⟨ob, k _ _ (.inl rfl) e⟩
  | xd fs => obtain ⟨mA, ⟨od, es, ep, e, c⟩, r⟩ := x; exact ⟨mA, ⟨od, es, ep, k _ _ (.inl rfl) e, c⟩, r⟩
  | rng lo hi => obtain ⟨t, u, v, e⟩ := x; exact ⟨t, u, v, k _ _ (.inl rfl) e⟩
  | frz ob u ih => obtain ⟨e, q⟩ := x; exact ⟨k _ _ (.inl rfl) e, ih q⟩
  | tbl ps =>
    have e : h.get? a = some { cls := .none, data := .fields ps } := x
    show h'.get? a = some { cls := .none, data := .fields ps }
    exact k a _ (.inl rfl) e
  | met f y =>
    have e : h.get? a = some (PySem.W.methodObj (.ref f) (.ref y)) := x
    show h'.get? a = some (PySem.W.methodObj (.ref f) (.ref y))
    exact k a _ (.inl rfl) e
  | ext φ => obtain ⟨p, ⟨o, e⟩, st⟩ := x; exact ⟨st _ _ p fun o q => k _ _ (.inl rfl) q, ⟨o, k _ _ (.inl rfl) e⟩, st⟩
theorem HOk.lt (x : HOk P w H h) (e : H a = some o) : a < h.objs.size := (x a o e).lt
theorem HOk.fresh (x : HOk P w H h) (e : h.objs.size ≤ a) : H a = none := by
  cases q : H a with
  | none => rfl
  | some u => exact absurd (Nat.lt_of_lt_of_le (x.lt q) e) (Nat.lt_irrefl _)
theorem HOk.kept (x : HOk P w H h) (k : ∀ b u, h.get? b = some u → h'.get? b = some u) : HOk P w H h' := fun a o e =>
  (x a o e).stay (fun b u _ q => k b u q) (fun _ q => q) fun _ _ q => q
theorem HOk.laid (x : HOk P w H h) (k : ∀ b u, h.get? b = some u → h'.get? b = some u) (hp : h.objs.size ≤ a) (new : ObjOk P w (upd H a o) h' a o) : HOk P w (upd H a o) h' := fun b u e => by
  have hn := x.fresh hp
  by_cases hb : b = a
  · subst hb; rw [upd_same] at e; cases e; exact new
  · rw [upd_ne hb] at e
    exact (x b u e).stay (fun c v _ q => k c v q) (fun c q => by rw [upd_ne (ne_of_none q hn)]; exact q) fun c xs q => by rw [upd_ne (ne_of_none q hn)]; exact q
end
def Rd (H : Hp) (a : Addr) (u : HO) : Prop := H a = some u ∨ ∃ o, H a = some (.frz o u)
theorem Rd.ok {P : Program} {w : World} {H : Hp} {h : Heap} {a : Addr} {u : HO} (r : Rd H a u) (x : HOk P w H h) : ObjOk P w H h a u := by
  rcases r with r | ⟨o, r⟩
  · exact x a u r
  · obtain ⟨_, q⟩ := x a _ r
    exact q
def Mut : Option HO → Prop
  | some (.lst _) => True
  | some (.dK _) => True
  | some (.dT _) => True
  | some (.set _ _) => True
  | some (.ins _ _ _) => True
  | some (.ext _) => True
  | _ => False
section
variable {P : Program} {w : World} {H : Hp} {h h' : Heap} {x e : Addr} {o' : HO}
theorem HOk.write (ok : HOk P w H h) (mu : Mut (H x)) (he : e = x ∨ H e = some (.own x)) (k : ∀ b u, b ≠ e → h.get? b = some u → h'.get? b = some u) (heo : ∃ u, h'.get? e = some u)
    (new : ObjOk P w (upd H x o') h' x o') : HOk P w (upd H x o') h' := fun b u q => by
  have nown : ∀ c y, H c = some (.own y) → c ≠ x := fun c y r z => by subst z; rw [r] at mu; exact mu
  have ntup : ∀ c xs, H c = some (.tup xs) → c ≠ x := fun c xs r z => by subst z; rw [r] at mu; exact mu
  by_cases hb : b = x
  · subst hb; rw [upd_same] at q; cases q; exact new
  · rw [upd_ne hb] at q
    by_cases hbe : b = e
    · have q' : H b = some (.own x) := by
        rcases he with z | z
        · exact absurd (hbe.trans z) hb
        · rw [hbe]; exact z
      rw [q] at q'; cases q'
      obtain ⟨v, hv⟩ := heo
      exact ⟨v, by rw [hbe]; exact hv⟩
    · refine (ok b u q).stay (fun c v hc r => k c v ?_ r) (fun c r => by rw [upd_ne (nown c b r)]; exact r) fun c xs r => by rw [upd_ne (ntup c xs r)]; exact r
      rcases hc with rfl | hc
      · exact hbe
      · rintro rfl
        rcases he with z | z
        · exact nown c b hc z
        · rw [hc] at z; cases z; exact hb rfl
end
structure Un (fs ex : List Addr) (H H' : Hp) (h h' : Heap) : Prop where
  keep : ∀ b o, h.get? b = some o → H b = none → b ∉ fs → b ∉ ex → h'.get? b = some o
  slot : ∀ b o, h.get? b = some o → H b = none → b ∈ fs → b ∉ ex → ∃ sl, h'.get? b = some { o with slots := sl }
  free : ∀ b o, h.get? b = some o → H b = none → b ∉ ex → H' b = none
  there : ∀ b o, h.get? b = some o → b ∉ ex → ∃ o', h'.get? b = some o'
  tups : ∀ b xs, H b = some (.tup xs) → H' b = some (.tup xs)
  frzs : ∀ b o u, H b = some (.frz o u) → H' b = some (.frz o u)
  tbls : ∀ b ps, H b = some (.tbl ps) → ∃ more, H' b = some (.tbl (ps ++ more))
section
variable {fs fs' ex ex' : List Addr} {H H1 H2 : Hp} {h h1 h2 h' : Heap} {a x e : Addr} {o : HO}
theorem Un.any (u : Un fs ex H H1 h h1) {b : Addr} {ob : Obj} (q : h.get? b = some ob) (n : H b = none) (hx : b ∉ ex) : ∃ sl, h1.get? b = some { ob with slots := sl } := by
  by_cases hb : b ∈ fs
  · exact u.slot b ob q n hb hx
  · exact ⟨ob.slots, u.keep b ob q n hb hx⟩
theorem Un.kept (k : ∀ b u, h.get? b = some u → h'.get? b = some u) : Un fs ex H H h h' :=
  ⟨fun b ob q _ _ _ => k b ob q, fun b ob q _ _ _ => ⟨ob.slots, k b ob q⟩, fun _ _ _ n _ => n, fun b ob q _ => ⟨ob, k b ob q⟩, fun _ _ q => q, fun _ _ _ q => q, fun _ ps q => ⟨#[], by rw [q]; simp⟩⟩
theorem Un.refl : Un fs ex H H h h := Un.kept fun _ _ q => q
theorem Un.laid (k : ∀ b u, h.get? b = some u → h'.get? b = some u) (hp : h.objs.size ≤ a) (hn : H a = none) : Un fs ex H (upd H a o) h h' where
  keep := fun b u q _ _ _ => k b u q
  slot := fun b u q _ _ _ => ⟨u.slots, k b u q⟩
  free := fun b u q n _ => by rw [upd_ne (Nat.ne_of_lt (Nat.lt_of_lt_of_le (Heap.lt_size q) hp))]; exact n
  there := fun b u q _ => ⟨u, k b u q⟩
  tups := fun b xs q => by rw [upd_ne (ne_of_none q hn)]; exact q
  frzs := fun b u xs q => by rw [upd_ne (ne_of_none q hn)]; exact q
  tbls := fun b ps q => ⟨#[], by rw [upd_ne (ne_of_none q hn), q]; simp⟩
theorem Un.write (mu : Mut (H x)) (he : e = x ∨ H e = some (.own x)) (k : ∀ b u, b ≠ e → h.get? b = some u → h'.get? b = some u) (heo : ∃ u, h'.get? e = some u) : Un fs ex H (upd H x o) h h' := by
  have hx : ∀ b, H b = none → b ≠ x := fun b n z => by subst z; rw [n] at mu; exact mu
  have hb : ∀ b, H b = none → b ≠ e := fun b n z => by
    subst z
    rcases he with r | r
    · exact hx b n r
    · rw [n] at r; cases r
  have hm : ∀ b u, H b = some u → ¬ Mut (some u) → b ≠ x := fun b u q nm z => by subst z; rw [q] at mu; exact nm mu
  refine ⟨fun b u q n _ _ => k b u (hb b n) q, fun b u q n _ _ => ⟨u.slots, k b u (hb b n) q⟩, fun b u q n _ => by rw [upd_ne (hx b n)]; exact n, fun b u q _ => ?_,
    fun b xs q => by rw [upd_ne (hm b _ q fun z => z)]; exact q, fun b u xs q => by rw [upd_ne (hm b _ q fun z => z)]; exact q, fun b ps q => ⟨#[], by rw [upd_ne (hm b _ q fun z => z), q]; simp⟩⟩
  by_cases hbe : b = e
  · subst hbe; exact heo
  · exact ⟨u, k b u hbe q⟩
end
def trk (h : Heap) (H : Hp) : List Addr := (List.range h.objs.size).filter fun a => (H a).isSome
def hidT (h : Heap) (H : Hp) : Heap := PySem.W.hideAll h (trk h H)
theorem hidT_size (h : Heap) (H : Hp) : (hidT h H).objs.size = h.objs.size := PySem.W.hideAll_size _ _
theorem hidT_get {h : Heap} {H : Hp} {b : Addr} {o : Obj} (e : h.get? b = some o) (n : H b = none) : (hidT h H).get? b = some o :=
  PySem.W.hideAll_get _ e fun hm => by
    have q : (H b).isSome = true := (List.mem_filter.mp hm).2
    rw [n] at q; simp at q
theorem of_hidT {h : Heap} {H : Hp} {b : Addr} {o : Obj} (e : (hidT h H).get? b = some o) : h.get? b = some o ∧ H b = none := by
  have e' : h.get? b = some o := PySem.W.of_hideAll (trk h H) e
  refine ⟨e', ?_⟩
  cases q : H b with
  | none => rfl
  | some x =>
    have hm : b ∈ trk h H := List.mem_filter.mpr ⟨List.mem_range.mpr (Heap.lt_size e'), by simp [q]⟩
    have z : (hidT h H).get? b = none := PySem.W.hideAll_none (trk h H) hm
    rw [z] at e; cases e
end L2
namespace L2
open PySem PySem.Spec PyProof.Rows
structure Mod (K : PySem.W.Frag) (mg : Str → Option Value) (base : Heap) : Prop where
  kin : K.In base
  glob : base.Ns mainGlobals mg
  blt : ∃ mb, base.Ns builtinsNs mb ∧ ∀ x : Str, x ≠ "__name__" → mb x = bootBuiltins x
  nolimit : base.NoLimit
structure Cx where
  prog : Program
  w : World
  K : PySem.W.Frag
  mg : Str → Option Value
  base : Heap
  A : Around
  N : List Str
  s_0 : Shared
  H_0 : Hp
  env : Env
  outer : List Env
  stack : List Env
  ex : List Addr
  fn : Str → Bool
  calm : Bool
  pn : List (Addr × Obj)
  xe : Value → Shared → Prop
def frs (l : List Env) : List Addr := l.filterMap (·.frame)
abbrev Cx.fs (X : Cx) : List Addr := frs X.outer
def Vis (sc : Scope) (x : Str) : Prop := sc.names.lookup x = some .local ∨ sc.names.lookup x = some .cell ∨ sc.names.lookup x = some .free
def Loc (sc : Scope) (x : Str) : Prop := sc.names.lookup x = some .local ∨ sc.names.lookup x = some .cell
def Look (env : Env) (h : Heap) (m : Str → Option Value) (x : Str) (u : Value) : Prop :=
  (env.kindOf x = some .local ∧ m x = some u) ∨ ((env.kindOf x = some .cell ∨ env.kindOf x = some .free) ∧ ∃ c, env.cells.lookup x = some c ∧ h.IsCell c (some u))
structure Cx.Ok (X : Cx) : Prop where
  mod : Mod X.K X.mg X.base
  kind : X.env.scope.kind = .function
  glob : X.env.globals = mainGlobals
  blt : X.env.builtins = builtinsNs
  above : X.s_0.heap.objs.size ≤ X.env.locals
  inj : ∀ x y c, X.env.cells.lookup x = some c → X.env.cells.lookup y = some c → x = y
  has : ∀ x, (X.env.kindOf x = some .cell ∨ X.env.kindOf x = some .free) → ∃ c, X.env.cells.lookup x = some c
  cab : ∀ x c, X.fn x = true → X.env.cells.lookup x = some c → X.s_0.heap.objs.size ≤ c
  hd : X.calm = true → X.A.handled = none
  frames : X.A.frames = some X.stack
  stk : X.stack = X.outer ∨ (X.stack = X.env :: X.outer ∧ X.env.frame = some X.env.locals)
  exf : ∀ b ∈ X.ex, b ≠ X.env.locals ∧ ∀ x c, X.env.cells.lookup x = some c → c ≠ b
  bs : ∀ b o, X.base.get? b = some o → X.s_0.heap.get? b = some o ∧ X.H_0 b = none
  bsz : X.base.objs.size ≤ X.s_0.heap.objs.size
  noex : ∀ b o, X.base.get? b = some o → b ∉ X.ex
  exfs : ∀ b ∈ X.ex, b ∉ X.fs
  funs : X.s_0.heap.FunFrames X.base X.outer
  frf : ∀ b ∈ X.fs, X.H_0 b = none
structure Inv (X : Cx) (pins : List (Addr × Obj)) (σ : List (Option V)) (H : Hp) (s : Shared) : Prop where
  ok : X.Ok
  os : s.os = X.s_0.os
  bare : AllBare s.gens
  base : Un X.fs X.ex X.H_0 H X.s_0.heap s.heap
  loc : ∃ m, s.heap.Ns X.env.locals m ∧ ∀ (i : Nat) (x : Str) (v : V), X.N[i]? = some x → σ[i]? = some (some v) → Vis X.env.scope x → ∃ u, RelV v u ∧ Look X.env s.heap m x u
  cell : ∀ x c, X.env.cells.lookup x = some c → ∃ v, s.heap.IsCell c v
  free : H X.env.locals = none
  freeC : ∀ x c, X.env.cells.lookup x = some c → H c = none
  pin : ∀ p ∈ X.pn ++ pins, s.heap.get? p.1 = some p.2 ∧ H p.1 = none ∧ p.1 ≠ X.env.locals ∧ p.1 ∉ X.fs ∧ ∀ v, p.2.data ≠ .cell v
  hok : HOk X.prog X.w H s.heap
  len : σ.length = X.N.length
section
variable {X : Cx} {pins : List (Addr × Obj)} {σ : List (Option V)} {H H' : Hp} {s : Shared} {h' : Heap}
theorem Cx.Ok.nofr (ok : X.Ok) {b : Addr} {o : Obj} (e : X.base.get? b = some o) : b ∉ X.fs := fun hb => by
  have := (ok.funs.mem hb).1
  rw [e] at this; cases this
theorem Inv.bs (I : Inv X pins σ H s) : ∀ b o, X.base.get? b = some o → s.heap.get? b = some o ∧ H b = none := fun b o e =>
  ⟨I.base.keep b o (I.ok.bs b o e).1 (I.ok.bs b o e).2 (I.ok.nofr e) (I.ok.noex b o e), I.base.free b o (I.ok.bs b o e).1 (I.ok.bs b o e).2 (I.ok.noex b o e)⟩
theorem Inv.bk (I : Inv X pins σ H s) : ∀ b o, X.base.get? b = some o → s.heap.get? b = some o := fun b o e => (I.bs b o e).1
theorem Inv.mod (I : Inv X pins σ H s) : Mod X.K X.mg X.base := I.ok.mod
theorem Inv.kIn (I : Inv X pins σ H s) : X.K.In s.heap := I.ok.mod.kin.keeps I.bk
theorem Inv.lt (I : Inv X pins σ H s) : X.env.locals < s.heap.objs.size := let ⟨_, hn, _⟩ := I.loc; hn.lt
theorem Inv.sz (I : Inv X pins σ H s) : X.s_0.heap.objs.size ≤ s.heap.objs.size := Nat.le_trans I.ok.above (Nat.le_of_lt I.lt)
theorem Inv.nofs (I : Inv X pins σ H s) {a : Addr} (h : s.heap.objs.size ≤ a) : a ∉ X.fs := fun hb => by
  obtain ⟨_, o, ho, _⟩ := I.ok.funs.mem hb
  exact absurd (Nat.lt_of_lt_of_le (Heap.lt_size ho) (Nat.le_trans I.sz h)) (Nat.lt_irrefl _)
theorem Inv.cne (I : Inv X pins σ H s) : ∀ x c, X.env.cells.lookup x = some c → c ≠ X.env.locals := fun x c e z => by
  obtain ⟨v, o, ho, hd⟩ := I.cell x c e
  obtain ⟨m, ⟨o', es, ep, ho', hd', _⟩, _⟩ := I.loc
  rw [z, ho'] at ho; cases ho; rw [hd'] at hd; cases hd
theorem Inv.funs (I : Inv X pins σ H s) : s.heap.FunFrames X.base X.outer := by
  have all : ∀ (l : List Env), (∀ b ∈ frs l, b ∈ X.fs) → X.s_0.heap.FunFrames X.base l → s.heap.FunFrames X.base l := by
    intro l
    induction l with
    | nil => intro _ _; trivial
    | cons env r ih =>
      intro hs hl
      obtain ⟨hk, ⟨L, o, hf, hn, ho, hd⟩, hr⟩ := hl
      have hL : L ∈ X.fs := hs L (by unfold frs; rw [List.filterMap_cons, hf]; exact List.mem_cons_self)
      obtain ⟨sl, e⟩ := I.base.slot L o ho (I.ok.frf L hL) hL fun z => I.ok.exfs L z hL
      exact ⟨hk, ⟨L, _, hf, hn, e, hd⟩, ih (fun b hb => hs b (by unfold frs; rw [List.filterMap_cons, hf]; exact List.mem_cons_of_mem _ hb)) hr⟩
  exact all X.outer (fun _ hb => hb) I.ok.funs
theorem Inv.stack (I : Inv X pins σ H s) : s.heap.FunFrames X.base X.stack := by
  rcases I.ok.stk with e | ⟨e, hf⟩
  · rw [e]; exact I.funs
  · rw [e]
    obtain ⟨m, hn, _⟩ := I.loc
    refine .cons (by rw [I.ok.kind]; decide) hf hn ?_ I.funs
    exact Heap.get?_none_of_le (Nat.le_trans I.ok.bsz I.ok.above)
theorem Inv.stkSub (I : Inv X pins σ H s) : ∀ b ∈ frs X.stack, b ∈ X.env.locals :: X.fs := fun b hb => by
  rcases I.ok.stk with e | ⟨e, hf⟩
  · rw [e] at hb; exact List.mem_cons_of_mem _ hb
  · rw [e] at hb
    unfold frs at hb
    rw [List.filterMap_cons, hf] at hb
    exact hb
theorem Inv.stkFree (I : Inv X pins σ H s) : ∀ b ∈ frs X.stack, H b = none := fun b hb => by
  rcases List.mem_cons.mp (I.stkSub b hb) with e | hb
  · rw [e]; exact I.free
  · obtain ⟨_, o, ho, _⟩ := I.ok.funs.mem hb
    exact I.base.free b o ho (I.ok.frf b hb) fun z => I.ok.exfs b z hb
theorem Inv.step {g' : Array GenState} {t' : Nat} {d' : Drawn} {ch : List Addr} (I : Inv X pins σ H s)
    (hch : ∀ b ∈ ch, (b ∈ X.ex ∨ X.s_0.heap.objs.size ≤ b) ∧ b ≠ X.env.locals ∧ (∀ x c, X.env.cells.lookup x = some c → c ≠ b) ∧ ∀ p ∈ X.pn ++ pins, p.1 ≠ b)
    (keep : ∀ b o, b ≠ X.env.locals → b ∉ X.fs → b ∉ ch → s.heap.get? b = some o → H b = none → h'.get? b = some o)
    (slot : ∀ b o, b ≠ X.env.locals → b ∈ X.fs → b ∉ ch → s.heap.get? b = some o → H b = none → ∃ sl, h'.get? b = some { o with slots := sl }) (free : ∀ b o, b ∉ ch → s.heap.get? b = some o → H b = none → H' b = none)
    (there : ∀ b o, b ∉ ch → s.heap.get? b = some o → ∃ o', h'.get? b = some o')
    (tups : ∀ b xs, H b = some (.tup xs) → H' b = some (.tup xs)) (frzs : ∀ b o u, H b = some (.frz o u) → H' b = some (.frz o u)) (tbls : ∀ b ps, H b = some (.tbl ps) → ∃ more, H' b = some (.tbl (ps ++ more)))
    (ns : ∀ m, s.heap.Ns X.env.locals m → h'.Ns X.env.locals m) (hok : HOk X.prog X.w H' h') (hg : AllBare g') :
    Inv X pins σ H' { s with heap := h', gens := g', drawn := d', toks := t' } := by
  have neL : ∀ b o, X.s_0.heap.get? b = some o → b ≠ X.env.locals := fun b o e => Nat.ne_of_lt (Nat.lt_of_lt_of_le (Heap.lt_size e) I.ok.above)
  have neC : ∀ b o, X.s_0.heap.get? b = some o → b ∉ X.ex → b ∉ ch := fun b o e hx hb => by
    rcases (hch b hb).1 with z | z
    · exact hx z
    · exact absurd (Nat.lt_of_lt_of_le (Heap.lt_size e) z) (Nat.lt_irrefl _)
  have cellK : ∀ x c, X.env.cells.lookup x = some c → ∀ v, s.heap.IsCell c v → h'.IsCell c v := fun x c e v ⟨o, ho, hd⟩ => by
    have nch : c ∉ ch := fun z => (hch c z).2.2.1 x c e rfl
    by_cases hc : c ∈ X.fs
    · obtain ⟨sl, q⟩ := slot c o (I.cne x c e) hc nch ho (I.freeC x c e)
      exact ⟨_, q, hd⟩
    · exact ⟨o, keep c o (I.cne x c e) hc nch ho (I.freeC x c e), hd⟩
  refine ⟨I.ok, I.os, hg, ⟨fun b o e n hb hx => ?_, fun b o e n hb hx => ?_, fun b o e n hx => ?_, fun b o e hx => ?_, fun b xs e => tups b xs (I.base.tups b xs e), fun b o xs e => frzs b o xs (I.base.frzs b o xs e), fun b ps e => ?_⟩, ?_, fun x c e => ?_, ?_, fun x c e => ?_, fun p hp => ?_, hok, I.len⟩
  · exact keep b o (neL b o e) hb (neC b o e hx) (I.base.keep b o e n hb hx) (I.base.free b o e n hx)
  · obtain ⟨sl, e1⟩ := I.base.slot b o e n hb hx
    obtain ⟨sl', e2⟩ := slot b _ (neL b o e) hb (neC b o e hx) e1 (I.base.free b o e n hx)
    exact ⟨sl', e2⟩
  · obtain ⟨o', e1⟩ := I.base.there b o e hx
    exact free b o' (neC b o e hx) e1 (I.base.free b o e n hx)
  · obtain ⟨o', e1⟩ := I.base.there b o e hx
    exact there b o' (neC b o e hx) e1
  · obtain ⟨m1, e1⟩ := I.base.tbls b ps e
    obtain ⟨m2, e2⟩ := tbls b _ e1
    exact ⟨m1 ++ m2, by rw [e2, Array.append_assoc]⟩
  · obtain ⟨m, hn, hl⟩ := I.loc
    refine ⟨m, ns m hn, fun i x v e1 e2 e3 => ?_⟩
    obtain ⟨u, r, l⟩ := hl i x v e1 e2 e3
    refine ⟨u, r, ?_⟩
    rcases l with l | ⟨k, c, e, z⟩
    · exact .inl l
    · exact .inr ⟨k, c, e, cellK x c e _ z⟩
  · obtain ⟨v, z⟩ := I.cell x c e
    exact ⟨v, cellK x c e v z⟩
  · obtain ⟨m, ⟨o, _, _, ho, _⟩, _⟩ := I.loc
    exact free _ o (fun z => (hch _ z).2.1 rfl) ho I.free
  · obtain ⟨v, o, ho, hd⟩ := I.cell x c e
    exact free c o (fun z => (hch c z).2.2.1 x c e rfl) ho (I.freeC x c e)
  · obtain ⟨e, n, ne, nf, d⟩ := I.pin p hp
    have nch : p.1 ∉ ch := fun z => (hch p.1 z).2.2.2 p hp rfl
    exact ⟨keep p.1 p.2 ne nf nch e n, free p.1 p.2 nch e n, ne, nf, d⟩
theorem Inv.un {t' : Nat} (I : Inv X pins σ H s) (u : Un X.fs [] H H' s.heap h') (hok : HOk X.prog X.w H' h') : Inv X pins σ H' { s with heap := h', toks := t' } := by
  obtain ⟨m, ⟨o, es, ep, ho, r⟩, _⟩ := id I.loc
  obtain ⟨sl, hL⟩ := u.any ho I.free (by simp)
  exact I.step (g' := s.gens) (d' := s.drawn) (ch := []) (fun _ z => nomatch z) (fun b o _ hb _ e n => u.keep b o e n hb (by simp)) (fun b o _ hb _ e n => u.slot b o e n hb (by simp)) (fun b o _ e n => u.free b o e n (by simp)) (fun b o _ e => u.there b o e (by simp)) u.tups u.frzs u.tbls (fun m' hm => by
    obtain ⟨o', es', ep', ho', r'⟩ := hm
    rw [ho] at ho'; cases ho'
    exact ⟨_, es', ep', hL, r'⟩) hok I.bare
theorem Inv.call {g' : Array GenState} {t' : Nat} {d' : Drawn} {ch : List Addr} (I : Inv X pins σ H s) (u : Un (frs X.stack) ch H H' s.heap h') (hok : HOk X.prog X.w H' h') (hg : AllBare g')
    (hch : ∀ b ∈ ch, (b ∈ X.ex ∨ X.s_0.heap.objs.size ≤ b) ∧ b ≠ X.env.locals ∧ (∀ x c, X.env.cells.lookup x = some c → c ≠ b) ∧ ∀ p ∈ X.pn ++ pins, p.1 ≠ b) :
    Inv X pins σ H' { s with heap := h', gens := g', drawn := d', toks := t' } := by
  obtain ⟨m, ⟨o, es, ep, ho, r⟩, _⟩ := id I.loc
  obtain ⟨sl, hL⟩ := u.any ho I.free fun z => (hch _ z).2.1 rfl
  exact I.step (ch := ch) hch (fun b o hL hb hc e n => u.keep b o e n (fun z => (List.mem_cons.mp (I.stkSub b z)).elim hL hb) hc) (fun b o _ _ hc e n => u.any e n hc) (fun b o hc e n => u.free b o e n hc) (fun b o hc e => u.there b o e hc) u.tups u.frzs u.tbls (fun m' hm => by
    obtain ⟨o', es', ep', ho', r'⟩ := hm
    rw [ho] at ho'; cases ho'
    exact ⟨_, es', ep', hL, r'⟩) hok hg
theorem Inv.turned {t' : Nat} {it : Addr} (I : Inv X pins σ H s) (k : ∀ b o, b ≠ it → s.heap.get? b = some o → h'.get? b = some o) (hn : H it = none) (hL : it ≠ X.env.locals)
    (h1 : it ∈ X.ex ∨ X.s_0.heap.objs.size ≤ it) (h2 : ∀ x c, X.env.cells.lookup x = some c → c ≠ it) (h3 : ∀ p ∈ X.pn ++ pins, p.1 ≠ it) : Inv X pins σ H { s with heap := h', toks := t' } := by
  have nit : ∀ b u, H b = some u → b ≠ it := fun b u e z => by rw [z, hn] at e; cases e
  refine I.step (g' := s.gens) (d' := s.drawn) (ch := [it]) (fun b hb => ?_) (fun b o _ _ hc e _ => k b o (fun z => hc (by simp [z])) e) (fun b o _ _ hc e _ => ⟨o.slots, k b o (fun z => hc (by simp [z])) e⟩) (fun _ _ _ _ n => n)
    (fun b o hc e => ⟨o, k b o (fun z => hc (by simp [z])) e⟩) (fun _ _ e => e) (fun _ _ _ e => e) (fun b ps e => ⟨#[], by rw [e]; simp⟩) (fun m hm => ?_) (fun b u e => ?_) I.bare
  · have e : b = it := by simpa using hb
    subst e
    exact ⟨h1, hL, h2, h3⟩
  · obtain ⟨o, es, ep, ho, r⟩ := hm
    exact ⟨o, es, ep, k _ o (Ne.symm hL) ho, r⟩
  · refine (I.hok b u e).stay (fun c v hc q => k c v ?_ q) (fun _ q => q) fun _ _ q => q
    rcases hc with z | z
    · rw [z]; exact nit b u e
    · exact nit c _ z
theorem Inv.tok (I : Inv X pins σ H s) (t : Nat) : Inv X pins σ H { s with toks := t } := I.un (h' := s.heap) (t' := t) Un.refl I.hok
theorem Inv.kept {t' : Nat} (I : Inv X pins σ H s) (k : ∀ b u, s.heap.get? b = some u → h'.get? b = some u) : Inv X pins σ H { s with heap := h', toks := t' } := I.un (Un.kept k) (I.hok.kept k)
theorem Inv.laid {a : Addr} {o : HO} {t' : Nat} (I : Inv X pins σ H s) (k : ∀ b u, s.heap.get? b = some u → h'.get? b = some u) (hp : s.heap.objs.size ≤ a) (new : ObjOk X.prog X.w (upd H a o) h' a o) :
    Inv X pins σ (upd H a o) { s with heap := h', toks := t' } := I.un (Un.laid k hp (I.hok.fresh hp)) (I.hok.laid k hp new)
theorem Inv.write {x e : Addr} {o : HO} {t' : Nat} (I : Inv X pins σ H s) (mu : Mut (H x)) (he : e = x ∨ H e = some (.own x)) (k : ∀ b u, b ≠ e → s.heap.get? b = some u → h'.get? b = some u) (heo : ∃ u, h'.get? e = some u)
    (new : ObjOk X.prog X.w (upd H x o) h' x o) : Inv X pins σ (upd H x o) { s with heap := h', toks := t' } := I.un (Un.write mu he k heo) (I.hok.write mu he k heo new)
theorem Inv.weak {σ' : List (Option V)} (I : Inv X pins σ H s) (hl : σ'.length = σ.length) (w : ∀ (i : Nat) v, σ'[i]? = some (some v) → σ[i]? = some (some v)) : Inv X pins σ' H s :=
  ⟨I.ok, I.os, I.bare, I.base, let ⟨m, hn, hl'⟩ := I.loc; ⟨m, hn, fun i x v e1 e2 e3 => hl' i x v e1 (w i v e2) e3⟩, I.cell, I.free, I.freeC, I.pin, I.hok, hl.trans I.len⟩
theorem Inv.pins_of {pins' : List (Addr × Obj)} (I : Inv X pins σ H s) (h : ∀ p ∈ pins', s.heap.get? p.1 = some p.2 ∧ H p.1 = none ∧ p.1 ≠ X.env.locals ∧ p.1 ∉ X.fs ∧ ∀ v, p.2.data ≠ .cell v) : Inv X pins' σ H s :=
  ⟨I.ok, I.os, I.bare, I.base, I.loc, I.cell, I.free, I.freeC, fun p hp => (List.mem_append.mp hp).elim (fun z => I.pin p (List.mem_append_left _ z)) (h p), I.hok, I.len⟩
theorem nodup_ix {N : List Str} (hN : N.Nodup) {i j : Nat} {x : Str} (a : N[i]? = some x) (b : N[j]? = some x) : i = j := by
  obtain ⟨h1, e1⟩ := List.getElem?_eq_some_iff.mp a
  obtain ⟨h2, e2⟩ := List.getElem?_eq_some_iff.mp b
  exact (List.getElem_inj hN).mp (e1.trans e2.symm)
theorem store_ok2 {M : Model} {A : Around} {E : Value → Shared → Prop} {i : Nat} {x : Str} {v : V} {u : Value} {Q : Unit → Shared → Prop} (I : Inv X pins σ H s) (hN : X.N.Nodup) (hi : X.N[i]? = some x) (hx : Loc X.env.scope x) (r : RelV v u)
    (h : ∀ s', Inv X pins (σ.set i (some v)) H s' → (∃ a, Heap.SameBut a s.heap s'.heap ∧ (a = X.env.locals ∨ X.env.cells.lookup x = some a)) → Q () s') (hf : X.fn x = true ∨ X.env.scope.names.lookup x = some .local := by first | exact .inl rfl | exact .inr rfl | assumption) : wpAny M A (storeName X.env x u) Q E s := by
  obtain ⟨m, hn, hl⟩ := id I.loc
  have hcls : (X.env.scope.kind == .class || (X.env.scope.kind == .module && X.env.locals != X.env.globals)) = false := by rw [I.ok.kind]; rfl
  have hiσ : i < σ.length := by rw [I.len]; exact (List.getElem?_eq_some_iff.mp hi).1
  have cne := I.cne
  have tracked : ∀ {a : Addr} {h' : Heap}, (∃ o, s.heap.get? a = some o ∧ H a = none) → Heap.SameBut a s.heap h' → HOk X.prog X.w H h' := fun {a h'} ha hs b ob e => by
    obtain ⟨_, _, hfree⟩ := ha
    refine (I.hok b ob e).stay (fun c w' hc q => (hs.2 c ?_).trans q) (fun _ q => q) fun _ _ q => q
    rintro rfl
    rcases hc with rfl | hc
    · rw [hfree] at e; cases e
    · rw [hfree] at hc; cases hc
  rcases hx with hk | hk
  · refine wpAny_storeName_local hk hn (fun h' hn' hs => ?_) hcls
    obtain ⟨oL, _, _, hoL, _⟩ := id hn
    refine h _ ⟨I.ok, I.os, I.bare, ⟨fun b o e n hb hx => ?_, fun b o e n hb hx => ?_, I.base.free, fun b o e hx => ?_, I.base.tups, I.base.frzs, I.base.tbls⟩, ⟨_, hn', fun j y v' e1 e2 e3 => ?_⟩, fun y c e => ?_, I.free, I.freeC, fun p hp => ?_, tracked ⟨oL, hoL, I.free⟩ hs, by simpa using I.len⟩ ⟨_, hs, .inl rfl⟩
    · exact (hs.2 b (Nat.ne_of_lt (Nat.lt_of_lt_of_le (Heap.lt_size e) I.ok.above))).trans (I.base.keep b o e n hb hx)
    · obtain ⟨sl, e1⟩ := I.base.slot b o e n hb hx
      exact ⟨sl, (hs.2 b (Nat.ne_of_lt (Nat.lt_of_lt_of_le (Heap.lt_size e) I.ok.above))).trans e1⟩
    · obtain ⟨o', e1⟩ := I.base.there b o e hx
      exact ⟨o', (hs.2 b (Nat.ne_of_lt (Nat.lt_of_lt_of_le (Heap.lt_size e) I.ok.above))).trans e1⟩
    · by_cases hj : j = i
      · subst hj
        rw [hi] at e1; cases e1
        rw [List.getElem?_set_self hiσ] at e2
        cases e2
        exact ⟨u, r, .inl ⟨hk, by simp⟩⟩
      · rw [List.getElem?_set_ne (Ne.symm hj)] at e2
        obtain ⟨u', r', q⟩ := hl j y v' e1 e2 e3
        refine ⟨u', r', ?_⟩
        rcases q with ⟨k, e⟩ | ⟨k, c, e, z⟩
        · refine .inl ⟨k, ?_⟩
          have : y ≠ x := fun e => hj (nodup_ix hN e1 (e ▸ hi))
          simp [this, e]
        · exact .inr ⟨k, c, e, z.sameBut hs (cne y c e)⟩
    · obtain ⟨w', z⟩ := I.cell y c e
      exact ⟨w', z.sameBut hs (cne y c e)⟩
    · obtain ⟨e, n, ne, nf, d⟩ := I.pin p hp
      exact ⟨(hs.2 p.1 ne).trans e, n, ne, nf, d⟩
  · have hfn : X.fn x = true := by
      rcases hf with z | z
      · exact z
      · rw [z] at hk; cases hk
    obtain ⟨c, hc⟩ := I.ok.has x (.inl hk)
    obtain ⟨w', z⟩ := I.cell x c hc
    refine wpAny_storeName_cell I.ok.kind hk hc z (fun h' hc' hs => ?_)
    obtain ⟨oc, hoc, hocd⟩ := id z
    refine h { s with heap := h' } ⟨I.ok, I.os, I.bare, ⟨fun b o e n hb hx => ?_, fun b o e n hb hx => ?_, I.base.free, fun b o e hx => ?_, I.base.tups, I.base.frzs, I.base.tbls⟩, ⟨m, hn.sameBut hs (Ne.symm (cne x c hc)), fun j y v' e1 e2 e3 => ?_⟩, fun y c' e => ?_, I.free, I.freeC, fun p hp => ?_, tracked ⟨oc, hoc, I.freeC x c hc⟩ hs, by simpa using I.len⟩ ⟨c, hs, .inr hc⟩
    · exact (hs.2 b (Nat.ne_of_lt (Nat.lt_of_lt_of_le (Heap.lt_size e) (I.ok.cab x c hfn hc)))).trans (I.base.keep b o e n hb hx)
    · obtain ⟨sl, e1⟩ := I.base.slot b o e n hb hx
      exact ⟨sl, (hs.2 b (Nat.ne_of_lt (Nat.lt_of_lt_of_le (Heap.lt_size e) (I.ok.cab x c hfn hc)))).trans e1⟩
    · obtain ⟨o', e1⟩ := I.base.there b o e hx
      exact ⟨o', (hs.2 b (Nat.ne_of_lt (Nat.lt_of_lt_of_le (Heap.lt_size e) (I.ok.cab x c hfn hc)))).trans e1⟩
    · by_cases hj : j = i
      · subst hj
        rw [hi] at e1; cases e1
        rw [List.getElem?_set_self hiσ] at e2
        cases e2
        exact ⟨u, r, .inr ⟨.inl hk, c, hc, hc'⟩⟩
      · rw [List.getElem?_set_ne (Ne.symm hj)] at e2
        obtain ⟨u', r', q⟩ := hl j y v' e1 e2 e3
        refine ⟨u', r', ?_⟩
        rcases q with q | ⟨k, c', e, z'⟩
        · exact .inl q
        · refine .inr ⟨k, c', e, z'.sameBut hs ?_⟩
          rintro rfl
          exact hj (nodup_ix hN e1 (I.ok.inj _ _ _ e hc ▸ hi))
    · by_cases hcc : c' = c
      · subst hcc; exact ⟨_, hc'⟩
      · obtain ⟨w2, z2⟩ := I.cell y c' e
        exact ⟨w2, z2.sameBut hs hcc⟩
    · obtain ⟨e, n, ne, nf, d⟩ := I.pin p hp
      refine ⟨(hs.2 p.1 ?_).trans e, n, ne, nf, d⟩
      intro q
      rw [q, hoc] at e
      have q' : oc = p.2 := Option.some.inj e
      exact d w' (by rw [← q']; exact hocd)
theorem store_ok {M : Model} {A : Around} {E : Value → Shared → Prop} {i : Nat} {x : Str} {v : V} {u : Value} {Q : Unit → Shared → Prop} (I : Inv X pins σ H s) (hN : X.N.Nodup) (hi : X.N[i]? = some x) (hx : Loc X.env.scope x) (r : RelV v u)
    (h : ∀ s', Inv X pins (σ.set i (some v)) H s' → Q () s') (hf : X.fn x = true ∨ X.env.scope.names.lookup x = some .local := by first | exact .inl rfl | exact .inr rfl | assumption) : wpAny M A (storeName X.env x u) Q E s :=
  store_ok2 I hN hi hx r (fun s' I' _ => h s' I') hf
theorem Inv.call' {s' : Shared} {ch : List Addr} (I : Inv X pins σ H s) (ho : s'.os = s.os) (u : Un (frs X.stack) ch H H' s.heap s'.heap) (hok : HOk X.prog X.w H' s'.heap) (hg : AllBare s'.gens)
    (hch : ∀ b ∈ ch, (b ∈ X.ex ∨ X.s_0.heap.objs.size ≤ b) ∧ b ≠ X.env.locals ∧ (∀ x c, X.env.cells.lookup x = some c → c ≠ b) ∧ ∀ p ∈ X.pn ++ pins, p.1 ≠ b) : Inv X pins σ H' s' := by
  obtain ⟨h', g', d', t', o'⟩ := s'
  have e : o' = s.os := ho
  subst e
  exact I.call (g' := g') (t' := t') (d' := d') u hok hg hch
end
abbrev XK := Value → Option Addr → Hp → Prop
abbrev St := List (Option V)
abbrev VK := V → Hp → Prop
abbrev TE := St → Hp → VK → Prop
abbrev TT := St → Hp → (Bool → Hp → Prop) → Prop
abbrev TA := St → Hp → (List V → Hp → Prop) → Prop
structure Ends where
  nx : St → Hp → Prop
  rt : VK
  bk : St → Hp → Prop := fun _ _ => False
  ct : St → Hp → Prop := fun _ _ => False
abbrev TS := Ends → St → Hp → Prop
def EP (X : Cx) (pins : List (Addr × Obj)) (σ : St) (Q : VK) (u : Value) (s' : Shared) : Prop := ∃ v H', Inv X pins σ H' s' ∧ RelV v u ∧ Q v H'
def TP (X : Cx) (pins : List (Addr × Obj)) (σ : St) (Q : Bool → Hp → Prop) (b : Bool) (s' : Shared) : Prop := ∃ H', Inv X pins σ H' s' ∧ Q b H'
def AP (X : Cx) (pins : List (Addr × Obj)) (σ : St) (Q : List V → Hp → Prop) (us : List Value) (s' : Shared) : Prop := ∃ vs H', Inv X pins σ H' s' ∧ Vals vs us ∧ Q vs H'
def SP (X : Cx) (pins : List (Addr × Obj)) (D : Ends) (f : Flow) (s' : Shared) : Prop :=
  match f with
  | .next => ∃ σ' H', Inv X pins σ' H' s' ∧ D.nx σ' H'
  | .brk => ∃ σ' H', Inv X pins σ' H' s' ∧ D.bk σ' H'
  | .cont => ∃ σ' H', Inv X pins σ' H' s' ∧ D.ct σ' H'
  | .ret u => ∃ v σ' H', Inv X pins σ' H' s' ∧ RelV v u ∧ D.rt v H'
def PE (X : Cx) (e : Expr) (t : TE) : Prop :=
  ∀ (pins : List (Addr × Obj)) (s : Shared) (σ : St) (H : Hp) (Q : VK), Inv X pins σ H s → t σ H Q → wpAny (model X.prog X.w) X.A (eval e X.env) (EP X pins σ Q) X.xe s
def PT (X : Cx) (e : Expr) (t : TT) : Prop :=
  ∀ (pins : List (Addr × Obj)) (s : Shared) (σ : St) (H : Hp) (Q : Bool → Hp → Prop), Inv X pins σ H s → t σ H Q → wpAny (model X.prog X.w) X.A (isTrue e X.env (eval e X.env)) (TP X pins σ Q) X.xe s
def PW (X : Cx) (e : Expr) (t : TT) : Prop :=
  ∀ (whole : Sem Value) (pins : List (Addr × Obj)) (s : Shared) (σ : St) (H : Hp) (Q : Bool → Hp → Prop), Inv X pins σ H s → t σ H Q → wpAny (model X.prog X.w) X.A (isTrue e X.env whole) (TP X pins σ Q) X.xe s
theorem PW.pt {X : Cx} {e : Expr} {t : TT} (h : PW X e t) : PT X e t := h _
def PA (X : Cx) (es : List Expr) (t : TA) : Prop :=
  ∀ (pos : Pos) (pins : List (Addr × Obj)) (s : Shared) (σ : St) (H : Hp) (Q : List V → Hp → Prop), Inv X pins σ H s → t σ H Q → wpAny (model X.prog X.w) X.A (spliced (backTo pos (starEach es X.env))) (AP X pins σ Q) X.xe s
def PS (X : Cx) (st : Stmt) (t : TS) : Prop :=
  ∀ (pins : List (Addr × Obj)) (s : Shared) (σ : St) (H : Hp) (D : Ends), Inv X pins σ H s → t D σ H → wpAny (model X.prog X.w) X.A (exec st X.env) (SP X pins D) X.xe s
def PSs (X : Cx) (st : List Stmt) (t : TS) : Prop :=
  ∀ (pins : List (Addr × Obj)) (s : Shared) (σ : St) (H : Hp) (D : Ends), Inv X pins σ H s → t D σ H → wpAny (model X.prog X.w) X.A (execs st X.env) (SP X pins D) X.xe s
theorem thn {α : Type} {t : Sem α} {Q Q' : α → Shared → Prop} {M : Model} {A : Around} {E : Value → Shared → Prop} {s : Shared} (h : wpAny M A t Q E s) (hQ : ∀ a s, Q a s → Q' a s) : wpAny M A t Q' E s := wpAny_mono h hQ fun _ _ x => x
end L2
namespace L2
open PySem PySem.Spec PyProof.Rows
section
variable {X : Cx}
inductive tVarI (i : Nat) (σ : St) (H : Hp) (Q : VK) : Prop
  | mk : ∀ v, (σ[i]? = some (some v)) → (Q v H) → tVarI i σ H Q
def tVar (i : Nat) : TE := fun σ H Q => tVarI i σ H Q
def tC (v : V) : TE := fun _ H Q => Q v H
theorem pe_var {i : Nat} {x : Str} {pos : Pos} (hN : X.N[i]? = some x) (hv : Vis X.env.scope x) (hd : (x == ("__debug__" : Str)) = false := by decide) (hcd : (x == ("__classdict__" : Str)) = false := by decide) : PE X (.Name x pos) (tVar i) := by
  intro pins s σ H Q I h
  obtain ⟨v, e, h⟩ := h
  obtain ⟨m, hn, hl⟩ := I.loc
  obtain ⟨u, r, l⟩ := hl i x v hN e hv
  have fin : EP X pins σ Q u s := ⟨v, H, I, r, h⟩
  rcases l with ⟨hk, hm⟩ | ⟨hk, c, hc, hcell⟩
  · exact wpAny_Name (wpAny_loadName_local I.ok.kind hk hn hm fin) hd
  · rcases hk with hk | hk
    · exact wpAny_Name (wpAny_loadName_cell I.ok.kind hk hc hcell fin) hd
    · exact wpAny_Name (wpAny_loadName_free I.ok.kind hk hc hcell fin hcd) hd
theorem pe_int {i j pos} : PE X (.Constant (.int i) j pos) (tC (.int i)) := fun _ _ _ H _ I h => wpAny_Constant_int ⟨.int i, H, I.tok _, ⟨_, rfl⟩, h⟩
theorem pe_non {j pos} : PE X (.Constant .none j pos) (tC .non) := fun _ _ _ H _ I h => Constant_none ⟨.non, H, I, rfl, h⟩
def Gl (X : Cx) (x : Str) : Prop := X.env.kindOf x = some .globalImplicit
theorem ld_glob {E : Value → Shared → Prop} {pins : List (Addr × Obj)} {s : Shared} {σ : St} {H : Hp} {x : Str} {u : Value} {pos : Pos} {Q : Value → Shared → Prop} (I : Inv X pins σ H s) (hg : Gl X x) (hm : X.mg x = some u) (h : Q u s)
    (hd : (x == ("__debug__" : Str)) = false := by decide) : wpAny (model X.prog X.w) X.A (eval (.Name x pos) X.env) Q E s :=
  Calls.Name_function_global I.ok.kind hg (Calls.loadGlobal_global (by rw [I.ok.glob]; exact I.mod.glob.keeps I.bk) hm h) hd
theorem ld_blt {E : Value → Shared → Prop} {pins : List (Addr × Obj)} {s : Shared} {σ : St} {H : Hp} {x : Str} {u : Value} {pos : Pos} {Q : Value → Shared → Prop} (I : Inv X pins σ H s) (hg : Gl X x) (hm : X.mg x = none) (hv : bootBuiltins x = some u) (h : Q u s)
    (hn : x ≠ "__name__" := by decide) (hd : (x == ("__debug__" : Str)) = false := by decide) : wpAny (model X.prog X.w) X.A (eval (.Name x pos) X.env) Q E s := by
  obtain ⟨mb, h1, h2⟩ := I.mod.blt
  exact Calls.Name_function_global I.ok.kind hg (Calls.loadGlobal_builtin (by rw [I.ok.glob]; exact I.mod.glob.keeps I.bk) hm (by rw [I.ok.blt]; exact h1.keeps I.bk) ((h2 x hn).trans hv) h) hd
theorem pe_glob {x : Str} {v : V} {u : Value} {pos : Pos} (hg : Gl X x) (hm : X.mg x = some u) (r : RelV v u) (hd : (x == ("__debug__" : Str)) = false := by decide) : PE X (.Name x pos) (tC v) :=
  fun _ _ _ H _ I h => ld_glob I hg hm ⟨v, H, I, r, h⟩ hd
variable {a b : Expr} {ta tb : TE} {pos : Pos}
def PC (X : Cx) (op : CmpOp) (a b : Expr) (t : TE) : Prop :=
  ∀ (pins : List (Addr × Obj)) (s : Shared) (σ : St) (H : Hp) (Q : VK), Inv X pins σ H s → t σ H Q →
    wpAny (model X.prog X.w) X.A (eval a X.env) (fun v s₁ => wpAny (model X.prog X.w) X.A (eval b X.env) (fun u s₂ => wpAny (model X.prog X.w) X.A (compareOp op v u) (EP X pins σ Q) X.xe s₂) X.xe s₁) X.xe s
inductive tBI (x : V) (H1 : Hp) (Q : Bool → Hp → Prop) : Prop
  | mk : ∀ c, (x = .bl c) → (Q c H1) → tBI x H1 Q
def tB (t : TE) : TT := fun σ H Q => t σ H fun x H1 => tBI x H1 Q
theorem pt_cmp {op : CmpOp} {t : TE} (h : PC X op a b t) (h1 : behindInMarks op b = false := by first | exact nobehind _ (by decide) (by decide) | rfl) : PT X (.Compare a [op] [b] pos) (tB t) := by
  intro pins s σ H Q I hw
  refine wpAny_isTrue_Compare1 (thn (h pins s σ H _ I hw) fun v s1 h1 => thn h1 fun u s2 h2 => thn h2 fun c s3 ⟨x, H1, I1, r1, q1⟩ => ?_) h1
  obtain ⟨d, rfl, q⟩ := q1
  cases r1
  exact wpAny_truthy_bool ⟨H1, I1, q⟩
theorem pt_val {e : Expr} {t : TE} (h : PE X e t) (he : ∀ whole, isTrue e X.env whole = (do let v ← whole; standAt e.pos; holding [v] (truthy v)) := by intro _; rfl) : PT X e (tB t) := by
  intro pins s σ H Q I hw
  refine isTrue_plain (thn (h pins s σ H _ I hw) fun v s1 ⟨x, H1, I1, r1, q1⟩ => ?_) (he _)
  obtain ⟨d, rfl, q⟩ := q1
  cases r1
  exact wpAny_truthy_bool ⟨H1, I1, q⟩
variable {tA tB' : TT} {rest : List Expr}
def tAnd (t u : TT) : TT := fun σ H Q => t σ H fun c H1 => if c = true then u σ H1 Q else Q false H1
def tNot (t : TT) : TT := fun σ H Q => t σ H fun c H1 => Q (!c) H1
theorem pw_and1 (ha : PT X a tA) : PW X (.BoolOp .And [a] pos) tA := by
  intro wh pins s σ H Q I h
  refine isTrue_and (thn (ha pins s σ H Q I h) fun c s1 e => ?_)
  cases c with
  | true => exact isTrue_and_nil e
  | false => exact e
theorem pw_and (ha : PT X a tA) (hb : PW X (.BoolOp .And (b :: rest) pos) tB') : PW X (.BoolOp .And (a :: b :: rest) pos) (tAnd tA tB') := by
  intro wh pins s σ H Q I h
  refine isTrue_and (thn (ha pins s σ H _ I h) fun c s1 ⟨H1, I1, q1⟩ => ?_)
  cases c with
  | true => exact hb wh pins s1 σ H1 Q I1 q1
  | false => exact ⟨H1, I1, q1⟩
theorem pt_not (ha : PT X a tA) : PT X (.UnaryOp .Not a pos) (tNot tA) := by
  intro pins s σ H Q I h
  exact isTrue_not (ha pins s σ H (fun c H1 => Q (!c) H1) I h)
def tIf (t : TT) (ta tb : TE) : TE := fun σ H Q => t σ H fun c H1 => if c = true then ta σ H1 Q else tb σ H1 Q
theorem pe_ifExp {c : Expr} (hc : PT X c tA) (ha : PE X a ta) (hb : PE X b tb) : PE X (.IfExp c a b pos) (tIf tA ta tb) := by
  intro pins s σ H Q I h
  refine wpAny_IfExp (thn (hc pins s σ H _ I h) fun d s1 ⟨H1, I1, q1⟩ => ?_)
  cases d with
  | true => exact ha pins s1 σ H1 Q I1 q1
  | false => exact hb pins s1 σ H1 Q I1 q1
end
end L2
namespace L2
open PySem PySem.Spec PyProof.Rows
def SqL (K : PySem.W.Frag) (H : Hp) (a : Addr) (xs : List V) : Prop :=
  Rd H a (.lst xs) ∨
    ∃ (o : Obj) (its : Array Value) (n : Nat), K.lookup a = some o ∧ o.cls = .type "list" ∧ o.dict = none ∧ o.data = .seq its n ∧ its.size ≤ sizeLine ∧ Vals xs its.toList
def SqT (K : PySem.W.Frag) (H : Hp) (a : Addr) (xs : List V) : Prop :=
  Rd H a (.tup xs) ∨
    ∃ (o : Obj) (its : Array Value) (n : Nat), K.lookup a = some o ∧ o.cls = .type "tuple" ∧ o.data = .seq its n ∧ its.size ≤ sizeLine ∧ Vals xs its.toList
def absV : Value → Option V
  | .none => some .non
  | .bool b => some (.bl b)
  | .int i _ => some (.int i)
  | .str x _ => some (.str x)
  | .bytes b _ => some (.byt b)
  | .float b _ => some (.flt b)
  | .ref a => some (.ref a)
  | .type n => some (.ty n)
  | _ => none
theorem RelV.abs {x : V} {u : Value} (r : RelV x u) : absV u = some x := by
  cases x with
  | non => cases r; rfl
  | bl _ => cases r; rfl
  | int _ => obtain ⟨t, rfl⟩ := r; rfl
  | str _ => obtain ⟨t, rfl⟩ := r; rfl
  | byt _ => obtain ⟨t, rfl⟩ := r; rfl
  | flt _ => obtain ⟨t, rfl⟩ := r; rfl
  | ref _ => cases r; rfl
  | ty _ => cases r; rfl
theorem RelV.inj {x y : V} {u : Value} (r : RelV x u) (q : RelV y u) : x = y := Option.some.inj (r.abs.symm.trans q.abs)
theorem Vals.inj : ∀ {xs ys : List V} {us : List Value}, Vals xs us → Vals ys us → xs = ys
  | _, _, _, .nil, .nil => rfl
  | _, _, _, .cons r t, .cons r' t' => by rw [r.inj r', Vals.inj t t']
section
variable {X : Cx} {pins : List (Addr × Obj)} {σ : St} {H : Hp} {s : Shared} {a : Addr} {xs ys : List V}
theorem SqL.of {K : PySem.W.Frag} (h : H a = some (.lst xs)) : SqL K H a xs := .inl (.inl h)
theorem SqT.of {K : PySem.W.Frag} (h : H a = some (.tup xs)) : SqT K H a xs := .inl (.inl h)
theorem Inv.list (I : Inv X pins σ H s) (h : SqL X.K H a xs) : ∃ its : List Value, Vals xs its ∧ PlainL s.heap a its.toArray ∧ xs.length ≤ sizeLine := by
  rcases h with h | ⟨o, its, n, hk, hc, hd, hs, hz, r⟩
  · obtain ⟨z, its, n, r, e⟩ := h.ok I.hok
    exact ⟨its, r, ⟨_, n, e, rfl, rfl, rfl⟩, z⟩
  · refine ⟨its.toList, r, ⟨o, n, I.kIn a o hk, hc, hd, by simpa using hs⟩, ?_⟩
    have e := r.length
    simp only [Array.length_toList] at e
    omega
theorem Inv.tuple (I : Inv X pins σ H s) (h : SqT X.K H a xs) : ∃ its : List Value, Vals xs its ∧ IsTup s.heap a its.toArray ∧ xs.length ≤ sizeLine := by
  rcases h with h | ⟨o, its, n, hk, hc, hs, hz, r⟩
  · obtain ⟨z, its, r, p⟩ := h.ok I.hok
    exact ⟨its, r, p, z⟩
  · refine ⟨its.toList, r, ⟨o, I.kIn a o hk, hc, n, by simpa using hs⟩, ?_⟩
    have e := r.length
    simp only [Array.length_toList] at e
    omega
theorem Inv.list_inj (I : Inv X pins σ H s) (h : SqL X.K H a xs) (h' : SqL X.K H a ys) : xs = ys := by
  obtain ⟨its, r, ⟨o, n, e, _, _, d⟩, _⟩ := I.list h
  obtain ⟨its', r', ⟨o', n', e', _, _, d'⟩, _⟩ := I.list h'
  rw [e] at e'; cases e'
  rw [d] at d'
  injection d' with d1 _
  have : its = its' := by simpa using congrArg Array.toList d1
  subst this
  exact r.inj r'
end
abbrev Cx.wish (X : Cx) (E : Value → Shared → Prop) : Cx := { X with xe := E }
abbrev Cx.nox (X : Cx) : Cx := X.wish fun _ _ => False
theorem Cx.Ok.wish {X : Cx} (ok : X.Ok) (E : Value → Shared → Prop) : (X.wish E).Ok :=
  ⟨ok.mod, ok.kind, ok.glob, ok.blt, ok.above, ok.inj, ok.has, ok.cab, ok.hd, ok.frames, ok.stk, ok.exf, ok.bs, ok.bsz, ok.noex, ok.exfs, ok.funs, ok.frf⟩
theorem Cx.Ok.unwish {X : Cx} {E : Value → Shared → Prop} (ok : (X.wish E).Ok) : X.Ok :=
  ⟨ok.mod, ok.kind, ok.glob, ok.blt, ok.above, ok.inj, ok.has, ok.cab, ok.hd, ok.frames, ok.stk, ok.exf, ok.bs, ok.bsz, ok.noex, ok.exfs, ok.funs, ok.frf⟩
section
variable {X : Cx} {pins : List (Addr × Obj)} {σ : St} {H : Hp} {s : Shared} {E : Value → Shared → Prop}
theorem Inv.wish (I : Inv X pins σ H s) (E : Value → Shared → Prop) : Inv (X.wish E) pins σ H s := ⟨I.ok.wish E, I.os, I.bare, I.base, I.loc, I.cell, I.free, I.freeC, I.pin, I.hok, I.len⟩
theorem Inv.unwish (I : Inv (X.wish E) pins σ H s) : Inv X pins σ H s := ⟨I.ok.unwish, I.os, I.bare, I.base, I.loc, I.cell, I.free, I.freeC, I.pin, I.hok, I.len⟩
theorem SP.unwish {D : Ends} {f : Flow} {s' : Shared} (h : SP (X.wish E) pins D f s') : SP X pins D f s' := by
  cases f with
  | next => obtain ⟨σ', H', I, q⟩ := h; exact ⟨σ', H', I.unwish, q⟩
  | brk => obtain ⟨σ', H', I, q⟩ := h; exact ⟨σ', H', I.unwish, q⟩
  | cont => obtain ⟨σ', H', I, q⟩ := h; exact ⟨σ', H', I.unwish, q⟩
  | ret u => obtain ⟨v, σ', H', I, r, q⟩ := h; exact ⟨v, σ', H', I.unwish, r, q⟩
theorem PSs.nox {st : List Stmt} {t : TS} (h : PSs X.nox st t) : PSs X st t := fun pins s σ H D I hw =>
  wpAny_mono (h pins s σ H D (I.wish _) hw) (fun _ _ q => q.unwish) fun _ _ z => False.elim z
end
section
variable {X : Cx} {st : Stmt} {rest : List Stmt} {t u : TS} {e : Expr} {te : TE} {pos : Pos}
def tNext : TS := fun D σ H => D.nx σ H
def tSeq (t u : TS) : TS := fun D σ H => t { D with nx := u D } σ H
theorem pss_nil : PSs X [] tNext := fun _ _ σ H _ I h => wpAny_execs_nil ⟨σ, H, I, h⟩
theorem pss_cons (h1 : PS X st t) (h2 : PSs X rest u) : PSs X (st :: rest) (tSeq t u) := by
  intro pins s σ H D I h
  refine wpAny_execs_cons (thn (h1 pins s σ H { D with nx := u D } I h) fun f s1 q => ?_)
  cases f with
  | next =>
    obtain ⟨σ', H', I', q⟩ := q
    exact h2 pins s1 σ' H' D I' q
  | ret v => exact q
  | brk => exact q
  | cont => exact q
theorem pss_one (h1 : PS X st t) : PSs X [st] t := by
  intro pins s σ H D I h
  refine wpAny_execs_cons (thn (h1 pins s σ H D I h) fun f s1 q => ?_)
  cases f with
  | next => exact wpAny_execs_nil q
  | ret v => exact q
  | brk => exact q
  | cont => exact q
def tBreak : TS := fun D σ H => D.bk σ H
def tCont : TS := fun D σ H => D.ct σ H
theorem ps_break : PS X (.Break pos) tBreak := fun _ _ σ H _ I h => wpAny_Break ⟨σ, H, I, h⟩
theorem ps_continue : PS X (.Continue pos) tCont := fun _ _ σ H _ I h => wpAny_Continue ⟨σ, H, I, h⟩
theorem Inv.quiet {pins : List (Addr × Obj)} {σ : St} {H : Hp} {s : Shared} (I : Inv X pins σ H s) : interactive X.env = false := by simp [interactive, I.ok.kind]
def tDrop (te : TE) : TS := fun D σ H => te σ H fun _ H1 => D.nx σ H1
theorem ps_expr (he : PE X e te) (hs : swapsWith e none pos.line X.env = pure false := by rfl) : PS X (.Expr e pos) (tDrop te) := by
  intro pins s σ H D I h
  exact wpAny_Expr_any (thn (he pins s σ H _ I h) fun v s1 ⟨x, H1, I1, r1, q1⟩ => ⟨σ, H1, I1, q1⟩) I.quiet hs
def tRet (te : TE) : TS := fun D σ H => te σ H D.rt
theorem ps_ret (he : PE X e te) : PS X (.Return (some e) pos) (tRet te) := by
  intro pins s σ H D I h
  exact wpAny_Return_some (thn (he pins s σ H _ I h) fun v s1 ⟨x, H1, I1, r1, q1⟩ => ⟨x, σ, H1, I1, r1, q1⟩)
def tIfS (c : TT) (t u : TS) : TS := fun D σ H => c σ H fun b H1 => if b = true then t D σ H1 else u D σ H1
theorem ps_if {c : Expr} {a b : List Stmt} {tc : TT} (hc : PT X c tc) (ha : PSs X a t) (hb : PSs X b u) : PS X (.If c a b pos) (tIfS tc t u) := by
  intro pins s σ H D I h
  refine wpAny_If (thn (hc pins s σ H _ I h) fun d s1 ⟨H1, I1, q1⟩ => ?_)
  cases d with
  | true => exact ha pins s1 σ H1 D I1 q1
  | false => exact hb pins s1 σ H1 D I1 q1
end
abbrev TG := V → St → Hp → (St → Hp → Prop) → Prop
abbrev TGs := List V → St → Hp → (St → Hp → Prop) → Prop
def PG (X : Cx) (target : Expr) (t : TG) : Prop :=
  ∀ (pins : List (Addr × Obj)) (s : Shared) (σ : St) (H : Hp) (v : V) (u : Value) (Q : St → Hp → Prop), Inv X pins σ H s → RelV v u → t v σ H Q →
    wpAny (model X.prog X.w) X.A (assign target X.env u) (fun _ s' => ∃ σ' H', Inv X pins σ' H' s' ∧ Q σ' H') X.xe s
def PGs (X : Cx) (ts : List Expr) (t : TGs) : Prop :=
  ∀ (pins : List (Addr × Obj)) (s : Shared) (σ : St) (H : Hp) (vs : List V) (us : List Value) (Q : St → Hp → Prop), Inv X pins σ H s → Vals vs us → t vs σ H Q →
    wpAny (model X.prog X.w) X.A (assignInOrder ((assignEach ts X.env).map (·.2)) us) (fun _ s' => ∃ σ' H', Inv X pins σ' H' s' ∧ Q σ' H') X.xe s
abbrev TSet := V → V → V → Hp → (Hp → Prop) → Prop
def PSet (X : Cx) (t : TSet) : Prop :=
  ∀ (pins : List (Addr × Obj)) (s : Shared) (σ : St) (H : Hp) (o i v : V) (ov iv u : Value) (Q : Hp → Prop), Inv X pins σ H s → RelV o ov → RelV i iv → RelV v u → t o i v H Q →
    wpAny (model X.prog X.w) X.A (setItem ov iv u) (fun _ s' => ∃ H', Inv X pins σ H' s' ∧ Q H') X.xe s
abbrev TIp := V → V → Hp → VK → Prop
def PIp (X : Cx) (op : Operator) (t : TIp) : Prop :=
  ∀ (pins : List (Addr × Obj)) (s : Shared) (σ : St) (H : Hp) (x y : V) (v u : Value) (Q : VK), Inv X pins σ H s → RelV x v → RelV y u → t x y H Q →
    wpAny (model X.prog X.w) X.A (inplaceOp op v u) (EP X pins σ Q) X.xe s
section
variable {X : Cx} {pos : Pos}
def gName (i : Nat) : TG := fun v σ H Q => Q (σ.set i (some v)) H
theorem pg_name {i : Nat} {x : Str} (hN : X.N.Nodup) (hi : X.N[i]? = some x) (hx : Loc X.env.scope x) (hf : X.fn x = true ∨ X.env.scope.names.lookup x = some .local := by first | exact .inl rfl | exact .inr rfl | assumption) : PG X (.Name x pos) (gName i) := by
  intro pins s σ H v u Q I r h
  exact wpAny_assign_Name (store_ok I hN hi hx r (fun s' I' => ⟨_, H, I', h⟩) hf)
def gNil : TGs := fun vs σ H Q => vs = [] ∧ Q σ H
inductive gConsI (t : TG) (u : TGs) (vs : List V) (σ : St) (H : Hp) (Q : St → Hp → Prop) : Prop
  | mk : ∀ v r, (vs = v :: r) → (t v σ H fun σ' H' => u r σ' H' Q) → gConsI t u vs σ H Q
def gCons (t : TG) (u : TGs) : TGs := fun vs σ H Q => gConsI t u vs σ H Q
theorem pgs_nil : PGs X [] gNil := by
  intro pins s σ H vs us Q I r h
  obtain ⟨e, h⟩ := h
  subst e
  cases r
  exact assignInOrder_nil ⟨σ, H, I, h⟩
theorem pgs_cons {e : Expr} {es : List Expr} {t : TG} {u : TGs} (h1 : PG X e t) (h2 : PGs X es u)
    (hs : (assignEach (e :: es) X.env).map (·.2) = assign e X.env :: (assignEach es X.env).map (·.2) := by rfl) : PGs X (e :: es) (gCons t u) := by
  intro pins s σ H vs us Q I r h
  obtain ⟨v, vr, e1, h⟩ := h
  subst e1
  cases r with
  | cons r rr =>
    rw [hs]
    refine assignInOrder_cons (thn (h1 pins s σ H _ _ _ I r h) fun _ s1 ⟨σ1, H1, I1, q1⟩ => ?_)
    exact h2 pins s1 σ1 H1 _ _ Q I1 rr q1
inductive gTupI (K : PySem.W.Frag) (n : Nat) (t : TGs) (v : V) (σ : St) (H : Hp) (Q : St → Hp → Prop) : Prop
  | mk : ∀ a xs, (v = .ref a) → (SqT K H a xs) → (xs.length = n) → (t xs σ H Q) → gTupI K n t v σ H Q
def gTup (K : PySem.W.Frag) (n : Nat) (t : TGs) : TG := fun v σ H Q => gTupI K n t v σ H Q
theorem pg_tup {es : List Expr} {k : Nat} {t : TGs} {n : Nat} (hc : X.calm = true) (h : PGs X es t)
    (hn : (assignEach es X.env).length = n := by rfl) (hst : (assignEach es X.env).findIdx? (·.1) = none := by rfl) : PG X (.Tuple es k pos) (gTup X.K n t) := by
  intro pins s σ H v u Q I r hw
  obtain ⟨a, xs, e1, hq, hl, hw⟩ := hw
  subst e1
  cases r
  obtain ⟨its, rv, ht, hz⟩ := I.tuple hq
  refine assign_Tuple_tuple (I.ok.hd hc) ht (by simp [hn, ← hl, rv.length]) hst fun h' hx => ?_
  have I1 : Inv X pins σ H { s with heap := h' } := I.kept (t' := s.toks) fun b o e => hx b o (Nat.ne_of_lt (Heap.lt_size e)) e
  exact h pins _ σ H xs _ Q I1 (by simpa using rv) hw
def gSub (to ti : TE) (t : TSet) : TG := fun v σ H Q => to σ H fun o H1 => ti σ H1 fun i H2 => t o i v H2 fun H3 => Q σ H3
theorem pg_sub {o i : Expr} {to ti : TE} {t : TSet} (ho : PE X o to) (hi : PE X i ti) (hs : PSet X t)
    (ha : ∀ v, assign (.Subscript o i pos) X.env v = (do
      let ov ← holding [v] (eval o X.env)
      let iv ← holding [v, ov] (eval i X.env)
      standAt pos
      holding [v, ov, iv] (setItem ov iv v)
      release [v, ov, iv] []) := by intro _; rfl) : PG X (.Subscript o i pos) (gSub to ti t) := by
  intro pins s σ H v u Q I r h
  rw [ha]
  refine wpAny_bind (wpAny_holding (thn (ho pins s σ H _ I h) fun ov s1 ⟨x, H1, I1, r1, q1⟩ => ?_))
  refine wpAny_bind (wpAny_holding (thn (hi pins s1 σ H1 _ I1 q1) fun iv s2 ⟨y, H2, I2, r2, q2⟩ => ?_))
  refine wpAny_bind (wpAny_standAt (wpAny_bind (wpAny_holding (thn (hs pins s2 σ H2 x y v ov iv u _ I2 r1 r2 r q2) fun _ s3 ⟨H3, I3, q3⟩ => ?_))))
  exact wpAny_release ⟨σ, H3, I3, q3⟩
def tAsg (te : TE) (g : TG) : TS := fun D σ H => te σ H fun x H1 => g x σ H1 D.nx
theorem ps_asg {tg e : Expr} {te : TE} {g : TG} (he : PE X e te) (hg : PG X tg g) (hs : swapsWithSole [tg] e pos.line X.env = pure false := by rfl) (hw : swappedStores [tg] e X.env = pure none := by rfl)
    (h1 : (assignEach [tg] X.env).map (·.2) = [assign tg X.env] := by rfl) : PS X (.Assign [tg] e pos) (tAsg te g) := by
  intro pins s σ H D I h
  refine wpAny_Assign_stores (thn (he pins s σ H _ I h) fun v s1 ⟨x, H1, I1, r1, q1⟩ => ?_) hs hw
  rw [h1]
  exact thn (hg pins s1 σ H1 x v _ I1 r1 q1) fun _ s2 q => q
theorem ps_set {i : Nat} {x : Str} {e : Expr} {te : TE} {pos' : Pos} (hN : X.N.Nodup) (hi : X.N[i]? = some x) (hx : Loc X.env.scope x) (he : PE X e te) (hs : swapsWith e (some (.Name x pos')) pos.line X.env = pure false := by rfl) (hf : X.fn x = true ∨ X.env.scope.names.lookup x = some .local := by first | exact .inl rfl | exact .inr rfl | assumption) :
    PS X (.Assign [.Name x pos'] e pos) (tAsg te (gName i)) := by
  intro pins s σ H D I h
  refine wpAny_Assign_Name (thn (he pins s σ H _ I h) fun v s1 ⟨y, H1, I1, r1, q1⟩ => ?_) hs
  exact store_ok I1 hN hi hx r1 (fun s2 I2 => ⟨_, H1, I2, q1⟩) hf
inductive tAugI (i : Nat) (te : TE) (ti : TIp) (D : Ends) (σ : St) (H : Hp) : Prop
  | mk : ∀ x, (σ[i]? = some (some x)) → (te σ H fun y H1 => ti x y H1 fun z H2 => D.nx (σ.set i (some z)) H2) → tAugI i te ti D σ H
def tAug (i : Nat) (te : TE) (ti : TIp) : TS := fun D σ H => tAugI i te ti D σ H
theorem ps_aug {i : Nat} {x : Str} {e : Expr} {te : TE} {op : Operator} {ti : TIp} {pos' : Pos} (hN : X.N.Nodup) (hi : X.N[i]? = some x) (hx : Loc X.env.scope x) (he : PE X e te) (ho : PIp X op ti) (hf : X.fn x = true ∨ X.env.scope.names.lookup x = some .local := by first | exact .inl rfl | exact .inr rfl | assumption) :
    PS X (.AugAssign (.Name x pos') op e pos) (tAug i te ti) := by
  intro pins s σ H D I h
  obtain ⟨v, e1, h⟩ := h
  obtain ⟨m, hn, hl⟩ := I.loc
  have vis : Vis X.env.scope x := by rcases hx with k | k; exact .inl k; exact .inr (.inl k)
  obtain ⟨u, r, l⟩ := hl i x v hi e1 vis
  refine wpAny_AugAssign_Name ?_
  have go : wpAny (model X.prog X.w) X.A (eval e X.env) (fun w s₂ => wpAny (model X.prog X.w) X.A (inplaceOp op u w) (fun r s₃ => wpAny (model X.prog X.w) X.A (storeName X.env x r) (fun _ => SP X pins D .next) X.xe s₃) X.xe s₂) X.xe s := by
    refine thn (he pins s σ H _ I h) fun w s1 ⟨y, H1, I1, r1, q1⟩ => ?_
    refine thn (ho pins s1 σ H1 v y u w _ I1 r r1 q1) fun z s2 ⟨zv, H2, I2, r2, q2⟩ => ?_
    exact store_ok I2 hN hi hx r2 (fun s3 I3 => ⟨_, H2, I3, q2⟩) hf
  rcases l with ⟨hk, hm⟩ | ⟨hk, c, hc, hcell⟩
  · exact wpAny_loadName_local I.ok.kind hk hn hm go
  · rcases hk with hk | hk
    · exact wpAny_loadName_cell I.ok.kind hk hc hcell go
    · rcases hx with k | k
      · have : X.env.scope.names.lookup x = some .free := hk
        rw [k] at this; cases this
      · have : X.env.scope.names.lookup x = some .free := hk
        rw [k] at this; cases this
inductive ipII (f : Int → Int → Int) (x y : V) (H : Hp) (Q : VK) : Prop
  | mk : ∀ i j, (x = .int i) → (y = .int j) → (Q (.int (f i j)) H) → ipII f x y H Q
def ipI (f : Int → Int → Int) : TIp := fun x y H Q => ipII f x y H Q
theorem ip_add : PIp X .Add (ipI fun i j => i + j) := by
  intro pins s σ H x y v u Q I r1 r2 h
  obtain ⟨i, j, e1, e2, q⟩ := h
  subst e1; subst e2
  obtain ⟨t, rfl⟩ := r1
  obtain ⟨t', rfl⟩ := r2
  exact iadd_int ⟨.int _, H, I.tok _, ⟨_, rfl⟩, q⟩
end
section
variable {X : Cx} {pos : Pos}
def tWhile (c : TT) (tb : TS) : TS := fun D σ H => ∃ W : Nat → St → Hp → Prop, (∃ m, W m σ H) ∧ ∀ m σ H, W m σ H →
  c σ H fun b H1 => if b = true then ∃ N : St → Hp → Prop, (∀ σ' H', N σ' H' → ∃ m', m' < m ∧ W m' σ' H') ∧ tb { D with nx := N, ct := N, bk := D.nx } σ H1 else D.nx σ H1
theorem ps_while {c : Expr} {body : List Stmt} {tc : TT} {tb : TS} (hp : PassesOwn (model X.prog X.w) X.A X.env X.xe) (hc : PT X c tc) (hb : PSs X body tb) : PS X (.While c body [] pos) (tWhile tc tb) := by
  intro pins s σ H D I h
  obtain ⟨W, ⟨m0, w0⟩, turn⟩ := h
  refine wpAny_While (codeAny_whileLoop (fun n s' => ∃ σ' H', Inv X pins σ' H' s' ∧ W n σ' H') ?_ m0 ⟨σ, H, I, w0⟩)
  rintro n s1 ⟨σ1, H1, I1, w1⟩
  refine wpAny_passesOwn hp (thn (hc pins s1 σ1 H1 _ I1 (turn n σ1 H1 w1)) fun b s2 ⟨H2, I2, q2⟩ => ?_)
  cases b with
  | true =>
    obtain ⟨N, hN, q2⟩ := q2
    rw [if_pos rfl]
    refine wpAny_passesOwn hp (thn (hb pins s2 σ1 H2 _ I2 q2) fun f s3 q3 => ?_)
    cases f with
    | next =>
      obtain ⟨σ3, H3, I3, n3⟩ := q3
      obtain ⟨m', hm, w3⟩ := hN σ3 H3 n3
      exact ⟨m', hm, σ3, H3, I3, w3⟩
    | cont =>
      obtain ⟨σ3, H3, I3, n3⟩ := q3
      obtain ⟨m', hm, w3⟩ := hN σ3 H3 n3
      exact ⟨m', hm, σ3, H3, I3, w3⟩
    | brk => exact q3
    | ret v => exact q3
  | false =>
    rw [if_neg Bool.false_ne_true]
    exact wpAny_execs_nil ⟨σ1, H2, I2, q2⟩
end
structure It where
  go : Nat → Hp → Prop
  yld : Nat → Hp → V → Hp → Prop
  stop : Nat → Hp → Prop
def FpOk (X : Cx) (pins : List (Addr × Obj)) (H : Hp) (b : Addr) : Prop :=
  H b = none ∧ b ≠ X.env.locals ∧ b ∉ X.fs ∧ (b ∈ X.ex ∨ X.s_0.heap.objs.size ≤ b) ∧ (∀ x c, X.env.cells.lookup x = some c → c ≠ b) ∧ ∀ p ∈ X.pn ++ pins, p.1 ≠ b
theorem Inv.fpOk {X : Cx} {pins : List (Addr × Obj)} {σ : St} {H H' : Hp} {s : Shared} {b : Addr} (I : Inv X pins σ H s) (hb : s.heap.objs.size ≤ b) (hn : H' b = none) : FpOk X pins H' b := by
  refine ⟨hn, Nat.ne_of_gt (Nat.lt_of_lt_of_le I.lt hb), I.nofs hb, .inr (Nat.le_trans I.sz hb), fun x c e z => ?_, fun p hp z => ?_⟩
  · obtain ⟨v, q⟩ := I.cell x c e
    exact absurd (Nat.lt_of_lt_of_le q.lt (by rw [z]; exact hb)) (Nat.lt_irrefl _)
  · exact absurd (Nat.lt_of_lt_of_le (Heap.lt_size (I.pin p hp).1) (by rw [z]; exact hb)) (Nat.lt_irrefl _)
structure Turn (P : Program) (w : World) (K : PySem.W.Frag) (tg : Expr) (J : It) (fp : List Addr) (it : Addr) (tn : Nat → Heap → Prop) : Prop where
  mem : it ∈ fp
  obj : ∀ i h, tn i h → ∀ b ∈ fp, ∃ o, h.get? b = some o ∧ ∀ v, o.data ≠ .cell v
  keep : ∀ i h h', tn i h → (∀ b ∈ fp, ∀ o, h.get? b = some o → h'.get? b = some o) → tn i h'
  item : ∀ (X : Cx), X.prog = P → X.w = w → X.K = K → X.calm = true → ∀ (i : Nat) (pins : List (Addr × Obj)) (s : Shared) (σ : St) (H : Hp) (E : Value → Shared → Prop), Inv X pins σ H s → (∀ b ∈ fp, FpOk X pins H b) → tn i s.heap → J.go i H →
    wpAny (model P w) X.A (pyNext (.ref it)) (fun r s1 => ∃ u, r = some u ∧
      wpAny (model P w) X.A (letOwnedTupleGo tg (.ref it) u) (fun _ s2 => ∃ x H', Inv X pins σ H' s2 ∧ RelV x u ∧ J.yld i H x H' ∧ tn (i + 1) s2.heap ∧ ∀ b ∈ fp, H' b = none) E s1) E s
  done : ∀ (X : Cx), X.prog = P → X.w = w → X.K = K → X.calm = true → ∀ (i : Nat) (pins : List (Addr × Obj)) (s : Shared) (σ : St) (H : Hp) (E : Value → Shared → Prop), Inv X pins σ H s → (∀ b ∈ fp, FpOk X pins H b) → tn i s.heap → J.stop i H →
    wpAny (model P w) X.A (pyNext (.ref it)) (fun r s1 => r = none ∧ Inv X pins σ H s1) E s
  self : ∀ (A : Around) (i : Nat) (s : Shared) (Q : Value → Shared → Prop) (E : Value → Shared → Prop), tn i s.heap → Q (.ref it) s → wpAny (model P w) A (pyIter (.ref it)) Q E s
abbrev TI := St → Hp → (It → Hp → Prop) → Prop
def PIE (X : Cx) (pins : List (Addr × Obj)) (σ : St) (tg : Expr) (R : It → Hp → Prop) (itv : Value) (s2 : Shared) : Prop :=
  ∃ (it : Addr) (fp : List Addr) (tn : Nat → Heap → Prop) (J : It) (H' : Hp), itv = .ref it ∧ Inv X pins σ H' s2 ∧ Turn X.prog X.w X.K tg J fp it tn ∧ tn 0 s2.heap ∧ (∀ b ∈ fp, FpOk X pins H' b) ∧ R J H'
def PI (X : Cx) (tg iter : Expr) (wi : TI) : Prop :=
  ∀ (pins : List (Addr × Obj)) (s : Shared) (σ : St) (H : Hp) (R : It → Hp → Prop), Inv X pins σ H s → wi σ H R →
    wpAny (model X.prog X.w) X.A (eval iter X.env) (fun v s1 => wpAny (model X.prog X.w) X.A (pyIter v) (PIE X pins σ tg R) X.xe s1) X.xe s
theorem go_of {M : Model} {A : Around} {E : Value → Shared → Prop} {s : Shared} {tg : Expr} {it : Addr} {u : Value} {o : Obj} {n : String} {vs : Array Value} {Q : Unit → Shared → Prop} (ho : s.heap.get? it = some o) (hc : o.cls = .type n) (hd : o.data = .fields vs)
    (hn : ["enumerate", "zip", "dict_itemiterator", "dict_reverseitemiterator", "odict_iterator", "itertools.zip_longest", "itertools.pairwise"].contains n = false) (hQ : Q () s) : wpAny M A (letOwnedTupleGo tg (.ref it) u) Q E s := by
  unfold letOwnedTupleGo
  cases tg <;> first
    | exact wpAny_pure hQ
    | (cases u <;> first
        | exact wpAny_pure hQ
        | (refine wpAny_bind (wpAny_load ho ?_)
           rw [hc, hd]
           show wpAny M A (if (["enumerate", "zip", "dict_itemiterator", "dict_reverseitemiterator", "odict_iterator", "itertools.zip_longest", "itertools.pairwise"].contains n && vs[0]? == some (rawInt _)) = true then _ else _) Q E s
           rw [if_neg (by intro h; rw [hn, Bool.false_and] at h; cases h)]
           exact wpAny_pure hQ))
def Itl (K : PySem.W.Frag) (a : Addr) : It :=
  ⟨fun i H => ∃ xs x, SqL K H a xs ∧ xs[i]? = some x, fun i H x H' => H' = H ∧ ∀ xs, SqL K H a xs → xs[i]? = some x, fun i H => ∃ xs, SqL K H a xs ∧ xs.length ≤ i⟩
theorem turn_list {P : Program} {w : World} {K : PySem.W.Frag} {tg : Expr} (a it : Addr) : Turn P w K tg (Itl K a) [it] it (fun i h => h.IsListIter it a i) where
  mem := by simp
  obj := fun i h st b hb => by
    have e : b = it := by simpa using hb
    subst e
    obtain ⟨o, e, c, d⟩ := st
    exact ⟨o, e, fun v z => by rw [d] at z; cases z⟩
  keep := fun i h h' st k => st.at fun o e => k it (by simp) o e
  item := by
    intro X hP hw hK hc i pins s σ H E I hf st hg
    subst hP hw hK
    obtain ⟨xs, x, hq, hx⟩ := hg
    obtain ⟨its, rv, p, hz⟩ := I.list hq
    obtain ⟨u, hu, ru⟩ := rv.get hx
    obtain ⟨f0, f1, f2, f3, f4, f5⟩ := hf it (by simp)
    refine wpAny_pyNext_list_item st p.isList (x := u) (by simpa using hu) fun h' st' sb => ?_
    have I1 : Inv X pins σ H { s with heap := h' } := I.turned (t' := s.toks) (fun b o hb e => (sb.2 b hb).trans e) f0 f1 f3 f4 f5
    obtain ⟨o, e, c, d⟩ := id st'
    exact ⟨u, rfl, go_of (s := { s with heap := h' }) e c d (by decide) ⟨x, H, I1, ru, ⟨rfl, fun ys hy => by rw [I.list_inj hy hq]; exact hx⟩, st', fun b hb => (hf b hb).1⟩⟩
  done := by
    intro X hP hw hK hc i pins s σ H E I hf st hg
    subst hP hw hK
    obtain ⟨xs, hq, hx⟩ := hg
    obtain ⟨its, rv, p, hz⟩ := I.list hq
    obtain ⟨f0, f1, f2, f3, f4, f5⟩ := hf it (by simp)
    have hl := rv.length
    exact wpAny_pyNext_list_end (I.ok.hd hc) st p.isList (by simp; omega) fun h' eb => ⟨rfl, I.turned (t' := s.toks) (fun b o hb e => eb b o hb e) f0 f1 f3 f4 f5⟩
  self := fun _ _ _ _ _ st h => wpAny_pyIter_listiter st h
end L2
namespace L2
open PySem PySem.Spec PyProof.Rows
section
variable {X : Cx} {tg : Expr}
inductive iListI (K : PySem.W.Frag) (x : V) (H1 : Hp) (R : It → Hp → Prop) : Prop
  | mk : ∀ a, (x = .ref a) → ((∃ xs, SqL K H1 a xs)) → (R (Itl K a) H1) → iListI K x H1 R
def iList (K : PySem.W.Frag) (tl : TE) : TI := fun σ H R => tl σ H fun x H1 => iListI K x H1 R
theorem pi_list {l : Expr} {tl : TE} (hl : PE X l tl) : PI X tg l (iList X.K tl) := by
  intro pins s σ H R I h
  refine thn (hl pins s σ H _ I h) fun v s1 ⟨x, H1, I1, r1, q1⟩ => ?_
  obtain ⟨a, e, ⟨xs, hq⟩, q⟩ := q1
  subst e
  cases r1
  obtain ⟨its, rv, p, hz⟩ := I1.list hq
  refine wpAny_pyIter_list p.isList ?_
  refine ⟨s1.heap.objs.size, [s1.heap.objs.size], _, _, H1, rfl, I1.kept (t' := s1.toks) fun b o e => Heap.get?_push_of_some _ e, turn_list a _, ⟨_, Heap.get?_push_size _ rfl, rfl, rfl⟩, fun b hb => ?_, q⟩
  have e : b = s1.heap.objs.size := by simpa using hb
  subst e
  exact I1.fpOk (Nat.le_refl _) (I1.hok.fresh (Nat.le_refl _))
def tFor (wi : TI) (g : TG) (tb : TS) : TS := fun D σ H => wi σ H fun J H1 => ∃ W : Nat → Nat → St → Hp → Prop, (∃ m, W 0 m σ H1) ∧ ∀ i m σ H, W i m σ H →
  (J.stop i H ∧ D.nx σ H) ∨ (J.go i H ∧ ∃ N : St → Hp → Prop, (∀ σ' H', N σ' H' → ∃ m', m' < m ∧ W (i + 1) m' σ' H') ∧ ∀ x H', J.yld i H x H' → g x σ H' fun σ2 H2 => tb { D with nx := N, ct := N, bk := D.nx } σ2 H2)
def pinsAt (fp : List Addr) (h : Heap) : List (Addr × Obj) := fp.filterMap fun b => (h.get? b).map fun o => (b, o)
theorem mem_pinsAt {fp : List Addr} {h : Heap} {b : Addr} {o : Obj} (hb : b ∈ fp) (e : h.get? b = some o) : (b, o) ∈ pinsAt fp h := List.mem_filterMap.mpr ⟨b, hb, by rw [e]; rfl⟩
theorem of_pinsAt {fp : List Addr} {h : Heap} {p : Addr × Obj} (hp : p ∈ pinsAt fp h) : p.1 ∈ fp ∧ h.get? p.1 = some p.2 := by
  obtain ⟨b, hb, e⟩ := List.mem_filterMap.mp hp
  cases q : h.get? b with
  | none => rw [q] at e; cases e
  | some o =>
    rw [q] at e
    have e' : (b, o) = p := Option.some.inj e
    subst e'
    exact ⟨hb, q⟩
theorem Inv.pinned {pins : List (Addr × Obj)} {σ : St} {H : Hp} {s : Shared} {fp : List Addr} (I : Inv X pins σ H s) (hf : ∀ b ∈ fp, FpOk X pins H b) (ho : ∀ b ∈ fp, ∃ o, s.heap.get? b = some o ∧ ∀ v, o.data ≠ .cell v) : Inv X (pins ++ pinsAt fp s.heap) σ H s :=
  I.pins_of fun p hp => (List.mem_append.mp hp).elim (fun z => I.pin p (List.mem_append_right _ z)) fun z => by
    obtain ⟨hb, e⟩ := of_pinsAt z
    obtain ⟨f0, f1, f2, _⟩ := hf p.1 hb
    obtain ⟨o, e', d⟩ := ho p.1 hb
    rw [e] at e'; cases e'
    exact ⟨e, f0, f1, f2, d⟩
theorem Inv.unpinned {pins pl : List (Addr × Obj)} {σ : St} {H : Hp} {s : Shared} (I : Inv X (pins ++ pl) σ H s) : Inv X pins σ H s := I.pins_of fun p hp => I.pin p (List.mem_append_right _ (List.mem_append_left _ hp))
theorem ps_for {iter : Expr} {body : List Stmt} {wi : TI} {g : TG} {tb : TS} {pos : Pos} (hp : PassesOwn (model X.prog X.w) X.A X.env X.xe) (hc : X.calm = true) (hi : PI X tg iter wi) (hg : PG X tg g) (hb : PSs X body tb)
    (hs : ∀ x, foldedSetIterable iter X.env x = pure x := by intro _; rfl) : PS X (.For tg iter body [] pos) (tFor wi g tb) := by
  intro pins s σ H D I h
  refine wpAny_For (thn (hi pins s σ H _ I h) fun v s1 h1 => thn h1 fun itv s2 h2 => ?_) hs
  obtain ⟨it, fp, tn, J, H2, e, I2, T, st2, f2, W, ⟨m0, w0⟩, turn⟩ := h2
  subst e
  have stat : ∀ {H' : Hp}, (∀ b ∈ fp, H' b = none) → ∀ b ∈ fp, FpOk X pins H' b := fun hn b hb => ⟨hn b hb, (f2 b hb).2⟩
  refine codeAny_forLoop_any (fun n s' => ∃ i σ' H', Inv X pins σ' H' s' ∧ tn i s'.heap ∧ (∀ b ∈ fp, H' b = none) ∧ W i n σ' H') ?_ m0 ⟨0, σ, H2, I2, st2, fun b hb => (f2 b hb).1, w0⟩
  rintro n s3 ⟨i, σ3, H3, I3, st3, fr3, w3⟩
  rcases turn i n σ3 H3 w3 with ⟨stop, qn⟩ | ⟨go, N, hN, step⟩
  · refine wpAny_passesOwn hp (thn (T.done X rfl rfl rfl hc i pins s3 σ3 H3 X.xe I3 (stat fr3) st3 stop) fun r s4 ⟨hr, I4⟩ => ?_)
    subst hr
    exact wpAny_execs_nil ⟨σ3, H3, I4, qn⟩
  · refine wpAny_passesOwn hp (thn (T.item X rfl rfl rfl hc i pins s3 σ3 H3 X.xe I3 (stat fr3) st3 go) fun r s4 ⟨u, hr, h4⟩ => ?_)
    subst hr
    refine wpAny_passesOwn hp (thn h4 fun _ s5 ⟨x, H5, I5, r5, y5, st5, fr5⟩ => ?_)
    have I5' := I5.pinned (stat fr5) (T.obj _ _ st5)
    refine wpAny_passesOwn hp (thn (hg _ s5 σ3 H5 x u _ I5' r5 (step x H5 y5)) fun _ s6 ⟨σ6, H6, I6, q6⟩ => ?_)
    refine wpAny_passesOwn hp (thn (hb _ s6 σ6 H6 _ I6 q6) fun f s7 q7 => ?_)
    have again : ∀ {σ7 : St} {H7 : Hp}, Inv X (pins ++ pinsAt fp s5.heap) σ7 H7 s7 → N σ7 H7 → ∃ m, m < n ∧ ∃ i σ' H', Inv X pins σ' H' s7 ∧ tn i s7.heap ∧ (∀ b ∈ fp, H' b = none) ∧ W i m σ' H' := fun {σ7 H7} I7 n7 => by
      obtain ⟨m', hm, w7⟩ := hN σ7 H7 n7
      refine ⟨m', hm, i + 1, σ7, H7, I7.unpinned, T.keep _ _ _ st5 fun b hb o e => (I7.pin (b, o) (List.mem_append_right _ (List.mem_append_right _ (mem_pinsAt hb e)))).1, fun b hb => ?_, w7⟩
      obtain ⟨o, e, d⟩ := T.obj _ _ st5 b hb
      exact (I7.pin (b, o) (List.mem_append_right _ (List.mem_append_right _ (mem_pinsAt hb e)))).2.1
    cases f with
    | next => obtain ⟨σ7, H7, I7, n7⟩ := q7; exact again I7 n7
    | cont => obtain ⟨σ7, H7, I7, n7⟩ := q7; exact again I7 n7
    | brk => obtain ⟨σ7, H7, I7, q7⟩ := q7; exact ⟨σ7, H7, I7.unpinned, q7⟩
    | ret v => obtain ⟨x7, σ7, H7, I7, r7, q7⟩ := q7; exact ⟨x7, σ7, H7, I7.unpinned, r7, q7⟩
end
theorem for_list {K : PySem.W.Frag} {a : Addr} {xs : List V} {g : TG} {tb : TS} {D : Ends} {σ : St} {H : Hp} (Pv : Nat → St → Hp → Prop) (h0 : Pv 0 σ H) (hl : ∀ i σ H, i ≤ xs.length → Pv i σ H → SqL K H a xs)
    (hs : ∀ i x σ H, xs[i]? = some x → Pv i σ H → g x σ H fun σ2 H2 => tb { D with nx := Pv (i + 1), ct := Pv (i + 1), bk := D.nx } σ2 H2) (hd : ∀ σ H, Pv xs.length σ H → D.nx σ H) :
    ∃ W : Nat → Nat → St → Hp → Prop, (∃ m, W 0 m σ H) ∧ ∀ i m σ H, W i m σ H →
      ((Itl K a).stop i H ∧ D.nx σ H) ∨ ((Itl K a).go i H ∧ ∃ N : St → Hp → Prop, (∀ σ' H', N σ' H' → ∃ m', m' < m ∧ W (i + 1) m' σ' H') ∧ ∀ x H', (Itl K a).yld i H x H' → g x σ H' fun σ2 H2 => tb { D with nx := N, ct := N, bk := D.nx } σ2 H2) := by
  refine ⟨fun i m σ H => m = xs.length - i ∧ i ≤ xs.length ∧ Pv i σ H, ⟨xs.length, by simp, Nat.zero_le _, h0⟩, ?_⟩
  rintro i m σ H ⟨rfl, hi, p⟩
  have q := hl i σ H hi p
  by_cases hlt : i < xs.length
  · refine .inr ⟨⟨xs, xs[i], q, by simp [hlt]⟩, Pv (i + 1), fun σ' H' p' => ⟨xs.length - (i + 1), by omega, rfl, hlt, p'⟩, fun x H' y => ?_⟩
    obtain ⟨e, y⟩ := y
    subst e
    exact hs i x σ _ (y xs q) p
  · have e : i = xs.length := by omega
    subst e
    exact .inl ⟨⟨xs, q, Nat.le_refl _⟩, hd σ H p⟩
end L2
namespace L2
open PySem PySem.Spec PyProof.Rows
abbrev R2 := V → V → Hp → VK → Prop
def OpR (X : Cx) (f : Value → Value → Sem Value) (r : R2) : Prop :=
  ∀ (pins : List (Addr × Obj)) (s : Shared) (σ : St) (H : Hp) (x y : V) (v u : Value) (Q : VK), Inv X pins σ H s → RelV x v → RelV y u → r x y H Q →
    wpAny (model X.prog X.w) X.A (f v u) (EP X pins σ Q) X.xe s
def UnR (X : Cx) (f : Value → Sem Value) (r : V → Hp → VK → Prop) : Prop :=
  ∀ (pins : List (Addr × Obj)) (s : Shared) (σ : St) (H : Hp) (x : V) (v : Value) (Q : VK), Inv X pins σ H s → RelV x v → r x H Q →
    wpAny (model X.prog X.w) X.A (f v) (EP X pins σ Q) X.xe s
def CallR (X : Cx) (f : Value) (r : List V → Hp → VK → Prop) : Prop :=
  ∀ (pins : List (Addr × Obj)) (s : Shared) (σ : St) (H : Hp) (xs : List V) (us : List Value) (Q : VK), Inv X pins σ H s → Vals xs us → r xs H Q →
    wpAny (model X.prog X.w) X.A (call f us) (EP X pins σ Q) X.xe s
def TruR (X : Cx) (r : V → Hp → (Bool → Hp → Prop) → Prop) : Prop :=
  ∀ (pins : List (Addr × Obj)) (s : Shared) (σ : St) (H : Hp) (x : V) (v : Value) (Q : Bool → Hp → Prop), Inv X pins σ H s → RelV x v → r x H Q →
    wpAny (model X.prog X.w) X.A (truthy v) (TP X pins σ Q) X.xe s
def tOp (r : R2) (ta tb : TE) : TE := fun σ H Q => ta σ H fun x H1 => tb σ H1 fun y H2 => r x y H2 Q
def tUn (r : V → Hp → VK → Prop) (ta : TE) : TE := fun σ H Q => ta σ H fun x H1 => r x H1 Q
inductive rI0I (g : Int → Int → V) (x y : V) (H : Hp) (Q : VK) : Prop
  | mk : ∀ i j, (x = .int i) → (y = .int j) → (Q (g i j) H) → rI0I g x y H Q
def rI0 (g : Int → Int → V) : R2 := fun x y H Q => rI0I g x y H Q
def rU (g : Int → V) : V → Hp → VK → Prop := fun x H Q => ∃ i, x = .int i ∧ Q (g i) H
section
variable {X : Cx} {a b c : Expr} {ta tb tc : TE} {pos : Pos}
theorem binT (ha : PE X a ta) (hb : PE X b tb) {pins : List (Addr × Obj)} {s : Shared} {σ : St} {H : Hp} {R : V → V → Hp → Prop} (I : Inv X pins σ H s)
    (h : ta σ H fun x H1 => tb σ H1 fun y H2 => R x y H2) {Q : Value → Shared → Prop} {f : Value → Value → Sem Value}
    (hf : ∀ v u s2 x y H2, Inv X pins σ H2 s2 → RelV x v → RelV y u → R x y H2 → wpAny (model X.prog X.w) X.A (f v u) Q X.xe s2) :
    wpAny (model X.prog X.w) X.A (eval a X.env) (fun v s₁ => wpAny (model X.prog X.w) X.A (eval b X.env) (fun u s₂ => wpAny (model X.prog X.w) X.A (f v u) Q X.xe s₂) X.xe s₁) X.xe s := by
  refine thn (ha pins s σ H _ I h) fun v s1 ⟨x, H1, I1, r1, q1⟩ => ?_
  refine thn (hb pins s1 σ H1 _ I1 q1) fun u s2 ⟨y, H2, I2, r2, q2⟩ => ?_
  exact hf v u s2 x y H2 I2 r1 r2 q2
theorem pe_op {op : Operator} {r : R2} (ho : OpR X (binaryOp op) r) (ha : PE X a ta) (hb : PE X b tb) : PE X (.BinOp a op b pos) (tOp r ta tb) := by
  intro pins s σ H Q I h
  exact wpAny_BinOp (binT ha hb I h fun v u s2 x y H2 I2 rx ry q => ho pins s2 σ H2 x y v u Q I2 rx ry q)
theorem pe_un {op : UnaryOp} {r : V → Hp → VK → Prop} (ho : UnR X (unaryOp op) r) (ha : PE X a ta) : PE X (.UnaryOp op a pos) (tUn r ta) := by
  intro pins s σ H Q I h
  exact UnaryOp_ (thn (ha pins s σ H _ I h) fun v s1 ⟨x, H1, I1, r1, q1⟩ => ho pins s1 σ H1 x v Q I1 r1 q1)
theorem opI0 {f : Value → Value → Sem Value} {g : Int → Int → Int}
    (rule : ∀ (i j : Int) (t u : Tok) (s : Shared) (Q : Value → Shared → Prop) (E : Value → Shared → Prop), Q (.int (g i j) s.toks) { s with toks := s.toks + 1 } → wpAny (model X.prog X.w) X.A (f (.int i t) (.int j u)) Q E s) :
    OpR X f (rI0 fun i j => .int (g i j)) := by
  intro pins s σ H x y v u Q I rx ry h
  obtain ⟨i, j, rfl, rfl, q⟩ := h
  obtain ⟨t, rfl⟩ := rx
  obtain ⟨t', rfl⟩ := ry
  exact rule i j t t' s _ _ ⟨.int (g i j), H, I.tok _, ⟨_, rfl⟩, q⟩
theorem opB0 {f : Value → Value → Sem Value} {g : Int → Int → Bool}
    (rule : ∀ (i j : Int) (t u : Tok) (s : Shared) (Q : Value → Shared → Prop) (E : Value → Shared → Prop), Q (.bool (g i j)) s → wpAny (model X.prog X.w) X.A (f (.int i t) (.int j u)) Q E s) :
    OpR X f (rI0 fun i j => .bl (g i j)) := by
  intro pins s σ H x y v u Q I rx ry h
  obtain ⟨i, j, rfl, rfl, q⟩ := h
  obtain ⟨t, rfl⟩ := rx
  obtain ⟨t', rfl⟩ := ry
  exact rule i j t t' s _ _ ⟨.bl (g i j), H, I, rfl, q⟩
theorem op_add : OpR X (binaryOp .Add) (rI0 fun i j => .int (i + j)) := opI0 fun _ _ _ _ _ _ _ q => add_int q
theorem op_sub : OpR X (binaryOp .Sub) (rI0 fun i j => .int (i - j)) := opI0 fun _ _ _ _ _ _ _ q => sub_int q
theorem unI {f : Value → Sem Value} {g : Int → Int}
    (rule : ∀ (i : Int) (t : Tok) (s : Shared) (Q : Value → Shared → Prop) (E : Value → Shared → Prop), Q (.int (g i) s.toks) { s with toks := s.toks + 1 } → wpAny (model X.prog X.w) X.A (f (.int i t)) Q E s) :
    UnR X f (rU fun i => .int (g i)) := by
  intro pins s σ H x v Q I rx h
  obtain ⟨i, rfl, q⟩ := h
  obtain ⟨t, rfl⟩ := rx
  exact rule i t s _ _ ⟨.int (g i), H, I.tok _, ⟨_, rfl⟩, q⟩
theorem un_neg : UnR X (unaryOp .USub) (rU fun i => .int (-i)) := unI fun _ _ _ _ _ q => neg_int q
end
def scal : V → V → Bool
  | .non, .non => true | .non, .int _ => true | .int _, .non => true | .non, .bl _ => true | .bl _, .non => true | .non, .str _ => true | .str _, .non => true
  | .int _, .int _ => true | .bl _, .bl _ => true | .str _, .str _ => true | .byt _, .byt _ => true
  | .int _, .str _ => true | .str _, .int _ => true | .bl _, .str _ => true | .str _, .bl _ => true
  | _, _ => false
inductive rEqI (x y : V) (H : Hp) (Q : VK) : Prop
  | mk : (scal x y = true) → (Q (.bl (decide (x = y))) H) → rEqI x y H Q
def rEq : R2 := fun x y H Q => rEqI x y H Q
inductive rNeI (x y : V) (H : Hp) (Q : VK) : Prop
  | mk : (scal x y = true) → (Q (.bl (!decide (x = y))) H) → rNeI x y H Q
def rNe : R2 := fun x y H Q => rNeI x y H Q
theorem dec_int {i j : Int} : decide (V.int i = V.int j) = (i == j) := by
  rw [Bool.eq_iff_iff]
  simp
theorem dec_bl {i j : Bool} : decide (V.bl i = V.bl j) = (i == j) := by
  rw [Bool.eq_iff_iff]
  simp
theorem dec_str {i j : Str} : decide (V.str i = V.str j) = (i == j) := by
  rw [Bool.eq_iff_iff]
  simp
theorem dec_byt {i j : Array UInt8} : decide (V.byt i = V.byt j) = (i.toList == j.toList) := by
  rw [Bool.eq_iff_iff]
  cases i
  cases j
  simp
section
variable {X : Cx} {a b c : Expr} {ta tb tc : TE} {pos : Pos}
theorem fin_bl {pins : List (Addr × Obj)} {σ : St} {H : Hp} {s : Shared} {Q : VK} {k k' : Bool} (I : Inv X pins σ H s) (q : Q (.bl k) H) (e : k = k') : EP X pins σ Q (.bool k') s := by
  subst e
  exact ⟨.bl k, H, I, rfl, q⟩
theorem op_eq : OpR X (compareOp .Eq) rEq := by
  intro pins s σ H x y v u Q I rx ry h
  obtain ⟨hs, q⟩ := h
  cases x with
  | non =>
    cases rx
    cases y with
    | non => cases ry; exact PySem.EqNone.eq_none_none (fin_bl I q (by simp))
    | bl j => cases ry; exact PySem.EqNone.eq_none_bool (fin_bl I q (by simp))
    | int j => obtain ⟨t', rfl⟩ := ry; exact PySem.EqNone.eq_none_int (fin_bl I q (by simp))
    | str j => obtain ⟨t', rfl⟩ := ry; exact PySem.EqNone.eq_none_str (fin_bl I q (by simp))
    | _ => exact absurd (show false = true from hs) Bool.false_ne_true
  | bl i =>
    cases rx
    cases y with
    | non => cases ry; exact PySem.EqNone.eq_bool_none (fin_bl I q (by simp))
    | bl j => cases ry; exact eq_bool (fin_bl I q dec_bl)
    | str j => obtain ⟨t', rfl⟩ := ry; exact PySem.EqMixed.eq_bool_str (fin_bl I q (by simp))
    | _ => exact absurd (show false = true from hs) Bool.false_ne_true
  | int i =>
    obtain ⟨t, rfl⟩ := rx
    cases y with
    | non => cases ry; exact PySem.EqNone.eq_int_none (fin_bl I q (by simp))
    | int j => obtain ⟨t', rfl⟩ := ry; exact eq_int (fin_bl I q dec_int)
    | str j => obtain ⟨t', rfl⟩ := ry; exact PySem.EqMixed.eq_int_str (fin_bl I q (by simp))
    | _ => exact absurd (show false = true from hs) Bool.false_ne_true
  | str i =>
    obtain ⟨t, rfl⟩ := rx
    cases y with
    | non => cases ry; exact PySem.EqNone.eq_str_none (fin_bl I q (by simp))
    | bl j => cases ry; exact PySem.EqMixed.eq_str_bool (fin_bl I q (by simp))
    | int j => obtain ⟨t', rfl⟩ := ry; exact PySem.EqMixed.eq_str_int (fin_bl I q (by simp))
    | str j => obtain ⟨t', rfl⟩ := ry; exact eq_str (fin_bl I q dec_str)
    | _ => exact absurd (show false = true from hs) Bool.false_ne_true
  | byt i =>
    obtain ⟨t, rfl⟩ := rx
    cases y with
    | byt j => obtain ⟨t', rfl⟩ := ry; exact PySem.W.eq_bytes (fin_bl I q dec_byt)
    | _ => exact absurd (show false = true from hs) Bool.false_ne_true
  | _ => cases y <;> exact absurd (show false = true from hs) Bool.false_ne_true
theorem op_ne : OpR X (compareOp .NotEq) rNe := by
  intro pins s σ H x y v u Q I rx ry h
  obtain ⟨hs, q⟩ := h
  cases x with
  | non =>
    cases rx
    cases y with
    | non => cases ry; exact PySem.EqNone.ne_none_none (fin_bl I q (by simp))
    | bl j => cases ry; exact PySem.EqNone.ne_none_bool (fin_bl I q (by simp))
    | int j => obtain ⟨t', rfl⟩ := ry; exact PySem.EqNone.ne_none_int (fin_bl I q (by simp))
    | str j => obtain ⟨t', rfl⟩ := ry; exact PySem.EqNone.ne_none_str (fin_bl I q (by simp))
    | _ => exact absurd (show false = true from hs) Bool.false_ne_true
  | bl i =>
    cases rx
    cases y with
    | non => cases ry; exact PySem.EqNone.ne_bool_none (fin_bl I q (by simp))
    | bl j => cases ry; exact ne_bool (fin_bl I q (congrArg not dec_bl))
    | str j => obtain ⟨t', rfl⟩ := ry; exact PySem.EqMixed.ne_bool_str (fin_bl I q (by simp))
    | _ => exact absurd (show false = true from hs) Bool.false_ne_true
  | int i =>
    obtain ⟨t, rfl⟩ := rx
    cases y with
    | non => cases ry; exact PySem.EqNone.ne_int_none (fin_bl I q (by simp))
    | int j => obtain ⟨t', rfl⟩ := ry; exact ne_int (fin_bl I q (congrArg not dec_int))
    | str j => obtain ⟨t', rfl⟩ := ry; exact PySem.EqMixed.ne_int_str (fin_bl I q (by simp))
    | _ => exact absurd (show false = true from hs) Bool.false_ne_true
  | str i =>
    obtain ⟨t, rfl⟩ := rx
    cases y with
    | non => cases ry; exact PySem.EqNone.ne_str_none (fin_bl I q (by simp))
    | bl j => cases ry; exact PySem.EqMixed.ne_str_bool (fin_bl I q (by simp))
    | int j => obtain ⟨t', rfl⟩ := ry; exact PySem.EqMixed.ne_str_int (fin_bl I q (by simp))
    | str j => obtain ⟨t', rfl⟩ := ry; exact ne_str (fin_bl I q (congrArg not dec_str))
    | _ => exact absurd (show false = true from hs) Bool.false_ne_true
  | byt i =>
    obtain ⟨t, rfl⟩ := rx
    cases y with
    | byt j => obtain ⟨t', rfl⟩ := ry; exact PySem.W.ne_bytes (fin_bl I q (congrArg not dec_byt))
    | _ => exact absurd (show false = true from hs) Bool.false_ne_true
  | _ => cases y <;> exact absurd (show false = true from hs) Bool.false_ne_true
theorem op_lt : OpR X (compareOp .Lt) (rI0 fun i j => .bl (decide (i < j))) := opB0 fun _ _ _ _ _ _ _ q => lt_int q
theorem op_le : OpR X (compareOp .LtE) (rI0 fun i j => .bl (decide (i ≤ j))) := opB0 fun _ _ _ _ _ _ _ q => le_int q
theorem op_gt : OpR X (compareOp .Gt) (rI0 fun i j => .bl (decide (j < i))) := opB0 fun _ _ _ _ _ _ _ q => gt_int q
theorem op_isN : OpR X (compareOp .Is) (fun x y H Q => y = .non ∧ Q (.bl (decide (x = .non))) H) := by
  intro pins s σ H x y v u Q I rx ry h
  obtain ⟨rfl, q⟩ := h
  cases ry
  refine is_none_gen (fin_bl I q ?_)
  cases x <;> first
    | (cases rx; rfl)
    | (obtain ⟨t, rfl⟩ := rx; rfl)
theorem op_notN : OpR X (compareOp .IsNot) (fun x y H Q => y = .non ∧ Q (.bl (!decide (x = .non))) H) := by
  intro pins s σ H x y v u Q I rx ry h
  obtain ⟨rfl, q⟩ := h
  cases ry
  refine isnot_none_gen (fin_bl I q ?_)
  cases x <;> first
    | (cases rx; rfl)
    | (obtain ⟨t, rfl⟩ := rx; rfl)
theorem nomark (b : Expr) {op : CmpOp} (h : op ≠ .In := by decide) (h2 : op ≠ .NotIn := by decide) : behindInMarks op b = false := by
  have e1 : (op == CmpOp.In) = false := by cases op <;> first | rfl | exact absurd rfl h
  have e2 : (op == CmpOp.NotIn) = false := by cases op <;> first | rfl | exact absurd rfl h2
  cases b <;> simp [behindInMarks, e1, e2]
theorem pe_cmpR {op : CmpOp} {r : R2} (ho : OpR X (compareOp op) r) (ha : PE X a ta) (hb : PE X b tb) (hm : behindInMarks op b = false) : PE X (.Compare a [op] [b] pos) (tOp r ta tb) := by
  intro pins s σ H Q I h
  exact wpAny_Compare1 (binT ha hb I h fun v u s2 x y H2 I2 rx ry q => ho pins s2 σ H2 x y v u Q I2 rx ry q) hm
def tTest (t : TE) : TT := fun σ H Q => t σ H fun x H' => ∃ k, x = .bl k ∧ Q k H'
theorem pt_cmpR {op : CmpOp} {r : R2} (ho : OpR X (compareOp op) r) (ha : PE X a ta) (hb : PE X b tb) (hm : behindInMarks op b = false) : PT X (.Compare a [op] [b] pos) (tTest (tOp r ta tb)) := by
  intro pins s σ H Q I h
  refine wpAny_isTrue_Compare1 (thn (ha pins s σ H _ I h) fun v s1 ⟨x, H1, I1, r1, q1⟩ => thn (hb pins s1 σ H1 _ I1 q1) fun u s2 ⟨y, H2, I2, r2, q2⟩ =>
    thn (ho pins s2 σ H2 x y v u _ I2 r1 r2 q2) fun c s3 ⟨z, H3, I3, r3, k, e, q3⟩ => ?_) hm
  subst e
  cases r3
  exact wpAny_truthy_bool ⟨H3, I3, q3⟩
def tChain (r r' : R2) (ta tb tc : TE) : TE := fun σ H Q => ta σ H fun x H1 => tb σ H1 fun y H2 => r x y H2 fun z H3 => ∃ k, z = .bl k ∧
  (if k = true then tc σ H3 fun w' H4 => r' y w' H4 Q else Q (.bl false) H3)
theorem pe_chain {op op' : CmpOp} {r r' : R2} (ho : OpR X (compareOp op) r) (ho' : OpR X (compareOp op') r') (ha : PE X a ta) (hb : PE X b tb) (hc : PE X c tc)
    (hm : lastMarks [op, op'] [b, c] = false := by with_unfolding_all rfl) : PE X (.Compare a [op, op'] [b, c] pos) (tChain r r' ta tb tc) := by
  intro pins s σ H Q I h
  refine Compare_chain (thn (ha pins s σ H _ I h) fun v s1 ⟨x, H1, I1, r1, q1⟩ => chain_link (thn (hb pins s1 σ H1 _ I1 q1) fun u s2 ⟨y, H2, I2, r2, q2⟩ =>
    thn (ho pins s2 σ H2 x y v u _ I2 r1 r2 q2) fun d s3 ⟨z, H3, I3, r3, k, e, q3⟩ => ?_)) hm
  subst e
  cases r3
  refine wpAny_truthy_bool ?_
  cases k with
  | false => exact ite_ff ⟨.bl false, H3, I3, rfl, q3⟩
  | true => exact ite_tt (chain_last (thn (hc pins s3 σ H3 _ I3 q3) fun w' s4 ⟨z', H4, I4, r4, q4⟩ => ho' pins s4 σ H4 y z' u w' Q I4 r2 r4 q4))
def TruV (K : PySem.W.Frag) (x : V) (H : Hp) (k : Bool) : Prop :=
  match x with
  | .non => k = false
  | .bl b => k = b
  | .int i => k = (i != 0)
  | .str y => y.length ≤ sizeLine ∧ k = ((y.length : Int) != 0)
  | .byt y => y.size ≤ sizeLine ∧ k = ((y.size : Int) != 0)
  | .ref p => (∃ xs, SqL K H p xs ∧ k = !xs.isEmpty) ∨ (∃ xs, SqT K H p xs ∧ k = !xs.isEmpty) ∨ ∃ kvs, H p = some (.dK kvs) ∧ k = !kvs.isEmpty
  | _ => False
theorem isEmpty_kv {κ : Type} {kvs : List (κ × V)} {vs : List (κ × Value)} (r : KV kvs vs) : (!vs.isEmpty) = !kvs.isEmpty := by
  cases r <;> rfl
theorem isEmpty_of {xs : List V} {its : List Value} (r : Vals xs its) : (!its.toArray.isEmpty) = !xs.isEmpty := by
  cases r <;> simp
theorem line63 : (sizeLine : Nat) < 2 ^ 63 := by rw [sizeLine_eq]; decide
theorem tru_ok : TruR X (fun x H Q => ∃ k, TruV X.K x H k ∧ Q k H) := by
  intro pins s σ H x v Q I rx h
  obtain ⟨k, e, q⟩ := h
  have hl := line63
  have hs : sizeLine = 16777216 := sizeLine_eq
  cases x with
  | non =>
    cases rx
    have e' : k = false := e
    subst e'
    exact truthy_none ⟨H, I, q⟩
  | bl b =>
    cases rx
    have e' : k = b := e
    subst e'
    exact wpAny_truthy_bool ⟨H, I, q⟩
  | int i =>
    obtain ⟨t, rfl⟩ := rx
    have e' : k = (i != 0) := e
    subst e'
    exact PySem.P.truthy_int ⟨H, I, q⟩
  | str y =>
    obtain ⟨t, rfl⟩ := rx
    obtain ⟨hy, e'⟩ : y.length ≤ sizeLine ∧ k = ((y.length : Int) != 0) := e
    subst e'
    exact PySem.P.truthy_str (by omega) ⟨H, I.tok _, q⟩
  | byt y =>
    obtain ⟨t, rfl⟩ := rx
    obtain ⟨hy, e'⟩ : y.size ≤ sizeLine ∧ k = ((y.size : Int) != 0) := e
    subst e'
    exact PySem.W.truthy_bytes (by omega) ⟨H, I.tok _, q⟩
  | ref p =>
    cases rx
    have e' : (∃ xs, SqL X.K H p xs ∧ k = !xs.isEmpty) ∨ (∃ xs, SqT X.K H p xs ∧ k = !xs.isEmpty) ∨ ∃ kvs, H p = some (.dK kvs) ∧ k = !kvs.isEmpty := e
    rcases e' with ⟨xs, hx, e'⟩ | ⟨xs, hx, e'⟩ | ⟨kvs, hx, e'⟩
    · subst e'
      obtain ⟨its, r, pl, hz⟩ := I.list hx
      have hlen := r.length
      exact wpAny_truthy_list pl.isList (by simp only [List.size_toArray]; omega) ⟨H, I.tok _, by rw [isEmpty_of r]; exact q⟩
    · subst e'
      obtain ⟨its, r, pl, hz⟩ := I.tuple hx
      have hlen := r.length
      exact truthy_tuple pl (by simp only [List.size_toArray]; omega) ⟨H, I.tok _, by rw [isEmpty_of r]; exact q⟩
    · subst e'
      obtain ⟨hz, hS, vs, r, m⟩ : kvs.length ≤ sizeLine ∧ (p == sysModules) = false ∧ ∃ vs, KV kvs vs ∧ s.heap.DictOf (mixKind X.prog X.w) p vs := I.hok p _ hx
      have hlen : kvs.length = vs.length := Paired.length r
      exact wpAny_truthy_dict hS m (by omega) ⟨H, I.tok _, by rw [isEmpty_kv r]; exact q⟩
  | _ => exact (show False from e).elim
theorem pt_truth (ha : PE X a ta) (he : ∀ whole, isTrue a X.env whole = (do let v ← whole; standAt a.pos; holding [v] (truthy v))) :
    PT X a (fun σ H Q => ta σ H fun x H' => ∃ k, TruV X.K x H' k ∧ Q k H') := by
  intro pins s σ H Q I h
  exact isTrue_plain (thn (ha pins s σ H _ I h) fun v s1 ⟨x, H1, I1, r1, q1⟩ => tru_ok pins s1 σ H1 x v Q I1 r1 q1) (he _)
theorem vals1 {x : V} {us : List Value} (r : Vals [x] us) : ∃ u, us = [u] ∧ RelV x u := by
  cases r with
  | cons r1 r2 => cases r2; exact ⟨_, rfl, r1⟩
end
end L2
namespace L2
open PySem PySem.Spec PyProof.Rows
structure ObjM (h : Heap) (x dx C : Addr) (mA : Str → Option Value) : Prop where
  obj : h.get? x = some (PySem.W.instObj C dx)
  ns : h.Ns1 dx mA
  ne : dx ≠ x
theorem lookIn_ns {h : Heap} {dx : Addr} {mA : Str → Option Value} (n : h.Ns1 dx mA) : ∃ od, h.get? dx = some od ∧ ∀ name, PySem.W.lookIn name od = some (mA name) := by
  obtain ⟨o, es, ep, ho, hd, hk, _, hm⟩ := n
  refine ⟨o, ho, fun name => ?_⟩
  have e := hm name
  unfold nsFind findBy at e
  rw [← Array.find?_toList] at e
  unfold PySem.W.lookIn
  rw [hd]
  dsimp only
  split
  · rename_i y q
    rw [q] at e
    exact congrArg some e
  · rename_i q
    rw [q] at e
    have a : es.toList.any (·.refKey) = false := by
      rw [List.any_eq_false]
      intro y hy
      obtain ⟨z, t, hkey⟩ := hk y (Array.mem_toList_iff.mp hy)
      simp [DictEntry.refKey, hkey]
    have a' : ¬ es.toList.any (·.refKey) = true := by rw [a]; exact Bool.false_ne_true
    rw [if_neg a']
    exact congrArg some e
theorem ObjM.look {h : Heap} {x dx C : Addr} {mA : Str → Option Value} (I : ObjM h x dx C mA) : ∃ od, PySem.W.InstAt h x (PySem.W.instObj C dx) C (some od) ∧ ∀ name, PySem.W.lookIn name od = some (mA name) :=
  let ⟨od, ho, hl⟩ := lookIn_ns I.ns
  ⟨od, ⟨I.obj, rfl, rfl, ho⟩, hl⟩
section
variable {prog : Program} {w : World} {A : Around} {E : Value → Shared → Prop} {s : Shared} {K : PySem.W.Frag} {x dx C f : Addr} {mA : Str → Option Value} {name : Str} {v : Value}
theorem get_map {expr : Bool} {Q : Value → Shared → Prop} (X : K.In s.heap) (I : ObjM s.heap x dx C mA) (hg : PySem.W.plainGet K C name = true) (hh : PySem.W.hasDictIn K C = true)
    (ha : PySem.W.findIn K (.ref C) name = some none) (hv : mA name = some v) (hv' : PySem.W.handedIn v = true) (h : Q v { s with toks := s.toks + 1 }) :
    wpAny (model prog w) A (getAttr (.ref x) name expr) Q E s := by
  obtain ⟨od, J, hl⟩ := I.look
  exact PySem.W.get_value X J (PySem.W.plainGet_of hg).1 (PySem.W.findObj_own hh ha rfl (by rw [hl, hv])) hv' h
theorem set_map {ns : List Str} {Q : Unit → Shared → Prop} (X : K.In s.heap) (I : ObjM s.heap x dx C mA)
    (hs : PySem.W.findIn K (.ref C) "__setattr__" = some (some (.builtin "object.__setattr__"))) (hp : PySem.W.plainOver K C = true) (ht : PySem.W.takerIn K C name = some none) (hh : PySem.W.hasDictIn K C = true)
    (hw : PySem.Within mA ns) (hsz : ns.length ≤ sizeLine)
    (h : ∀ h', ObjM h' x dx C (fun y => if y = name then some v else mA y) → Heap.SameBut dx s.heap h' → Q () { s with heap := h', toks := s.toks + 2 }) :
    wpAny (model prog w) A (setAttr (.ref x) name v) Q E s := by
  obtain ⟨od, J, hl⟩ := I.look
  refine PySem.W.set_plain X J hs (PySem.W.osa_open (s := { s with toks := s.toks + 1 }) (r := none) X J hp ht fun b => ?_)
  obtain ⟨cd, hc, hd'⟩ := PySem.W.any_some hh
  have hx : s.heap.get? x = some ⟨.ref C, some dx, .plain, #[]⟩ := I.obj
  refine wpAny_bind (wpAny_pure (wpAny_bind (wpAny_bind (wpAny_loadPart hx (wpAny_bind (PySem.W.Looks.here (s := { s with toks := s.toks + 1 }) (PySem.W.looks_clsIn X hc) ?_))))))
  rw [hd']
  refine wpAny_pure (a := some dx) (wpAny_bind (wpAny_pure (wpAny_bind ?_)))
  refine wpAny_nsSet1 (s := { s with toks := s.toks + 1 }) I.ns fun h' hn2 hs2 => ?_
  obtain ⟨oD, esD, epD, hoD, hdD, hcD⟩ := hn2.count (PySem.Within.cons name v hw)
  refine wpAny_bind (wpAny_lookBehind hoD (by rw [hdD]; exact pastItsLine_dict (Nat.le_trans hcD (by rw [List.length_cons]; omega))) ?_)
  exact wpAny_pure (h _ ⟨(hs2.2 _ (Ne.symm I.ne)).trans I.obj, hn2, I.ne⟩ hs2)
theorem make_map {R : Result → Shared → Prop} {vs : List Value} {kw : List (Str × Value)} (X : K.In s.heap) (hm : PySem.W.makesIn K C = true)
    (hi : PySem.W.findIn K (.ref C) "__init__" = some (some (.ref f))) (hf : PySem.W.typeIn K (.ref f) = some (.type "function"))
    (h : codeAny (model prog w) (A.under (.builtin "type.__call__" ⟨.ref C :: vs, kw⟩)) (.call (.ref f) ⟨.ref (s.heap.objs.size + 1) :: vs, kw⟩) (PySem.W.InitBack (s.heap.objs.size + 1) R)
      { s with heap := (s.heap.push PySem.W.emptyDict).push (PySem.W.instObj C s.heap.objs.size) }) :
    codeAny (model prog w) A (.call (.ref C) ⟨vs, kw⟩) R s := by
  obtain ⟨hh, g, d, t, os⟩ := s
  exact PySem.W.make_core (PySem.W.makes_of X hm) (PySem.W.looks_findIn X hi) (fun self => PySem.W.bind_fn X self hf) (.inl rfl) h
end
def putF (f : Str) (v : V) : List (Str × V) → List (Str × V)
  | [] => [(f, v)]
  | (g, x) :: r => if g = f then (g, v) :: r else (g, x) :: putF f v r
theorem lookup_putF (f g : Str) (v : V) : ∀ fs : List (Str × V), (putF f v fs).lookup g = if g = f then some v else fs.lookup g
  | [] => by
    show List.lookup g [(f, v)] = _
    by_cases h : g = f
    · have hb : (g == f) = true := beq_iff_eq.mpr h
      simp only [List.lookup, hb, if_pos h]
    · have hb : (g == f) = false := beq_eq_false_iff_ne.mpr h
      simp only [List.lookup, hb, if_neg h]
  | (k, x) :: r => by
    have ih := lookup_putF f g v r
    rw [show putF f v ((k, x) :: r) = (if k = f then (k, v) :: r else (k, x) :: putF f v r) from rfl]
    by_cases hk : k = f
    · rw [if_pos hk]
      by_cases h : g = k
      · have hb : (g == k) = true := beq_iff_eq.mpr h
        simp only [List.lookup, hb, if_pos (h.trans hk)]
      · have hb : (g == k) = false := beq_eq_false_iff_ne.mpr h
        simp only [List.lookup, hb, if_neg (fun e : g = f => h (e.trans hk.symm))]
    · rw [if_neg hk]
      by_cases h : g = k
      · have hb : (g == k) = true := beq_iff_eq.mpr h
        simp only [List.lookup, hb, if_neg (fun e : g = f => hk (h.symm.trans e))]
      · have hb : (g == k) = false := beq_eq_false_iff_ne.mpr h
        simp only [List.lookup, hb]
        exact ih
theorem keys_putF (f : Str) (v : V) : ∀ fs : List (Str × V), f ∈ (putF f v fs).map (·.1) ∧ ∀ g, g ∈ fs.map (·.1) → g ∈ (putF f v fs).map (·.1)
  | [] => ⟨by simp [putF], fun g h => by simp at h⟩
  | (k, x) :: r => by
    obtain ⟨i1, i2⟩ := keys_putF f v r
    rw [show putF f v ((k, x) :: r) = (if k = f then (k, v) :: r else (k, x) :: putF f v r) from rfl]
    by_cases hk : k = f
    · rw [if_pos hk]
      subst hk
      exact ⟨by simp, fun g h => by simpa using h⟩
    · rw [if_neg hk]
      refine ⟨?_, fun g h => ?_⟩
      · rw [List.map_cons]
        exact List.mem_cons_of_mem _ i1
      · rw [List.map_cons] at h ⊢
        rcases List.mem_cons.mp h with e | e
        · exact List.mem_cons.mpr (.inl e)
        · exact List.mem_cons_of_mem _ (i2 g e)
theorem length_putF (f : Str) (v : V) : ∀ fs : List (Str × V), (putF f v fs).length ≤ fs.length + 1
  | [] => by simp [putF]
  | (k, x) :: r => by
    have ih := length_putF f v r
    rw [show putF f v ((k, x) :: r) = (if k = f then (k, v) :: r else (k, x) :: putF f v r) from rfl]
    by_cases hk : k = f
    · rw [if_pos hk, List.length_cons, List.length_cons]; omega
    · rw [if_neg hk, List.length_cons, List.length_cons]; omega
theorem RelO.some_of {v : V} {o : Option Value} (r : RelO (some v) o) : ∃ u, o = some u ∧ RelV v u := by
  cases o with
  | none => exact (show False from r).elim
  | some u => exact ⟨u, rfl, r⟩
theorem handed_of {v : V} {u : Value} (r : RelV v u) : PySem.W.handedIn u = true := by
  cases v with
  | non => cases (show u = Value.none from r); rfl
  | bl b => cases (show u = Value.bool b from r); rfl
  | int i => obtain ⟨t, e⟩ := (show ∃ t, u = Value.int i t from r); cases e; rfl
  | str x => obtain ⟨t, e⟩ := (show ∃ t, u = Value.str x t from r); cases e; rfl
  | byt b => obtain ⟨t, e⟩ := (show ∃ t, u = Value.bytes b t from r); cases e; rfl
  | flt b => obtain ⟨t, e⟩ := (show ∃ t, u = Value.float b t from r); cases e; rfl
  | ref a => cases (show u = Value.ref a from r); rfl
  | ty n => cases (show u = Value.type n from r); rfl
section
variable {P : Program} {w : World} {H H' : Hp} {h h' : Heap} {a C dx : Addr} {fs fs' : List (Str × V)}
theorem ins_get (hok : HOk P w H h) (e : H a = some (.ins C dx fs)) : ∃ mA, ObjM h a dx C mA ∧ (∀ f, RelO (fs.lookup f) (mA f)) ∧ PySem.Within mA (fs.map (·.1)) ∧ fs.length ≤ 1000 ∧ H dx = some (.own a) := by
  obtain ⟨d, z, ne, ob, mA, n, r, q⟩ := (show ObjOk P w H h a (.ins C dx fs) from hok a _ e)
  exact ⟨mA, ⟨ob, n, ne⟩, r, q, z, d⟩
end
structure Cls (K : PySem.W.Frag) (C : Addr) : Prop where
  pg : PySem.W.plainGet K C Str.empty = true
  hd : PySem.W.hasDictIn K C = true
  po : PySem.W.plainOver K C = true
  sa : PySem.W.findIn K (.ref C) "__setattr__" = some (some (.builtin "object.__setattr__"))
theorem Cls.get {K : PySem.W.Frag} {C : Addr} (c : Cls K C) (f : Str) : PySem.W.plainGet K C f = true := c.pg
def NoAttr (K : PySem.W.Frag) (C : Addr) (f : Str) : Prop := PySem.W.findIn K (.ref C) f = some none
theorem NoAttr.taker {K : PySem.W.Frag} {C : Addr} {f : Str} (n : NoAttr K C f) : PySem.W.takerIn K C f = some none := by
  unfold PySem.W.takerIn
  rw [show PySem.W.findIn K (.ref C) f = some none from n]
  rfl
section
variable {X : Cx} {pins : List (Addr × Obj)} {σ : St} {H : Hp} {s : Shared} {a C dx : Addr} {fs : List (Str × V)} {f : Str} {v : V} {A : Around} {E : Value → Shared → Prop}
theorem getattr_ok {b : Bool} {Q : Value → Shared → Prop} (I : Inv X pins σ H s) (e : H a = some (.ins C dx fs)) (c : Cls X.K C) (n : NoAttr X.K C f) (l : fs.lookup f = some v)
    (h : ∀ u s', Inv X pins σ H s' → RelV v u → Q u s') : wpAny (model X.prog X.w) A (getAttr (.ref a) f b) Q E s := by
  obtain ⟨mA, O, r, _, _, _⟩ := ins_get I.hok e
  obtain ⟨u, hu, ru⟩ := RelO.some_of (v := v) (o := mA f) (by rw [← l]; exact r f)
  exact get_map I.kIn O (c.get f) c.hd n hu (handed_of ru) (h u _ (I.tok _) ru)
theorem setattr_ok {y : V} {u : Value} {Q : Unit → Shared → Prop} (I : Inv X pins σ H s) (e : H a = some (.ins C dx fs)) (c : Cls X.K C) (n : NoAttr X.K C f) (hl : fs.length < 1000) (ry : RelV y u)
    (h : ∀ s', Inv X pins σ (upd H a (.ins C dx (putF f y fs))) s' → Q () s') : wpAny (model X.prog X.w) A (setAttr (.ref a) f u) Q E s := by
  obtain ⟨mA, O, r, wi, _, ho⟩ := ins_get I.hok e
  have hz : (fs.map (·.1)).length ≤ sizeLine := by rw [List.length_map, sizeLine_eq]; omega
  refine set_map I.kIn O c.sa c.po n.taker c.hd wi hz fun h' O' sb => h _ ?_
  have hd : ∃ o, h'.get? dx = some o := let ⟨o, _, _, e', _⟩ := O'.ns; ⟨o, e'⟩
  refine I.write (x := a) (e := dx) (by rw [e]; exact True.intro) (.inr ho) (fun b q hb z => (sb.2 b hb).trans z) hd ?_
  refine ⟨by rw [upd_ne O.ne]; exact ho, ?_, O.ne, O'.obj, _, O'.ns, fun g => ?_, fun g hg => ?_⟩
  · have := length_putF f y fs; omega
  · show RelO ((putF f y fs).lookup g) (if g = f then some u else mA g)
    rw [lookup_putF]
    by_cases q : g = f
    · rw [if_pos q, if_pos q]; exact ry
    · rw [if_neg q, if_neg q]; exact r g
  · by_cases q : g = f
    · rw [q]; exact (keys_putF f y fs).1
    · refine (keys_putF f y fs).2 g (wi g fun z => hg ?_)
      show (if g = f then some u else mA g) = none
      rw [if_neg q]; exact z
theorem Inv.made (I : Inv X pins σ H s) : Inv X pins σ (upd (upd H s.heap.objs.size (.own (s.heap.objs.size + 1))) (s.heap.objs.size + 1) (.ins C s.heap.objs.size []))
    { s with heap := (s.heap.push PySem.W.emptyDict).push (PySem.W.instObj C s.heap.objs.size) } := by
  have e1 : (s.heap.push PySem.W.emptyDict).get? s.heap.objs.size = some PySem.W.emptyDict := Heap.get?_push_size s.heap rfl
  have e2 : ((s.heap.push PySem.W.emptyDict).push (PySem.W.instObj C s.heap.objs.size)).get? (s.heap.objs.size + 1) = some (PySem.W.instObj C s.heap.objs.size) := by
    have := Heap.get?_push_size (s.heap.push PySem.W.emptyDict) (o := PySem.W.instObj C s.heap.objs.size) rfl
    rwa [Heap.size_push] at this
  have e3 : (s.heap.push PySem.W.emptyDict).Ns s.heap.objs.size (fun _ => none) := ⟨PySem.W.emptyDict, #[], _, e1, rfl, (fun e he => absurd he (by simp)), fun _ => rfl⟩
  have I1 := I.laid (a := s.heap.objs.size) (o := .own (s.heap.objs.size + 1)) (h' := s.heap.push PySem.W.emptyDict) (t' := s.toks) (fun b u q => Heap.get?_push_of_some _ q) (Nat.le_refl _) ⟨_, e1⟩
  refine I1.laid (a := s.heap.objs.size + 1) (o := .ins C s.heap.objs.size []) (t' := s.toks) (fun b u q => Heap.get?_push_of_some _ q) (Nat.le_of_eq (Heap.size_push _ _)) ?_
  have ne : s.heap.objs.size ≠ s.heap.objs.size + 1 := Nat.ne_of_lt (Nat.lt_succ_self _)
  refine ⟨by rw [upd_ne ne, upd_same], Nat.zero_le _, ne, e2, fun _ => none, (Heap.Ns1.of_empty e3).at fun o q => Heap.get?_push_of_some _ q, fun _ => True.intro, fun y hy => absurd rfl hy⟩
theorem attr_of {prog : Program} {w : World} {env : Env} {e : Expr} {f : Str} {pos : Pos} {s : Shared} {Q : Value → Shared → Prop} (hb : attributeBase e f env (eval e env) = eval e env)
    (h : wpAny (model prog w) A (eval e env) (fun o s₁ => wpAny (model prog w) A (getAttr o f true) Q E s₁) E s) : wpAny (model prog w) A (eval (.Attribute e f pos) env) Q E s :=
  Attribute_any_ h (by rw [arm_eval_Attribute, hb])
end
inductive tFldI (K : PySem.W.Frag) (f : Str) (x : V) (H1 : Hp) (Q : VK) : Prop
  | mk : ∀ a C dx fs v, (x = .ref a) → (H1 a = some (.ins C dx fs)) → (Cls K C) → (NoAttr K C f) → (fs.lookup f = some v) → (Q v H1) → tFldI K f x H1 Q
def tFld (K : PySem.W.Frag) (ta : TE) (f : Str) : TE := fun σ H Q => ta σ H fun x H1 => tFldI K f x H1 Q
inductive sFldI (K : PySem.W.Frag) (f : Str) (D : Ends) (σ : St) (y x : V) (H2 : Hp) : Prop
  | mk : ∀ a C dx fs, (x = .ref a) → (H2 a = some (.ins C dx fs)) → (Cls K C) → (NoAttr K C f) → (fs.length < 1000) → (D.nx σ (upd H2 a (.ins C dx (putF f y fs)))) → sFldI K f D σ y x H2
def sFld (K : PySem.W.Frag) (ta tv : TE) (f : Str) : TS := fun D σ H => tv σ H fun y H1 => ta σ H1 fun x H2 => sFldI K f D σ y x H2
def InOp (X : Cx) (op : Operator) (rd : V → V → Hp → VK → Prop) : Prop :=
  ∀ (pins : List (Addr × Obj)) (s : Shared) (σ : St) (H : Hp) (x y : V) (u v : Value) (Q : VK), Inv X pins σ H s → RelV x u → RelV y v → rd x y H Q → wpAny (model X.prog X.w) X.A (inplaceOp op u v) (EP X pins σ Q) X.xe s
inductive sFldAugI (K : PySem.W.Frag) (tv : TE) (rd : V → V → Hp → VK → Prop) (f : Str) (D : Ends) (σ : St) (x : V) (H1 : Hp) : Prop
  | mk : ∀ a C dx fs v, (x = .ref a) → (H1 a = some (.ins C dx fs)) → (Cls K C) → (NoAttr K C f) → (fs.lookup f = some v) → (tv σ H1 fun y H2 => rd v y H2 fun z H3 => ∃ dx' fs', H3 a = some (.ins C dx' fs') ∧ fs'.length < 1000 ∧ D.nx σ (upd H3 a (.ins C dx' (putF f z fs')))) → sFldAugI K tv rd f D σ x H1
def sFldAug (K : PySem.W.Frag) (ta tv : TE) (rd : V → V → Hp → VK → Prop) (f : Str) : TS := fun D σ H => ta σ H fun x H1 => sFldAugI K tv rd f D σ x H1
section
variable {X : Cx} {o e value : Expr} {f : Str} {pos pos' tpos : Pos} {ta tv : TE}
theorem pe_fld (he : PE X e ta) (hb : attributeBase e f X.env (eval e X.env) = eval e X.env) : PE X (.Attribute e f pos) (tFld X.K ta f) := by
  intro pins s σ H Q I h
  refine attr_of hb (thn (he pins s σ H _ I h) fun u s1 ⟨x, H1, I1, rx, a, C, dx, fs, v, ex, ea, c, n, l, q⟩ => ?_)
  subst ex
  obtain rfl : u = Value.ref a := rx
  exact getattr_ok I1 ea c n l fun u' s2 I2 ru => ⟨v, H1, I2, ru, q⟩
theorem ps_fld (ha : PE X o ta) (hv : PE X value tv) (hs : swapsWith value (some (.Attribute o f pos')) pos.line X.env = pure false) : PS X (.Assign [.Attribute o f pos'] value pos) (sFld X.K ta tv f) := by
  intro pins s σ H D I h
  refine plainObj_wpAny_Assign_Attribute (thn (hv pins s σ H _ I h) fun u s1 ⟨y, H1, I1, ry, q⟩ => thn (ha pins s1 σ H1 _ I1 q) fun ov s2 ⟨x, H2, I2, rx, a, C, dx, fs, ex, ea, c, n, l, q2⟩ => ?_) hs
  subst ex
  obtain rfl : ov = Value.ref a := rx
  exact setattr_ok I2 ea c n l ry fun s3 I3 => ⟨σ, _, I3, q2⟩
theorem ps_fldaug {op : Operator} {rd : V → V → Hp → VK → Prop} (ha : PE X o ta) (hv : PE X value tv) (hop : InOp X op rd) : PS X (.AugAssign (.Attribute o f tpos) op value pos) (sFldAug X.K ta tv rd f) := by
  intro pins s σ H D I h
  refine wpAny_AugAssign_AttributeAny (thn (ha pins s σ H _ I h) fun ov s1 ⟨x, H1, I1, rx, a, C, dx, fs, v, ex, ea, c, n, l, q⟩ => ?_)
  subst ex
  obtain rfl : ov = Value.ref a := rx
  refine getattr_ok I1 ea c n l fun u s2 I2 ru => thn (hv pins s2 σ H1 _ I2 q) fun w3 s3 ⟨y, H2, I3, ry, q3⟩ => thn (hop pins s3 σ H2 v y u w3 _ I3 ru ry q3) fun w4 s4 ⟨z, H3, I4, rz, dx', fs', ea', l', q4⟩ => ?_
  exact setattr_ok I4 ea' c n l' rz fun s5 I5 => ⟨σ, _, I5, q4⟩
inductive rAddI (x y : V) (H : Hp) (Q : VK) : Prop
  | mk : ∀ i j, (x = .int i) → (y = .int j) → (Q (.int (i + j)) H) → rAddI x y H Q
def rAdd : V → V → Hp → VK → Prop := fun x y H Q => rAddI x y H Q
inductive rSubI (x y : V) (H : Hp) (Q : VK) : Prop
  | mk : ∀ i j, (x = .int i) → (y = .int j) → (Q (.int (i - j)) H) → rSubI x y H Q
def rSub : V → V → Hp → VK → Prop := fun x y H Q => rSubI x y H Q
theorem in_add : InOp X .Add rAdd := by
  rintro pins s σ H x y u v Q I rx ry ⟨i, j, rfl, rfl, q⟩
  obtain ⟨t, rfl⟩ := (show ∃ t, u = Value.int i t from rx)
  obtain ⟨t', rfl⟩ := (show ∃ t', v = Value.int j t' from ry)
  exact PyProof.Rows.iadd_int ⟨.int (i + j), H, I.tok _, ⟨_, rfl⟩, q⟩
theorem in_sub : InOp X .Sub rSub := by
  rintro pins s σ H x y u v Q I rx ry ⟨i, j, rfl, rfl, q⟩
  obtain ⟨t, rfl⟩ := (show ∃ t, u = Value.int i t from rx)
  obtain ⟨t', rfl⟩ := (show ∃ t', v = Value.int j t' from ry)
  exact PyProof.Rows.isub_int ⟨.int (i - j), H, I.tok _, ⟨_, rfl⟩, q⟩
end
end L2
namespace L2
open PySem PySem.Spec PyProof.Rows
structure Room (k : Nat) (A : Around) : Prop where
  hd : A.handled = none
  dp : A.depth + 3 * k + 5 < recursionLimit
  un : A.units + 16 * k + 200 < cLine
theorem Room.mono {j k : Nat} {A : Around} (r : Room k A) (h : j ≤ k) : Room j A := ⟨r.hd, by have := r.dp; omega, by have := r.un; omega⟩
theorem Room.deeper {k : Nat} {A : Around} (r : Room (k + 1) A) (env : Env) : Room k (A.deeper env) :=
  ⟨r.hd, by have := r.dp; show A.depth + 1 + 3 * k + 5 < _; omega, by have := r.un; show A.units + 3 + 16 * k + 200 < _; omega⟩
theorem make_depth {A : Around} {C : Addr} {us : List Value} {kw : List (Str × Value)} : (A.under (.builtin "type.__call__" ⟨.ref C :: us, kw⟩)).depth = A.depth + 1 := by
  first | rfl | simp [Around.under, Code.weight, Code.isCreation, Code.isGuard, Code.isCaller, Code.frames, Code.isFrame, guardIds]
theorem make_units {A : Around} {C : Addr} {us : List Value} {kw : List (Str × Value)} : (A.under (.builtin "type.__call__" ⟨.ref C :: us, kw⟩)).units = A.units + 1 := by
  first | rfl | simp [Around.under, Code.cUnits, Code.frames, Code.isFrame]
theorem Room.make {k : Nat} {A : Around} (r : Room (k + 1) A) (C : Addr) (us : List Value) (kw : List (Str × Value)) : Room k (A.under (.builtin "type.__call__" ⟨.ref C :: us, kw⟩)) :=
  ⟨r.hd, by have := r.dp; rw [make_depth]; omega, by have := r.un; rw [make_units]; omega⟩
theorem Room.depth {k : Nat} {A : Around} (r : Room k A) : A.depth < recursionLimit := by have := r.dp; omega
theorem Room.units {k : Nat} {A : Around} (r : Room k A) : A.units + 64 < cLine := by have := r.un; omega
def tNil : TA := fun _ H Q => Q [] H
def tCons (ta : TE) (tr : TA) : TA := fun σ H Q => ta σ H fun x H1 => tr σ H1 fun xs H2 => Q (x :: xs) H2
section
variable {X : Cx} {e : Expr} {es : List Expr} {te : TE} {t : TA} {pos : Pos}
theorem pa_nil : PA X [] tNil := fun _ _ _ _ H Q I h => Calls.spliced_nil ⟨[], H, I, .nil, h⟩
theorem pa_cons (ha : PE X e te) (hr : PA X es t) (hs : starEach (e :: es) X.env = (false, eval e X.env) :: starEach es X.env := by rfl) : PA X (e :: es) (tCons te t) := by
  intro pos pins s σ H Q I h
  rw [hs]
  show wpAny _ _ (spliced ((false, eval e X.env) :: backTo pos (starEach es X.env))) _ _ s
  refine Calls.spliced_cons (thn (ha pins s σ H _ I h) fun u s1 ⟨x, H1, I1, r1, q1⟩ => ?_)
  exact thn (hr pos pins s1 σ H1 _ I1 q1) fun us s2 ⟨xs, H2, I2, r2, q2⟩ => ⟨x :: xs, H2, I2, .cons r1 r2, q2⟩
inductive tTupI (xs : List V) (H1 : Hp) (Q : VK) : Prop
  | mk : (xs.length ≤ sizeLine) → (∀ p, H1 p = none → Q (.ref p) (upd H1 p (.tup xs))) → tTupI xs H1 Q
def tTup (t : TA) : TE := fun σ H Q => t σ H fun xs H1 => tTupI xs H1 Q
inductive tLstI (xs : List V) (H1 : Hp) (Q : VK) : Prop
  | mk : (xs.length ≤ sizeLine) → (∀ p, H1 p = none → Q (.ref p) (upd H1 p (.lst xs))) → tLstI xs H1 Q
def tLst (t : TA) : TE := fun σ H Q => t σ H fun xs H1 => tLstI xs H1 Q
theorem pe_tup {x1} (h : PA X es t) : PE X (.Tuple es x1 pos) (tTup t) := by
  intro pins s σ H Q I hq
  refine wpAny_Tuple_spliced (thn (h pos pins s σ H _ I hq) fun us s1 ⟨xs, H1, I1, r, z, q⟩ => ⟨by rw [← r.length]; exact z, ?_⟩)
  have hf : H1 s1.heap.objs.size = none := I1.hok.fresh (Nat.le_refl _)
  refine ⟨.ref s1.heap.objs.size, upd H1 s1.heap.objs.size (.tup xs), I1.laid (t' := s1.toks) (fun b u e => Heap.get?_push_of_some _ e) (Nat.le_refl _) ?_, rfl, q _ hf⟩
  exact ⟨z, us, r, ⟨_, Heap.get?_push_size _ rfl, rfl, _, rfl⟩⟩
theorem pe_lst (h : PA X es t) : PE X (.List es pos) (tLst t) := by
  intro pins s σ H Q I hq
  refine wpAny_List_spliced (thn (h pos pins s σ H _ I hq) fun us s1 ⟨xs, H1, I1, r, z, q⟩ => ⟨by rw [← r.length]; exact z, ?_⟩)
  have hf : H1 s1.heap.objs.size = none := I1.hok.fresh (Nat.le_refl _)
  refine ⟨.ref s1.heap.objs.size, upd H1 s1.heap.objs.size (.lst xs), I1.laid (t' := s1.toks) (fun b u e => Heap.get?_push_of_some _ e) (Nat.le_refl _) ?_, rfl, q _ hf⟩
  exact ⟨z, us, 0, r, Heap.get?_push_size _ rfl⟩
end
abbrev Sp := List V → Hp → VK → XK → Prop
abbrev CXT := List Env → Hp → Shared → XK → Value → Shared → Prop
structure Env0 (P : Program) (w : World) (K : PySem.W.Frag) (mg : Str → Option Value) (base : Heap) (A : Around) (outer : List Env) (s : Shared) (H : Hp) : Prop where
  frames : A.frames = some outer
  mod : Mod K mg base
  bs : ∀ b o, base.get? b = some o → s.heap.get? b = some o ∧ H b = none
  bsz : base.objs.size ≤ s.heap.objs.size
  funs : s.heap.FunFrames base outer
  frf : ∀ b ∈ frs outer, H b = none
  hok : HOk P w H s.heap
  bare : AllBare s.gens
def CE (outer : List Env) (P : Program) (w : World) (H : Hp) (s : Shared) (Q : VK) (u : Value) (s' : Shared) : Prop :=
  ∃ v H', s'.os = s.os ∧ AllBare s'.gens ∧ Un (frs outer) [] H H' s.heap s'.heap ∧ HOk P w H' s'.heap ∧ RelV v u ∧ Q v H'
def CR (CX : CXT) (outer : List Env) (P : Program) (w : World) (H : Hp) (s : Shared) (Q : VK) (E : XK) (r : Result) (s' : Shared) : Prop :=
  match r with
  | .ok (.ret u) => CE outer P w H s Q u s'
  | .ok _ => False
  | .error e => CX outer H s E e s'
structure FnOk (P : Program) (w : World) (K : PySem.W.Frag) (mg : Str → Option Value) (base : Heap) (CX : CXT) (k : Nat) (f : Addr) (fd : FuncData) (ps : List Str) (sp : Sp) : Prop where
  len : ∀ vs H Q E, sp vs H Q E → vs.length = ps.length
  run : ∀ (A : Around) (outer : List Env) (s : Shared) (H : Hp) (args : Args) (us : List Value) (vs : List V) (Q : VK) (E : XK), Room k A → Env0 P w K mg base A outer s H → BindsTo s fd args (ps.zip us) → Vals vs us → sp vs H Q E →
    codeAny (model P w) A (.call (.ref f) args) (CR CX outer P w H s Q E) s
theorem FnOk.imp {P : Program} {w : World} {K : PySem.W.Frag} {mg : Str → Option Value} {base : Heap} {CX : CXT} {k : Nat} {f : Addr} {fd : FuncData} {ps : List Str} {sp sp' : Sp} (F : FnOk P w K mg base CX k f fd ps sp)
    (h : ∀ vs H Q E, sp' vs H Q E → sp vs H Q E) : FnOk P w K mg base CX k f fd ps sp' :=
  ⟨fun vs H Q E q => F.len vs H Q E (h _ _ _ _ q), fun A outer s H args us vs Q E hr he hb hv hs => F.run A outer s H args us vs Q E hr he hb hv (h _ _ _ _ hs)⟩
theorem Env0.make {P : Program} {w : World} {K : PySem.W.Frag} {mg : Str → Option Value} {base : Heap} {A : Around} {outer : List Env} {s : Shared} {H : Hp} (e : Env0 P w K mg base A outer s H) (C : Addr) (us : List Value) (kw : List (Str × Value)) :
    Env0 P w K mg base (A.under (.builtin "type.__call__" ⟨.ref C :: us, kw⟩)) outer s H := ⟨by first | exact e.frames | (simpa [Around.under, Code.envs, Code.isFrame, pushEnvs] using e.frames), e.mod, e.bs, e.bsz, e.funs, e.frf, e.hok, e.bare⟩
section
variable {X : Cx} {pins : List (Addr × Obj)} {σ : St} {H : Hp} {s s' : Shared}
theorem Inv.env0 (I : Inv X pins σ H s) : Env0 X.prog X.w X.K X.mg X.base X.A X.stack s H :=
  ⟨I.ok.frames, I.ok.mod, I.bs, Nat.le_trans I.ok.bsz I.sz, I.stack, I.stkFree, I.hok, I.bare⟩
theorem Inv.after {Q : VK} {u : Value} (I : Inv X pins σ H s) (h : CE X.stack X.prog X.w H s Q u s') : EP X pins σ Q u s' := by
  obtain ⟨v, H', os, bare, un, hok, r, q⟩ := h
  obtain ⟨hh, g, d, t, os'⟩ := s'
  obtain rfl : os' = s.os := os
  exact ⟨v, H', I.call (h' := hh) (g' := g) (d' := d) (t' := t) (ch := []) un hok bare (fun b z => absurd z (by simp)), r, q⟩
end
def tCall (sp : Sp) (dvs : List V) (E : XK) (t : TA) : TE := fun σ H Q => t σ H fun vs H1 => sp (vs ++ dvs) H1 Q E
def tMake (C : Addr) (sp : Sp) (dvs : List V) (E : XK) (t : TA) : TE := fun σ H Q => t σ H fun vs H1 => ∀ x dx, H1 x = none → H1 dx = none → dx ≠ x →
  sp (.ref x :: (vs ++ dvs)) (upd (upd H1 dx (.own x)) x (.ins C dx [])) (fun v H2 => v = .non ∧ Q (.ref x) H2) E
def Binds (K : PySem.W.Frag) (fd : FuncData) (ps : List Str) (ds : List Value) : Prop :=
  ∀ (s : Shared) (us : List Value), K.In s.heap → (us ++ ds).length = ps.length → BindsTo s fd ⟨us, []⟩ (ps.zip (us ++ ds))
theorem Binds.all {K : PySem.W.Frag} {fd : FuncData} {ps : List Str} (h : ∀ us : List Value, us.length = ps.length → bindArgs fd ⟨us, []⟩ = pure (ps.zip us)) : Binds K fd ps [] := fun s us _ hl => by
  rw [List.append_nil] at hl ⊢
  exact .of_eq (h us hl)
def Passes (CX : CXT) (X : Cx) (E : XK) : Prop := ∀ (pins : List (Addr × Obj)) (σ : St) (H : Hp) (s : Shared) (e : Value) (s' : Shared), Inv X pins σ H s → CX X.stack H s E e s' → X.xe e s'
section
variable {X : Cx} {CX : CXT} {k : Nat} {f C : Addr} {fd : FuncData} {ps : List Str} {sp : Sp} {dvs : List V} {ds : List Value} {E : XK} {x m : Str} {p pos apos : Pos} {e o : Expr} {es : List Expr} {ta : TE} {t : TA}
theorem run_fn {pins : List (Addr × Obj)} {σ : St} {H : Hp} {s : Shared} {Q : VK} {us : List Value} {vs : List V} (F : FnOk X.prog X.w X.K X.mg X.base CX k f fd ps sp) (hr : Room k X.A) (hb : Binds X.K fd ps ds) (hd : Vals dvs ds) (hx : Passes CX X E)
    (I : Inv X pins σ H s) (r : Vals vs us) (h : sp (vs ++ dvs) H Q E) : wpAny (model X.prog X.w) X.A (call (.ref f) us) (EP X pins σ Q) X.xe s := by
  have r2 : Vals (vs ++ dvs) (us ++ ds) := r.append hd
  have hl : (us ++ ds).length = ps.length := by rw [← r2.length]; exact F.len _ _ _ _ h
  refine wpAny_call (codeAny_mono (F.run X.A X.stack s H ⟨us, []⟩ (us ++ ds) (vs ++ dvs) Q E hr I.env0 (hb s us I.kIn hl) r2 h) fun r s' hq => ?_)
  cases r with
  | error e => exact hx pins σ H s e s' I hq
  | ok fl =>
    cases fl with
    | ret u => exact I.after hq
    | next => exact False.elim hq
    | brk => exact False.elim hq
    | cont => exact False.elim hq
theorem pe_call (F : FnOk X.prog X.w X.K X.mg X.base CX k f fd ps sp) (hr : Room k X.A) (hg : Gl X x) (hm : X.mg x = some (.ref f)) (hk : PySem.W.keepIn X.K (.ref f) = true) (hb : Binds X.K fd ps ds) (hd : Vals dvs ds) (hx : Passes CX X E)
    (ha : PA X (e :: es) t) (hdb : (x == ("__debug__" : Str)) = false := by decide) (he : starEach (e :: es) X.env = (false, eval e X.env) :: starEach es X.env := by rfl) (hpl : (backTo pos (starEach es X.env)).any (·.1) = false := by rfl) :
    PE X (.Call (.Name x p) (e :: es) [] pos) (tCall sp dvs E t) := by
  intro pins s σ H Q I h
  refine wpAny_Call_Name_kw (ld_glob I hg hm ?_ hdb)
  refine PySem.W.callWith_K (h₀ := X.base) I.ok.mod.kin hk (thn (ha pos pins s σ H _ I h) fun us s1 ⟨vs, H1, I1, r, q⟩ => ⟨I1.kIn, ?_⟩) he hpl
  exact run_fn F hr hb hd hx I1 r q
structure Mk (K : PySem.W.Frag) (C f : Addr) : Prop where
  makes : PySem.W.makesIn K C = true
  init : PySem.W.findIn K (.ref C) "__init__" = some (some (.ref f))
  fn : PySem.W.isFn K (.ref f) = true
  kp : PySem.W.keepIn K (.ref C) = true
theorem run_make {pins : List (Addr × Obj)} {σ : St} {H : Hp} {s : Shared} {Q : VK} {us : List Value} {vs : List V} (M : Mk X.K C f) (F : FnOk X.prog X.w X.K X.mg X.base CX k f fd ps sp) (hr : Room (k + 1) X.A) (hb : Binds X.K fd ps ds) (hd : Vals dvs ds)
    (hx : Passes CX X E) (I : Inv X pins σ H s) (r : Vals vs us)
    (h : ∀ x dx, H x = none → H dx = none → dx ≠ x → sp (.ref x :: (vs ++ dvs)) (upd (upd H dx (.own x)) x (.ins C dx [])) (fun v H2 => v = .non ∧ Q (.ref x) H2) E) :
    wpAny (model X.prog X.w) X.A (call (.ref C) us) (EP X pins σ Q) X.xe s := by
  have hq := h (s.heap.objs.size + 1) s.heap.objs.size (I.hok.fresh (Nat.le_succ _)) (I.hok.fresh (Nat.le_refl _)) (Nat.ne_of_lt (Nat.lt_succ_self _))
  have I2 := Inv.made (C := C) I
  have r2 : Vals (V.ref (s.heap.objs.size + 1) :: (vs ++ dvs)) (Value.ref (s.heap.objs.size + 1) :: (us ++ ds)) := .cons rfl (r.append hd)
  have hl : (Value.ref (s.heap.objs.size + 1) :: us ++ ds).length = ps.length := by
    have e := r2.length
    rw [F.len _ _ _ _ hq] at e
    exact e.symm
  refine wpAny_call (make_map (f := f) I.kIn M.makes M.init (beq_iff_eq.mp M.fn) (codeAny_mono (F.run _ X.stack _ _ ⟨Value.ref (s.heap.objs.size + 1) :: us, []⟩ (Value.ref (s.heap.objs.size + 1) :: (us ++ ds)) _ _ E (hr.make C us [])
    (I2.env0.make C us []) (hb _ (Value.ref (s.heap.objs.size + 1) :: us) I2.kIn hl) r2 hq) fun r s' hq' => ?_))
  cases r with
  | error e => exact hx pins σ _ _ e s' I2 hq'
  | ok fl =>
    cases fl with
    | ret u =>
      obtain ⟨v, H', I3, rv, ev, q3⟩ := I2.after hq'
      subst ev
      exact ⟨rv, ⟨V.ref (s.heap.objs.size + 1), H', I3, rfl, q3⟩⟩
    | next => exact False.elim hq'
    | brk => exact False.elim hq'
    | cont => exact False.elim hq'
theorem pe_make (M : Mk X.K C f) (F : FnOk X.prog X.w X.K X.mg X.base CX k f fd ps sp) (hr : Room (k + 1) X.A) (hg : Gl X x) (hm : X.mg x = some (.ref C)) (hb : Binds X.K fd ps ds) (hd : Vals dvs ds) (hx : Passes CX X E)
    (ha : PA X (e :: es) t) (hdb : (x == ("__debug__" : Str)) = false := by decide) (he : starEach (e :: es) X.env = (false, eval e X.env) :: starEach es X.env := by rfl) (hpl : (backTo pos (starEach es X.env)).any (·.1) = false := by rfl) :
    PE X (.Call (.Name x p) (e :: es) [] pos) (tMake C sp dvs E t) := by
  intro pins s σ H Q I h
  refine wpAny_Call_Name_kw (ld_glob I hg hm ?_ hdb)
  refine PySem.W.callWith_K (h₀ := X.base) I.ok.mod.kin M.kp (thn (ha pos pins s σ H _ I h) fun us s1 ⟨vs, H1, I1, r, q⟩ => ⟨I1.kIn, ?_⟩) he hpl
  exact run_make M F hr hb hd hx I1 r q
theorem pe_make0 (M : Mk X.K C f) (F : FnOk X.prog X.w X.K X.mg X.base CX k f fd ps sp) (hr : Room (k + 1) X.A) (hg : Gl X x) (hm : X.mg x = some (.ref C)) (hb : Binds X.K fd ps ds) (hd : Vals dvs ds) (hx : Passes CX X E)
    (hdb : (x == ("__debug__" : Str)) = false := by decide) : PE X (.Call (.Name x p) [] [] pos) (tMake C sp dvs E tNil) := by
  intro pins s σ H Q I h
  refine wpAny_Call_Name_kw (ld_glob I hg hm ?_ hdb)
  exact PySem.W.callWith_K0 I.kIn M.kp (run_make (us := []) M F hr hb hd hx I .nil h)
end
structure FnScope (N P : List Str) (sc : Scope) : Prop where
  kind : sc.kind = .function
  co : sc.isCoroutine = false
  gen : sc.isGenerator = false
  nd : N.Nodup
  pre : N.take P.length = P
  par : ∀ x ∈ P, sc.names.lookup x = some .local ∨ sc.names.lookup x = some .cell
  nofree : ∀ y ∈ sc.names, y.2 ≠ .free
theorem bindL_out {kindOf : Str → Option NameKind} {x : Str} : ∀ {binds : List (Str × Value)} {m : Str → Option Value}, (∀ v, (x, v) ∉ binds) → bindL kindOf binds m x = m x
  | [], _, _ => rfl
  | (n, v) :: r, m, h => by
    unfold bindL
    rw [bindL_out fun w hw => h w (List.mem_cons_of_mem _ hw)]
    split
    · have : x ≠ n := by rintro rfl; exact h v List.mem_cons_self
      simp [this]
    · rfl
theorem bindC_out {kindOf : Str → Option NameKind} {x : Str} : ∀ {binds : List (Str × Value)} {m : Str → Option Value}, (∀ v, (x, v) ∉ binds) → bindC kindOf binds m x = m x
  | [], _, _ => rfl
  | (n, v) :: r, m, h => by
    unfold bindC
    rw [bindC_out fun w hw => h w (List.mem_cons_of_mem _ hw)]
    split
    · rfl
    · have : x ≠ n := by rintro rfl; exact h v List.mem_cons_self
      simp [this]
theorem bindL_get {kindOf : Str → Option NameKind} {x : Str} {v : Value} : ∀ {P : List Str} {vs : List Value} {i : Nat} {m : Str → Option Value}, P.Nodup → P[i]? = some x → vs[i]? = some v → kindOf x = some .local →
    bindL kindOf (P.zip vs) m x = some v
  | [], _, _, _, _, h, _, _ => by simp at h
  | _ :: _, [], _, _, _, _, h, _ => by simp at h
  | p :: P, w :: vs, 0, m, nd, h1, h2, hk => by
    simp at h1 h2; subst h1; subst h2
    show bindL kindOf ((p, w) :: P.zip vs) m p = _
    unfold bindL
    rw [bindL_out fun v hv => (List.nodup_cons.mp nd).1 (List.of_mem_zip hv).1, if_pos hk]
    simp
  | p :: P, w :: vs, i + 1, m, nd, h1, h2, hk => by
    show bindL kindOf ((p, w) :: P.zip vs) m x = _
    unfold bindL
    exact bindL_get (i := i) (List.nodup_cons.mp nd).2 (by simpa using h1) (by simpa using h2) hk
theorem bindC_get {kindOf : Str → Option NameKind} {x : Str} {v : Value} : ∀ {P : List Str} {vs : List Value} {i : Nat} {m : Str → Option Value}, P.Nodup → P[i]? = some x → vs[i]? = some v → kindOf x ≠ some .local →
    bindC kindOf (P.zip vs) m x = some v
  | [], _, _, _, _, h, _, _ => by simp at h
  | _ :: _, [], _, _, _, _, h, _ => by simp at h
  | p :: P, w :: vs, 0, m, nd, h1, h2, hk => by
    simp at h1 h2; subst h1; subst h2
    show bindC kindOf ((p, w) :: P.zip vs) m p = _
    unfold bindC
    rw [bindC_out fun v hv => (List.nodup_cons.mp nd).1 (List.of_mem_zip hv).1, if_neg hk]
    simp
  | p :: P, w :: vs, i + 1, m, nd, h1, h2, hk => by
    show bindC kindOf ((p, w) :: P.zip vs) m x = _
    unfold bindC
    exact bindC_get (i := i) (List.nodup_cons.mp nd).2 (by simpa using h1) (by simpa using h2) hk
def start (N : List Str) (vs : List V) : St := vs.map some ++ List.replicate (N.length - vs.length) none
def cxOf (CX : CXT) (P : Program) (w : World) (K : PySem.W.Frag) (mg : Str → Option Value) (base : Heap) (N : List Str) (qual : Str) (scope : Scope) (f : Addr) (cd : Value) (A : Around) (outer : List Env) (s : Shared) (H : Hp) (E : XK) : Cx where
  prog := P
  w := w
  K := K
  mg := mg
  base := base
  A := A.deeper (envOfC qual scope s.heap.objs.size f cd)
  N := N
  s_0 := s
  H_0 := H
  env := envOfC qual scope s.heap.objs.size f cd
  outer := outer
  stack := envOfC qual scope s.heap.objs.size f cd :: outer
  ex := []
  calm := true
  fn := fun _ => true
  pn := []
  xe := fun e s' => wpAny (model P w) (A.deeper (envOfC qual scope s.heap.objs.size f cd)) (leaving (envOfC qual scope s.heap.objs.size f cd) e) (fun _ s'' => CX outer H s E e s'') (fun e' s'' => CX outer H s E e' s'') s'
theorem cell_has {sc : Scope} {n : Nat} {x : Str} (h : sc.names.lookup x = some .cell) : ∃ c, (cellsFrom n sc.names []).lookup x = some c := by
  have q := PySem.W.cellsFrom_some sc.names n [] (.inl h)
  exact Option.isSome_iff_exists.mp q
theorem inv_start {CX : CXT} {P : Program} {w : World} {K : PySem.W.Frag} {mg : Str → Option Value} {base : Heap} {N ps : List Str} {qual : Str} {scope : Scope} {f : Addr} {cd : Value} {A : Around} {outer : List Env} {s s1 : Shared} {H : Hp} {E : XK} {us : List Value} {vs : List V}
    (S : FnScope N ps scope) (hd : A.handled = none) (e0 : Env0 P w K mg base A outer s H) (hl : vs.length = ps.length) (r : Vals vs us)
    (x : InCallC s s.heap.objs.size (bindL (envOfC qual scope s.heap.objs.size f cd).kindOf (ps.zip us) fun _ => none) (cellsFrom (s.heap.objs.size + 1) scope.names []) (bindC (envOfC qual scope s.heap.objs.size f cd).kindOf (ps.zip us) fun _ => none) s1) :
    Inv (cxOf CX P w K mg base N qual scope f cd A outer s H E) [] (start N vs) H s1 := by
  have hpl : ps.length ≤ N.length := by have := congrArg List.length S.pre; rw [List.length_take] at this; omega
  obtain ⟨h1, tk, rfl, hk⟩ := x.done
  have noA : ∀ b : Addr, b ∉ (cxOf CX P w K mg base N qual scope f cd A outer s H E).ex := fun b z => absurd (show b ∈ ([] : List Addr) from z) (by simp)
  refine ⟨⟨e0.mod, S.kind, rfl, rfl, Nat.le_refl _, fun y z c h1 h2 => ?_, fun y hy => ?_, fun y c _ h => ?_, fun _ => hd, Around.frames_deeper e0.frames, .inr ⟨rfl, rfl⟩, fun b z => absurd z (noA b), e0.bs, e0.bsz, fun b _ _ => noA b, fun b z => absurd z (noA b), e0.funs, e0.frf⟩,
    rfl, e0.bare, Un.kept hk, ⟨_, x.toInCall.ns, fun i y v h1 h2 h3 => ?_⟩, fun y c h => ⟨_, x.cell y c h⟩, e0.hok.fresh (Nat.le_refl _), fun y c h => ?_, fun p hp => absurd (show p ∈ ([] : List (Addr × Obj)) from hp) (by simp), e0.hok.kept hk, ?_⟩
  · exact name_of_addr x.apart (PySem.mem_of_lookup h1) (PySem.mem_of_lookup h2)
  · have hy : scope.names.lookup y = some .cell ∨ scope.names.lookup y = some .free := hy
    rcases hy with hy | hy
    · exact cell_has hy
    · exact absurd rfl (S.nofree _ (PySem.mem_of_lookup hy))
  · exact Nat.le_of_lt (x.above y c (PySem.mem_of_lookup h))
  · have hi : i < vs.length := by
      unfold start at h2
      by_cases hi : i < vs.length
      · exact hi
      · rw [List.getElem?_append_right (by simpa using hi)] at h2
        rw [List.getElem?_replicate] at h2
        split at h2 <;> cases h2
    have ha : vs[i]? = some v := by
      unfold start at h2
      rw [List.getElem?_append_left (by simpa using hi), List.getElem?_map] at h2
      cases e : vs[i]? with
      | none => rw [e] at h2; cases h2
      | some a => rw [e] at h2; cases h2; rfl
    obtain ⟨u, hu, rv⟩ := r.get ha
    have hp : ps[i]? = some y := by
      rw [← S.pre, List.getElem?_take_of_lt (by omega)]; exact h1
    have ndP : ps.Nodup := by rw [← S.pre]; exact S.nd.sublist (List.take_sublist _ _)
    refine ⟨u, rv, ?_⟩
    rcases S.par y (List.mem_of_getElem? hp) with k | k
    · exact .inl ⟨k, bindL_get ndP hp hu k⟩
    · obtain ⟨c, e⟩ := cell_has (n := s.heap.objs.size + 1) k
      refine .inr ⟨.inl k, c, e, ?_⟩
      have q := x.cell y c e
      rw [bindC_get ndP hp hu (by show scope.names.lookup y ≠ _; rw [k]; decide)] at q
      exact q
  · exact e0.hok.fresh (Nat.le_of_lt (x.above y c (PySem.mem_of_lookup h)))
  · unfold start
    show _ = N.length
    rw [List.length_append, List.length_map, List.length_replicate]
    omega
theorem fn_of {CX : CXT} {P : Program} {w : World} {K : PySem.W.Frag} {mg : Str → Option Value} {base : Heap} {k : Nat} {f : Addr} {name qual : Str} {params : Arguments} {body : List Stmt} {scope : Scope} {dV kV doc pm cdv ct oc : Value} {an od : Option Addr}
    {osl : Array (Option Value)} {N ps : List Str} {sp : Sp} (lk : K.lookup f = some ⟨oc, od, .func (PySem.W.fnOf name qual params body scope dV kV doc pm an cdv ct), osl⟩) (hcd : PySem.W.codeIn K cdv qual = true) (S : FnScope N ps scope)
    (len : ∀ vs H Q E, sp vs H Q E → vs.length = ps.length)
    (hbody : ∀ (A : Around) (outer : List Env) (s : Shared) (H : Hp) (vs : List V) (Q : VK) (E : XK), Room k (A.deeper (envOfC qual scope s.heap.objs.size f cdv)) → sp vs H Q E →
      ∃ t, PSs (cxOf CX P w K mg base N qual scope f cdv A outer s H E) body t ∧ t { nx := fun _ H' => Q .non H', rt := Q } (start N vs) H) :
    FnOk P w K mg base CX (k + 1) f (PySem.W.fnOf name qual params body scope dV kV doc pm an cdv ct) ps sp := by
  refine ⟨len, fun A outer s H args us vs Q E hr e0 hb r hsp => ?_⟩
  have hl := len _ _ _ _ hsp
  have KX : K.In s.heap := e0.mod.kin.keeps fun b o e => (e0.bs b o e).1
  have lim : s.heap.NoLimit := e0.mod.nolimit.keeps fun b o e => (e0.bs b o e).1
  have hkind : ∀ y ∈ ps.zip us, scope.names.lookup y.1 = some .local ∨ (scope.names.lookup y.1 = some .cell ∧ ((cellsFrom (s.heap.objs.size + 1) scope.names []).lookup y.1).isSome = true) := fun ⟨n, v⟩ hy => by
    rcases S.par n (List.of_mem_zip hy).1 with q | q
    · exact .inl q
    · exact .inr ⟨q, PySem.W.cellsFrom_some _ _ _ (.inl q)⟩
  refine codeAny_call_function hr.depth (KX _ _ lk) rfl S.co S.gen rfl (PySem.W.codeRec_of KX hcd) (hb _ _ _ _ ?_)
  refine wpAny_newFunctionEnv_cells S.kind hkind fun env he s1 x => ?_
  subst he
  refine ⟨lim.keeps x.toInCall.keep, codeAny_func ?_⟩
  obtain ⟨t, ht, hq⟩ := hbody A outer s H vs Q E (hr.deeper _) hsp
  have I : Inv (cxOf CX P w K mg base N qual scope f cdv A outer s H E) [] (start N vs) H s1 := inv_start S hr.hd e0 hl r x
  refine wpAny_mono (ht [] s1 (start N vs) H _ I hq) (fun fl s' hs => ?_) fun e s' hs => hs
  have fin : ∀ {σ' : St} {H' : Hp} {v : V} {u : Value}, Inv (cxOf CX P w K mg base N qual scope f cdv A outer s H E) [] σ' H' s' → RelV v u → Q v H' → CE outer P w H s Q u s' :=
    fun {σ' H' v u} J rv q => ⟨v, H', J.os, J.bare, J.base, J.hok, rv, q⟩
  cases fl with
  | ret u =>
    obtain ⟨v, σ', H', J, rv, q⟩ := hs
    exact fin J rv q
  | next =>
    obtain ⟨σ', H', J, q⟩ := hs
    exact fin (v := V.non) (u := Value.none) J rfl q
  | brk =>
    obtain ⟨_, _, _, q⟩ := hs
    exact False.elim q
  | cont =>
    obtain ⟨_, _, _, q⟩ := hs
    exact False.elim q
end L2
namespace L2
open PySem PySem.Spec PyProof.Rows
section
variable {X : Cx} {x : Str} {p pos : Pos} {e : Expr} {es : List Expr} {t : TA} {id T : String} {r : List V → Hp → VK → Prop}
def tCB (r : List V → Hp → VK → Prop) (t : TA) : TE := fun σ H Q => t σ H fun vs H1 => r vs H1 Q
theorem pe_callB (hc : CallR X (.builtin id) r) (hg : Gl X x) (hm : X.mg x = none) (hv : bootBuiltins x = some (.builtin id)) (ha : PA X (e :: es) t) (hn : x ≠ "__name__" := by decide) (hdb : (x == ("__debug__" : Str)) = false := by decide)
    (he : starEach (e :: es) X.env = (false, eval e X.env) :: starEach es X.env := by rfl) (hpl : (backTo pos (starEach es X.env)).any (·.1) = false := by rfl) : PE X (.Call (.Name x p) (e :: es) [] pos) (tCB r t) := by
  intro pins s σ H Q I h
  refine wpAny_Call_Name_kw (ld_blt I hg hm hv ?_ hn hdb)
  exact PyProof.Rows.callWith_builtin1 (thn (ha pos pins s σ H _ I h) fun us s1 ⟨vs, H1, I1, r1, q1⟩ => hc pins s1 σ H1 vs us Q I1 r1 q1) he hpl
theorem pe_callTy (hc : CallR X (.type T) r) (hg : Gl X x) (hm : X.mg x = none) (hv : bootBuiltins x = some (.type T)) (ha : PA X (e :: es) t) (hn : x ≠ "__name__" := by decide) (hdb : (x == ("__debug__" : Str)) = false := by decide)
    (he : starEach (e :: es) X.env = (false, eval e X.env) :: starEach es X.env := by rfl) (hpl : (backTo pos (starEach es X.env)).any (·.1) = false := by rfl) : PE X (.Call (.Name x p) (e :: es) [] pos) (tCB r t) := by
  intro pins s σ H Q I h
  refine wpAny_Call_Name_kw (ld_blt I hg hm hv ?_ hn hdb)
  exact PyProof.Rows.callWith_type1 (thn (ha pos pins s σ H _ I h) fun us s1 ⟨vs, H1, I1, r1, q1⟩ => hc pins s1 σ H1 vs us Q I1 r1 q1) he hpl
end
end L2
namespace HT
open PySem PyProof.Rows
section
variable {prog : Program} {w : World} {A : Around} {E : Value → Shared → Prop} {s : Shared}
def sIx (n d : Nat) : Option Int → Nat
  | none => d
  | some v => if v < 0 then (v + (n : Int)).toNat else min v.toNat n
theorem sIx_nat (n d k : Nat) : sIx n d (some (k : Int)) = min k n := by
  show (if (k : Int) < 0 then ((k : Int) + (n : Int)).toNat else min (k : Int).toNat n) = min k n
  rw [if_neg (by omega), Int.toNat_natCast]
end
end HT
namespace L2
open PySem PySem.Spec PyProof.Rows
abbrev TO := St → Hp → (Option Int → Hp → Prop) → Prop
def PO (X : Cx) (e : Option Expr) (t : TO) : Prop :=
  ∀ (pins : List (Addr × Obj)) (s : Shared) (σ : St) (H : Hp) (Q : Option Int → Hp → Prop), Inv X pins σ H s → t σ H Q →
    wpAny (model X.prog X.w) X.A (evalPart e X.env) (fun u s' => ∃ o H', Inv X pins σ H' s' ∧ IsPart u o ∧ Q o H') X.xe s
def tNoPart : TO := fun _ H Q => Q none H
inductive tPartI (x : V) (H1 : Hp) (Q : Option Int → Hp → Prop) : Prop
  | mk : ∀ i, (x = .int i) → (Q (some i) H1) → tPartI x H1 Q
def tPart (t : TE) : TO := fun σ H Q => t σ H fun x H1 => tPartI x H1 Q
section
variable {X : Cx} {e : Expr} {te : TE} {lo hi : Option Expr} {tl th : TO} {pos p2 : Pos}
theorem po_none : PO X none tNoPart := by
  intro pins s σ H Q I h
  rw [evalPart_none]
  exact wpAny_pure ⟨none, H, I, .none, h⟩
theorem po_some (h : PE X e te) : PO X (some e) (tPart te) := by
  intro pins s σ H Q I hw
  rw [evalPart_some]
  refine thn (h pins s σ H _ I hw) fun u s1 ⟨x, H1, I1, r1, q1⟩ => ?_
  obtain ⟨i, rfl, q⟩ := q1
  obtain ⟨t, rfl⟩ := r1
  exact ⟨some i, H1, I1, .int i t, q⟩
def SlR (X : Cx) (r : V → Option Int → Option Int → Hp → VK → Prop) : Prop :=
  ∀ (pins : List (Addr × Obj)) (s : Shared) (σ : St) (H : Hp) (x : V) (v vl vu : Value) (lo hi : Option Int) (sl : Addr) (Q : VK), Inv X pins σ H s → RelV x v → s.heap.IsSliceOf sl vl vu .none → IsPart vl lo → IsPart vu hi → r x lo hi H Q →
    ∃ T id, typeLookup (.type T) "__getitem__" = pure (some (.builtin id)) ∧ s.TypeIs v T ∧ wpAny (model X.prog X.w) X.A (getItem v (.ref sl)) (EP X pins σ Q) X.xe s
def tSl (r : V → Option Int → Option Int → Hp → VK → Prop) (te : TE) (tl th : TO) : TE := fun σ H Q => te σ H fun x H1 => tl σ H1 fun l H2 => th σ H2 fun u H3 => r x l u H3 Q
theorem pe_slice {r : V → Option Int → Option Int → Hp → VK → Prop} (hr : SlR X r) (he : PE X e te) (hl : PO X lo tl) (hu : PO X hi th) : PE X (.Subscript e (.Slice lo hi none p2) pos) (tSl r te tl th) := by
  intro pins s σ H Q I h
  refine Subscript_ (thn (he pins s σ H _ I h) fun v s1 ⟨x, H1, I1, r1, q1⟩ => ?_)
  refine wpAny_Slice (thn (hl pins s1 σ H1 _ I1 q1) fun vl s2 ⟨l, H2, I2, pl, q2⟩ => thn (hu pins s2 σ H2 _ I2 q2) fun vu s3 ⟨u, H3, I3, pu, q3⟩ => ?_)
  rw [evalPart_none]
  refine wpAny_pure ?_
  have I4 : Inv X pins σ H3 { s3 with heap := s3.heap.push { cls := .type "slice", data := .fields #[vl, vu, .none] } } := I3.kept (t' := s3.toks) fun b ob q => Heap.get?_push_of_some _ q
  obtain ⟨T, id, hT, ht, hg⟩ := hr pins { s3 with heap := s3.heap.push { cls := .type "slice", data := .fields #[vl, vu, .none] } } σ H3 x v vl vu l u s3.heap.objs.size Q I4 r1 (Heap.IsSliceOf.new ..) pl pu q3
  show wpAny (model X.prog X.w) X.A (subscriptTail e (.Slice lo hi none p2) v (.ref s3.heap.objs.size)) (EP X pins σ Q) X.xe { s3 with heap := s3.heap.push { cls := .type "slice", data := .fields #[vl, vu, .none] } }
  exact tail_any (ops := [.ref s3.heap.objs.size, v]) ht hT hg (by with_unfolding_all rfl)
def cutV (xs : List V) (lo hi : Option Int) : List V := (xs.drop (HT.sIx xs.length 0 lo)).take (HT.sIx xs.length xs.length hi - HT.sIx xs.length 0 lo)
theorem cutV_length (xs : List V) (lo hi : Option Int) : (cutV xs lo hi).length ≤ xs.length := by
  unfold cutV
  rw [List.length_take, List.length_drop]
  omega
end
end L2
namespace L2
open PySem PySem.Spec PyProof.Rows
def ixN (n : Nat) (i : Int) : Option Nat := if 0 ≤ i then (if i < n then some i.toNat else none) else if -(n : Int) ≤ i then some (i + n).toNat else none
def atI {α : Type} (xs : List α) (i : Int) : Option α := (ixN xs.length i).bind fun j => xs[j]?
theorem ixN_seq {n : Nat} {i : Int} {j : Nat} (h : ixN n i = some j) : seqIndex? i n = some j ∧ j < n ∧ -(n : Int) ≤ i ∧ i < n := by
  unfold ixN at h
  by_cases h0 : 0 ≤ i
  · rw [if_pos h0] at h
    by_cases h1 : i < n
    · rw [if_pos h1] at h
      have e : i.toNat = j := Option.some.inj h
      exact ⟨by rw [seqIndex_of h0 h1, e], by omega, by omega, h1⟩
    · rw [if_neg h1] at h; cases h
  · rw [if_neg h0] at h
    by_cases h1 : -(n : Int) ≤ i
    · rw [if_pos h1] at h
      have e : (i + n).toNat = j := Option.some.inj h
      exact ⟨by rw [seqIndex_neg (by omega) h1, e], by omega, h1, by omega⟩
    · rw [if_neg h1] at h; cases h
theorem atI_get {α : Type} {xs : List α} {i : Int} {v : α} (h : atI xs i = some v) : ∃ j, seqIndex? i xs.length = some j ∧ xs[j]? = some v ∧ j < xs.length ∧ -(xs.length : Int) ≤ i ∧ i < xs.length := by
  unfold atI at h
  cases e : ixN xs.length i with
  | none => rw [e] at h; cases h
  | some j =>
    rw [e] at h
    obtain ⟨h1, h2, h3, h4⟩ := ixN_seq e
    exact ⟨j, h1, h, h2, h3, h4⟩
theorem atI_nat {α : Type} {xs : List α} {j : Nat} {v : α} (h : xs[j]? = some v) : atI xs (j : Int) = some v := by
  have hj : j < xs.length := (List.getElem?_eq_some_iff.mp h).1
  have e : ixN xs.length (j : Int) = some j := by
    unfold ixN
    rw [if_pos (by omega), if_pos (by omega)]; simp
  unfold atI; rw [e]; exact h
def PlainIx (b : Expr) : Prop := ∀ o i, subscripted b false o i = operate [o, i] (getItem o i)
def IxR (X : Cx) (r : R2) : Prop :=
  ∀ (value slice : Expr) (pins : List (Addr × Obj)) (s : Shared) (σ : St) (H : Hp) (x y : V) (v u : Value) (Q : VK), Inv X pins σ H s → RelV x v → RelV y u → r x y H Q →
    subscripted slice false v u = operate [v, u] (getItem v u) → wpAny (model X.prog X.w) X.A (subscriptTail value slice v u) (EP X pins σ Q) X.xe s
def MtR (X : Cx) (id : String) (r : V → List V → Hp → VK → Prop) : Prop :=
  ∀ (pins : List (Addr × Obj)) (s : Shared) (σ : St) (H : Hp) (x : V) (xs : List V) (v : Value) (us : List Value) (Q : VK), Inv X pins σ H s → RelV x v → Vals xs us → r x xs H Q →
    wpAny (model X.prog X.w) X.A (call (.builtin id) (v :: us)) (EP X pins σ Q) X.xe s
inductive rLenQ (K : PySem.W.Frag) (xs : List V) (H : Hp) (Q : VK) : Prop
  | mk : ∀ p ys, (xs = [.ref p]) → (SqL K H p ys ∨ SqT K H p ys) → (Q (.int ys.length) H) → rLenQ K xs H Q
section
variable {X : Cx} {a b : Expr} {ta tb : TE} {pos : Pos}
theorem pe_ix {r : R2} (hr : IxR X r) (ha : PE X a ta) (hb : PE X b tb) (hs : PlainIx b) : PE X (.Subscript a b pos) (tOp r ta tb) := by
  intro pins s σ H Q I h
  exact Subscript_ (binT ha hb I h fun v u s2 x y H2 I2 rx ry q => hr a b pins s2 σ H2 x y v u Q I2 rx ry q (hs _ _))
inductive rIxLI (K : PySem.W.Frag) (x y : V) (H : Hp) (Q : VK) : Prop
  | mk : ∀ p xs i v, (x = .ref p) → (y = .int i) → (SqL K H p xs) → (atI xs i = some v) → (Q v H) → rIxLI K x y H Q
def rIxL (K : PySem.W.Frag) : R2 := fun x y H Q => rIxLI K x y H Q
theorem ix_list : IxR X (rIxL X.K) := by
  intro value slice pins s σ H x y v u Q I rx ry h hs
  obtain ⟨p, xs, i, z, rfl, rfl, hq, he, q⟩ := h
  cases rx
  obtain ⟨t, rfl⟩ := ry
  obtain ⟨its, r, pl, hz⟩ := I.list hq
  obtain ⟨j, h1, h2, h3, h4, h5⟩ := atI_get he
  obtain ⟨w, ew, rw'⟩ := r.get h2
  have hl := r.length
  have hn := line63
  have fin : EP X pins σ Q w s := ⟨z, H, I, rw', q⟩
  by_cases h0 : 0 ≤ i
  · have hj : i.toNat = j := by
      rw [seqIndex_of h0 h5] at h1
      exact Option.some.inj h1
    exact item_listR pl.isList h0 (by omega) (by rw [hj]; simpa using ew) fin hs
  · have hj : (i + (its.toArray.size : Int)).toNat = j := by
      rw [seqIndex_neg (by omega) h4] at h1
      rw [List.size_toArray, ← hl]
      exact Option.some.inj h1
    exact subscriptTail_builtinR (x := w) pl.isList.typeIs slot_list_getitem.lookup
      (wpAny_getItem_list_neg (Q := fun r s' => r = w ∧ EP X pins σ Q r s') pl.isList (by omega) (by rw [List.size_toArray] <;> omega) (by omega) (by rw [hj]; simpa using ew) ⟨rfl, fin⟩) hs
theorem mapSeq_set (its : List Value) (n j : Nat) (u : Value) : Obj.mapSeq (·.setIfInBounds j u) { cls := .type "list", data := .seq its.toArray n } = { cls := .type "list", data := .seq (its.set j u).toArray n } := by
  simp [Obj.mapSeq]
theorem Inv.lst {pins : List (Addr × Obj)} {σ : St} {H : Hp} {s : Shared} {p : Addr} {xs : List V} (I : Inv X pins σ H s) (h : H p = some (.lst xs)) :
    ∃ (its : List Value) (n : Nat), Vals xs its ∧ s.heap.get? p = some { cls := .type "list", data := .seq its.toArray n } ∧ xs.length ≤ sizeLine := by
  obtain ⟨z, its, n, r, e⟩ := I.hok p _ h
  exact ⟨its, n, r, e, z⟩
theorem Inv.lstUpd {pins : List (Addr × Obj)} {σ : St} {H : Hp} {s : Shared} {p : Addr} {xs ys : List V} {its its' : List Value} {n n' : Nat} {f : Obj → Obj} (I : Inv X pins σ H s) (h : H p = some (.lst xs))
    (ho : s.heap.get? p = some { cls := .type "list", data := .seq its.toArray n }) (hf : f { cls := .type "list", data := .seq its.toArray n } = { cls := .type "list", data := .seq its'.toArray n' }) (r : Vals ys its') (hz : ys.length ≤ sizeLine) (t : Nat) :
    Inv X pins σ (upd H p (.lst ys)) { s with heap := s.heap.update p f, toks := t } := by
  have e : (s.heap.update p f).get? p = some { cls := .type "list", data := .seq its'.toArray n' } := by
    rw [Heap.get?_update_self f ho (by rw [hf] <;> rfl), hf]
  refine I.write (x := p) (e := p) (by rw [h]; trivial) (.inl rfl) (fun b u hb q => (Heap.get?_update_other _ _ (Ne.symm hb)).trans q) ⟨_, e⟩ ?_
  exact ⟨hz, its', n', r, e⟩
inductive rSetLI (o i v : V) (H : Hp) (Q : Hp → Prop) : Prop
  | mk : ∀ p xs k j, (o = .ref p) → (i = .int k) → (H p = some (.lst xs)) → (ixN xs.length k = some j) → (Q (upd H p (.lst (xs.set j v)))) → rSetLI o i v H Q
def rSetL : V → V → V → Hp → (Hp → Prop) → Prop := fun o i v H Q => rSetLI o i v H Q
theorem set_list : PSet X rSetL := by
  intro pins s σ H o i v ov iv u Q I ro ri rv h
  obtain ⟨p, xs, k, j, rfl, rfl, hp, hj, q⟩ := h
  cases ro
  obtain ⟨t, rfl⟩ := ri
  obtain ⟨its, n, r, ho, hz⟩ := I.lst hp
  obtain ⟨h1, h2, h3, h4⟩ := ixN_seq hj
  have hl := r.length
  have hn := line63
  have I' : Inv X pins σ (upd H p (.lst (xs.set j v))) { s with heap := s.heap.update p (Obj.mapSeq (·.setIfInBounds j u)) } :=
    I.lstUpd hp ho (mapSeq_set its n j u) (r.set rv j) (by rw [List.length_set]; exact hz) s.toks
  by_cases h0 : 0 ≤ k
  · have hk : k.toNat = j := by
      rw [seqIndex_of h0 h4] at h1
      exact Option.some.inj h1
    exact PySem.W.ki_setAt ho h0 (by omega) (by rw [List.size_toArray, ← hl]; exact h4) (by rw [hk]; exact ⟨_, I', q⟩)
  · have hk : (k + (its.toArray.size : Int)).toNat = j := by
      rw [seqIndex_neg (by omega) h3] at h1
      rw [List.size_toArray, ← hl]
      exact Option.some.inj h1
    exact PySem.W.ki_setBack ho (by omega) (by rw [List.size_toArray, ← hl]; exact h3) (by omega) (by rw [hk]; exact ⟨_, I', q⟩)
theorem slice_bounds (lo hi : Option Int) (n : Nat) : (sliceBounds lo hi none n).1 = ((HT.sIx n 0 lo : Nat) : Int) ∧ (sliceBounds lo hi none n).2.1 = ((HT.sIx n n hi : Nat) : Int) ∧ (sliceBounds lo hi none n).2.2 = 1 := by
  refine ⟨?_, ?_, rfl⟩
  · cases lo with
    | none => simp [sliceBounds, HT.sIx]
    | some i =>
      simp only [sliceBounds, HT.sIx, Option.getD_none, show (1 : Int) > 0 by decide, if_true]
      by_cases h : i < 0
      · simp only [h, if_true] <;> omega
      · simp only [h, if_false] <;> omega
  · cases hi with
    | none => simp [sliceBounds, HT.sIx]
    | some i =>
      simp only [sliceBounds, HT.sIx, Option.getD_none, show (1 : Int) > 0 by decide, if_true]
      by_cases h : i < 0
      · simp only [h, if_true] <;> omega
      · simp only [h, if_false] <;> omega
theorem slicePick_cut (its : List Value) (lo hi : Option Int) : slicePick its.toArray lo hi none = ((its.drop (HT.sIx its.length 0 lo)).take (HT.sIx its.length its.length hi - HT.sIx its.length 0 lo)).toArray := by
  obtain ⟨h1, h2, h3⟩ := slice_bounds lo hi its.toArray.size
  unfold slicePick
  rw [h1, h2, h3]
  simp only [sliceRange_one, pick_run, List.size_toArray] <;> rfl
inductive rSlLI (K : PySem.W.Frag) (x : V) (lo hi : Option Int) (H : Hp) (Q : VK) : Prop
  | mk : ∀ a xs, (x = .ref a) → (SqL K H a xs) → (∀ p, H p = none → Q (.ref p) (upd H p (.lst (cutV xs lo hi)))) → rSlLI K x lo hi H Q
def rSlL (K : PySem.W.Frag) : V → Option Int → Option Int → Hp → VK → Prop := fun x lo hi H Q => rSlLI K x lo hi H Q
theorem sl_list : SlR X (rSlL X.K) := by
  intro pins s σ H x v vl vu lo hi sl Q I rx hs pl pu h
  obtain ⟨a, xs, rfl, hx, q⟩ := h
  cases rx
  obtain ⟨its, r, ht, hz⟩ := I.list hx
  have hlen := r.length
  refine ⟨"list", _, slot_list_getitem.lookup, ht.isList.typeIs, ?_⟩
  refine wpAny_getItem_list_slice ht.isList hs pl pu .none (by simp) ?_ (by rw [List.size_toArray] <;> omega)
  rw [slicePick_cut, ← hlen]
  refine ⟨.ref s.heap.objs.size, _, I.laid (t' := s.toks) (o := .lst (cutV xs lo hi)) (fun b ob q => Heap.get?_push_of_some _ q) (Nat.le_refl _) ?_, rfl, q _ (I.hok.fresh (Nat.le_refl _))⟩
  exact ⟨Nat.le_trans (cutV_length xs lo hi) hz, _, 0, (r.drop (HT.sIx xs.length 0 lo)).take (HT.sIx xs.length xs.length hi - HT.sIx xs.length 0 lo), Heap.get?_push_size _ rfl⟩
def flatV : V → Bool
  | .non => true
  | .bl _ => true
  | .int _ => true
  | .str _ => true
  | _ => false
def eqV : V → V → Bool
  | .non, .non => true
  | .bl a, .bl b => a == b
  | .bl a, .int b => (if a then 1 else 0) == b
  | .int a, .bl b => a == (if b then 1 else 0)
  | .int a, .int b => a == b
  | .str a, .str b => a == b
  | _, _ => false
theorem eqAt_V {A : Around} {s : Shared} {y x : V} {u v : Value} (ry : RelV y u) (rx : RelV x v) (fy : flatV y = true) (fx : flatV x = true) : SeqAt.EqAt A s u v (eqV y x) := by
  cases y with
  | non =>
    cases ry
    cases x with
    | non => cases rx; exact SeqAt.EqAt.same _
    | bl b => cases rx; exact SeqAt.EqAt.none_bool b
    | int b => obtain ⟨t, rfl⟩ := rx; exact SeqAt.EqAt.none_int b t
    | str b => obtain ⟨t, rfl⟩ := rx; exact SeqAt.EqAt.none_str b t
    | _ => exact absurd (show false = true from fx) Bool.false_ne_true
  | bl a =>
    cases ry
    cases x with
    | non => cases rx; exact SeqAt.EqAt.bool_none a
    | bl b => cases rx; exact SeqAt.EqAt.bool_bool a b
    | int b => obtain ⟨t, rfl⟩ := rx; exact SeqAt.EqAt.bool_int a b t
    | str b => obtain ⟨t, rfl⟩ := rx; exact SeqAt.EqAt.bool_str a b t
    | _ => exact absurd (show false = true from fx) Bool.false_ne_true
  | int a =>
    obtain ⟨t', rfl⟩ := ry
    cases x with
    | non => cases rx; exact SeqAt.EqAt.int_none a t'
    | bl b => cases rx; exact SeqAt.EqAt.int_bool a t' b
    | int b => obtain ⟨t, rfl⟩ := rx; exact SeqAt.EqAt.int_int a t' b t
    | str b => obtain ⟨t, rfl⟩ := rx; exact SeqAt.EqAt.int_str a t' b t
    | _ => exact absurd (show false = true from fx) Bool.false_ne_true
  | str a =>
    obtain ⟨t', rfl⟩ := ry
    cases x with
    | non => cases rx; exact SeqAt.EqAt.str_none a t'
    | bl b => cases rx; exact SeqAt.EqAt.str_bool a t' b
    | int b => obtain ⟨t, rfl⟩ := rx; exact SeqAt.EqAt.str_int a t' b t
    | str b => obtain ⟨t, rfl⟩ := rx; exact SeqAt.EqAt.str_str a t' b t
    | _ => exact absurd (show false = true from fx) Bool.false_ne_true
  | _ => exact absurd (show false = true from fy) Bool.false_ne_true
def eqU (x : V) (u : Value) : Bool := match u with
  | .none => eqV .non x
  | .bool b => eqV (.bl b) x
  | .int i _ => eqV (.int i) x
  | .str z _ => eqV (.str z) x
  | _ => false
theorem eqU_of {x y : V} {u : Value} (r : RelV y u) (f : flatV y = true) : eqU x u = eqV y x := by
  cases y with
  | non => cases r; rfl
  | bl b => cases r; rfl
  | int i => obtain ⟨t, rfl⟩ := r; rfl
  | str z => obtain ⟨t, rfl⟩ := r; rfl
  | _ => exact absurd (show false = true from f) Bool.false_ne_true
theorem any_eqU {x : V} : ∀ {xs : List V} {us : List Value}, Vals xs us → xs.all flatV = true → us.any (eqU x) = xs.any fun y => eqV y x
  | _, _, .nil, _ => rfl
  | y :: xs, u :: us, .cons r t, f => by
    rw [List.all_cons, Bool.and_eq_true] at f
    rw [List.any_cons, List.any_cons, eqU_of r f.1, any_eqU t f.2]
theorem mem_eqAt {A : Around} {s : Shared} {x : V} {v : Value} (rx : RelV x v) (fx : flatV x = true) : ∀ {xs : List V} {us : List Value}, Vals xs us → xs.all flatV = true → ∀ u ∈ us, SeqAt.EqAt A s u v (eqU x u)
  | _, _, .nil, _ => fun u hu => by cases hu
  | y :: xs, u :: us, .cons r t, f => fun u' hu => by
    rw [List.all_cons, Bool.and_eq_true] at f
    rcases List.mem_cons.mp hu with rfl | hu
    · rw [eqU_of r f.1]; exact eqAt_V r rx f.1 fx
    · exact mem_eqAt rx fx t f.2 u' hu
def inV (x : V) (xs : List V) : Bool := xs.any fun y => eqV y x
inductive rInI (K : PySem.W.Frag) (neg : Bool) (x y : V) (H : Hp) (Q : VK) : Prop
  | mk : ∀ p xs, (y = .ref p) → ((SqL K H p xs ∨ SqT K H p xs)) → (flatV x = true) → (xs.all flatV = true) → (Q (.bl (if neg then !inV x xs else inV x xs)) H) → rInI K neg x y H Q
def rIn (K : PySem.W.Frag) (neg : Bool) : R2 := fun x y H Q => rInI K neg x y H Q
theorem op_in_seq : OpR X (compareOp .In) (rIn X.K false) := by
  intro pins s σ H x y v u Q I rx ry h
  obtain ⟨p, xs, rfl, hq, fx, fs, q⟩ := h
  cases ry
  rcases hq with hq | hq
  · obtain ⟨its, r, pl, hz⟩ := I.list hq
    refine SeqAt.in_listAt (eqU x) pl.isList (fun w hw => mem_eqAt rx fx r fs w (by simpa using hw)) ⟨.bl _, H, I, rfl, ?_⟩
    rw [show its.toArray.any (eqU x) = its.any (eqU x) by simp, any_eqU r fs]
    exact q
  · obtain ⟨its, r, pl, hz⟩ := I.tuple hq
    refine SeqAt.in_tupleAt (eqU x) pl (fun w hw => mem_eqAt rx fx r fs w (by simpa using hw)) ⟨.bl _, H, I, rfl, ?_⟩
    rw [show its.toArray.any (eqU x) = its.any (eqU x) by simp, any_eqU r fs]
    exact q
theorem op_notIn_seq : OpR X (compareOp .NotIn) (rIn X.K true) := by
  intro pins s σ H x y v u Q I rx ry h
  obtain ⟨p, xs, rfl, hq, fx, fs, q⟩ := h
  cases ry
  rcases hq with hq | hq
  · obtain ⟨its, r, pl, hz⟩ := I.list hq
    refine SeqAt.notIn_listAt (eqU x) pl.isList (fun w hw => mem_eqAt rx fx r fs w (by simpa using hw)) ⟨.bl _, H, I, rfl, ?_⟩
    rw [show its.toArray.any (eqU x) = its.any (eqU x) by simp, any_eqU r fs]
    exact q
  · obtain ⟨its, r, pl, hz⟩ := I.tuple hq
    refine SeqAt.notIn_tupleAt (eqU x) pl (fun w hw => mem_eqAt rx fx r fs w (by simpa using hw)) ⟨.bl _, H, I, rfl, ?_⟩
    rw [show its.toArray.any (eqU x) = its.any (eqU x) by simp, any_eqU r fs]
    exact q
theorem call_len_seq : CallR X (.builtin "len") (rLenQ X.K) := by
  intro pins s σ H xs us Q I r h
  obtain ⟨p, ys, rfl, hq, q⟩ := h
  obtain ⟨u, rfl, rx⟩ := vals1 r
  cases rx
  have hn := line63
  rcases hq with hq | hq
  · obtain ⟨its, r', pl, hz⟩ := I.list hq
    have hlen := r'.length
    exact Calls.call_len_list pl.isList (by simp only [List.size_toArray] <;> omega) ⟨.int ys.length, H, I.tok _, ⟨s.toks + 1, by rw [List.size_toArray, hlen]⟩, q⟩
  · obtain ⟨its, r', pl, hz⟩ := I.tuple hq
    have hlen := r'.length
    exact len_tuple pl (by simp only [List.size_toArray] <;> omega) ⟨.int ys.length, H, I.tok _, ⟨s.toks + 1, by rw [List.size_toArray, hlen]⟩, q⟩
theorem call_list_of : CallR X (.type "list") (fun xs H Q => ∃ p ys, xs = [.ref p] ∧ (SqL X.K H p ys ∨ SqT X.K H p ys) ∧ ∀ l, H l = none → Q (.ref l) (upd H l (.lst ys))) := by
  intro pins s σ H xs us Q I r h
  obtain ⟨p, ys, rfl, hq, q⟩ := h
  obtain ⟨u, rfl, rx⟩ := vals1 r
  cases rx
  have fin : ∀ (its : List Value), Vals ys its → ys.length ≤ sizeLine → ∀ (h' : Heap) (c' : Nat), (∀ b o', s.heap.get? b = some o' → h'.get? b = some o') →
      h'.get? s.heap.objs.size = some { cls := .type "list", dict := none, data := .seq its.toArray c', slots := #[] } → EP X pins σ Q (.ref s.heap.objs.size) { s with heap := h' } := fun its r' hz h' c' kp e =>
    ⟨.ref s.heap.objs.size, _, I.laid (t' := s.toks) kp (Nat.le_refl _) (show ObjOk X.prog X.w _ h' _ (.lst ys) from ⟨hz, its, c', r', e⟩), rfl, q _ (I.hok.fresh (Nat.le_refl _))⟩
  rcases hq with hq | hq
  · obtain ⟨its, r', pl, hz⟩ := I.list hq
    have hlen := r'.length
    obtain ⟨o, ho, hc, n, hd⟩ := pl.isList
    exact call_list_seq p (.inl rfl) ho hc hd (fun h' c' kp e => fin its r' hz h' c' kp e) (by simp only [List.size_toArray] <;> omega)
  · obtain ⟨its, r', pl, hz⟩ := I.tuple hq
    have hlen := r'.length
    obtain ⟨o, ho, hc, n, hd⟩ := pl
    exact call_list_seq p (.inr rfl) ho hc hd (fun h' c' kp e => fin its r' hz h' c' kp e) (by simp only [List.size_toArray] <;> omega)
def tyV (K : PySem.W.Frag) (T : String) (x : V) (H : Hp) : Prop := match x with
  | .str _ => T = "str"
  | .int _ => T = "int"
  | .ref p => (T = "list" ∧ ∃ xs, SqL K H p xs) ∨ (T = "tuple" ∧ ∃ o, K.lookup p = some o ∧ o.cls = .type "tuple" ∧ o.dict = none) ∨
      (T = "dict" ∧ ((∃ kvs, H p = some (.dK kvs)) ∨ ∃ kvs, H p = some (.dT kvs))) ∨ (T = "set" ∧ ∃ S n, H p = some (.set S n))
  | _ => False
theorem tyV_is {pins : List (Addr × Obj)} {σ : St} {H : Hp} {s : Shared} {T : String} {x : V} {v : Value} (I : Inv X pins σ H s) (r : RelV x v) (ty : tyV X.K T x H) :
    s.TypeIs v T ∧ ∀ a, v = .ref a → ∃ ob, s.heap.get? a = some ob ∧ ob.dict = none := by
  cases x with
  | str z =>
    obtain ⟨t, rfl⟩ := r
    cases (show T = "str" from ty)
    exact ⟨typeIs_str s z t, fun _ e => nomatch e⟩
  | int i =>
    obtain ⟨t, rfl⟩ := r
    cases (show T = "int" from ty)
    exact ⟨typeIs_int s i t, fun _ e => nomatch e⟩
  | ref p =>
    cases r
    rcases ty with ⟨rfl, xs, hq⟩ | ⟨rfl, o, hk, hc, hd⟩ | ⟨rfl, hk⟩ | ⟨rfl, S, n, hk⟩
    · obtain ⟨its, _, pl, _⟩ := I.list hq
      refine ⟨pl.isList.typeIs, fun a e => ?_⟩
      cases e
      obtain ⟨o, n, e, c, hd, _⟩ := pl
      exact ⟨o, e, hd⟩
    · refine ⟨⟨o, I.kIn p o hk, hc⟩, fun a e => ?_⟩
      cases e
      exact ⟨o, I.kIn _ o hk, hd⟩
    · have z : ∃ o, s.heap.get? p = some o ∧ o.ExactDict := by
        rcases hk with ⟨kvs, hk⟩ | ⟨kvs, hk⟩
        · obtain ⟨_, _, _, _, o, _, _, e, ex, _⟩ := I.hok p _ hk
          exact ⟨o, e, ex⟩
        · obtain ⟨_, _, _, _, o, _, _, e, ex, _⟩ := I.hok p _ hk
          exact ⟨o, e, ex⟩
      obtain ⟨o, e, ex⟩ := z
      refine ⟨⟨o, e, ex.1⟩, fun a e2 => ?_⟩
      cases e2
      exact ⟨o, e, ex.2.1⟩
    · obtain ⟨o, _, _, _, e, ex, _⟩ := I.hok p _ hk
      refine ⟨⟨o, e, ex.1⟩, fun a e2 => ?_⟩
      cases e2
      exact ⟨o, e, ex.2.1⟩
  | _ => exact False.elim ty
def tBM0 (K : PySem.W.Frag) (T : String) (r : V → List V → Hp → VK → Prop) (to : TE) : TE := fun σ H Q => to σ H fun x H1 => tyV K T x H1 ∧ r x [] H1 Q
inductive tBMI (K : PySem.W.Frag) (T : String) (r : V → List V → Hp → VK → Prop) (t : TA) (σ : St) (x : V) (H1 : Hp) (Q : VK) : Prop
  | mk : (tyV K T x H1) → (t σ H1 fun xs H2 => r x xs H2 Q) → tBMI K T r t σ x H1 Q
def tBM (K : PySem.W.Frag) (T : String) (r : V → List V → Hp → VK → Prop) (to : TE) (t : TA) : TE := fun σ H Q => to σ H fun x H1 => tBMI K T r t σ x H1 Q
variable {o e : Expr} {es : List Expr} {to : TE} {t : TA} {name : Str} {apos cpos : Pos} {T id : String} {r : V → List V → Hp → VK → Prop}
theorem pe_bm0 (pa : PlainAttrs T) (slot : Slot T name id) (hty : typeOf (.builtin id) = pure (.type "method_descriptor")) (hm : MtR X id r) (ho : PE X o to)
    (hbase : attributeBase o name X.env (eval o X.env) = eval o X.env := by rfl) (hline : (apos.endLine == cpos.line) = true := by rfl) : PE X (.Call (.Attribute o name apos) [] [] cpos) (tBM0 X.K T r to) := by
  intro pins s σ H Q I h
  refine wpAny_Call_method0_late hbase hline (thn (ho pins s σ H _ I h) fun v s1 ⟨x, H1, I1, r1, ty, q1⟩ => ?_)
  obtain ⟨h1, h2⟩ := tyV_is I1 r1 ty
  exact ⟨T, id, pa, slot, hty, h1, h2, Calls.callWith_builtin rfl (PySem.evalArgs_none (hm pins s1 σ H1 x [] v [] Q I1 r1 .nil q1))⟩
theorem pe_bm (pa : PlainAttrs T) (slot : Slot T name id) (hty : typeOf (.builtin id) = pure (.type "method_descriptor")) (hm : MtR X id r) (ho : PE X o to) (ha : PA X (e :: es) t)
    (hbase : attributeBase o name X.env (eval o X.env) = eval o X.env := by rfl)
    (hfew : ((backTo cpos (starEach (e :: es) X.env)).all (fun x => !x.1) && (backToKw cpos (keywordEach [] X.env)).all (fun x => x.1.isSome)
      && decide ((e :: es).length + ([] : List Keyword).length + (if ([] : List Keyword).isEmpty then 0 else 1) < 30)) = true := by rfl)
    (hline : (apos.endLine == cpos.line) = true := by rfl) (hs : starEach (e :: es) X.env = (false, eval e X.env) :: starEach es X.env := by rfl) (hplain : (backTo cpos (starEach es X.env)).any (·.1) = false := by rfl) :
    PE X (.Call (.Attribute o name apos) (e :: es) [] cpos) (tBM X.K T r to t) := by
  intro pins s σ H Q I h
  refine wpAny_Call_method_late hbase hfew hline rfl (thn (ho pins s σ H _ I h) fun v s1 ⟨x, H1, I1, r1, ty, q1⟩ => ?_)
  obtain ⟨h1, h2⟩ := tyV_is I1 r1 ty
  refine ⟨T, id, pa, slot, hty, h1, h2, ?_⟩
  have hA := ha cpos pins s1 σ H1 _ I1 q1
  rw [hs] at hA ⊢
  refine Calls.callWith_builtin (by show (false || (backTo cpos (starEach es X.env)).any (·.1)) = false; rw [hplain] <;> rfl) (Calls.evalArgs_plain ?_)
  exact thn hA fun us s2 ⟨vs, H2, I2, r2, q2⟩ => hm pins s2 σ H2 x vs v us Q I2 r1 r2 q2
end
end L2
namespace L2
open PySem PySem.Spec PyProof.Rows
def MtM (X : Cx) (id : String) (r : V → List V → Hp → VK → Prop) : Prop :=
  ∀ (pins : List (Addr × Obj)) (s : Shared) (σ : St) (H : Hp) (x : V) (xs : List V) (v : Value) (us : List Value) (Q : VK), Inv X pins σ H s → RelV x v → Vals xs us → r x xs H Q →
    wpAny (model X.prog X.w) X.A (call (.builtin id) (v :: us)) (EP X pins σ Q) X.xe s
theorem Vals.one : ∀ {x : V} {us : List Value}, Vals [x] us → ∃ u, us = [u] ∧ RelV x u
  | _, _, .cons r .nil => ⟨_, rfl, r⟩
theorem Vals.eraseIdx : ∀ {xs : List V} {us : List Value} (i : Nat), Vals xs us → Vals (xs.eraseIdx i) (us.eraseIdx i)
  | _, _, _, .nil => .nil
  | _, _, 0, .cons _ t => t
  | _, _, i + 1, .cons r t => .cons r (Vals.eraseIdx i t)
theorem Vals.rep {xs : List V} {us : List Value} (h : Vals xs us) : ∀ k : Nat, Vals (List.replicate k xs).flatten (List.replicate k us).flatten
  | 0 => .nil
  | k + 1 => by
    rw [List.replicate_succ, List.replicate_succ, List.flatten_cons, List.flatten_cons]
    exact Vals.append h (Vals.rep h k)
theorem len_erase {α : Type} : ∀ (l : List α) (i : Nat), (l.eraseIdx i).length ≤ l.length
  | [], _ => Nat.le_refl _
  | _ :: _, 0 => Nat.le_succ _
  | _ :: r, i + 1 => Nat.succ_le_succ (len_erase r i)
theorem foldl_rep (its : List Value) : ∀ (k : Nat) (acc : List Value),
    List.foldl (fun x1 x2 => x1 ++ x2) acc.toArray (List.replicate k its.toArray) = (acc ++ (List.replicate k its).flatten).toArray
  | 0, acc => by simp
  | k + 1, acc => by
    have e : acc.toArray ++ its.toArray = (acc ++ its).toArray := by simp
    have e2 : (acc ++ its) ++ (List.replicate k its).flatten = acc ++ (List.replicate (k + 1) its).flatten := by
      rw [List.replicate_succ, List.flatten_cons, List.append_assoc]
    rw [← e2, ← foldl_rep its k (acc ++ its), ← e, List.replicate_succ, List.foldl_cons]
section
variable {X : Cx} {pins : List (Addr × Obj)} {σ : St} {H : Hp} {s : Shared} {l b : Addr} {xs ys zs : List V}
theorem Inv.lset {its its' : List Value} {n : Nat} {f : Array Value → Array Value} {t' : Nat} (I : Inv X pins σ H s) (hH : H l = some (.lst xs))
    (e : s.heap.get? l = some { cls := .type "list", data := .seq its.toArray n }) (hf : f its.toArray = its'.toArray) (hv : Vals ys its') (hz : ys.length ≤ sizeLine) :
    Inv X pins σ (upd H l (.lst ys)) { s with heap := s.heap.update l (Obj.mapSeq f), toks := t' } := by
  have q := PySem.IsL.update e f
  rw [hf] at q
  refine I.write (x := l) (e := l) (by rw [hH]; exact trivial) (.inl rfl) (fun b' u hb hu => (Heap.get?_update_other s.heap (Obj.mapSeq f) (Ne.symm hb)).trans hu) ⟨_, q⟩ ?_
  exact ⟨hz, its', _, hv, q⟩
theorem Inv.lnew {its : List Value} {t' : Nat} (I : Inv X pins σ H s) (hv : Vals ys its) (hz : ys.length ≤ sizeLine) :
    Inv X pins σ (upd H s.heap.objs.size (.lst ys)) { s with heap := s.heap.push { cls := .type "list", data := .seq its.toArray }, toks := t' } :=
  I.laid (fun _ _ q => Heap.get?_push_of_some _ q) (Nat.le_refl _) ⟨hz, its, 0, hv, Heap.get?_push_size _ rfl⟩
theorem Inv.fresh (I : Inv X pins σ H s) : H s.heap.objs.size = none := I.hok.fresh (Nat.le_refl _)
theorem Inv.lstM (I : Inv X pins σ H s) (hH : H l = some (.lst xs)) : xs.length ≤ sizeLine ∧ ∃ (its : List Value) (n : Nat), Vals xs its ∧ xs.length = its.length ∧ s.heap.get? l = some { cls := .type "list", data := .seq its.toArray n } := by
  obtain ⟨z, its, n, r, e⟩ := I.hok l _ hH
  exact ⟨z, its, n, r, r.length, e⟩
theorem notLongL {n : Nat} (h : n ≤ sizeLine) : Builtin.List.listTooLong n = false := by
  unfold Builtin.List.listTooLong
  exact decide_eq_false (by omega)
end
section
variable {X : Cx}
inductive rAppendI (x : V) (vs : List V) (H : Hp) (Q : VK) : Prop
  | mk : ∀ l xs y, (x = .ref l) → (vs = [y]) → (H l = some (.lst xs)) → (xs.length < sizeLine) → (Q .non (upd H l (.lst (xs ++ [y])))) → rAppendI x vs H Q
def rAppend : V → List V → Hp → VK → Prop := fun x vs H Q => rAppendI x vs H Q
theorem mt_append : MtM X "list.append" rAppend := by
  intro pins s σ H x vs v us Q I rx rv h
  obtain ⟨l, xs, y, rfl, rfl, hH, hz, q⟩ := h
  cases rx
  obtain ⟨u, rfl, ru⟩ := rv.one
  obtain ⟨z, its, n, r, hl, e⟩ := I.lstM hH
  refine call_meets F.slot_list_append ⟨_, e, rfl⟩ F.entry_list_append (F.args_list_append_2 _ _) (PySem.list_append l its.toArray n u (by rw [List.size_toArray]; omega)) ⟨e, ?_⟩
  refine ⟨.non, _, I.lset (its' := its ++ [u]) hH e (by simp) (r.append (.cons ru .nil)) ?_, rfl, q⟩
  rw [List.length_append, List.length_singleton]
  omega
inductive rExtendI (x : V) (vs : List V) (H : Hp) (Q : VK) : Prop
  | mk : ∀ l b xs zs, (x = .ref l) → (vs = [.ref b]) → (H l = some (.lst xs)) → (H b = some (.lst zs)) → (xs.length + zs.length ≤ sizeLine) → (Q .non (upd H l (.lst (xs ++ zs)))) → rExtendI x vs H Q
def rExtend : V → List V → Hp → VK → Prop := fun x vs H Q => rExtendI x vs H Q
theorem mt_extend : MtM X "list.extend" rExtend := by
  intro pins s σ H x vs v us Q I rx rv h
  obtain ⟨l, b, xs, zs, rfl, rfl, hH, hB, hz, q⟩ := h
  cases rx
  obtain ⟨u, rfl, ru⟩ := rv.one
  cases ru
  obtain ⟨z, its, n, r, hl, e⟩ := I.lstM hH
  obtain ⟨z2, its2, n2, r2, hl2, e2⟩ := I.lstM hB
  have hsz : its.toArray.size + its2.toArray.size ≤ sizeLine := by rw [List.size_toArray, List.size_toArray]; omega
  have hlong : ¬ (!its.toArray.isEmpty && Builtin.List.listTooLong (its.toArray.size + its2.toArray.size)) = true := by
    rw [notLongL hsz, Bool.and_false]
    exact Bool.false_ne_true
  refine call_meets F.slot_list_extend ⟨_, e, rfl⟩ F.entry_list_extend (F.args_list_extend_2 _ _)
    (AutoSeq1.list_extend_list_list_0 l its.toArray n b its2.toArray n2 hlong (by rw [List.size_toArray]; omega) (by omega)) ⟨e, e2, ?_⟩
  refine ⟨.non, _, I.lset (its' := its ++ its2) hH e (by simp) (r.append r2) ?_, rfl, q⟩
  rw [List.length_append]
  omega
inductive rPopAtI (x : V) (vs : List V) (H : Hp) (Q : VK) : Prop
  | mk : ∀ l xs i k y, (x = .ref l) → (vs = [.int i]) → (H l = some (.lst xs)) → (-(2 ^ 63) ≤ i) → (i < 2 ^ 63) → (seqIndex? i xs.length = some k) → (xs[k]? = some y) → (Q y (upd H l (.lst (xs.eraseIdx k)))) → rPopAtI x vs H Q
def rPopAt : V → List V → Hp → VK → Prop := fun x vs H Q => rPopAtI x vs H Q
theorem mt_popAt : MtM X "list.pop" rPopAt := by
  intro pins s σ H x vs v us Q I rx rv h
  obtain ⟨l, xs, i, k, y, rfl, rfl, hH, h1, h2, hk, hy, q⟩ := h
  cases rx
  obtain ⟨u, rfl, ru⟩ := rv.one
  obtain ⟨t, rfl⟩ := ru
  obtain ⟨z, its, n, r, hl, e⟩ := I.lstM hH
  obtain ⟨w, hw, rw'⟩ := r.get hy
  refine call_meets F.slot_list_pop ⟨_, e, rfl⟩ F.entry_list_pop (F.args_list_pop_2 _ _)
    (MeetsSeq.list_pop_at l its.toArray n i t k w (fitsIndex_both h1 h2) (by rw [List.size_toArray, ← hl]; exact hk) (by rw [← Array.getElem?_toList]; exact hw) (by rw [List.size_toArray]; omega)) ⟨e, ?_⟩
  refine ⟨y, _, I.lset (its' := its.eraseIdx k) hH e ?_ (r.eraseIdx k) ?_, rw', q⟩
  · show its.toArray.eraseIdxIfInBounds k = (its.eraseIdx k).toArray
    rw [List.eraseIdxIfInBounds_toArray]
  · have := len_erase xs k
    omega
inductive rCatI (x y : V) (H : Hp) (Q : VK) : Prop
  | mk : ∀ l b xs zs, (x = .ref l) → (y = .ref b) → (H l = some (.lst xs)) → (H b = some (.lst zs)) → (xs.length + zs.length ≤ sizeLine) → (∀ p, H p = none → Q (.ref p) (upd H p (.lst (xs ++ zs)))) → rCatI x y H Q
def rCat : R2 := fun x y H Q => rCatI x y H Q
theorem op_cat : OpR X (binaryOp .Add) rCat := by
  intro pins s σ H x y v u Q I rx ry h
  obtain ⟨l, b, xs, zs, rfl, rfl, hH, hB, hz, q⟩ := h
  cases rx
  cases ry
  obtain ⟨z, its, n, r, hl, e⟩ := I.lstM hH
  obtain ⟨z2, its2, n2, r2, hl2, e2⟩ := I.lstM hB
  refine PySem.P.add_list e e2 ?_ (by rw [List.size_toArray, List.size_toArray]; omega)
  have ea : its.toArray ++ its2.toArray = (its ++ its2).toArray := by simp
  rw [ea]
  exact ⟨.ref _, _, I.lnew (t' := s.toks) (r.append r2) (by rw [List.length_append]; omega), rfl, q _ I.fresh⟩
inductive rRepI (x y : V) (H : Hp) (Q : VK) : Prop
  | mk : ∀ l k xs, (x = .ref l) → (y = .int k) → (H l = some (.lst xs)) → (-(2 ^ 63) ≤ k) → (k < 2 ^ 63) → (xs.length * k.toNat ≤ sizeLine) → (∀ p, H p = none → Q (.ref p) (upd H p (.lst (List.replicate k.toNat xs).flatten))) → rRepI x y H Q
def rRep : R2 := fun x y H Q => rRepI x y H Q
theorem len_rep {α : Type} (xs : List α) (k : Nat) : (List.replicate k xs).flatten.length = k * xs.length := by
  induction k with
  | zero => simp
  | succ k ih => rw [List.replicate_succ, List.flatten_cons, List.length_append, ih, Nat.succ_mul, Nat.add_comm]
theorem op_rep : OpR X (binaryOp .Mult) rRep := by
  intro pins s σ H x y v u Q I rx ry h
  obtain ⟨l, k, xs, rfl, rfl, hH, h1, h2, hz, q⟩ := h
  cases rx
  obtain ⟨t, rfl⟩ := ry
  obtain ⟨z, its, n, r, hl, e⟩ := I.lstM hH
  have hlen : its.toArray.size * k.toNat ≤ sizeLine := by rw [List.size_toArray, ← hl]; exact hz
  have hcap : ¬ its.toArray.size * k.toNat > (2 ^ 63 - 1) / 8 := by
    have : (sizeLine : Nat) ≤ (2 ^ 63 - 1) / 8 := by decide
    omega
  have hfit : ¬ (!Builtin.List.listFitsIndex k) = true := by
    rw [fitsIndex_both h1 h2]
    exact Bool.false_ne_true
  have hlong : ¬ Builtin.List.listTooLong (its.toArray.size * k.toNat) = true := by
    rw [notLongL hlen]
    exact Bool.false_ne_true
  have hnew : List.foldl (fun x1 x2 => x1 ++ x2) #[] (List.replicate (if its.toArray.isEmpty = true then 0 else k.toNat) its.toArray) = (List.replicate k.toNat its).flatten.toArray := by
    have f0 : ∀ m : Nat, List.foldl (fun x1 x2 => x1 ++ x2) #[] (List.replicate m its.toArray) = (List.replicate m its).flatten.toArray := fun m => by
      have := foldl_rep its m []
      rw [List.nil_append] at this
      exact this
    rw [f0]
    cases its with
    | nil => simp
    | cons a r' => rw [if_neg (by simp)]
  refine wpAny_binaryOp_repeat_ref (T := "list") (U := "int") (by decide) ⟨_, e, rfl⟩ (fun s' => typeIs_int s' k t) noFill_list_mul F.fills_int_mul F.slot_int_rmul repeat_list F.slot_int_index.lookup
    (call_meets F.slot_int_rmul (typeIs_int s k t) F.entry_int_rmul (F.args_int_rmul_2 _ _) (int___rmul___int_list k t l its.toArray n)
      ⟨e, rfl, ⟨_, e, rfl⟩, call_meets F.slot_list_mul ⟨_, e, rfl⟩ F.entry_list_mul (F.args_list_mul_2 _ _) (AutoListH.list___mul___list_int_3 l its.toArray n k t hfit hcap hlong) ⟨e, ?_⟩⟩)
  rw [hnew]
  exact ⟨.ref _, _, I.lnew (t' := s.toks) (r.rep k.toNat) (by rw [len_rep, Nat.mul_comm]; exact hz), rfl, q _ I.fresh⟩
end
end L2
namespace L2
open PySem PySem.Spec PyProof.Rows
theorem Vals.ints : ∀ {ns : List Int} {us : List Value}, Vals (ns.map V.int) us → IntsAre us ns
  | [], us, h => by
    rw [List.map_nil] at h
    cases h
    exact IntsAre.nil
  | n :: ns, us, h => by
    rw [List.map_cons] at h
    cases h with
    | cons r t =>
      obtain ⟨k, rfl⟩ := r
      exact IntsAre.cons n k (Vals.ints t)
theorem vals_of_ints : ∀ {us : List Value} {ns : List Int}, IntsAre us ns → Vals (ns.map V.int) us
  | _, _, .nil => by rw [List.map_nil]; exact Paired.nil
  | _, _, .cons n t h => by rw [List.map_cons]; exact Paired.cons (show RelV (V.int n) (Value.int n t) from ⟨t, rfl⟩) (vals_of_ints h)
theorem Vals.bls : ∀ {bs : List Bool} {us : List Value}, Vals (bs.map V.bl) us → us = bs.map Value.bool
  | [], us, h => by
    rw [List.map_nil] at h
    cases h
    rfl
  | b :: bs, us, h => by
    rw [List.map_cons] at h
    cases h with
    | cons r t =>
      cases r
      rw [Vals.bls t, List.map_cons]
theorem Vals.ref1 {a : Addr} {us : List Value} (r : Vals [V.ref a] us) : us = [Value.ref a] := by
  cases r with
  | cons r t =>
    cases t
    cases r
    rfl
section
variable {prog : Program} {w : World} {A : Around} {E : Value → Shared → Prop} {s : Shared} {l : Addr} {its : List Value} {ns : List Int} {Q : Value → Shared → Prop}
theorem sum_raw (hh : A.handled = none) (hl : s.heap.IsList l its.toArray) (hi : IntsAre its ns)
    (h : ∀ h' tk t', (∀ b o, s.heap.get? b = some o → h'.get? b = some o) → Q (.int ns.sum t') { s with heap := h', toks := tk }) : wpAny (model prog w) A (call (.builtin "sum") [.ref l]) Q E s := by
  obtain ⟨xs, e⟩ := hi.allInts.items
  have hn : numsOf (intItems xs).toList = ns := by rw [← e]; exact hi.numsOf
  rw [nums_intItems] at hn
  rw [e] at hl
  refine PySem.sum_intListG hh hl fun h' tk t' hk => ?_
  have := h h' tk t' hk
  rw [preSum_eq, List.take_of_length_le (by simp), hn]; exact this
end
section
variable {X : Cx}
inductive rSumI (K : PySem.W.Frag) (vs : List V) (H : Hp) (Q : VK) : Prop
  | mk : ∀ (a : Addr) (ns : List Int), (vs = [V.ref a]) → (SqL K H a (ns.map V.int)) → (Q (.int ns.sum) H) → rSumI K vs H Q
def rSum (K : PySem.W.Frag) : List V → Hp → VK → Prop := fun vs H Q => rSumI K vs H Q
theorem cr_sum (hc : X.calm = true) : CallR X (.builtin "sum") (rSum X.K) := by
  intro pins s σ H vs us Q I r h
  obtain ⟨a, ns, rfl, hs, q⟩ := h
  obtain ⟨its, rv, hl, _⟩ := I.list hs
  rw [Vals.ref1 r]
  exact sum_raw (I.ok.hd hc) hl.isList rv.ints fun h' tk t' hk => ⟨.int _, H, I.kept hk, ⟨_, rfl⟩, q⟩
inductive rSortedI (K : PySem.W.Frag) (vs : List V) (H : Hp) (Q : VK) : Prop
  | mk : ∀ (a : Addr) (ns : List Int), (vs = [V.ref a]) → (SqL K H a (ns.map V.int)) → (ns.length < 64) → (∀ (ns' : List Int) (p : Addr), ns'.Perm ns → ns'.Pairwise (· ≤ ·) → H p = none → Q (.ref p) (upd H p (.lst (ns'.map V.int)))) → rSortedI K vs H Q
def rSorted (K : PySem.W.Frag) : List V → Hp → VK → Prop := fun vs H Q => rSortedI K vs H Q
theorem small64 {n : Nat} (h : n < 64) : n ≤ sizeLine := by rw [sizeLine_eq]; omega
theorem cr_sorted : CallR X (.builtin "sorted") (rSorted X.K) := by
  intro pins s σ H vs us Q I r h
  obtain ⟨a, ns, rfl, hs, h64, q⟩ := h
  obtain ⟨its, rv, hl, _⟩ := I.list hs
  rw [Vals.ref1 r]
  have hi := rv.ints
  refine PyProof.Rows.sorted_ints hl.isList hi (by rw [hi.length]; exact h64) fun out ns' h1 h2 h3 => ?_
  obtain ⟨ep, he'⟩ := PyProof.Rows.sortedAll_at s.heap its out
  have hlen : (ns'.map V.int).length ≤ sizeLine := by rw [List.length_map, h2.length_eq]; exact small64 h64
  exact ⟨.ref _, upd H (s.heap.objs.size + 1) (.lst (ns'.map V.int)), I.laid (t' := s.toks) (fun _ _ => PyProof.Rows.sortedAll_old) (Nat.le_succ _) ⟨hlen, out.toList, ep, vals_of_ints h1, he'⟩, rfl, q ns' _ h2 h3 (I.hok.fresh (Nat.le_succ _))⟩
end
theorem iter_any {prog : Program} {w : World} {A : Around} {E : Value → Shared → Prop} {s : Shared} {l : Addr} {items : Array Value} {Q : Value → Shared → Prop} (hl : s.heap.IsList l items)
    (h : ∀ s₂ : Shared, s₂ = { s with heap := s.heap.push { cls := .type "list_iterator", data := .fields #[.ref l, .int 0 0] } } →
      (s₂.heap.IsListIter s.heap.objs.size l 0 ∧ s₂.heap.IsList l items) → l ≠ s.heap.objs.size → Q (.ref s.heap.objs.size) s₂) : wpAny (model prog w) A (pyIter (.ref l)) Q E s := by
  have hlt : l < s.heap.objs.size := by obtain ⟨_, e, _⟩ := hl; exact Heap.lt_size e
  exact wpAny_pyIter_list hl (h _ rfl ⟨⟨_, Heap.get?_push_size _ rfl, rfl, rfl⟩, hl.push _⟩ (Nat.ne_of_lt hlt))
theorem truth_bools {prog : Program} {w : World} {A : Around} {bs : List Bool} {its : List Value} (e : its = bs.map Value.bool) :
    TruthOf prog w A (fun i v => its.toArray[i]? = some v) (fun i => bs.getD i false) := fun i v s Q E hv hq => by
  have hv' : its[i]? = some v := by simpa using hv
  rw [e, List.getElem?_map] at hv'
  obtain ⟨b, hb, rfl⟩ := Option.map_eq_some_iff.mp hv'
  have hg : bs.getD i false = b := by rw [List.getD_eq_getElem?_getD, hb] <;> rfl
  have hq' : Q (bs.getD i false) s := hq
  rw [hg] at hq'
  exact wpAny_truthy_bool hq'
theorem any_range : ∀ bs : List Bool, (List.range bs.length).any (fun i => bs.getD i false) = bs.any id
  | [] => rfl
  | b :: bs => by
    rw [List.length_cons, List.range_succ_eq_map, List.any_cons, List.any_map, List.any_cons, ← any_range bs]
    all_goals rfl
section
variable {X : Cx}
inductive rAnyI (K : PySem.W.Frag) (vs : List V) (H : Hp) (Q : VK) : Prop
  | mk : ∀ (a : Addr) (bs : List Bool), (vs = [V.ref a]) → (SqL K H a (bs.map V.bl)) → (Q (.bl (bs.any id)) H) → rAnyI K vs H Q
def rAny (K : PySem.W.Frag) : List V → Hp → VK → Prop := fun vs H Q => rAnyI K vs H Q
theorem cr_any (hc : X.calm = true) : CallR X (.builtin "any") (rAny X.K) := by
  intro pins s σ H vs us Q I r h
  obtain ⟨a, bs, rfl, hs, q⟩ := h
  obtain ⟨its, rv, hl, _⟩ := I.list hs
  rw [Vals.ref1 r]
  have hb := rv.bls
  refine call_any_walk (iter_any hl.isList fun s₂ e2 st hne => ?_)
  subst e2
  refine ⟨_, _, _, _, _, _, _, rfl, Walks.list (A := X.A.in1) (I.ok.hd hc) _ a hne its.toArray, st, truth_bools hb, fun h' tk hk => ?_⟩
  refine ⟨.bl _, H, I.kept fun b o eo => hk b o (fun hmem => ?_) (Heap.get?_push_of_some _ eo), ?_, q⟩
  · rcases List.mem_cons.mp hmem with e1 | hmem
    · exact absurd (e1 ▸ Heap.lt_size eo) (Nat.lt_irrefl _)
    · cases hmem
  · show Value.bool _ = Value.bool _
    rw [← any_range, hb, List.size_toArray, List.length_map]
end
end L2
namespace L2
open PySem PySem.Spec PyProof.Rows
abbrev CellAt (h : Heap) (c : Addr) (v : Option Value) : Prop := h.IsCell c v
def relS (scope sc : Scope) : Scope :=
  { scope with names := scope.names.map fun (n, k) => if (k == .free && sc.kind == .function && sc.names.lookup n == some .cell) then (n, .cell) else (n, k) }
def cloFrom (cells : List (Str × Addr)) : List (Str × NameKind) → List (Str × Addr) → List (Str × Addr)
  | [], acc => acc
  | (n, k) :: r, acc => if k == .free then cloFrom cells r ((n, (cells.lookup n).getD 0) :: acc) else cloFrom cells r acc
theorem closure_loop (env : Env) (f : Str × NameKind → List (Str × Addr) → Sem (ForInStep (List (Str × Addr))))
    (hf : ∀ n k c, f (n, k) c = if k == .free then (do let a ← cellOf env n; pure (.yield ((n, a) :: c))) else pure (.yield c)) :
    ∀ (names : List (Str × NameKind)) (acc : List (Str × Addr)), (∀ y ∈ names, y.2 = .free → ∃ c, env.cells.lookup y.1 = some c) → forIn names acc f = pure (cloFrom env.cells names acc)
  | [], acc, _ => by rw [List.forIn_nil]; rfl
  | (n, k) :: r, acc, h => by
    rw [List.forIn_cons, hf]
    have ih := fun acc => closure_loop env f hf r acc fun y hy => h y (List.mem_cons_of_mem _ hy)
    unfold cloFrom
    by_cases hk : (k == NameKind.free) = true
    · rw [if_pos hk, if_pos hk]
      obtain ⟨c, hc⟩ := h (n, k) List.mem_cons_self (by simpa using hk)
      have e : cellOf env n = pure c := by unfold cellOf; rw [hc]
      rw [e]
      have e2 : (env.cells.lookup n).getD 0 = c := by rw [hc]; rfl
      rw [e2]
      exact ih _
    · rw [if_neg hk, if_neg hk]
      exact ih _
theorem closure_ok {scope : Scope} {env : Env} (h : ∀ y ∈ scope.names, y.2 = .free → ∃ c, env.cells.lookup y.1 = some c) : closureFor scope env = pure (cloFrom env.cells scope.names []) := by
  simp only [closureFor]
  rw [closure_loop env _ (fun n k c => rfl) scope.names [] h]
  rfl
theorem mem_lookup {α : Type} : ∀ {l : List (Str × α)} {n : Str} {c : α}, (n, c) ∈ l → ∃ c', l.lookup n = some c'
  | (k, v) :: r, n, c, h => by
    rw [List.lookup_cons]
    cases hb : n == k with
    | true => exact ⟨_, rfl⟩
    | false =>
      rcases List.mem_cons.mp h with e | h
      · cases e; simp at hb
      · exact mem_lookup h
theorem cloFrom_mem {cells : List (Str × Addr)} : ∀ {names : List (Str × NameKind)} {acc : List (Str × Addr)} {n : Str} {c : Addr}, (n, c) ∈ cloFrom cells names acc → (n, c) ∈ acc ∨ ((n, .free) ∈ names ∧ c = (cells.lookup n).getD 0)
  | [], _, _, _, h => .inl h
  | (m, k) :: r, acc, n, c, h => by
    unfold cloFrom at h
    split at h
    · rename_i hk
      have hk : k = .free := by simpa using hk
      rcases cloFrom_mem h with h | ⟨h1, h2⟩
      · rcases List.mem_cons.mp h with e | h
        · cases e; exact .inr ⟨hk ▸ List.mem_cons_self, rfl⟩
        · exact .inl h
      · exact .inr ⟨List.mem_cons_of_mem _ h1, h2⟩
    · rcases cloFrom_mem h with h | ⟨h1, h2⟩
      · exact .inl h
      · exact .inr ⟨List.mem_cons_of_mem _ h1, h2⟩
theorem cloFrom_acc {cells : List (Str × Addr)} : ∀ {names : List (Str × NameKind)} {acc : List (Str × Addr)} {p : Str × Addr}, p ∈ acc → p ∈ cloFrom cells names acc
  | [], _, _, h => h
  | (m, k) :: r, acc, p, h => by
    unfold cloFrom
    split
    · exact cloFrom_acc (List.mem_cons_of_mem _ h)
    · exact cloFrom_acc h
theorem cloFrom_has {cells : List (Str × Addr)} : ∀ {names : List (Str × NameKind)} {acc : List (Str × Addr)} {n : Str}, (n, .free) ∈ names → (n, (cells.lookup n).getD 0) ∈ cloFrom cells names acc
  | (m, k) :: r, acc, n, h => by
    unfold cloFrom
    rcases List.mem_cons.mp h with e | h
    · cases e
      exact cloFrom_acc List.mem_cons_self
    · split
      · exact cloFrom_has h
      · exact cloFrom_has h
theorem cells_mem : ∀ {names : List (Str × NameKind)} {h : Heap} {acc : List (Str × Addr)} {x : Str} {c : Addr}, (x, c) ∈ cellsFrom h.objs.size names acc →
    (x, c) ∈ acc ∨ ((x, .cell) ∈ names ∧ h.objs.size ≤ c ∧ CellAt (pushCells h names) c none)
  | [], _, _, _, _, h => .inl h
  | (n, k) :: r, h, acc, x, c, hm => by
    unfold cellsFrom at hm
    unfold pushCells
    split at hm
    · rename_i hk
      rw [if_pos hk]
      have hk : k = .cell := by simpa using hk
      rw [← Heap.size_push h { cls := .type "cell", data := .cell none }] at hm
      rcases cells_mem hm with hm | ⟨h1, h2, h3⟩
      · rcases List.mem_cons.mp hm with e | hm
        · cases e
          exact .inr ⟨hk ▸ List.mem_cons_self, Nat.le_refl _, _, pushCells_keeps r _ _ _ (Heap.get?_push_size _ rfl), rfl⟩
        · exact .inl hm
      · rw [Heap.size_push] at h2
        exact .inr ⟨List.mem_cons_of_mem _ h1, Nat.le_of_succ_le h2, h3⟩
    · rename_i hk
      rw [if_neg hk]
      rcases cells_mem hm with hm | ⟨h1, h2, h3⟩
      · exact .inl hm
      · exact .inr ⟨List.mem_cons_of_mem _ h1, h2, h3⟩
theorem cells_acc : ∀ {names : List (Str × NameKind)} {n : Nat} {acc : List (Str × Addr)} {p : Str × Addr}, p ∈ acc → p ∈ cellsFrom n names acc
  | [], _, _, _, h => h
  | (m, k) :: r, n, acc, p, h => by
    unfold cellsFrom
    split
    · exact cells_acc (List.mem_cons_of_mem _ h)
    · exact cells_acc h
theorem cells_has : ∀ {names : List (Str × NameKind)} {n : Nat} {acc : List (Str × Addr)} {x : Str}, (x, .cell) ∈ names → ∃ c, (x, c) ∈ cellsFrom n names acc
  | (m, k) :: r, n, acc, x, h => by
    unfold cellsFrom
    rcases List.mem_cons.mp h with e | h
    · cases e
      exact ⟨n, cells_acc List.mem_cons_self⟩
    · split
      · exact cells_has h
      · exact cells_has h
theorem cells_inj : ∀ {names : List (Str × NameKind)} {h : Heap} {acc : List (Str × Addr)} {x y : Str} {c : Addr}, (∀ p ∈ acc, p.2 < h.objs.size) → (∀ x y c, (x, c) ∈ acc → (y, c) ∈ acc → x = y) →
    (x, c) ∈ cellsFrom h.objs.size names acc → (y, c) ∈ cellsFrom h.objs.size names acc → x = y
  | [], _, _, _, _, _, _, hi, h1, h2 => hi _ _ _ h1 h2
  | (n, k) :: r, h, acc, x, y, c, hl, hi, h1, h2 => by
    unfold cellsFrom at h1 h2
    split at h1
    · rename_i hk
      rw [if_pos hk] at h2
      rw [← Heap.size_push h { cls := .type "cell", data := .cell none }] at h1 h2
      refine cells_inj (h := h.push _) (fun p hp => ?_) (fun x y c a b => ?_) h1 h2
      · rw [Heap.size_push]
        rcases List.mem_cons.mp hp with rfl | hp
        · exact Nat.lt_succ_self _
        · exact Nat.lt_succ_of_lt (hl p hp)
      · rcases List.mem_cons.mp a with e | a <;> rcases List.mem_cons.mp b with e' | b
        · cases e; cases e'; rfl
        · cases e; exact absurd (hl _ b) (Nat.lt_irrefl _)
        · cases e'; exact absurd (hl _ a) (Nat.lt_irrefl _)
        · exact hi _ _ _ a b
    · rename_i hk
      rw [if_neg hk] at h2
      exact cells_inj hl hi h1 h2
theorem newEnv_comp {M : Model} {A : Around} {E : Value → Shared → Prop} {s : Shared} {scope : Scope} {globals : Addr} {closure : List (Str × Addr)} {qual : Str} {func : Option Addr} {code : Value} {around : Env} {builtins : Addr} {Q : Env → Shared → Prop}
    (h : Q (newEnv scope s.heap.objs.size globals (cellsFrom (s.heap.objs.size + 1) scope.names closure) qual func code (some around) builtins)
      { s with heap := pushCells (s.heap.push { cls := .type "dict", data := .dict #[] }) scope.names }) :
    wpAny M A (newFunctionEnv scope globals closure [] qual func code (some around) builtins) Q E s := by
  simp only [newFunctionEnv, Option.isSome_some, if_true]
  refine wpAny_bind (wpAny_alloc ?_)
  refine wpAny_bind (wpAny_layCells _ (fun n k c => rfl) scope.names closure _ _ ?_)
  rw [show ({ s with heap := s.heap.push { cls := .type "dict", data := .dict #[] } } : Shared).heap.objs.size = s.heap.objs.size + 1 from Heap.size_push ..]
  rw [List.forIn_nil]
  exact wpAny_bind (wpAny_pure (wpAny_pure h))
theorem lookup_relS {sc : Scope} : ∀ {names : List (Str × NameKind)} {x : Str} {k : NameKind},
    (names.map fun (n, k) => if (k == NameKind.free && sc.kind == .function && sc.names.lookup n == some .cell) then (n, NameKind.cell) else (n, k)).lookup x = some k →
    ∃ k', names.lookup x = some k' ∧ (k = k' ∨ (k' = .free ∧ k = .cell))
  | [], _, _, h => by simp at h
  | (n, k₀) :: r, x, k, h => by
    have ih := @lookup_relS sc r x k
    have h' : List.lookup x ((if (k₀ == NameKind.free && sc.kind == .function && sc.names.lookup n == some .cell) = true then (n, NameKind.cell) else (n, k₀)) :: (r.map _)) = some k := h
    cases hx : x == n with
    | true =>
      simp only [List.lookup_cons, hx]
      by_cases hc : (k₀ == NameKind.free && sc.kind == .function && sc.names.lookup n == some .cell) = true
      · rw [if_pos hc] at h'
        simp only [List.lookup_cons, hx] at h'
        cases h'
        simp only [Bool.and_eq_true, beq_iff_eq] at hc
        exact ⟨k₀, rfl, .inr ⟨hc.1.1, rfl⟩⟩
      · rw [if_neg hc] at h'
        simp only [List.lookup_cons, hx] at h'
        cases h'
        exact ⟨_, rfl, .inl rfl⟩
    | false =>
      simp only [List.lookup_cons, hx]
      by_cases hc : (k₀ == NameKind.free && sc.kind == .function && sc.names.lookup n == some .cell) = true
      · rw [if_pos hc] at h'
        simp only [List.lookup_cons, hx] at h'
        exact ih h'
      · rw [if_neg hc] at h'
        simp only [List.lookup_cons, hx] at h'
        exact ih h'
structure BlkOk (N : List Str) (sc scope : Scope) (own : List (Str × Nat)) : Prop where
  kind : scope.kind = .function
  uniq : ∀ y ∈ scope.names, scope.names.lookup y.1 = some y.2
  ix : ∀ p ∈ own, N[p.2]? = some p.1
  free : ∀ y ∈ scope.names, y.2 = .free → sc.names.lookup y.1 = some .cell ∨ sc.names.lookup y.1 = some .free
  own : ∀ y ∈ scope.names, y.2 = .local ∨ y.2 = .cell → y.1 ∈ own.map (·.1) ∨ y.1 ∉ N
def wipe (σ : St) : List Nat → St
  | [] => σ
  | v :: vs => (wipe σ vs).set v none
theorem wipe_length (σ : St) : ∀ vs : List Nat, (wipe σ vs).length = σ.length
  | [] => rfl
  | v :: vs => by unfold wipe; rw [List.length_set, wipe_length σ vs]
theorem wipe_some {σ : St} {i : Nat} {x : V} : ∀ {vs : List Nat}, (wipe σ vs)[i]? = some (some x) → σ[i]? = some (some x) ∧ i ∉ vs
  | [], h => ⟨h, by simp⟩
  | v :: vs, h => by
    unfold wipe at h
    by_cases hi : v = i
    · subst hi
      by_cases hv : v < (wipe σ vs).length
      · rw [List.getElem?_set_self hv] at h; cases h
      · rw [List.getElem?_eq_none (by simpa using hv)] at h; cases h
    · rw [List.getElem?_set_ne hi] at h
      obtain ⟨h1, h2⟩ := wipe_some h
      exact ⟨h1, by simp only [List.mem_cons, not_or]; exact ⟨fun e => hi e.symm, h2⟩⟩
abbrev Cx.blk (X : Cx) (s : Shared) (H : Hp) (scope : Scope) (cenv : Env) (fp : List Addr) : Cx := { X with s_0 := s, H_0 := H, env := cenv, outer := X.stack, ex := fp, fn := fun x => scope.names.lookup x == some .cell, pn := [], xe := fun _ _ => False }
section
variable {X : Cx} {pins : List (Addr × Obj)} {σ : St} {H : Hp} {s : Shared}
theorem block_start {scope : Scope} {own : List (Str × Nat)} {fp : List Addr} (I : Inv X pins σ H s) (ok : BlkOk X.N X.env.scope scope own) (hN : X.N.Nodup) (hfp : ∀ b ∈ fp, FpOk X pins H b ∧ b < s.heap.objs.size) :
    Inv (X.blk s H scope (compEnvC scope (cellsFrom (s.heap.objs.size + 1) scope.names (cloFrom X.env.cells scope.names [])) s.heap.objs.size X.env) fp) [] (wipe σ (own.map (·.2))) H { s with heap := pushCells (s.heap.push { cls := .type "dict", data := .dict #[] }) scope.names } := by
  have hfree : ∀ y ∈ scope.names, y.2 = .free → ∃ c, X.env.cells.lookup y.1 = some c := fun y hy e => by
    rcases ok.free y hy e with k | k
    · exact I.ok.has _ (.inl k)
    · exact I.ok.has _ (.inr k)
  generalize hcenv : compEnvC scope (cellsFrom (s.heap.objs.size + 1) scope.names (cloFrom X.env.cells scope.names [])) s.heap.objs.size X.env = cenv
  have kp : ∀ b o, s.heap.get? b = some o → (pushCells (s.heap.push { cls := .type "dict", data := .dict #[] }) scope.names).get? b = some o := fun b o e => pushCells_keeps _ _ _ _ (Heap.get?_push_of_some _ e)
  have hL : cenv.locals = s.heap.objs.size := by rw [← hcenv]; rfl
  have hcl : cenv.cells = cellsFrom (s.heap.objs.size + 1) scope.names (cloFrom X.env.cells scope.names []) := by rw [← hcenv]; rfl
  have hsc : cenv.scope = relS scope X.env.scope := by rw [← hcenv]; rfl
  rw [← Heap.size_push s.heap { cls := .type "dict", data := .dict #[] }] at hcl
  have cm : ∀ {y c}, (y, c) ∈ cloFrom X.env.cells scope.names [] → X.env.cells.lookup y = some c ∧ c < s.heap.objs.size := fun {y c} hm => by
    rcases cloFrom_mem hm with hm | ⟨h1, rfl⟩
    · cases hm
    · obtain ⟨c, hc⟩ := hfree _ h1 rfl
      rw [hc]
      obtain ⟨w, z⟩ := I.cell _ _ hc
      exact ⟨rfl, z.lt⟩
  have mem : ∀ {y c}, cenv.cells.lookup y = some c → (X.env.cells.lookup y = some c ∧ c < s.heap.objs.size) ∨ (s.heap.objs.size + 1 ≤ c ∧ CellAt (pushCells (s.heap.push { cls := .type "dict", data := .dict #[] }) scope.names) c none) := fun {y c} e => by
    rw [hcl] at e
    rcases cells_mem (PySem.mem_of_lookup e) with hm | ⟨_, h2, h3⟩
    · exact .inl (cm hm)
    · rw [Heap.size_push] at h2; exact .inr ⟨h2, h3⟩
  have look : ∀ {y}, scope.names.lookup y = some .free → ∃ c, cenv.cells.lookup y = some c ∧ X.env.cells.lookup y = some c := fun {y} hl => by
    have hy : (y, NameKind.free) ∈ scope.names := PySem.mem_of_lookup hl
    obtain ⟨c', e'⟩ := mem_lookup (cells_acc (names := scope.names) (n := (s.heap.push { cls := .type "dict", data := .dict #[] }).objs.size) (cloFrom_has (cells := X.env.cells) (acc := []) hy))
    rw [← hcl] at e'
    refine ⟨c', e', ?_⟩
    rw [hcl] at e'
    rcases cells_mem (PySem.mem_of_lookup e') with hm | ⟨h1, _, _⟩
    · exact (cm hm).1
    · have := ok.uniq _ h1
      rw [hl] at this; cases this
  have okB : (X.blk s H scope cenv fp).Ok := by
    refine ⟨I.ok.mod, by show cenv.scope.kind = _; rw [hsc]; exact ok.kind, by show cenv.globals = _; rw [← hcenv]; exact I.ok.glob, by show cenv.builtins = _; rw [← hcenv]; exact I.ok.blt, by show s.heap.objs.size ≤ cenv.locals; rw [hL]; exact Nat.le_refl _,
      fun y z c e1 e2 => ?_, fun y hy => ?_, fun y c z e => ?_, I.ok.hd, I.ok.frames, .inl rfl, fun b hb => ⟨?_, fun y c e z => ?_⟩, I.bs, Nat.le_trans I.ok.bsz I.sz, fun b o e hb => ?_, fun b hb z => ?_, I.stack, I.stkFree⟩
    · have e1 : cenv.cells.lookup y = some c := e1
      have e2 : cenv.cells.lookup z = some c := e2
      rw [hcl] at e1 e2
      refine cells_inj (fun p hp => ?_) (fun y z c a b => I.ok.inj y z c (cm a).1 (cm b).1) (PySem.mem_of_lookup e1) (PySem.mem_of_lookup e2)
      rw [Heap.size_push]
      exact Nat.lt_succ_of_lt (cm (y := p.1) (c := p.2) hp).2
    · show ∃ c, cenv.cells.lookup y = some c
      have key : ∀ k, cenv.kindOf y = some k → (k = .cell ∨ k = .free) → ∃ c, cenv.cells.lookup y = some c := fun k hk hk' => by
        unfold Env.kindOf at hk
        rw [hsc] at hk
        obtain ⟨k', e, r⟩ := lookup_relS hk
        have : k' = .cell ∨ k' = .free := by
          rcases r with rfl | ⟨rfl, _⟩
          · exact hk'
          · exact .inr rfl
        rcases this with rfl | rfl
        · obtain ⟨c, hm⟩ := cells_has (n := (s.heap.push { cls := .type "dict", data := .dict #[] }).objs.size) (acc := cloFrom X.env.cells scope.names []) (PySem.mem_of_lookup e)
          obtain ⟨c', e'⟩ := mem_lookup hm
          exact ⟨c', by rw [hcl]; exact e'⟩
        · obtain ⟨c, h1, _⟩ := look e
          exact ⟨c, h1⟩
      rcases hy with hy | hy
      · exact key _ hy (.inl rfl)
      · exact key _ hy (.inr rfl)
    · have z : (scope.names.lookup y == some NameKind.cell) = true := z
      have z : scope.names.lookup y = some .cell := by simpa using z
      have e : cenv.cells.lookup y = some c := e
      rw [hcl] at e
      rcases cells_mem (PySem.mem_of_lookup e) with hm | ⟨_, h2, _⟩
      · rcases cloFrom_mem hm with hm | ⟨h1, _⟩
        · cases hm
        · have q := ok.uniq _ h1
          rw [z] at q; cases q
      · rw [Heap.size_push] at h2
        exact Nat.le_of_succ_le h2
    · show b ≠ cenv.locals
      rw [hL]; exact Nat.ne_of_lt (hfp b hb).2
    · have e : cenv.cells.lookup y = some c := e
      rcases mem e with ⟨h1, _⟩ | ⟨h1, _⟩
      · exact (hfp b hb).1.2.2.2.2.1 y c h1 z
      · have h2 : s.heap.objs.size + 1 ≤ b := by rw [← z]; exact h1
        exact absurd (Nat.lt_of_lt_of_le (hfp b hb).2 (Nat.le_of_succ_le h2)) (Nat.lt_irrefl _)
    · rcases (hfp b hb).1.2.2.2.1 with z | z
      · exact I.ok.noex b o e z
      · exact absurd (Nat.lt_of_lt_of_le (Heap.lt_size e) (Nat.le_trans I.ok.bsz z)) (Nat.lt_irrefl _)
    · rcases List.mem_cons.mp (I.stkSub b z) with z | z
      · exact (hfp b hb).1.2.1 z
      · exact (hfp b hb).1.2.2.1 z
  refine ⟨okB, rfl, I.bare, Un.kept kp, ⟨fun _ => none, ?_, fun i y av e1 e2 e3 => ?_⟩, fun y c e => ?_, ?_, fun y c e => ?_, fun p hp => ?_, I.hok.kept kp, by rw [wipe_length]; exact I.len⟩
  · show Heap.Ns _ cenv.locals _
    rw [hL]
    exact Heap.Ns.keeps (Heap.Ns.new ..) fun b o e => pushCells_keeps _ _ _ _ e
  · obtain ⟨e2, hne⟩ := wipe_some e2
    have hfr : scope.names.lookup y = some .free ∧ (cenv.kindOf y = some .cell ∨ cenv.kindOf y = some .free) := by
      have key : ∀ k, cenv.scope.names.lookup y = some k → k = .local ∨ k = .cell ∨ k = .free → scope.names.lookup y = some .free ∧ (cenv.kindOf y = some .cell ∨ cenv.kindOf y = some .free) := fun k hk hk' => by
        have hk0 := hk
        rw [hsc] at hk
        obtain ⟨k', e, r⟩ := lookup_relS hk
        have no : ¬ (k' = .local ∨ k' = .cell) := fun hh => by
          rcases ok.own _ (PySem.mem_of_lookup e) hh with e' | e'
          · obtain ⟨p, hp, hpy⟩ := List.mem_map.mp e'
            have e3 := ok.ix p hp
            have : p.1 = y := hpy
            rw [this] at e3
            exact hne (List.mem_map.mpr ⟨p, hp, nodup_ix hN e3 e1⟩)
          · exact e' (List.mem_of_getElem? e1)
        rcases r with rfl | ⟨rfl, rfl⟩
        · rcases hk' with rfl | rfl | rfl
          · exact absurd (.inl rfl) no
          · exact absurd (.inr rfl) no
          · exact ⟨e, .inr hk0⟩
        · exact ⟨e, .inl hk0⟩
      have e3 : Vis cenv.scope y := e3
      rcases e3 with e3 | e3 | e3
      · exact key _ e3 (.inl rfl)
      · exact key _ e3 (.inr (.inl rfl))
      · exact key _ e3 (.inr (.inr rfl))
    obtain ⟨m, hn, hl⟩ := I.loc
    have hvis : Vis X.env.scope y := (ok.free _ (PySem.mem_of_lookup hfr.1) rfl).elim (fun k => .inr (.inl k)) (fun k => .inr (.inr k))
    obtain ⟨w, r, q⟩ := hl i y av e1 e2 hvis
    refine ⟨w, r, .inr ⟨hfr.2, ?_⟩⟩
    obtain ⟨c, h1, h2⟩ := look hfr.1
    rcases q with ⟨k, _⟩ | ⟨_, c', e', z⟩
    · have k : X.env.scope.names.lookup y = some .local := k
      rcases ok.free _ (PySem.mem_of_lookup hfr.1) rfl with k' | k' <;> rw [show X.env.scope.names.lookup y = _ from k'] at k <;> cases k
    · rw [h2] at e'; cases e'
      exact ⟨c, h1, z.keeps kp⟩
  · have e : cenv.cells.lookup y = some c := e
    rcases mem e with ⟨h1, _⟩ | ⟨_, z⟩
    · obtain ⟨w, z⟩ := I.cell y c h1
      exact ⟨w, z.keeps kp⟩
    · exact ⟨_, z⟩
  · show H cenv.locals = none
    rw [hL]; exact I.hok.fresh (Nat.le_refl _)
  · have e : cenv.cells.lookup y = some c := e
    rcases mem e with ⟨h1, _⟩ | ⟨h1, _⟩
    · exact I.freeC y c h1
    · exact I.hok.fresh (Nat.le_of_succ_le h1)
  · exact absurd (show p ∈ ([] : List (Addr × Obj)) ++ [] from hp) (by simp)
theorem app_ok {E : Value → Shared → Prop} {D : Addr} {xs : List V} {y : V} {v : Value} {Q : Value → Shared → Prop} (I : Inv X pins σ H s) (hD : H D = some (.lst xs)) (hz : xs.length < sizeLine) (r : RelV y v)
    (h : ∀ s', Inv X pins σ (upd H D (.lst (xs ++ [y]))) s' → Q .none s') : wpAny (model X.prog X.w) X.A (call (.builtin "list.append") [.ref D, v]) Q E s := by
  obtain ⟨hz', its, n, ri, e⟩ := I.hok D _ hD
  have hl := ri.length
  refine append_at (hsz := by rw [List.size_toArray]; omega) e fun h' sb ho' => ?_
  refine h { s with heap := h' } (I.write (t' := s.toks) (by rw [hD]; trivial) (.inl rfl) (fun b u hb q => (sb.2 b hb).trans q) ⟨_, ho'⟩ ⟨by rw [List.length_append]; exact hz, its ++ [v], n + 1, ri.append (.cons r .nil), ?_⟩)
  rw [ho']
  simp
def PTs (X : Cx) (ifs : List Expr) (t : TT) : Prop :=
  ∀ (pins : List (Addr × Obj)) (s : Shared) (σ : St) (H : Hp) (Q : Bool → Hp → Prop), Inv X pins σ H s → t σ H Q →
    wpAny (model X.prog X.w) X.A (forIn ifs true fun c r => if r = true then do let ok ← isTrue c X.env (eval c X.env); pure (ForInStep.yield ok) else pure (ForInStep.yield r)) (TP X pins σ Q) X.xe s
def tYes : TT := fun _ H Q => Q true H
theorem pts_nil : PTs X [] tYes := fun _ _ _ H _ I h => wpAny_tests_nil ⟨H, I, h⟩
theorem pts_one {c : Expr} {t : TT} (h : PT X c t) : PTs X [c] t := fun pins s σ H Q I hw => wpAny_tests_one (h pins s σ H Q I hw)
end
theorem thnF {α : Type} {t : Sem α} {Q Q' : α → Shared → Prop} {M : Model} {A : Around} {E : Value → Shared → Prop} {s : Shared} (h : wpAny M A t Q (fun _ _ => False) s) (hQ : ∀ a s, Q a s → Q' a s) : wpAny M A t Q' E s := wpAny_mono h hQ fun _ _ z => False.elim z
theorem compLoop_any {prog : Program} {w : World} {A : Around} {R : Result → Shared → Prop} {s : Shared} {elt target iter : Expr} {ifs : List Expr} {scope : Scope} {pos : Pos} {it acc : Value} {env : Env} (I : Nat → Shared → Prop)
    (turn : ∀ n s, I n s → wpAny (model prog w) A (pyNext it) (fun r s₁ => match r with
      | none => R (.ok .next) s₁
      | some v => wpAny (model prog w) A (letOwnedTupleGo target it v) (fun _ s₁' => wpAny (model prog w) A (assign target env v) (fun _ s₂ =>
          wpAny (model prog w) A (forIn ifs true fun c r => if r = true then do let ok ← isTrue c env (eval c env); pure (ForInStep.yield ok) else pure (ForInStep.yield r)) (fun ok s₃ =>
            if ok = true then wpAny (model prog w) A (eval elt env) (fun x s₄ =>
              wpAny (model prog w) A (call (.builtin "list.append") [acc, x]) (fun _ s₅ => ∃ m, m < n ∧ I m s₅) (notedBy (model prog w) A env fun e s' => R (.error e) s') s₄) (notedBy (model prog w) A env fun e s' => R (.error e) s') s₃
            else ∃ m, m < n ∧ I m s₃) (notedBy (model prog w) A env fun e s' => R (.error e) s') s₂) (notedBy (model prog w) A env fun e s' => R (.error e) s') s₁') (notedBy (model prog w) A env fun e s' => R (.error e) s') s₁) (notedBy (model prog w) A env fun e s' => R (.error e) s') s)
    (n : Nat) (h : I n s) :
    codeAny (model prog w) A (.compLoop (.ListComp elt [⟨target, iter, ifs, 0⟩] scope pos) 0 it acc env) R s := by
  refine codeAny_loop rfl I (fun n s hI => ?_) n h
  show wpAny _ A ((compTurn (.ListComp elt [⟨target, iter, ifs, 0⟩] scope pos) 0 it acc env).onRaise (fun x => do noteFrame x env; theTreesLotGoes x)) _ _ s
  refine wpAny_noted ?_
  rw [compTurn_list]
  refine wpAny_bind (wpAny_standAt (wpAny_bind (wpAny_mono (turn n s hI) (fun r s₁ h₁ => ?_) fun _ _ h' => h')))
  cases r with
  | none => exact wpAny_pure h₁
  | some v =>
    refine wpAny_bind (wpAny_mono h₁ (fun _ s₁' h₁' => ?_) fun _ _ h' => h')
    refine wpAny_bind (wpAny_mono h₁' (fun _ s₂ h₂ => wpAny_bind (wpAny_mono h₂ (fun ok s₃ h₃ => ?_) fun _ _ h' => h')) fun _ _ h' => h')
    cases ok with
    | false => exact wpAny_pure ⟨rfl, h₃⟩
    | true =>
      exact wpAny_bind (wpAny_bind (wpAny_mono h₃ (fun x s₄ h₄ => wpAny_bind (wpAny_mono h₄ (fun _ s₅ h₅ => wpAny_pure (wpAny_pure ⟨rfl, h₅⟩)) fun _ _ h' => h')) fun _ _ h' => h'))
section
variable {X : Cx}
def tLc (wi : TI) (g : TG) (tt : TT) (te : TE) (vs : List Nat) : TE := fun σ H Q => wi σ H fun J H1 => ∀ D, H1 D = none → ∃ W : Nat → Nat → Hp → Prop, (∃ m, W 0 m (upd H1 D (.lst []))) ∧ ∀ i m H, W i m H →
  (J.stop i H ∧ Q (.ref D) H) ∨ (J.go i H ∧ ∃ Nx : Hp → Prop, (∀ H', Nx H' → ∃ m', m' < m ∧ W (i + 1) m' H') ∧ ∀ x H', J.yld i H x H' → g x (wipe σ vs) H' fun σ2 H2 => wipe σ2 vs = wipe σ vs ∧ tt σ2 H2 fun b H3 =>
    if b = true then te σ2 H3 fun y H4 => ∃ acc, H4 D = some (.lst acc) ∧ acc.length < sizeLine ∧ Nx (upd H4 D (.lst (acc ++ [y]))) else Nx H3)
theorem lc_core {pins : List (Addr × Obj)} {s : Shared} {σ : St} {H : Hp} {Q : VK} {elt tg iter : Expr} {ifs : List Expr} {scope : Scope} {own : List (Str × Nat)} {pos pos' : Pos} {wi : TI} {g : TG} {tt : TT} {te : TE} {use : Option (Value → Sem Unit)} {Qf : Value → Shared → Prop}
    (hc : X.calm = true) (hN : X.N.Nodup) (I : Inv X pins σ H s) (hi : PI X tg iter wi) (ok : BlkOk X.N X.env.scope scope own)
    (hg : ∀ (s : Shared) (H : Hp) (C : Addr) (cl : List (Str × Addr)) (fp : List Addr), PG (X.blk s H scope (compEnvC scope cl C X.env) fp) tg g) (ht : ∀ (s : Shared) (H : Hp) (C : Addr) (cl : List (Str × Addr)) (fp : List Addr), PTs (X.blk s H scope (compEnvC scope cl C X.env) fp) ifs tt)
    (he : ∀ (s : Shared) (H : Hp) (C : Addr) (cl : List (Str × Addr)) (fp : List Addr), PE (X.blk s H scope (compEnvC scope cl C X.env) fp) elt te) (hs : ∀ x, foldedSetIterable iter X.env x = pure x)
    (h : tLc wi g tt te (own.map (·.2)) σ H Q)
    (hRR : ∀ D C s' m H', Inv X pins σ H' s' → Q (.ref D) H' → s'.heap.Ns C m → FpOk X pins H' C → compPost (model X.prog X.w) X.A X.xe use Qf (.ref D) C (.ok .next) s') :
    wpAny (model X.prog X.w) X.A (comprehension (.ListComp elt [⟨tg, iter, ifs, 0⟩] scope pos) scope X.env pos' (newList []) false (eval iter X.env) use) Qf X.xe s := by
  have hfree : ∀ y ∈ scope.names, y.2 = .free → ∃ c, X.env.cells.lookup y.1 = some c := fun y hy e => by
    rcases ok.free y hy e with k | k
    · exact I.ok.has _ (.inl k)
    · exact I.ok.has _ (.inr k)
  refine wpAny_comprehension_free (use := use) rfl hs (closure_ok hfree) ok.kind (fun y hy e => by rw [ok.uniq y hy, e])
    (thn (hi pins s σ H _ I h) fun xv s1 hx => thn hx fun itv s2 h2 => ?_)
  obtain ⟨it, fp, tn, J, H2, e, I2, T, st2, f2, q⟩ := h2
  subst e
  refine wpAny_newObj_type (newEnv_comp ?_) (by show 0 ≤ sizeLine; decide)
  generalize hD : s2.heap.objs.size = D
  have hDn : H2 D = none := I2.hok.fresh (Nat.le_of_eq hD)
  obtain ⟨W, ⟨m0, w0⟩, turn⟩ := q D hDn
  generalize hs3 : ({ s2 with heap := s2.heap.push { cls := .type "list", data := .seq ([] : List Value).toArray } } : Shared) = s3
  have I3 : Inv X pins σ (upd H2 D (.lst [])) s3 := by
    rw [← hs3]
    refine I2.laid (t' := s2.toks) (fun b o e => Heap.get?_push_of_some _ e) (Nat.le_of_eq hD) ⟨Nat.zero_le _, [], 0, .nil, ?_⟩
    rw [← hD]
    exact Heap.get?_push_size _ rfl
  have h3 : s3.heap = s2.heap.push { cls := .type "list", data := .seq ([] : List Value).toArray } := by rw [← hs3]
  have sz : ∀ b ∈ fp, b < s2.heap.objs.size := fun b hb => by
    obtain ⟨o, e, _⟩ := T.obj _ _ st2 b hb
    exact Heap.lt_size e
  have f3 : ∀ b ∈ fp, FpOk X pins (upd H2 D (.lst [])) b ∧ b < s3.heap.objs.size := fun b hb => by
    have hlt := sz b hb
    refine ⟨⟨?_, (f2 b hb).2⟩, by rw [h3, Heap.size_push]; exact Nat.lt_succ_of_lt hlt⟩
    rw [upd_ne (by rw [← hD]; exact Nat.ne_of_lt hlt)]
    exact (f2 b hb).1
  have st3 : tn 0 s3.heap := T.keep _ _ _ st2 fun b _ o e => by rw [h3]; exact Heap.get?_push_of_some _ e
  have I4 := block_start I3 ok hN f3
  have pg := hg s3 (upd H2 D (.lst [])) s3.heap.objs.size (cellsFrom (s3.heap.objs.size + 1) scope.names (cloFrom X.env.cells scope.names [])) fp
  have pt := ht s3 (upd H2 D (.lst [])) s3.heap.objs.size (cellsFrom (s3.heap.objs.size + 1) scope.names (cloFrom X.env.cells scope.names [])) fp
  have pe := he s3 (upd H2 D (.lst [])) s3.heap.objs.size (cellsFrom (s3.heap.objs.size + 1) scope.names (cloFrom X.env.cells scope.names [])) fp
  show codeAny _ _ (.compStart (.ListComp elt [⟨tg, iter, ifs, 0⟩] scope pos) 0 (.ref it) (.ref D) (compEnvC scope (cellsFrom (s3.heap.objs.size + 1) scope.names (cloFrom X.env.cells scope.names [])) s3.heap.objs.size X.env)) (compPost (model X.prog X.w) X.A X.xe use Qf (.ref D) s3.heap.objs.size) { s3 with heap := pushCells (s3.heap.push { cls := .type "dict", data := .dict #[] }) scope.names }
  have nfp : ∀ b ∈ fp, (upd H2 D (.lst [])) b = none := fun b hb => (f3 b hb).1.1
  generalize hce : compEnvC scope (cellsFrom (s3.heap.objs.size + 1) scope.names (cloFrom X.env.cells scope.names [])) s3.heap.objs.size X.env = ce at I4 pg pt pe ⊢
  have cL : ce.locals = s3.heap.objs.size := by subst hce; rfl
  generalize hH3 : upd H2 D (.lst []) = H3 at I3 I4 pg pt pe w0 nfp f3
  generalize hs4 : ({ s3 with heap := pushCells (s3.heap.push { cls := .type "dict", data := .dict #[] }) scope.names } : Shared) = s4 at I4 ⊢
  have st4 : tn 0 s4.heap := T.keep _ _ _ st3 fun b _ o e => by rw [← hs4]; exact pushCells_keeps _ _ _ _ (Heap.get?_push_of_some _ e)
  have stat : ∀ {σ' : St} {H' : Hp} {s' : Shared}, Inv (X.blk s3 H3 scope ce fp) [] σ' H' s' → (∀ b ∈ fp, H' b = none) → ∀ b ∈ fp, FpOk (X.blk s3 H3 scope ce fp) [] H' b := fun {σ' H' s'} I' hn b hb =>
    ⟨hn b hb, (I'.ok.exf b hb).1, I'.ok.exfs b hb, .inl hb, fun x c e => (I'.ok.exf b hb).2 x c e, fun p hp => absurd (show p ∈ ([] : List (Addr × Obj)) ++ [] from hp) (by simp)⟩
  have loop : codeAny (model X.prog X.w) X.A (.compLoop (.ListComp elt [⟨tg, iter, ifs, 0⟩] scope pos) 0 (.ref it) (.ref D) ce) (compPost (model X.prog X.w) X.A X.xe use Qf (.ref D) s3.heap.objs.size) s4 := by
    refine compLoop_any (fun n s' => ∃ i H', Inv (X.blk s3 H3 scope ce fp) [] (wipe σ (own.map (·.2))) H' s' ∧ tn i s'.heap ∧ (∀ b ∈ fp, H' b = none) ∧ W i n H') ?_ m0 ⟨0, H3, I4, st4, nfp, w0⟩
    rintro n s5 ⟨i, H5, I5, st5, n5, w5⟩
    rcases turn i n H5 w5 with ⟨stop, qq⟩ | ⟨go, Nx, hNx, step⟩
    · have td := T.done (X.blk s3 H3 scope ce fp) rfl rfl rfl hc i [] s5 _ H5 (fun _ _ => False) I5 (stat I5 n5) st5 stop
      refine thnF td fun r s6 ⟨hr, I6⟩ => ?_
      subst hr
      have I7 : Inv X pins σ H5 s6 := I3.call' (ch := fp) I6.os I6.base I6.hok I6.bare fun b hb => ⟨(f3 b hb).1.2.2.2.1, (f3 b hb).1.2.1, (f3 b hb).1.2.2.2.2.1, (f3 b hb).1.2.2.2.2.2⟩
      have nC : H5 s3.heap.objs.size = none := by
        have z : H5 ce.locals = none := I6.free
        rw [cL] at z
        exact z
      obtain ⟨m, hn, _⟩ := I6.loc
      have hn : s6.heap.Ns ce.locals m := hn
      rw [cL] at hn
      exact hRR D s3.heap.objs.size s6 m H5 I7 qq hn (I3.fpOk (Nat.le_refl _) nC)
    · have ti := T.item (X.blk s3 H3 scope ce fp) rfl rfl rfl hc i [] s5 _ H5 (fun _ _ => False) I5 (stat I5 n5) st5 go
      refine thnF ti fun r s6 ⟨u, hr, h6⟩ => ?_
      subst hr
      refine thnF h6 fun _ s7 ⟨x, H7, I7, r7, y7, st7, n7⟩ => ?_
      have I7' := I7.pinned (stat I7 n7) (T.obj _ _ st7)
      refine thnF (pg _ s7 _ H7 x u _ I7' r7 (step x H7 y7)) fun _ s8 ⟨σ8, H8, I8, hw8, q8⟩ => ?_
      refine thnF (pt _ s8 σ8 H8 _ I8 q8) fun b s9 ⟨H9, I9, q9⟩ => ?_
      have fin : ∀ {s' : Shared} {H' : Hp}, Inv (X.blk s3 H3 scope ce fp) ([] ++ pinsAt fp s7.heap) σ8 H' s' → Nx H' → ∃ m, m < n ∧ ∃ i H', Inv (X.blk s3 H3 scope ce fp) [] (wipe σ (own.map (·.2))) H' s' ∧ tn i s'.heap ∧ (∀ b ∈ fp, H' b = none) ∧ W i m H' := fun {s' H'} I' nx => by
        obtain ⟨m', hm, w'⟩ := hNx H' nx
        have pin' : ∀ b ∈ fp, ∀ o, s7.heap.get? b = some o → s'.heap.get? b = some o ∧ H' b = none := fun b hb o e =>
          let z := I'.pin (b, o) (List.mem_append_right _ (List.mem_append_right _ (mem_pinsAt hb e)))
          ⟨z.1, z.2.1⟩
        have hl : (wipe σ (own.map (·.2))).length = σ8.length := by rw [← hw8, wipe_length]
        refine ⟨m', hm, i + 1, H', (I'.unpinned (pins := [])).weak hl (fun j v e => ?_), T.keep _ _ _ st7 fun b hb o e => (pin' b hb o e).1, fun b hb => ?_, w'⟩
        · rw [← hw8] at e
          exact (wipe_some e).1
        · obtain ⟨o, e, _⟩ := T.obj _ _ st7 b hb
          exact (pin' b hb o e).2
      cases b with
      | false =>
        simp only [Bool.false_eq_true, if_false] at q9 ⊢
        exact fin I9 q9
      | true =>
        simp only [if_true] at q9 ⊢
        refine thnF (pe _ s9 σ8 H9 _ I9 q9) fun z s10 ⟨yv, H10, I10, r10, acc, hD10, hz10, nx⟩ => ?_
        exact app_ok (X := X.blk s3 H3 scope ce fp) I10 hD10 hz10 r10 fun s11 I11 => fin I11 nx
  exact codeAny_compStart_list loop (T.self X.A 0 _ _ _ st4 loop)
theorem pe_lc {elt tg iter : Expr} {ifs : List Expr} {scope : Scope} {own : List (Str × Nat)} {pos : Pos} {wi : TI} {g : TG} {tt : TT} {te : TE} (hc : X.calm = true) (hN : X.N.Nodup) (hi : PI X tg iter wi) (ok : BlkOk X.N X.env.scope scope own)
    (hg : ∀ (s : Shared) (H : Hp) (C : Addr) (cl : List (Str × Addr)) (fp : List Addr), PG (X.blk s H scope (compEnvC scope cl C X.env) fp) tg g) (ht : ∀ (s : Shared) (H : Hp) (C : Addr) (cl : List (Str × Addr)) (fp : List Addr), PTs (X.blk s H scope (compEnvC scope cl C X.env) fp) ifs tt)
    (he : ∀ (s : Shared) (H : Hp) (C : Addr) (cl : List (Str × Addr)) (fp : List Addr), PE (X.blk s H scope (compEnvC scope cl C X.env) fp) elt te) (hs : ∀ x, foldedSetIterable iter X.env x = pure x := by intro _; rfl) :
    PE X (.ListComp elt [⟨tg, iter, ifs, 0⟩] scope pos) (tLc wi g tt te (own.map (·.2))) := by
  intro pins s σ H Q I h
  rw [eval_ListComp]
  refine lc_core hc hN I hi ok hg ht he hs h fun D C s' m H' I' q hn f => ⟨m, hn, fun h'' sb => ?_⟩
  obtain ⟨f0, f1, f2, f3, f4, f5⟩ := f
  exact ⟨.ref D, H', I'.turned (t' := s'.toks) (fun b o hb e => (sb.2 b hb).trans e) f0 f1 f3 f4 f5, rfl, q⟩
theorem ps_setLc {i : Nat} {y : Str} {py : Pos} {elt tg iter : Expr} {ifs : List Expr} {scope : Scope} {own : List (Str × Nat)} {pos spos : Pos} {wi : TI} {g : TG} {tt : TT} {te : TE} (hc : X.calm = true) (hN : X.N.Nodup) (hy : X.N[i]? = some y) (hyl : X.env.scope.names.lookup y = some .local)
    (hsw : swapsWith (.ListComp elt [⟨tg, iter, ifs, 0⟩] scope pos) (some (.Name y py)) spos.line X.env = pure true) (hi : PI X tg iter wi) (ok : BlkOk X.N X.env.scope scope own)
    (hg : ∀ (s : Shared) (H : Hp) (C : Addr) (cl : List (Str × Addr)) (fp : List Addr), PG (X.blk s H scope (compEnvC scope cl C X.env) fp) tg g) (ht : ∀ (s : Shared) (H : Hp) (C : Addr) (cl : List (Str × Addr)) (fp : List Addr), PTs (X.blk s H scope (compEnvC scope cl C X.env) fp) ifs tt)
    (he : ∀ (s : Shared) (H : Hp) (C : Addr) (cl : List (Str × Addr)) (fp : List Addr), PE (X.blk s H scope (compEnvC scope cl C X.env) fp) elt te) (hs : ∀ x, foldedSetIterable iter X.env x = pure x := by intro _; rfl) :
    PS X (.Assign [.Name y py] (.ListComp elt [⟨tg, iter, ifs, 0⟩] scope pos) spos) (tAsg (tLc wi g tt te (own.map (·.2))) (gName i)) := by
  intro pins s σ H D I h
  rw [exec_Assign_Name_used _ _ _ _ hsw]
  refine wpAny_bind (wpAny_standAt (wpAny_bind ?_))
  show wpAny _ X.A (do let _ ← comprehension (.ListComp elt [⟨tg, iter, ifs, 0⟩] scope pos) scope X.env (firstIterPos [⟨tg, iter, ifs, 0⟩] pos) (newList []) false (eval iter X.env) (some (assign (.Name y py) X.env))) _ _ s
  have h : tLc wi g tt te (own.map (·.2)) σ H (fun x H1 => gName i x σ H1 D.nx) := h
  refine wpAny_bind (thn (lc_core (Qf := fun _ s' => SP X pins D .next s') hc hN I hi ok hg ht he hs h fun L C s' m H' I' q hn f => ?_) fun _ s' hq => wpAny_pure (wpAny_pure hq))
  show wpAny _ _ (assign (.Name y py) X.env (.ref L)) _ _ _
  refine wpAny_assign_Name (store_ok2 (v := V.ref L) I' hN hy (.inl hyl) rfl (fun s2 I2 ⟨a, sb, ha⟩ => ?_) (.inr hyl))
  obtain ⟨f0, f1, f2, f3, f4, f5⟩ := f
  have haC : C ≠ a := by
    rcases ha with z | z
    · rw [z]; exact f1
    · exact fun e => f4 y a z e.symm
  refine ⟨m, hn.sameBut sb haC, fun h3 sb3 => ?_⟩
  exact ⟨_, H', I2.turned (t' := s2.toks) (fun b o hb e => (sb3.2 b hb).trans e) f0 f1 f3 f4 f5, q⟩
theorem sw_true {elt : Expr} {gs : List Comprehension} {scope : Scope} {pos py : Pos} {y : Str} {l : Nat} {env : Env} (hk : env.scope.kind = .function) (hy : env.scope.names.lookup y = some .local) (hl : (py.line == pos.line) = true)
    (ha : (scope.names.any fun (n, k) => n == y && (k == .local || k == .cell)) = false) : swapsWith (.ListComp elt gs scope pos) (some (.Name y py)) l env = pure true := by
  have ky : env.kindOf y = some .local := hy
  have hb : env.blockKind = .function := by unfold Env.blockKind; rw [hk]; rfl
  unfold swapsWith
  simp only [hb, ky, ha, Expr.pos, hl]
  rfl
end
theorem lc_list {K : PySem.W.Frag} {a : Addr} {xs : List V} {g : TG} {tt : TT} {te : TE} {vs : List Nat} {σ : St} {H1 : Hp} {D : Addr} {Qd : Hp → Prop} (Pv : Nat → Hp → Prop) (h0 : Pv 0 (upd H1 D (.lst []))) (hl : ∀ i H, i ≤ xs.length → Pv i H → SqL K H a xs)
    (hs : ∀ i x H, xs[i]? = some x → Pv i H → g x (wipe σ vs) H fun σ2 H2 => wipe σ2 vs = wipe σ vs ∧ tt σ2 H2 fun b H3 =>
      if b = true then te σ2 H3 fun y H4 => ∃ acc, H4 D = some (.lst acc) ∧ acc.length < sizeLine ∧ Pv (i + 1) (upd H4 D (.lst (acc ++ [y]))) else Pv (i + 1) H3) (hd : ∀ H, Pv xs.length H → Qd H) :
    ∃ W : Nat → Nat → Hp → Prop, (∃ m, W 0 m (upd H1 D (.lst []))) ∧ ∀ i m H, W i m H →
      ((Itl K a).stop i H ∧ Qd H) ∨ ((Itl K a).go i H ∧ ∃ Nx : Hp → Prop, (∀ H', Nx H' → ∃ m', m' < m ∧ W (i + 1) m' H') ∧ ∀ x H', (Itl K a).yld i H x H' → g x (wipe σ vs) H' fun σ2 H2 => wipe σ2 vs = wipe σ vs ∧ tt σ2 H2 fun b H3 =>
        if b = true then te σ2 H3 fun y H4 => ∃ acc, H4 D = some (.lst acc) ∧ acc.length < sizeLine ∧ Nx (upd H4 D (.lst (acc ++ [y]))) else Nx H3) := by
  refine ⟨fun i m H => m = xs.length - i ∧ i ≤ xs.length ∧ Pv i H, ⟨xs.length, by simp, Nat.zero_le _, h0⟩, ?_⟩
  rintro i m H ⟨rfl, hi, p⟩
  have q := hl i H hi p
  by_cases hlt : i < xs.length
  · refine .inr ⟨⟨xs, xs[i], q, by simp [hlt]⟩, Pv (i + 1), fun H' p' => ⟨xs.length - (i + 1), by omega, rfl, hlt, p'⟩, fun x H' y => ?_⟩
    obtain ⟨e, y⟩ := y
    subst e
    exact hs i x _ (y xs q) p
  · have e : i = xs.length := by omega
    subst e
    exact .inl ⟨⟨xs, q, Nat.le_refl _⟩, hd H p⟩
def blkC (N : List Str) (sc scope : Scope) (own : List (Str × Nat)) : Bool :=
  (match scope.kind with | .function => true | _ => false) && (scope.names.all fun y => decide (scope.names.lookup y.1 = some y.2)) && (own.all fun p => decide (N[p.2]? = some p.1)) &&
    (scope.names.all fun y => match y.2 with
      | .free => (match sc.names.lookup y.1 with | some .cell => true | some .free => true | _ => false)
      | .local => decide (y.1 ∈ own.map (·.1)) || decide (y.1 ∉ N)
      | .cell => decide (y.1 ∈ own.map (·.1)) || decide (y.1 ∉ N)
      | _ => true)
theorem blkOk_by {N : List Str} {sc scope : Scope} {own : List (Str × Nat)} (h : blkC N sc scope own = true) : BlkOk N sc scope own := by
  unfold blkC at h
  simp only [Bool.and_eq_true, List.all_eq_true, decide_eq_true_eq] at h
  obtain ⟨⟨⟨h1, h2⟩, h3⟩, h4⟩ := h
  refine ⟨?_, h2, h3, fun y hy e => ?_, fun y hy e => ?_⟩
  · split at h1
    · assumption
    · cases h1
  · have q := h4 y hy
    simp only [e] at q
    split at q <;> first | exact .inl (by assumption) | exact .inr (by assumption) | cases q
  · have q := h4 y hy
    rcases e with e | e <;> (simp only [e, Bool.or_eq_true, decide_eq_true_eq] at q; exact q)
end L2
namespace L2
open PySem PySem.Spec PyProof.Rows
section
variable {κ : Type} [DecidableEq κ]
def valV (kvs : List (κ × V)) (k : κ) : Option V := (kvs.find? fun kv => decide (kv.1 = k)).map (·.2)
def putK (kvs : List (κ × V)) (k : κ) (v : V) : List (κ × V) :=
  if (kvs.any fun kv => decide (kv.1 = k)) = true then kvs.map (fun kv => if kv.1 = k then (kv.1, v) else kv) else kvs ++ [(k, v)]
def dropK (kvs : List (κ × V)) (k : κ) : List (κ × V) := kvs.filter fun kv => decide (kv.1 ≠ k)
theorem valV_pos {p : κ × V} {r : List (κ × V)} {k : κ} (e : p.1 = k) : valV (p :: r) k = some p.2 := by simp [valV, List.find?_cons, e]
theorem valV_neg {p : κ × V} {r : List (κ × V)} {k : κ} (e : ¬ p.1 = k) : valV (p :: r) k = valV r k := by simp [valV, List.find?_cons, e]
theorem valV_any (k : κ) : ∀ kvs : List (κ × V), (kvs.any fun kv => decide (kv.1 = k)) = (valV kvs k).isSome
  | [] => rfl
  | p :: r => by
    rw [List.any_cons]
    by_cases e : p.1 = k
    · simp only [valV_pos e, decide_eq_true e, Bool.true_or, Option.isSome_some]
    · rw [valV_neg e, decide_eq_false e, Bool.false_or]; exact valV_any k r
theorem valV_map (k j : κ) (y : V) : ∀ kvs : List (κ × V), valV (kvs.map fun kv => if kv.1 = k then (kv.1, y) else kv) j = (valV kvs j).map fun x => if j = k then y else x
  | [] => rfl
  | p :: r => by
    have ih := valV_map k j y r
    rw [List.map_cons]
    by_cases h : p.1 = k
    · rw [if_pos h]
      by_cases e : p.1 = j
      · rw [valV_pos (p := (p.1, y)) e, valV_pos e, Option.map_some, if_pos (e.symm.trans h)]
      · rw [valV_neg (p := (p.1, y)) e, valV_neg e, ih]
    · rw [if_neg h]
      by_cases e : p.1 = j
      · rw [valV_pos (p := p) e, valV_pos e, Option.map_some, if_neg (fun z => h (e.trans z))]
      · rw [valV_neg (p := p) e, valV_neg e, ih]
theorem valV_snoc (k j : κ) (y : V) : ∀ kvs : List (κ × V), valV kvs k = none → valV (kvs ++ [(k, y)]) j = if j = k then some y else valV kvs j
  | [], _ => by
    by_cases e : k = j
    · rw [if_pos e.symm]; exact valV_pos (p := (k, y)) e
    · rw [if_neg (fun z => e z.symm)]; exact valV_neg (p := (k, y)) e
  | p :: r, hn => by
    rw [List.cons_append]
    have hk : ¬ p.1 = k := fun z => by rw [valV_pos z] at hn; cases hn
    rw [valV_neg hk] at hn
    have ih := valV_snoc k j y r hn
    by_cases e : p.1 = j
    · rw [valV_pos e, valV_pos e, if_neg (fun z => hk (e.trans z))]
    · rw [valV_neg e, valV_neg e, ih]
theorem valV_put (kvs : List (κ × V)) (k j : κ) (y : V) : valV (putK kvs k y) j = if j = k then some y else valV kvs j := by
  unfold putK
  by_cases a : (kvs.any fun kv => decide (kv.1 = k)) = true
  · rw [if_pos a, valV_map]
    rw [valV_any] at a
    by_cases e : j = k
    · obtain ⟨x, hx⟩ := Option.isSome_iff_exists.mp a
      rw [if_pos e, e, hx, Option.map_some, if_pos rfl]
    · rw [if_neg e]
      cases valV kvs j with
      | none => rfl
      | some x => rw [Option.map_some, if_neg e]
  · rw [if_neg a]
    refine valV_snoc k j y kvs ?_
    rw [valV_any] at a
    cases q : valV kvs k with
    | none => rfl
    | some x => rw [q] at a; exact (a rfl).elim
theorem length_putK (kvs : List (κ × V)) (k : κ) (v : V) : (putK kvs k v).length ≤ kvs.length + 1 := by
  unfold putK
  split
  · rw [List.length_map]; omega
  · rw [List.length_append, List.length_cons, List.length_nil]; omega
theorem putK_new {kvs : List (κ × V)} {k : κ} (v : V) (h : valV kvs k = none) : putK kvs k v = kvs ++ [(k, v)] := by
  unfold putK
  rw [valV_any, h]
  exact if_neg (by decide)
theorem RelO.isSome_eq {o : Option V} {u : Option Value} (r : RelO o u) : o.isSome = u.isSome := by
  cases o with
  | none => cases u with
    | none => rfl
    | some _ => exact (show False from r).elim
  | some _ => cases u with
    | none => exact (show False from r).elim
    | some _ => rfl
theorem RelO.getD {o : Option V} {u : Option Value} {d : V} {d' : Value} (r : RelO o u) (rd : RelV d d') : RelV (o.getD d) (u.getD d') := by
  cases o with
  | none => cases u with
    | none => exact rd
    | some _ => exact (show False from r).elim
  | some _ => cases u with
    | none => exact (show False from r).elim
    | some _ => exact r
theorem KV.val {kvs : List (κ × V)} {vs : List (κ × Value)} (r : KV kvs vs) (k : κ) : RelO (valV kvs k) (valueAt vs k) := by
  unfold KV at r
  induction r with
  | nil => exact True.intro
  | @cons p q ps qs h t ih =>
    obtain ⟨h1, h2⟩ := h
    by_cases e : p.1 = k
    · have e' : q.1 = k := h1.symm.trans e
      have b : valueAt (q :: qs) k = some q.2 := by simp [valueAt, List.find?_cons, e']
      rw [valV_pos e, b]; exact h2
    · have e' : ¬ q.1 = k := fun z => e (h1.trans z)
      have b : valueAt (q :: qs) k = valueAt qs k := by simp [valueAt, List.find?_cons, e']
      rw [valV_neg e, b]; exact ih
theorem KV.any {kvs : List (κ × V)} {vs : List (κ × Value)} (r : KV kvs vs) (k : κ) : (kvs.any fun kv => decide (kv.1 = k)) = vs.any fun kv => decide (kv.1 = k) := by
  unfold KV at r
  induction r with
  | nil => rfl
  | cons h t ih => rw [List.any_cons, List.any_cons, ih, h.1]
theorem KV.repl {kvs : List (κ × V)} {vs : List (κ × Value)} (r : KV kvs vs) (k : κ) {y : V} {u : Value} (ry : RelV y u) :
    KV (kvs.map fun kv => if kv.1 = k then (kv.1, y) else kv) (vs.map fun kv => if kv.1 = k then (kv.1, u) else kv) := by
  unfold KV at r ⊢
  induction r with
  | nil => exact .nil
  | @cons p q ps qs h t ih =>
    rw [List.map_cons, List.map_cons]
    refine .cons ?_ ih
    obtain ⟨h1, h2⟩ := h
    by_cases e : p.1 = k
    · rw [if_pos e, if_pos (h1.symm.trans e)]; exact ⟨h1, ry⟩
    · rw [if_neg e, if_neg (fun z => e (h1.trans z))]; exact ⟨h1, h2⟩
theorem KV.put {kvs : List (κ × V)} {vs : List (κ × Value)} (r : KV kvs vs) (k : κ) {y : V} {u : Value} (ry : RelV y u) : KV (putK kvs k y) (stored vs k u) := by
  unfold putK stored
  rw [r.any k]
  by_cases e : (vs.any fun kv => decide (kv.1 = k)) = true
  · rw [if_pos e, if_pos e]; exact r.repl k ry
  · rw [if_neg e, if_neg e]; exact Paired.snoc r ⟨rfl, ry⟩
theorem KV.drop {kvs : List (κ × V)} {vs : List (κ × Value)} (r : KV kvs vs) (k : κ) : KV (dropK kvs k) (without vs k) := by
  unfold KV at r ⊢
  unfold dropK without
  induction r with
  | nil => exact .nil
  | @cons p q ps qs h t ih =>
    obtain ⟨h1, h2⟩ := h
    rw [List.filter_cons, List.filter_cons]
    by_cases e : p.1 = k
    · have a : ¬ decide (p.1 ≠ k) = true := by simp [e]
      have b : ¬ decide (q.1 ≠ k) = true := by simp [h1.symm.trans e]
      rw [if_neg a, if_neg b]; exact ih
    · have e' : ¬ q.1 = k := fun z => e (h1.trans z)
      have a : decide (p.1 ≠ k) = true := by simp [e]
      have b : decide (q.1 ≠ k) = true := by simp [e']
      rw [if_pos a, if_pos b]; exact .cons ⟨h1, h2⟩ ih
theorem KV.length {kvs : List (κ × V)} {vs : List (κ × Value)} (r : KV kvs vs) : kvs.length = vs.length := Paired.length r
theorem dropK_le (kvs : List (κ × V)) (k : κ) : (dropK kvs k).length ≤ kvs.length := List.length_filter_le _ _
end
theorem kV_is {P : Program} {w : World} {k : Key} {u : Value} (r : RelV (kV k) u) : (mixKind P w).is k u = true := by
  cases k with
  | inl i => obtain ⟨t, e⟩ := (show ∃ t, u = Value.int i t from r); subst e; exact mixKind_int P w i t
  | inr x => obtain ⟨t, e⟩ := (show ∃ t, u = Value.str x t from r); subst e; exact mixKind_str P w x t
theorem items_are {P : Program} {w : World} : ∀ {ks : List Key} {us : List Value}, Vals (ks.map kV) us → ItemsAre (mixKind P w) ks us
  | [], _, r => by rw [List.map_nil] at r; cases r; exact .nil
  | k :: ks, _, r => by
    rw [List.map_cons] at r
    cases r with
    | cons h t => exact .cons (kV_is h) (items_are t)
abbrev KT (H : Hp) : List (List Key × V) → List (List Key × Addr × Value) → Prop := Paired fun p q => p.1 = q.1 ∧ H q.2.1 = some (.tup (p.1.map kV)) ∧ RelV p.2 q.2.2
theorem KT.val {H : Hp} {kvs : List (List Key × V)} {xs : List (List Key × Addr × Value)} (r : KT H kvs xs) (k : List Key) : RelO (valV kvs k) ((atKey xs k).map (·.2)) := by
  induction r with
  | nil => exact True.intro
  | @cons p q ps qs h t ih =>
    obtain ⟨h1, _, h2⟩ := h
    by_cases e : p.1 = k
    · have e' : q.1 = k := h1.symm.trans e
      have b : atKey (q :: qs) k = some q.2 := by simp [atKey, List.find?_cons, e']
      rw [valV_pos e, b]; exact h2
    · have e' : ¬ q.1 = k := fun z => e (h1.trans z)
      have b : atKey (q :: qs) k = atKey qs k := by simp [atKey, List.find?_cons, e']
      rw [valV_neg e, b]; exact ih
theorem KT.repl {H : Hp} {kvs : List (List Key × V)} {xs : List (List Key × Addr × Value)} (r : KT H kvs xs) (k : List Key) {y : V} {u : Value} (ry : RelV y u) :
    KT H (kvs.map fun kv => if kv.1 = k then (kv.1, y) else kv) (xs.map (putAt k u)) := by
  induction r with
  | nil => exact .nil
  | @cons p q ps qs h t ih =>
    rw [List.map_cons, List.map_cons]
    refine .cons ?_ ih
    obtain ⟨h1, h2, h3⟩ := h
    unfold putAt
    by_cases e : p.1 = k
    · rw [if_pos e, if_pos (h1.symm.trans e)]; exact ⟨h1, h2, ry⟩
    · rw [if_neg e, if_neg (fun z => e (h1.trans z))]; exact ⟨h1, h2, h3⟩
theorem KT.put {H : Hp} {kvs : List (List Key × V)} {xs : List (List Key × Addr × Value)} (r : KT H kvs xs) (k : List Key) {b : Addr} {y : V} {u : Value} (hb : H b = some (.tup (k.map kV))) (ry : RelV y u) :
    KT H (putK kvs k y) (storedH xs k b u) := by
  have e : (kvs.any fun kv => decide (kv.1 = k)) = (atKey xs k).isSome := by
    rw [valV_any, (r.val k).isSome_eq, Option.isSome_map]
  unfold putK storedH
  rw [e]
  by_cases q : (atKey xs k).isSome = true
  · rw [if_pos q, if_pos q]; exact r.repl k ry
  · rw [if_neg q, if_neg q]; exact Paired.snoc r ⟨rfl, hb, ry⟩
theorem KT.keeps {H H' : Hp} {kvs : List (List Key × V)} {xs : List (List Key × Addr × Value)} (r : KT H kvs xs) (ht : ∀ b ys, H b = some (.tup ys) → H' b = some (.tup ys)) : KT H' kvs xs :=
  Paired.mapP r fun _ _ z => ⟨z.1, ht _ _ z.2.1, z.2.2⟩
section
variable {P : Program} {w : World} {H : Hp} {h : Heap} {a : Addr}
theorem rd_of {u : HO} (ok : HOk P w H h) (e : Rd H a u) : ObjOk P w H h a u := e.ok ok
theorem dk_rd {kvs : List (Key × V)} (ok : HOk P w H h) (e : Rd H a (.dK kvs)) : kvs.length ≤ sizeLine ∧ (a == sysModules) = false ∧ ∃ vs, KV kvs vs ∧ h.DictOf (mixKind P w) a vs :=
  show ObjOk P w H h a (.dK kvs) from rd_of ok e
theorem dk_of {kvs : List (Key × V)} (ok : HOk P w H h) (e : H a = some (.dK kvs)) : kvs.length ≤ sizeLine ∧ (a == sysModules) = false ∧ ∃ vs, KV kvs vs ∧ h.DictOf (mixKind P w) a vs := dk_rd ok (.inl e)
theorem key_of {ks : List Key} (ok : HOk P w H h) (e : H a = some (.tup (ks.map kV))) : (tupleKind (mixKind P w)).is h ks a := by
  obtain ⟨_, its, r, o, h1, h2, n, h3⟩ := (show ObjOk P w H h a (.tup (ks.map kV)) from ok a _ e)
  exact ⟨o, its.toArray, n, h1, h2, h3, by simpa using items_are r⟩
theorem dt_rd {kvs : List (List Key × V)} (ok : HOk P w H h) (e : Rd H a (.dT kvs)) : kvs.length ≤ sizeLine ∧ (a == sysModules) = false ∧
    ∃ xs, KT H kvs xs ∧ h.DictOfH (tupleKind (mixKind P w)) a xs := by
  obtain ⟨z, y, xs, r, o, es, ep, h1, h2, h3, h4, h5⟩ := (show ObjOk P w H h a (.dT kvs) from rd_of ok e)
  refine ⟨z, y, xs, r, o, es, ep, h1, h2, h3, h4, fun x hx => ?_, h5⟩
  have all : ∀ {l : List (List Key × V)} {m : List (List Key × Addr × Value)}, KT H l m → ∀ x ∈ m, (tupleKind (mixKind P w)).is h x.1 x.2.1 := by
    intro l m q
    induction q with
    | nil => intro x hx; exact nomatch hx
    | @cons p q ps qs hq t ih =>
      intro x hx
      rcases List.mem_cons.mp hx with e | hx
      · subst e
        exact key_of ok (by rw [← hq.1]; exact hq.2.1)
      · exact ih x hx
  exact all r x hx
theorem dt_of {kvs : List (List Key × V)} (ok : HOk P w H h) (e : H a = some (.dT kvs)) : kvs.length ≤ sizeLine ∧ (a == sysModules) = false ∧
    ∃ xs, KT H kvs xs ∧ h.DictOfH (tupleKind (mixKind P w)) a xs := dt_rd ok (.inl e)
end
def DGet (H : Hp) (a : Addr) (y : V) (r : Option V) : Prop :=
  (∃ kvs k, Rd H a (.dK kvs) ∧ y = kV k ∧ r = valV kvs k) ∨ ∃ kvs k b, Rd H a (.dT kvs) ∧ y = .ref b ∧ H b = some (.tup (k.map kV)) ∧ r = valV kvs k
def DPut (H : Hp) (a : Addr) (y v : V) (H' : Hp) : Prop :=
  (∃ kvs k, H a = some (.dK kvs) ∧ y = kV k ∧ kvs.length < sizeLine ∧ H' = upd H a (.dK (putK kvs k v))) ∨
  ∃ kvs k b, H a = some (.dT kvs) ∧ y = .ref b ∧ H b = some (.tup (k.map kV)) ∧ kvs.length < sizeLine ∧ H' = upd H a (.dT (putK kvs k v))
theorem DGet.k {H : Hp} {a : Addr} {kvs : List (Key × V)} {k : Key} (e : H a = some (.dK kvs)) : DGet H a (kV k) (valV kvs k) := .inl ⟨kvs, k, .inl e, rfl, rfl⟩
theorem DPut.k {H : Hp} {a : Addr} {kvs : List (Key × V)} {k : Key} {v : V} (e : H a = some (.dK kvs)) (hl : kvs.length < sizeLine) : DPut H a (kV k) v (upd H a (.dK (putK kvs k v))) := .inl ⟨kvs, k, e, rfl, hl, rfl⟩
section
variable {X : Cx} {pins : List (Addr × Obj)} {σ : St} {H : Hp} {s : Shared} {a : Addr} {y v : V} {u r : Value} {o : Option V} {A : Around} {E : Value → Shared → Prop}
theorem Inv.big (I : Inv X pins σ H s) : sysModules < s.heap.objs.size := by
  have h : mainGlobals < s.heap.objs.size := (I.mod.glob.keeps I.bk).lt
  exact Nat.lt_trans (by decide) h
theorem d_getItem {Q : Value → Shared → Prop} (hu : A.units + 1 < cLine) (I : Inv X pins σ H s) (g : DGet H a y (some v)) (ry : RelV y u) (h : ∀ w' s', Inv X pins σ H s' → RelV v w' → Q w' s') :
    wpAny (model X.prog X.w) A (getItem (.ref a) u) Q E s := by
  rcases g with ⟨kvs, k, e, ey, l⟩ | ⟨kvs, k, b, e, ey, eb, l⟩
  · subst ey
    obtain ⟨z, hd, vs, rel, dd⟩ := dk_rd I.hok e
    obtain ⟨w', hw, rw'⟩ := RelO.some_of (v := v) (o := valueAt vs k) (by rw [l]; exact rel.val k)
    exact wpAny_getItem_of (kV_is ry) dd.mapOf hw (h w' _ (I.tok _) rw')
  · subst ey
    cases (show u = Value.ref b from ry)
    obtain ⟨z, hd, xs, rel, dd⟩ := dt_rd I.hok e
    obtain ⟨w', hw, rw'⟩ := RelO.some_of (v := v) (o := (atKey xs k).map (·.2)) (by rw [l]; exact rel.val k)
    obtain ⟨p, hp, hp2⟩ := Option.map_eq_some_iff.mp hw
    refine wpAny_getItem_heap (tupleKind_room_in1 hu) (key_of I.hok eb) dd hp ?_
    rw [hp2]
    exact h w' _ (I.tok _) rw'
theorem d_in {Q : Value → Shared → Prop} (hu : A.units + 1 < cLine) (I : Inv X pins σ H s) (g : DGet H a y o) (ry : RelV y u) (h : ∀ s', Inv X pins σ H s' → Q (.bool o.isSome) s') :
    wpAny (model X.prog X.w) A (compareOp .In u (.ref a)) Q E s := by
  rcases g with ⟨kvs, k, e, ey, l⟩ | ⟨kvs, k, b, e, ey, eb, l⟩
  · subst ey
    obtain ⟨z, hd, vs, rel, dd⟩ := dk_rd I.hok e
    refine wpAny_in_of (kV_is ry) hd dd.mapOf ?_
    rw [← (rel.val k).isSome_eq, ← l]
    exact h _ (I.tok _)
  · subst ey
    cases (show u = Value.ref b from ry)
    obtain ⟨z, hd, xs, rel, dd⟩ := dt_rd I.hok e
    refine wpAny_in_heap (tupleKind_room_in1 hu) (key_of I.hok eb) hd dd ?_
    have q := (rel.val k).isSome_eq
    rw [Option.isSome_map] at q
    rw [← q, ← l]
    exact h _ (I.tok _)
theorem d_notIn {Q : Value → Shared → Prop} (hu : A.units + 1 < cLine) (I : Inv X pins σ H s) (g : DGet H a y o) (ry : RelV y u) (h : ∀ s', Inv X pins σ H s' → Q (.bool (!o.isSome)) s') :
    wpAny (model X.prog X.w) A (compareOp .NotIn u (.ref a)) Q E s := by
  rcases g with ⟨kvs, k, e, ey, l⟩ | ⟨kvs, k, b, e, ey, eb, l⟩
  · subst ey
    obtain ⟨z, hd, vs, rel, dd⟩ := dk_rd I.hok e
    refine wpAny_notIn_of (kV_is ry) hd dd.mapOf ?_
    rw [← (rel.val k).isSome_eq, ← l]
    exact h _ (I.tok _)
  · subst ey
    cases (show u = Value.ref b from ry)
    obtain ⟨z, hd, xs, rel, dd⟩ := dt_rd I.hok e
    refine wpAny_notIn_heap (tupleKind_room_in1 hu) (key_of I.hok eb) hd dd ?_
    have q := (rel.val k).isSome_eq
    rw [Option.isSome_map] at q
    rw [← q, ← l]
    exact h _ (I.tok _)
theorem d_write {h' : Heap} {t' : Nat} {ob : HO} (I : Inv X pins σ H s) (mu : Mut (H a)) (hs : Heap.SameBut a s.heap h') (he : ∃ q, h'.get? a = some q) (new : ObjOk X.prog X.w (upd H a ob) h' a ob) :
    Inv X pins σ (upd H a ob) { s with heap := h', toks := t' } :=
  I.write (x := a) (e := a) mu (.inl rfl) (fun b q hb z => (hs.2 b hb).trans z) he new
theorem dk_new {P : Program} {w : World} {H' : Hp} {h' : Heap} {kvs : List (Key × V)} {vs : List (Key × Value)} (z : kvs.length ≤ sizeLine) (hd : (a == sysModules) = false) (rel : KV kvs vs) (dd : h'.DictOf (mixKind P w) a vs) :
    ObjOk P w H' h' a (.dK kvs) := ⟨z, hd, vs, rel, dd⟩
theorem d_setItem {H' : Hp} {Q : Unit → Shared → Prop} (hu : A.units + 1 < cLine) (I : Inv X pins σ H s) (g : DPut H a y v H') (ry : RelV y u) (rv : RelV v r) (h : ∀ s', Inv X pins σ H' s' → Q () s') :
    wpAny (model X.prog X.w) A (setItem (.ref a) u r) Q E s := by
  rcases g with ⟨kvs, k, e, ey, l, eH⟩ | ⟨kvs, k, b, e, ey, eb, l, eH⟩
  · subst ey eH
    obtain ⟨z, hd, vs, rel, dd⟩ := dk_of I.hok e
    have hz : vs.length ≤ sizeLine := by rw [← rel.length]; exact z
    have hl : (putK kvs k v).length ≤ sizeLine := by have := length_putK kvs k v; omega
    refine wpAny_setItem_pairs (hsz := hz) (kV_is ry) dd fun h' dd' hs => h _ ?_
    have he : ∃ q, h'.get? a = some q := let ⟨q, _, _, hq, _⟩ := dd'; ⟨q, hq⟩
    exact d_write I (by rw [e]; exact True.intro) hs he (dk_new hl hd (rel.put k rv) dd')
  · subst ey eH
    cases (show u = Value.ref b from ry)
    obtain ⟨z, hd, xs, rel, dd⟩ := dt_of I.hok e
    have hz : xs.length ≤ sizeLine := by rw [← Paired.length rel]; exact z
    have hl : (putK kvs k v).length ≤ sizeLine := by have := length_putK kvs k v; omega
    refine wpAny_setItem_heap (hsz := hz) (tupleKind_room_in1 hu) (key_of I.hok eb) dd fun h' dd' hs => h _ ?_
    obtain ⟨q, es, ep, hq, h2, h3, h4, _, h5⟩ := dd'
    refine d_write I (by rw [e]; exact True.intro) hs ⟨q, hq⟩ ⟨hl, hd, _, (rel.put k eb rv).keeps fun c ys ec => ?_, q, es, ep, hq, h2, h3, h4, h5⟩
    rw [upd_ne (ne_of ec e (fun z => nomatch z))]
    exact ec
end
section
variable {X : Cx} {pins : List (Addr × Obj)} {σ : St} {H : Hp} {s : Shared} {a : Addr} {kvs : List (Key × V)} {k : Key} {u : Value} {A : Around} {E : Value → Shared → Prop}
theorem d_pop {v : V} {more : List Value} {Q : Value → Shared → Prop} (I : Inv X pins σ H s) (e : H a = some (.dK kvs)) (ry : RelV (kV k) u) (l : valV kvs k = some v) (hm : more = [] ∨ ∃ x, more = [x])
    (h : ∀ w' s', Inv X pins σ (upd H a (.dK (dropK kvs k))) s' → RelV v w' → Q w' s') : wpAny (model X.prog X.w) A (call (.builtin "dict.pop") (.ref a :: u :: more)) Q E s := by
  obtain ⟨z, hd, vs, rel, dd⟩ := dk_of I.hok e
  obtain ⟨w', hw, rw'⟩ := RelO.some_of (v := v) (o := valueAt vs k) (by rw [← l]; exact rel.val k)
  have hp : (keyPart u).isSome = true := by
    cases k with
    | inl i => obtain ⟨t, q⟩ := (show ∃ t, u = Value.int i t from ry); subst q; rfl
    | inr x => obtain ⟨t, q⟩ := (show ∃ t, u = Value.str x t from ry); subst q; rfl
  have ha : argsOk "dict.pop" ⟨.ref a :: u :: more, []⟩ := by
    rcases hm with q | ⟨x, q⟩
    · subst q; exact PySem.F.args_dict_pop_2 _ _
    · subst q; exact PySem.F.args_dict_pop_3 _ _ _
  refine call_meetsIn PySem.F.slot_dict_pop dd.typeIs PySem.F.entry_dict_pop ha (meets_dict_pop_there (mixKind X.prog X.w) a (kV_is ry) more hm hp)
    ⟨vs, w', dd, by rw [← rel.length]; exact z, hw, fun h' dd' hs => h w' _ ?_ rw'⟩
  have he : ∃ q, h'.get? a = some q := let ⟨q, _, _, hq, _⟩ := dd'; ⟨q, hq⟩
  exact d_write I (by rw [e]; exact True.intro) hs he (dk_new (Nat.le_trans (dropK_le kvs k) z) hd (rel.drop k) dd')
theorem d_len {Q : Value → Shared → Prop} (I : Inv X pins σ H s) (e : Rd H a (.dK kvs)) (h : ∀ t s', Inv X pins σ H s' → Q (.int kvs.length t) s') : wpAny (model X.prog X.w) A (call (.builtin "len") [.ref a]) Q E s := by
  obtain ⟨z, hd, vs, rel, dd⟩ := dk_rd I.hok e
  refine call_len_dict hd dd (by rw [← rel.length]; rw [sizeLine_eq] at z; omega) ?_
  rw [← rel.length]
  exact h _ _ (I.tok _)
end
def NoSl (i : Expr) : Prop := ∀ ov iv, subscripted i false ov iv = operate [ov, iv] (getItem ov iv)
theorem subD_of {prog : Program} {w : World} {A : Around} {E : Value → Shared → Prop} {s : Shared} {env : Env} {value slice : Expr} {pos : Pos} {T id : String} {Q : Value → Shared → Prop}
    (hl : typeLookup (.type T) "__getitem__" = pure (some (.builtin id))) (hs : NoSl slice)
    (h : wpAny (model prog w) A (eval value env) (fun o s₁ => wpAny (model prog w) A (eval slice env) (fun i s₂ => s₂.TypeIs o T ∧ wpAny (model prog w) A (getItem o i) Q E s₂) E s₁) E s) :
    wpAny (model prog w) A (eval (.Subscript value slice pos) env) Q E s := by
  refine Subscript_ (wpAny_mono h (fun o s₁ h₁ => wpAny_mono h₁ (fun i s₂ h₂ => ?_) fun _ _ x => x) fun _ _ x => x)
  obtain ⟨hT, h₂⟩ := h₂
  unfold subscriptTail
  refine wpAny_bind ?_
  rw [getitemInPython_of_ne hT.not_modules]
  refine wpAny_bind (wpAny_specialOf hT hl ?_)
  have fin : wpAny (model prog w) A (subscripted slice false o i) (fun r s₃ => wpAny (model prog w) A (letTemporaryGo value o r >>= fun _ => pure r) Q E s₃) E s₂ := by
    rw [hs o i]
    exact wpAny_operating (wpAny_mono h₂ (fun r s₃ h₃ => wpAny_bind (wpAny_letTemporaryGo (wpAny_pure h₃))) fun _ _ x => x)
  first
    | exact wpAny_pure (wpAny_bind fin)
    | exact wpAny_bind (wpAny_pure (wpAny_bind fin))
    | exact wpAny_bind fin
theorem dict_typeIs {X : Cx} {pins : List (Addr × Obj)} {σ : St} {H : Hp} {s : Shared} {a : Addr} {y : V} {o : Option V} (I : Inv X pins σ H s) (g : DGet H a y o) : s.TypeIs (.ref a) "dict" := by
  rcases g with ⟨kvs, k, e, _, _⟩ | ⟨kvs, k, b, e, _, _, _⟩
  · obtain ⟨_, _, vs, _, dd⟩ := dk_rd I.hok e
    exact dd.typeIs
  · obtain ⟨_, _, xs, _, dd⟩ := dt_rd I.hok e
    exact dd.typeIs
inductive tDGetI (x y : V) (H2 : Hp) (Q : VK) : Prop
  | mk : ∀ a v, (x = .ref a) → (DGet H2 a y (some v)) → (Q v H2) → tDGetI x y H2 Q
def tDGet (td ty : TE) : TE := fun σ H Q => td σ H fun x H1 => ty σ H1 fun y H2 => tDGetI x y H2 Q
inductive tDInI (y x : V) (H2 : Hp) (Q : VK) : Prop
  | mk : ∀ a o, (x = .ref a) → (DGet H2 a y o) → (Q (.bl o.isSome) H2) → tDInI y x H2 Q
def tDIn (ty td : TE) : TE := fun σ H Q => ty σ H fun y H1 => td σ H1 fun x H2 => tDInI y x H2 Q
inductive tDNotInI (y x : V) (H2 : Hp) (Q : VK) : Prop
  | mk : ∀ a o, (x = .ref a) → (DGet H2 a y o) → (Q (.bl (!o.isSome)) H2) → tDNotInI y x H2 Q
def tDNotIn (ty td : TE) : TE := fun σ H Q => ty σ H fun y H1 => td σ H1 fun x H2 => tDNotInI y x H2 Q
inductive sDPutI (D : Ends) (σ : St) (v x y : V) (H3 : Hp) : Prop
  | mk : ∀ a H4, (x = .ref a) → (DPut H3 a y v H4) → (D.nx σ H4) → sDPutI D σ v x y H3
def sDPut (td ty tv : TE) : TS := fun D σ H => tv σ H fun v H1 => td σ H1 fun x H2 => ty σ H2 fun y H3 => sDPutI D σ v x y H3
section
variable {X : Cx} {o i e value : Expr} {pos pos' tpos : Pos} {td ty tv : TE}
theorem pe_dget (hu : X.A.units + 1 < cLine) (ho : PE X o td) (hi : PE X i ty) (hs : NoSl i) : PE X (.Subscript o i pos) (tDGet td ty) := by
  intro pins s σ H Q I h
  refine subD_of PySem.F.slot_dict_getitem.lookup hs (thn (ho pins s σ H _ I h) fun u s1 ⟨x, H1, I1, rx, q1⟩ => thn (hi pins s1 σ H1 _ I1 q1) fun iv s2 ⟨y, H2, I2, ry, a, v, ex, g, q2⟩ => ?_)
  subst ex
  obtain rfl : u = Value.ref a := rx
  exact ⟨dict_typeIs I2 g, d_getItem hu I2 g ry fun w' s3 I3 rw' => ⟨v, H2, I3, rw', q2⟩⟩
theorem pc_din (hu : X.A.units + 1 < cLine) (hi : PE X i ty) (ho : PE X o td) : PC X .In i o (tDIn ty td) := by
  intro pins s σ H Q I h
  refine thn (hi pins s σ H _ I h) fun iv s1 ⟨y, H1, I1, ry, q1⟩ => thn (ho pins s1 σ H1 _ I1 q1) fun u s2 ⟨x, H2, I2, rx, a, ov, ex, g, q2⟩ => ?_
  subst ex
  obtain rfl : u = Value.ref a := rx
  exact d_in hu I2 g ry fun s3 I3 => ⟨.bl ov.isSome, H2, I3, rfl, q2⟩
theorem pc_dnotin (hu : X.A.units + 1 < cLine) (hi : PE X i ty) (ho : PE X o td) : PC X .NotIn i o (tDNotIn ty td) := by
  intro pins s σ H Q I h
  refine thn (hi pins s σ H _ I h) fun iv s1 ⟨y, H1, I1, ry, q1⟩ => thn (ho pins s1 σ H1 _ I1 q1) fun u s2 ⟨x, H2, I2, rx, a, ov, ex, g, q2⟩ => ?_
  subst ex
  obtain rfl : u = Value.ref a := rx
  exact d_notIn hu I2 g ry fun s3 I3 => ⟨.bl (!ov.isSome), H2, I3, rfl, q2⟩
theorem ps_dput (hu : X.A.units + 1 < cLine) (ho : PE X o td) (hi : PE X i ty) (hv : PE X value tv) (hs : swapsWith value (some (.Subscript o i pos')) pos.line X.env = pure false) :
    PS X (.Assign [.Subscript o i pos'] value pos) (sDPut td ty tv) := by
  intro pins s σ H D I h
  refine wpAny_Assign_Subscript (thn (hv pins s σ H _ I h) fun r s1 ⟨v, H1, I1, rv, q1⟩ => thn (ho pins s1 σ H1 _ I1 q1) fun u s2 ⟨x, H2, I2, rx, q2⟩ => thn (hi pins s2 σ H2 _ I2 q2) fun iv s3 ⟨y, H3, I3, ry, a, H4, ex, g, q3⟩ => ?_) hs
  subst ex
  obtain rfl : u = Value.ref a := rx
  exact d_setItem hu I3 g ry rv fun s4 I4 => ⟨σ, H4, I4, q3⟩
end
theorem dk_empty {P : Program} {w : World} {H : Hp} (h : Heap) (hb : sysModules < h.objs.size) : ObjOk P w H (h.push { cls := .type "dict", data := .dict #[] }) h.objs.size (.dK []) :=
  ⟨Nat.zero_le _, beq_eq_false_iff_ne.mpr (Ne.symm (Nat.ne_of_lt hb)), [], .nil, Heap.DictOf.new h⟩
def tDNewK : TE := fun _ H Q => ∀ p, H p = none → Q (.ref p) (upd H p (.dK []))
section
variable {X : Cx} {pos : Pos}
theorem pe_dnewK : PE X (.Dict [] [] pos) tDNewK := fun pins s σ H Q I h =>
  wpAny_Dict_empty ⟨.ref s.heap.objs.size, _, I.laid (a := s.heap.objs.size) (o := .dK []) (t' := s.toks) (fun _ _ q => Heap.get?_push_of_some _ q) (Nat.le_refl _) (dk_empty s.heap I.big), rfl, h _ (I.hok.fresh (Nat.le_refl _))⟩
end
structure M1 (X : Cx) (o : Expr) (m : Str) (apos : Pos) (e : Expr) (cpos : Pos) : Prop where
  base : attributeBase o m X.env (eval o X.env) = eval o X.env
  few : ((backTo cpos (starEach [e] X.env)).all (fun x => !x.1) && (backToKw cpos (keywordEach [] X.env)).all (fun x => x.1.isSome)
    && decide (([e] : List Expr).length + ([] : List Keyword).length + (if ([] : List Keyword).isEmpty then 0 else 1) < 30)) = true
  line : (apos.endLine == cpos.line) = true
  trees : backTo cpos (starEach [e] X.env) = [(false, eval e X.env)]
structure M2 (X : Cx) (o : Expr) (m : Str) (apos : Pos) (e f : Expr) (cpos : Pos) : Prop where
  base : attributeBase o m X.env (eval o X.env) = eval o X.env
  few : ((backTo cpos (starEach [e, f] X.env)).all (fun x => !x.1) && (backToKw cpos (keywordEach [] X.env)).all (fun x => x.1.isSome)
    && decide (([e, f] : List Expr).length + ([] : List Keyword).length + (if ([] : List Keyword).isEmpty then 0 else 1) < 30)) = true
  line : (apos.endLine == cpos.line) = true
  trees : backTo cpos (starEach [e, f] X.env) = [(false, eval e X.env), (false, eval f X.env)]
def IsD (H : Hp) (a : Addr) : Prop := (∃ kvs, Rd H a (.dK kvs)) ∨ ∃ kvs, Rd H a (.dT kvs)
theorem isD_at {X : Cx} {pins : List (Addr × Obj)} {σ : St} {H : Hp} {s : Shared} {a : Addr} (I : Inv X pins σ H s) (d : IsD H a) :
    s.TypeIs (.ref a) "dict" ∧ (∀ b, Value.ref a = .ref b → ∃ ob, s.heap.get? b = some ob ∧ ob.dict = none) ∧ (a == sysModules) = false := by
  rcases d with ⟨kvs, e⟩ | ⟨kvs, e⟩
  · obtain ⟨_, hd, vs, _, dd⟩ := dk_rd I.hok e
    refine ⟨dd.typeIs, fun b q => ?_, hd⟩
    cases q
    obtain ⟨ob, _, _, h1, h2, _⟩ := dd
    exact ⟨ob, h1, h2.2.1⟩
  · obtain ⟨_, hd, xs, _, dd⟩ := dt_rd I.hok e
    refine ⟨dd.typeIs, fun b q => ?_, hd⟩
    cases q
    obtain ⟨ob, _, _, h1, h2, _⟩ := dd
    exact ⟨ob, h1, h2.2.1⟩
section
variable {X : Cx} {pins : List (Addr × Obj)} {σ : St} {H : Hp} {s : Shared} {a : Addr} {y d : V} {u r : Value} {o : Option V} {A : Around} {E : Value → Shared → Prop}
theorem d_get1 {Q : Value → Shared → Prop} (hu : A.units + 1 < cLine) (I : Inv X pins σ H s) (g : DGet H a y o) (ry : RelV y u) (h : ∀ w' s', Inv X pins σ H s' → RelV (o.getD .non) w' → Q w' s') :
    wpAny (model X.prog X.w) A (call (.builtin "dict.get") [.ref a, u]) Q E s := by
  rcases g with ⟨kvs, k, e, ey, l⟩ | ⟨kvs, k, b, e, ey, eb, l⟩
  · subst ey
    obtain ⟨z, hd, vs, rel, dd⟩ := dk_rd I.hok e
    refine call_meetsIn PySem.F.slot_dict_get dd.typeIs PySem.F.entry_dict_get (PySem.F.args_dict_get_2 _ _) (meets_dict_get (mixKind X.prog X.w) a (kV_is ry) hd) ⟨_, dd.mapOf, h _ _ (I.tok _) ?_⟩
    rw [l]
    exact (rel.val k).getD rfl
  · subst ey
    cases (show u = Value.ref b from ry)
    obtain ⟨z, hd, xs, rel, dd⟩ := dt_rd I.hok e
    refine call_meetsIn PySem.F.slot_dict_get dd.typeIs PySem.F.entry_dict_get (PySem.F.args_dict_get_2 _ _) (meetsH_dict_get (tupleKind (mixKind X.prog X.w)) a b hd) ⟨tupleKind_room_in1 hu, k, xs, key_of I.hok eb, dd, h _ _ (I.tok _) ?_⟩
    rw [l]
    exact (rel.val k).getD rfl
theorem d_get2 {Q : Value → Shared → Prop} (hu : A.units + 1 < cLine) (I : Inv X pins σ H s) (g : DGet H a y o) (ry : RelV y u) (rd : RelV d r) (h : ∀ w' s', Inv X pins σ H s' → RelV (o.getD d) w' → Q w' s') :
    wpAny (model X.prog X.w) A (call (.builtin "dict.get") [.ref a, u, r]) Q E s := by
  rcases g with ⟨kvs, k, e, ey, l⟩ | ⟨kvs, k, b, e, ey, eb, l⟩
  · subst ey
    obtain ⟨z, hd, vs, rel, dd⟩ := dk_rd I.hok e
    refine call_meetsIn PySem.F.slot_dict_get dd.typeIs PySem.F.entry_dict_get (PySem.F.args_dict_get_3 _ _ _) (meets_dict_get_default (mixKind X.prog X.w) a (kV_is ry) hd r) ⟨_, dd.mapOf, h _ _ (I.tok _) ?_⟩
    rw [l]
    exact (rel.val k).getD rd
  · subst ey
    cases (show u = Value.ref b from ry)
    obtain ⟨z, hd, xs, rel, dd⟩ := dt_rd I.hok e
    refine call_meetsIn PySem.F.slot_dict_get dd.typeIs PySem.F.entry_dict_get (PySem.F.args_dict_get_3 _ _ _) (meetsH_dict_get_default (tupleKind (mixKind X.prog X.w)) a b hd r) ⟨tupleKind_room_in1 hu, k, xs, key_of I.hok eb, dd, h _ _ (I.tok _) ?_⟩
    rw [l]
    exact (rel.val k).getD rd
end
inductive tDGet1I (ty : TE) (σ : St) (x : V) (H1 : Hp) (Q : VK) : Prop
  | mk : ∀ a, (x = .ref a) → (IsD H1 a) → (ty σ H1 fun y H2 => ∃ o, DGet H2 a y o ∧ Q (o.getD .non) H2) → tDGet1I ty σ x H1 Q
def tDGet1 (td ty : TE) : TE := fun σ H Q => td σ H fun x H1 => tDGet1I ty σ x H1 Q
inductive tDGet2I (ty tx : TE) (σ : St) (x : V) (H1 : Hp) (Q : VK) : Prop
  | mk : ∀ a, (x = .ref a) → (IsD H1 a) → (ty σ H1 fun y H2 => tx σ H2 fun z H3 => ∃ o, DGet H3 a y o ∧ Q (o.getD z) H3) → tDGet2I ty tx σ x H1 Q
def tDGet2 (td ty tx : TE) : TE := fun σ H Q => td σ H fun x H1 => tDGet2I ty tx σ x H1 Q
inductive tDPop1I (ty : TE) (σ : St) (x : V) (H1 : Hp) (Q : VK) : Prop
  | mk : ∀ a, (x = .ref a) → (IsD H1 a) → (ty σ H1 fun y H2 => ∃ kvs k v, H2 a = some (.dK kvs) ∧ y = kV k ∧ valV kvs k = some v ∧ Q v (upd H2 a (.dK (dropK kvs k)))) → tDPop1I ty σ x H1 Q
def tDPop1 (td ty : TE) : TE := fun σ H Q => td σ H fun x H1 => tDPop1I ty σ x H1 Q
section
variable {X : Cx} {o e f : Expr} {apos cpos : Pos} {td ty tx : TE}
theorem pe_dget1 (hu : X.A.units + 1 < cLine) (ho : PE X o td) (he : PE X e ty) (m : M1 X o "get" apos e cpos) : PE X (.Call (.Attribute o "get" apos) [e] [] cpos) (tDGet1 td ty) := by
  intro pins s σ H Q I h
  refine wpAny_Call_method m.base m.few m.line PySem.F.plainAttrs_dict PySem.F.slot_dict_get PySem.F.type_dict_get (thn (ho pins s σ H _ I h) fun u s1 ⟨x, H1, I1, rx, a, ex, d, q1⟩ => ?_)
  subst ex
  obtain rfl : u = Value.ref a := rx
  obtain ⟨t1, t2, _⟩ := isD_at I1 d
  refine ⟨t1, t2, ?_⟩
  rw [m.trees]
  refine Calls.callWith_builtin rfl (Calls.evalArgs_plain (Calls.spliced_cons (thn (he pins s1 σ H1 _ I1 q1) fun iv s2 ⟨y, H2, I2, ry, ov, g, q2⟩ => Calls.spliced_nil ?_)))
  exact d_get1 hu I2 g ry fun w' s3 I3 rw' => ⟨_, H2, I3, rw', q2⟩
theorem pe_dget2 (hu : X.A.units + 1 < cLine) (ho : PE X o td) (he : PE X e ty) (hf : PE X f tx) (m : M2 X o "get" apos e f cpos) : PE X (.Call (.Attribute o "get" apos) [e, f] [] cpos) (tDGet2 td ty tx) := by
  intro pins s σ H Q I h
  refine wpAny_Call_method m.base m.few m.line PySem.F.plainAttrs_dict PySem.F.slot_dict_get PySem.F.type_dict_get (thn (ho pins s σ H _ I h) fun u s1 ⟨x, H1, I1, rx, a, ex, d, q1⟩ => ?_)
  subst ex
  obtain rfl : u = Value.ref a := rx
  obtain ⟨t1, t2, _⟩ := isD_at I1 d
  refine ⟨t1, t2, ?_⟩
  rw [m.trees]
  refine Calls.callWith_builtin rfl (Calls.evalArgs_plain (Calls.spliced_cons (thn (he pins s1 σ H1 _ I1 q1) fun iv s2 ⟨y, H2, I2, ry, q2⟩ =>
    Calls.spliced_cons (thn (hf pins s2 σ H2 _ I2 q2) fun fv s3 ⟨z, H3, I3, rz, ov, g, q3⟩ => Calls.spliced_nil ?_))))
  exact d_get2 hu I3 g ry rz fun w' s4 I4 rw' => ⟨_, H3, I4, rw', q3⟩
theorem pe_dpop1 (ho : PE X o td) (he : PE X e ty) (m : M1 X o "pop" apos e cpos) : PE X (.Call (.Attribute o "pop" apos) [e] [] cpos) (tDPop1 td ty) := by
  intro pins s σ H Q I h
  refine wpAny_Call_method m.base m.few m.line PySem.F.plainAttrs_dict PySem.F.slot_dict_pop PySem.F.type_dict_pop (thn (ho pins s σ H _ I h) fun u s1 ⟨x, H1, I1, rx, a, ex, d, q1⟩ => ?_)
  subst ex
  obtain rfl : u = Value.ref a := rx
  obtain ⟨t1, t2, _⟩ := isD_at I1 d
  refine ⟨t1, t2, ?_⟩
  rw [m.trees]
  refine Calls.callWith_builtin rfl (Calls.evalArgs_plain (Calls.spliced_cons (thn (he pins s1 σ H1 _ I1 q1) fun iv s2 ⟨y, H2, I2, ry, kvs, k, v, ea, ey, l, q2⟩ => Calls.spliced_nil ?_)))
  subst ey
  exact d_pop I2 ea ry l (.inl rfl) fun w' s3 I3 rw' => ⟨v, _, I3, rw', q2⟩
end
end L2
namespace L2
open PySem PySem.Spec PyProof.Rows
section
variable {X : Cx} {pins : List (Addr × Obj)} {σ : St} {H : Hp} {s : Shared} {h' : Heap}
theorem Inv.turnedNew {t' : Nat} {ch : List Addr} {T : Addr} {ob : HO} (I : Inv X pins σ H s) (k : ∀ b o, b ∉ ch → s.heap.get? b = some o → h'.get? b = some o) (hf : ∀ b ∈ ch, FpOk X pins H b) (hT : s.heap.objs.size ≤ T)
    (new : ObjOk X.prog X.w (upd H T ob) h' T ob) : Inv X pins σ (upd H T ob) { s with heap := h', toks := t' } := by
  have hn : H T = none := I.hok.fresh hT
  have nit : ∀ b u, H b = some u → b ∉ ch := fun b u e z => by
    have q := (hf b z).1
    rw [q] at e; cases e
  refine I.step (g' := s.gens) (d' := s.drawn) (ch := ch) (fun b hb => ⟨(hf b hb).2.2.2.1, (hf b hb).2.1, (hf b hb).2.2.2.2.1, (hf b hb).2.2.2.2.2⟩) (fun b o _ _ hc e _ => k b o hc e) (fun b o _ _ hc e _ => ⟨o.slots, k b o hc e⟩)
    (fun b o _ e n => ?_) (fun b o hc e => ⟨o, k b o hc e⟩) (fun b xs e => ?_) (fun b o u e => ?_) (fun b ps e => ⟨#[], ?_⟩) (fun m hm => ?_) (fun b u e => ?_) I.bare
  · rw [upd_ne (Nat.ne_of_lt (Nat.lt_of_lt_of_le (Heap.lt_size e) hT))]; exact n
  · rw [upd_ne (ne_of_none e hn)]; exact e
  · rw [upd_ne (ne_of_none e hn)]; exact e
  · rw [upd_ne (ne_of_none e hn), e]; simp
  · obtain ⟨o, es, ep, ho, r⟩ := hm
    exact ⟨o, es, ep, k _ o (fun z => (hf _ z).2.1 rfl) ho, r⟩
  · by_cases hb : b = T
    · subst hb
      rw [upd_same] at e
      cases e
      exact new
    · rw [upd_ne hb] at e
      refine (I.hok b u e).stay (fun c v hc q => k c v ?_ q) (fun c q => by rw [upd_ne (ne_of_none q hn)]; exact q) fun c xs q => by rw [upd_ne (ne_of_none q hn)]; exact q
      rcases hc with z | z
      · rw [z]; exact nit b u e
      · exact nit c _ z
theorem Inv.lock {d : Addr} {u : HO} (I : Inv X pins σ H s) (h : H d = some u) (mu : Mut (some u)) : ∃ od, Inv X pins σ (upd H d (.frz od u)) s := by
  have x := I.hok d u h
  have ex : ∃ od, s.heap.get? d = some od := by
    cases u with
    | lst xs => obtain ⟨_, _, _, _, e⟩ := x; exact ⟨_, e⟩
    | dK kvs => obtain ⟨_, _, _, _, o, _, _, e, _⟩ := x; exact ⟨o, e⟩
    | dT kvs => obtain ⟨_, _, _, _, o, _, _, e, _⟩ := x; exact ⟨o, e⟩
    | set S n => obtain ⟨o, _, _, _, e, _⟩ := x; exact ⟨o, e⟩
    | ins C dx fs => obtain ⟨_, _, _, e, _⟩ := x; exact ⟨_, e⟩
    | ext φ => obtain ⟨_, ⟨_, e⟩, _⟩ := x; exact ⟨_, e⟩
    | _ => exact False.elim mu
  obtain ⟨od, e⟩ := ex
  have new : ObjOk X.prog X.w (upd H d (.frz od u)) s.heap d (.frz od u) := by
    refine ⟨e, x.stay (fun b v _ q => q) (fun b q => ?_) fun b xs q => ?_⟩
    · rw [upd_ne (fun z => by rw [z, h] at q; cases q; exact mu)]; exact q
    · rw [upd_ne (fun z => by rw [z, h] at q; cases q; exact mu)]; exact q
  exact ⟨od, I.write (x := d) (e := d) (t' := s.toks) (h' := s.heap) (by rw [h]; exact mu) (.inl rfl) (fun b v _ q => q) ⟨od, e⟩ new⟩
theorem Inv.nofrz {d : Addr} {u : HO} (I : Inv X pins σ H s) (h : H d = some u) (mu : Mut (some u)) : ∀ o' u', X.H_0 d ≠ some (.frz o' u') := fun o' u' e => by
  have q := I.base.frzs d o' u' e
  rw [h] at q
  cases q
  exact mu
theorem Inv.unlock {d : Addr} {od : Obj} {u : HO} (I : Inv X pins σ H s) (h : H d = some (.frz od u)) (hn : ∀ o' u', X.H_0 d ≠ some (.frz o' u')) : Inv X pins σ (upd H d u) s := by
  have neH : ∀ b o, H b = some o → (∀ o' u', o ≠ .frz o' u') → b ≠ d := fun b o e hne z => by
    rw [z, h] at e
    cases e
    exact hne _ _ rfl
  have neN : ∀ b, H b = none → b ≠ d := fun b e z => by rw [z, h] at e; cases e
  refine ⟨I.ok, I.os, I.bare, ⟨I.base.keep, I.base.slot, fun b o e n hx => ?_, I.base.there, fun b xs e => ?_, fun b o x e => ?_, fun b ps e => ?_⟩, I.loc, I.cell, ?_, fun x c e => ?_, fun p hp => ?_, fun b o e => ?_, I.len⟩
  · rw [upd_ne (neN b (I.base.free b o e n hx))]; exact I.base.free b o e n hx
  · have q := I.base.tups b xs e
    rw [upd_ne (neH b _ q (fun _ _ z => nomatch z))]; exact q
  · have q := I.base.frzs b o x e
    rw [upd_ne (fun z => by rw [z] at e; exact hn _ _ e)]; exact q
  · obtain ⟨m, q⟩ := I.base.tbls b ps e
    exact ⟨m, by rw [upd_ne (neH b _ q (fun _ _ z => nomatch z))]; exact q⟩
  · rw [upd_ne (neN _ I.free)]; exact I.free
  · rw [upd_ne (neN c (I.freeC x c e))]; exact I.freeC x c e
  · obtain ⟨e, n, r⟩ := I.pin p hp
    exact ⟨e, by rw [upd_ne (neN _ n)]; exact n, r⟩
  · by_cases hb : b = d
    · rw [hb, upd_same] at e
      cases e
      rw [hb]
      obtain ⟨_, x⟩ := I.hok d _ h
      exact x.stay (fun c v _ q => q) (fun c q => by rw [upd_ne (neH c _ q (fun _ _ z => nomatch z))]; exact q) fun c xs q => by rw [upd_ne (neH c _ q (fun _ _ z => nomatch z))]; exact q
    · rw [upd_ne hb] at e
      exact (I.hok b o e).stay (fun c v _ q => q) (fun c q => by rw [upd_ne (neH c _ q (fun _ _ z => nomatch z))]; exact q) fun c xs q => by rw [upd_ne (neH c _ q (fun _ _ z => nomatch z))]; exact q
end
inductive tLockI (t : TS) (D : Ends) (σ : St) (H : Hp) : Prop
  | mk : ∀ d u, (H d = some u) → (Mut (some u)) → (∀ od, t ⟨fun σ' H' => H' d = some (.frz od u) ∧ D.nx σ' (upd H' d u), fun v H' => H' d = some (.frz od u) ∧ D.rt v (upd H' d u), fun σ' H' => H' d = some (.frz od u) ∧ D.bk σ' (upd H' d u), fun σ' H' => H' d = some (.frz od u) ∧ D.ct σ' (upd H' d u)⟩ σ (upd H d (.frz od u))) → tLockI t D σ H
def tLock (t : TS) : TS := fun D σ H => tLockI t D σ H
inductive tLockEI (t : TE) (σ : St) (H : Hp) (Q : VK) : Prop
  | mk : ∀ d u, (H d = some u) → (Mut (some u)) → (∀ od, t σ (upd H d (.frz od u)) fun v H' => H' d = some (.frz od u) ∧ Q v (upd H' d u)) → tLockEI t σ H Q
def tLockE (t : TE) : TE := fun σ H Q => tLockEI t σ H Q
section
variable {X : Cx}
theorem ps_lock {st : Stmt} {t : TS} (h : PS X st t) : PS X st (tLock t) := by
  intro pins s σ H D I hw
  obtain ⟨d, u, hd, mu, hw⟩ := hw
  obtain ⟨od, I1⟩ := I.lock hd mu
  refine thn (h pins s σ _ _ I1 (hw od)) fun f s1 q => ?_
  cases f with
  | next => obtain ⟨σ', H', I2, e, q⟩ := q; exact ⟨σ', _, I2.unlock e (I.nofrz hd mu), q⟩
  | brk => obtain ⟨σ', H', I2, e, q⟩ := q; exact ⟨σ', _, I2.unlock e (I.nofrz hd mu), q⟩
  | cont => obtain ⟨σ', H', I2, e, q⟩ := q; exact ⟨σ', _, I2.unlock e (I.nofrz hd mu), q⟩
  | ret v => obtain ⟨x, σ', H', I2, r, e, q⟩ := q; exact ⟨x, σ', _, I2.unlock e (I.nofrz hd mu), r, q⟩
theorem pe_lock {e : Expr} {t : TE} (h : PE X e t) : PE X e (tLockE t) := by
  intro pins s σ H Q I hw
  obtain ⟨d, u, hd, mu, hw⟩ := hw
  obtain ⟨od, I1⟩ := I.lock hd mu
  refine thn (h pins s σ _ _ I1 (hw od)) fun v s1 ⟨x, H1, I2, r, e2, q⟩ => ?_
  exact ⟨x, _, I2.unlock e2 (I.nofrz hd mu), r, q⟩
theorem pi_one {tg : Expr} {pins : List (Addr × Obj)} {σ : St} {H : Hp} {s : Shared} {R : It → Hp → Prop} {J : It} {tn : Nat → Heap → Prop} {tk : Nat} (I : Inv X pins σ H s) (o : Obj)
    (T : Turn X.prog X.w X.K tg J [s.heap.objs.size] s.heap.objs.size tn) (st : tn 0 (s.heap.push o)) (q : R J H) : PIE X pins σ tg R (.ref s.heap.objs.size) { s with heap := s.heap.push o, toks := tk } := by
  refine ⟨s.heap.objs.size, [s.heap.objs.size], tn, J, H, rfl, I.kept fun b ob e => Heap.get?_push_of_some _ e, T, st, fun b hb => ?_, q⟩
  have e : b = s.heap.objs.size := by simpa using hb
  subst e
  exact I.fpOk (Nat.le_refl _) (I.hok.fresh (Nat.le_refl _))
end
section
variable {prog : Program} {w : World} {A : Around} {E : Value → Shared → Prop} {s : Shared}
theorem iter_keys {d : Addr} {o : Obj} {es : Array DictEntry} {ep : Nat} {Q : Value → Shared → Prop} (hd : (d == sysModules) = false) (ho : s.heap.get? d = some o) (hc : o.ExactDict) (hdat : o.data = .dict es ep)
    (hQ : Q (.ref s.heap.objs.size) { s with heap := s.heap.push { cls := .type "dict_keyiterator", data := .fields #[.ref d, .int 0 0, .int es.size 0, .int ep 0] } }) :
    wpAny (model prog w) A (pyIter (.ref d)) Q E s := by
  have hT : s.TypeIs (.ref d) "dict" := ⟨o, ho, hc.1⟩
  refine wpAny_pyIter_slot hT F.slot_dict_iter (wpAny_call_entry F.slot_dict_iter hT F.entry_dict_iter ?_ (F.args_dict_iter_1 _))
  unfold Builtin.«dict.__iter__»
  refine wpAny_bind ?_
  unfold Builtin.Dict.dictSlotNone
  refine wpAny_bind (wpAny_notOrdered_dict hT ?_)
  show wpAny _ _ (pure (Value.ref d)) _ _ s
  refine wpAny_pure ?_
  show wpAny _ _ (Builtin.Dict.showsAll d >>= _) _ _ s
  unfold Builtin.Dict.showsAll
  rw [if_neg (by rw [hd]; exact Bool.false_ne_true)]
  refine wpAny_bind (wpAny_pure ?_)
  refine wpAny_bind (wpAny_dictEntries ho hdat ?_)
  refine wpAny_bind (wpAny_dictEpoch ho hdat ?_)
  refine wpAny_bind (wpAny_newObj_type (wpAny_pure ⟨_, rfl, "dict_keyiterator", _, ⟨_, Heap.get?_push_size _ rfl, rfl⟩, F.slot_dict_keyiterator_next.lookup, ?_⟩))
  simpa [rawInt] using hQ
theorem next_key_item {it d : Addr} {i n ep : Nat} {od : Obj} {es : Array DictEntry} {en : DictEntry} {Q : Option Value → Shared → Prop} (hit : s.heap.IsKeyIter it d i n ep) (hod : s.heap.get? d = some od) (hdd : od.data = .dict es ep)
    (hsz : es.size = n) (hx : es[i]? = some en) (hQ : ∀ h', h'.IsKeyIter it d (i + 1) n ep → Heap.SameBut it s.heap h' → Q (some en.key) { s with heap := h' }) : wpAny (model prog w) A (pyNext (.ref it)) Q E s := by
  obtain ⟨o, ho, hc, hd⟩ := id hit
  unfold pyNext
  refine wpAny_bind (wpAny_attempt (wpAny_callSpecial?_slot (name := Str.ofString "__next__") hit.typeIs F.slot_dict_keyiterator_next
    (wpAny_call_entry F.slot_dict_keyiterator_next hit.typeIs F.entry_dict_keyiterator_next ?_ (F.args_dict_keyiterator_next_1 _))))
  refine wpAny_bind (wpAny_pure ?_)
  refine wpAny_bind ?_
  refine wpAny_bind ?_
  first | refine wpAny_bind (wpAny_typeNameOfWhole_keyiter hit.typeIs (wpAny_pure ?_)) | refine wpAny_bind (wpAny_typeNameOf_keyiter hit.typeIs (wpAny_pure ?_))
  refine wpAny_bind (wpAny_fieldsOf ho hd ?_)
  have hown : Builtin.Dict_items.ownsTuple "dict_keyiterator" = false := by decide
  simp only [hown, Bool.false_eq_true, if_false]
  show wpAny _ _ (if (Value.ref d == Value.none) = true then _ else _) _ _ s
  rw [if_neg (show ¬ ((Value.ref d == Value.none) = true) from Bool.false_ne_true)]
  refine wpAny_bind (wpAny_pure ?_)
  refine wpAny_bind (wpAny_dictEntries hod hdd ?_)
  rw [if_neg (by rw [hsz]; simp)]
  refine wpAny_bind (wpAny_pure ?_)
  refine wpAny_bind (wpAny_dictEpoch hod hdd ?_)
  rw [if_neg (by simp)]
  refine wpAny_pure ?_
  obtain ⟨hlt', hen⟩ := Array.getElem?_eq_some_iff.mp hx
  simp only [show ¬ ((i : Int) < 0) from by omega, if_false, Int.toNat_natCast, Array.getElem?_eq_getElem hlt']
  refine wpAny_bind ?_
  first | refine wpAny_bind (wpAny_typeNameOfWhole_keyiter hit.typeIs (wpAny_pure ?_)) | refine wpAny_bind (wpAny_typeNameOf_keyiter hit.typeIs (wpAny_pure ?_))
  refine wpAny_bind (wpAny_isOneOf_keyiter hit.typeIs ?_)
  show wpAny _ _ (setField (.ref it) 1 (rawInt ((i : Int) + 1)) >>= _) _ _ s
  refine wpAny_bind (wpAny_setField ho hd (by simp) ?_)
  have hit' : (s.heap.update it (Obj.mapFields (·.setIfInBounds 1 (rawInt ((i : Int) + 1))))).IsKeyIter it d (i + 1) n ep :=
    ⟨_, Heap.get?_update_self _ ho (Obj.isFreed_of_fields (Obj.data_mapFields hd _)), (Obj.cls_mapFields ..).trans hc, by rw [Obj.data_mapFields hd]; simp [rawInt]⟩
  refine wpAny_bind (wpAny_holding ?_)
  refine wpAny_bind (wpAny_isOneOf_keyiter (s := { s with heap := s.heap.update it (Obj.mapFields (·.setIfInBounds 1 (rawInt ((i : Int) + 1)))) }) hit'.typeIs ?_)
  show wpAny _ _ (pure es[i].key) _ _ _
  rw [hen]
  exact wpAny_pure (wpAny_pure ⟨_, rfl, wpAny_pure (hQ _ hit' (Heap.SameBut.update ..))⟩)
theorem next_key_end {it d : Addr} {i n ep : Nat} {od : Obj} {es : Array DictEntry} {Q : Option Value → Shared → Prop} (hh : A.handled = none) (hit : s.heap.IsKeyIter it d i n ep) (hod : s.heap.get? d = some od) (hdd : od.data = .dict es ep)
    (hsz : es.size = n) (hge : n ≤ i) (hQ : ∀ h', Heap.ExtBut it s.heap h' → Q none { s with heap := h' }) : wpAny (model prog w) A (pyNext (.ref it)) Q E s := by
  obtain ⟨o, ho, hc, hd⟩ := id hit
  unfold pyNext
  refine wpAny_bind (wpAny_attempt (wpAny_callSpecial?_slot (name := Str.ofString "__next__") hit.typeIs F.slot_dict_keyiterator_next
    (wpAny_call_entry F.slot_dict_keyiterator_next hit.typeIs F.entry_dict_keyiterator_next ?_ (F.args_dict_keyiterator_next_1 _))))
  refine wpAny_bind (wpAny_pure ?_)
  refine wpAny_bind ?_
  refine wpAny_bind ?_
  first | refine wpAny_bind (wpAny_typeNameOfWhole_keyiter hit.typeIs (wpAny_pure ?_)) | refine wpAny_bind (wpAny_typeNameOf_keyiter hit.typeIs (wpAny_pure ?_))
  refine wpAny_bind (wpAny_fieldsOf ho hd ?_)
  have hown : Builtin.Dict_items.ownsTuple "dict_keyiterator" = false := by decide
  simp only [hown, Bool.false_eq_true, if_false]
  show wpAny _ _ (if (Value.ref d == Value.none) = true then _ else _) _ _ s
  rw [if_neg (show ¬ ((Value.ref d == Value.none) = true) from Bool.false_ne_true)]
  refine wpAny_bind (wpAny_pure ?_)
  refine wpAny_bind (wpAny_dictEntries hod hdd ?_)
  rw [if_neg (by rw [hsz]; simp)]
  refine wpAny_bind (wpAny_pure ?_)
  refine wpAny_bind (wpAny_dictEpoch hod hdd ?_)
  rw [if_neg (by simp)]
  refine wpAny_pure ?_
  have hge' : es.size ≤ i := by rw [hsz]; exact hge
  simp only [show ¬ ((i : Int) < 0) from by omega, if_false, Int.toNat_natCast, Array.getElem?_eq_none hge']
  refine wpAny_bind ?_
  first | refine wpAny_bind (wpAny_typeNameOfWhole_keyiter hit.typeIs (wpAny_pure ?_)) | refine wpAny_bind (wpAny_typeNameOf_keyiter hit.typeIs (wpAny_pure ?_))
  show wpAny _ _ (setField (.ref it) 0 .none >>= _) _ _ s
  refine wpAny_bind (wpAny_setField ho hd (by simp) ?_)
  show wpAny _ _ (newExc (.type "StopIteration") [] >>= _) _ _ _
  refine wpAny_bind ?_
  simp only [newExc, newTuple]
  refine wpAny_bind (wpAny_newObj_type ?_ (by size_fits))
  refine wpAny_bind (m := firstArgMember _ _) (wpAny_of_eq (a := Value.none) (by first | rfl | (simp only [firstArgMember]; rfl)) ?_)
  refine wpAny_newObj_type ?_ (by size_fits)
  simp only [raiseNew]
  refine wpAny_bind (wpAny_handled ?_)
  rw [show A.in1.handled = none from hh]
  refine wpAny_bind (wpAny_pure (wpAny_throw ?_))
  refine wpAny_bind (wpAny_isInstance (T := "StopIteration") (b := true) ⟨_, Heap.get?_push_size _ rfl, rfl⟩ isSubtype_stop ?_)
  exact wpAny_pure (hQ _ (((Heap.SameBut.update ..).extBut.push _).push _))
end
theorem kv_get {κ : Type} {kvs : List (κ × V)} {vs : List (κ × Value)} (h : KV kvs vs) : ∀ {i : Nat} {k : κ} {v : V}, kvs[i]? = some (k, v) → ∃ u, vs[i]? = some (k, u) ∧ RelV v u := by
  unfold KV at h
  induction h with
  | nil => intro i k v e; simp at e
  | @cons a b l₁ l₂ r t ih =>
    intro i k v e
    cases i with
    | zero =>
      simp only [List.getElem?_cons_zero, Option.some.injEq] at e
      subst e
      refine ⟨b.2, ?_, r.2⟩
      simp only [List.getElem?_cons_zero]
      exact congrArg some (Prod.ext r.1.symm rfl)
    | succ j =>
      simp only [List.getElem?_cons_succ] at e ⊢
      exact ih e
theorem paired_get {α β : Type} {G : α → β → Prop} {l₁ : List α} {l₂ : List β} (h : Paired G l₁ l₂) : ∀ {i : Nat} {a : α}, l₁[i]? = some a → ∃ b, l₂[i]? = some b ∧ G a b := by
  induction h with
  | nil => intro i a e; simp at e
  | @cons a b l₁ l₂ r t ih =>
    intro i a' e
    cases i with
    | zero =>
      simp only [List.getElem?_cons_zero, Option.some.injEq] at e
      subst e
      exact ⟨b, rfl, r⟩
    | succ j =>
      simp only [List.getElem?_cons_succ] at e ⊢
      exact ih e
theorem relV_key {k : Key} {u : Value} (h : keyIs k u = true) : RelV (kV k) u := by
  rcases keyIs_shape h with ⟨i, t, rfl, rfl⟩ | ⟨x, t, rfl, rfl⟩
  · exact ⟨t, rfl⟩
  · exact ⟨t, rfl⟩
section
variable {X : Cx} {pins : List (Addr × Obj)} {σ : St} {H : Hp} {s : Shared} {d : Addr} {o : Obj}
theorem Inv.frzK {kvs : List (Key × V)} (I : Inv X pins σ H s) (h : H d = some (.frz o (.dK kvs))) :
    (d == sysModules) = false ∧ s.heap.get? d = some o ∧ o.ExactDict ∧ ∃ (es : Array DictEntry) (ep : Nat) (vs : List (Key × Value)), o.data = .dict es ep ∧ es.size = kvs.length ∧ KV kvs vs ∧ s.heap.DictAt (mixKind X.prog X.w) d vs ep := by
  obtain ⟨hd, z, hs, vs, kv, o', es, ep, ho, hx, hdt, r⟩ := I.hok d _ h
  rw [hd] at ho
  cases ho
  refine ⟨hs, hd, hx, es, ep, vs, hdt, ?_, kv, o, es, hd, hx, hdt, r⟩
  have l1 := r.2.1.length
  have l2 : kvs.length = vs.length := Paired.length kv
  rw [Array.length_toList] at l1
  omega
theorem Inv.frzT {kvs : List (List Key × V)} (I : Inv X pins σ H s) (h : H d = some (.frz o (.dT kvs))) :
    (d == sysModules) = false ∧ s.heap.get? d = some o ∧ o.ExactDict ∧ ∃ (es : Array DictEntry) (ep : Nat), o.data = .dict es ep ∧ es.size = kvs.length ∧
      ∀ (i : Nat) (k : List Key) (v : V), kvs[i]? = some (k, v) → ∃ (en : DictEntry) (q : Addr), es[i]? = some en ∧ en.key = .ref q ∧ H q = some (.tup (k.map kV)) := by
  obtain ⟨hd, z, hs, xs, pr, o', es, ep, ho, hx, hdt, he, _⟩ := I.hok d _ h
  rw [hd] at ho
  cases ho
  refine ⟨hs, hd, hx, es, ep, hdt, ?_, fun i k v e => ?_⟩
  · have l1 : es.size = xs.length := size_of_entries he
    have l2 : kvs.length = xs.length := Paired.length pr
    omega
  · obtain ⟨b, hb, e1, e2, _⟩ := paired_get pr e
    have q := entry_at he i
    rw [hb] at q
    exact ⟨_, b.2.1, q, rfl, e2⟩
end
def Itk (d : Addr) (o : Obj) (kvs : List (Key × V)) : It :=
  ⟨fun i H => H d = some (.frz o (.dK kvs)) ∧ i < kvs.length, fun i H x H' => H' = H ∧ ∃ k v, kvs[i]? = some (k, v) ∧ x = kV k, fun i H => H d = some (.frz o (.dK kvs)) ∧ kvs.length ≤ i⟩
def Itkt (d : Addr) (o : Obj) (kvs : List (List Key × V)) : It :=
  ⟨fun i H => H d = some (.frz o (.dT kvs)) ∧ i < kvs.length, fun i H x H' => H' = H ∧ ∃ (k : List Key) (v : V) (q : Addr), kvs[i]? = some (k, v) ∧ x = .ref q ∧ H q = some (.tup (k.map kV)), fun i H => H d = some (.frz o (.dT kvs)) ∧ kvs.length ≤ i⟩
def Iti (d : Addr) (o : Obj) (kvs : List (Key × V)) : It :=
  ⟨fun i H => H d = some (.frz o (.dK kvs)) ∧ i < kvs.length, fun i H x H' => ∃ T k v, kvs[i]? = some (k, v) ∧ x = .ref T ∧ H T = none ∧ H' = upd H T (.tup [kV k, v]), fun i H => H d = some (.frz o (.dK kvs)) ∧ kvs.length ≤ i⟩
theorem dict_ep {o : Obj} {es es' : Array DictEntry} {ep ep' : Nat} (h : o.data = .dict es ep) (h' : o.data = .dict es' ep') : es' = es ∧ ep' = ep := by
  rw [h] at h'
  cases h'
  exact ⟨rfl, rfl⟩
section
variable {P : Program} {w : World} {K : PySem.W.Frag} {tg : Expr} {d : Addr} {o : Obj} {es : Array DictEntry} {ep : Nat}
theorem turn_keys {kvs : List (Key × V)} (it : Addr) (hod : o.data = .dict es ep) : Turn P w K tg (Itk d o kvs) [it] it (fun i h => h.IsKeyIter it d i kvs.length ep) where
  mem := by simp
  obj := fun i h st b hb => by
    have e : b = it := by simpa using hb
    subst e
    obtain ⟨oi, e, c, dd⟩ := st
    exact ⟨oi, e, fun v z => by rw [dd] at z; cases z⟩
  keep := fun i h h' st k => st.at fun oi e => k it (by simp) oi e
  item := by
    intro X hP hw hK hc i pins s σ H E I hf st hg
    subst hP hw hK
    obtain ⟨hd, hi⟩ := hg
    obtain ⟨f0, f1, f2, f3, f4, f5⟩ := hf it (by simp)
    obtain ⟨hs, hgd, hx, es', ep', vs, hdt, hsz, kv, hm⟩ := I.frzK hd
    obtain ⟨rfl, rfl⟩ := dict_ep hod hdt
    obtain ⟨⟨k, v⟩, hkv⟩ : ∃ p, kvs[i]? = some p := ⟨kvs[i], List.getElem?_eq_getElem hi⟩
    obtain ⟨u, hu, ru⟩ := kv_get kv hkv
    have hl : kvs.length = vs.length := Paired.length kv
    rw [hl] at st
    refine wpAny_pyNext_dict_item st hm hu fun key h' hkey st' sb => ?_
    have I1 : Inv X pins σ H { s with heap := h' } := I.turned (t' := s.toks) (fun b ob hb e => (sb.2 b hb).trans e) f0 f1 f3 f4 f5
    obtain ⟨oi, e, c, dd⟩ := id st'
    refine ⟨key, rfl, go_of (s := { s with heap := h' }) e c dd (by decide) ⟨kV k, H, I1, relV_key (show keyIs k key = true from hkey), ⟨rfl, k, v, hkv, rfl⟩, ?_, fun b hb => (hf b hb).1⟩⟩
    show h'.IsKeyIter it d (i + 1) kvs.length _
    rw [hl]
    exact st'
  done := by
    intro X hP hw hK hc i pins s σ H E I hf st hg
    subst hP hw hK
    obtain ⟨hd, hi⟩ := hg
    obtain ⟨f0, f1, f2, f3, f4, f5⟩ := hf it (by simp)
    obtain ⟨hs, hgd, hx, es', ep', vs, hdt, hsz, kv, hm⟩ := I.frzK hd
    obtain ⟨rfl, rfl⟩ := dict_ep hod hdt
    exact next_key_end (I.ok.hd hc) st hgd hdt hsz hi fun h' eb => ⟨rfl, I.turned (t' := s.toks) (fun b ob hb e => eb b ob hb e) f0 f1 f3 f4 f5⟩
  self := fun A i s Q E st h => wpAny_pyIter_keyiter st h
theorem turn_keysT {kvs : List (List Key × V)} (it : Addr) (hod : o.data = .dict es ep) : Turn P w K tg (Itkt d o kvs) [it] it (fun i h => h.IsKeyIter it d i kvs.length ep) where
  mem := by simp
  obj := fun i h st b hb => by
    have e : b = it := by simpa using hb
    subst e
    obtain ⟨oi, e, c, dd⟩ := st
    exact ⟨oi, e, fun v z => by rw [dd] at z; cases z⟩
  keep := fun i h h' st k => st.at fun oi e => k it (by simp) oi e
  item := by
    intro X hP hw hK hc i pins s σ H E I hf st hg
    subst hP hw hK
    obtain ⟨hd, hi⟩ := hg
    obtain ⟨f0, f1, f2, f3, f4, f5⟩ := hf it (by simp)
    obtain ⟨hs, hgd, hx, es', ep', hdt, hsz, ent⟩ := I.frzT hd
    obtain ⟨rfl, rfl⟩ := dict_ep hod hdt
    obtain ⟨⟨k, v⟩, hkv⟩ : ∃ p, kvs[i]? = some p := ⟨kvs[i], List.getElem?_eq_getElem hi⟩
    obtain ⟨en, q, hen, hkey, hq⟩ := ent i k v hkv
    refine next_key_item st hgd hdt hsz hen fun h' st' sb => ?_
    have I1 : Inv X pins σ H { s with heap := h' } := I.turned (t' := s.toks) (fun b ob hb e => (sb.2 b hb).trans e) f0 f1 f3 f4 f5
    obtain ⟨oi, e, c, dd⟩ := id st'
    exact ⟨en.key, rfl, go_of (s := { s with heap := h' }) e c dd (by decide) ⟨.ref q, H, I1, hkey, ⟨rfl, k, v, q, hkv, rfl, hq⟩, st', fun b hb => (hf b hb).1⟩⟩
  done := by
    intro X hP hw hK hc i pins s σ H E I hf st hg
    subst hP hw hK
    obtain ⟨hd, hi⟩ := hg
    obtain ⟨f0, f1, f2, f3, f4, f5⟩ := hf it (by simp)
    obtain ⟨hs, hgd, hx, es', ep', hdt, hsz, ent⟩ := I.frzT hd
    obtain ⟨rfl, rfl⟩ := dict_ep hod hdt
    exact next_key_end (I.ok.hd hc) st hgd hdt hsz hi fun h' eb => ⟨rfl, I.turned (t' := s.toks) (fun b ob hb e => eb b ob hb e) f0 f1 f3 f4 f5⟩
  self := fun A i s Q E st h => by
    refine wpAny_pyIter_slot st.typeIs F.slot_dict_keyiterator_iter (wpAny_call_entry F.slot_dict_keyiterator_iter st.typeIs F.entry_dict_keyiterator_iter ?_ (F.args_dict_keyiterator_iter_1 _))
    show wpAny _ _ (ret (.ref it)) _ _ s
    exact wpAny_pure ⟨_, rfl, "dict_keyiterator", _, st.typeIs, F.slot_dict_keyiterator_next.lookup, h⟩
theorem turn_items {kvs : List (Key × V)} {elts : List Expr} {kk : Nat} {tpos : Pos} (it : Addr) (hod : o.data = .dict es ep) :
    Turn P w K (.Tuple elts kk tpos) (Iti d o kvs) [it] it (fun i h => ∃ ok ov, IsItemIter h it d i kvs.length ep ok ov) where
  mem := by simp
  obj := fun i h st b hb => by
    have e : b = it := by simpa using hb
    subst e
    obtain ⟨ok, ov, e⟩ := st
    exact ⟨_, e, fun v z => nomatch z⟩
  keep := fun i h h' st k => let ⟨ok, ov, e⟩ := st; ⟨ok, ov, k it (by simp) _ e⟩
  item := by
    intro X hP hw hK hc i pins s σ H E I hf st hg
    subst hP hw hK
    obtain ⟨hd, hi⟩ := hg
    obtain ⟨hs, hgd, hx, es', ep', vs, hdt, hsz, kv, hm⟩ := I.frzK hd
    obtain ⟨rfl, rfl⟩ := dict_ep hod hdt
    obtain ⟨⟨k, v⟩, hkv⟩ : ∃ p, kvs[i]? = some p := ⟨kvs[i], List.getElem?_eq_getElem hi⟩
    obtain ⟨u, hu, ru⟩ := kv_get kv hkv
    have hl : kvs.length = vs.length := Paired.length kv
    obtain ⟨ok, ov, he⟩ := st
    rw [hl] at he
    have hlt : it < s.heap.objs.size := Heap.lt_size he
    refine wpAny_pyNext_items_item he hm hu fun key h' hkey ho hT hz hk => ?_
    refine ⟨_, rfl, wpAny_letOwnedTupleGo_items (s := { s with heap := h' }) ho fun h'' he' sb => ?_⟩
    have hT2 : h''.get? s.heap.objs.size = some { cls := .type "tuple", data := .seq #[key, u] } := (sb.2 _ (Nat.ne_of_gt hlt)).trans hT
    have new : ObjOk X.prog X.w (upd H s.heap.objs.size (.tup [kV k, v])) h'' s.heap.objs.size (.tup [kV k, v]) :=
      ⟨by show 2 ≤ sizeLine; decide, [key, u], .cons (relV_key (show keyIs k key = true from hkey)) (.cons ru .nil), ⟨_, hT2, rfl, _, rfl⟩⟩
    have I1 : Inv X pins σ (upd H s.heap.objs.size (.tup [kV k, v])) { s with heap := h'' } :=
      I.turnedNew (t' := s.toks) (ch := [it]) (fun b ob hb e => (sb.2 b (by simpa using hb)).trans (hk b ob (by simpa using hb) e)) hf (Nat.le_refl _) new
    refine ⟨.ref s.heap.objs.size, _, I1, rfl, ⟨_, k, v, hkv, rfl, I.hok.fresh (Nat.le_refl _), rfl⟩, ⟨key, u, ?_⟩, fun b hb => ?_⟩
    · rw [hl]; exact he'
    · have e : b = it := by simpa using hb
      rw [e, upd_ne (Nat.ne_of_lt hlt)]
      exact (hf it (by simp)).1
  done := by
    intro X hP hw hK hc i pins s σ H E I hf st hg
    subst hP hw hK
    obtain ⟨hd, hi⟩ := hg
    obtain ⟨f0, f1, f2, f3, f4, f5⟩ := hf it (by simp)
    obtain ⟨hs, hgd, hx, es', ep', vs, hdt, hsz, kv, hm⟩ := I.frzK hd
    obtain ⟨rfl, rfl⟩ := dict_ep hod hdt
    have hl : kvs.length = vs.length := Paired.length kv
    obtain ⟨ok, ov, he⟩ := st
    rw [hl] at he
    exact wpAny_pyNext_items_end (I.ok.hd hc) he hm (List.getElem?_eq_none (by omega)) fun h' eb => ⟨rfl, I.turned (t' := s.toks) (fun b ob hb e => eb b ob hb e) f0 f1 f3 f4 f5⟩
  self := fun A i s Q E st h => let ⟨_, _, e⟩ := st; PySem.W.kcp_self e h
end
def iKeys (td : TE) : TI := fun σ H R => td σ H fun x H1 => ∃ d o, x = .ref d ∧ ((∃ kvs, H1 d = some (.frz o (.dK kvs)) ∧ R (Itk d o kvs) H1) ∨ ∃ kvs, H1 d = some (.frz o (.dT kvs)) ∧ R (Itkt d o kvs) H1)
inductive iItemsI (x : V) (H1 : Hp) (R : It → Hp → Prop) : Prop
  | mk : ∀ d o kvs, (x = .ref d) → (H1 d = some (.frz o (.dK kvs))) → (R (Iti d o kvs) H1) → iItemsI x H1 R
def iItems (td : TE) : TI := fun σ H R => td σ H fun x H1 => iItemsI x H1 R
section
variable {X : Cx} {tg e : Expr} {td : TE} {apos cpos : Pos}
theorem pi_keys (he : PE X e td) : PI X tg e (iKeys td) := by
  intro pins s σ H R I h
  refine thn (he pins s σ H _ I h) fun u s1 ⟨x, H1, I1, rx, d, o, ex, q⟩ => ?_
  subst ex
  obtain rfl : u = Value.ref d := rx
  rcases q with ⟨kvs, hd, q⟩ | ⟨kvs, hd, q⟩
  · obtain ⟨hs, hgd, hx, es, ep, vs, hdt, hsz, kv, hm⟩ := I1.frzK hd
    refine iter_keys hs hgd hx hdt (pi_one (tk := s1.toks) I1 _ (turn_keys _ hdt) ⟨_, Heap.get?_push_size _ rfl, rfl, ?_⟩ q)
    rw [hsz] <;> rfl
  · obtain ⟨hs, hgd, hx, es, ep, hdt, hsz, ent⟩ := I1.frzT hd
    refine iter_keys hs hgd hx hdt (pi_one (tk := s1.toks) I1 _ (turn_keysT _ hdt) ⟨_, Heap.get?_push_size _ rfl, rfl, ?_⟩ q)
    rw [hsz] <;> rfl
theorem pi_items {elts : List Expr} {kk : Nat} {tpos : Pos} (he : PE X e td) (hbase : attributeBase e "items" X.env (eval e X.env) = eval e X.env := by rfl) (hline : (apos.endLine == cpos.line) = true := by rfl) :
    PI X (.Tuple elts kk tpos) (.Call (.Attribute e "items" apos) [] [] cpos) (iItems td) := by
  intro pins s σ H R I h
  refine wpAny_Call_method (T := "dict") (id := "dict.items") hbase rfl hline F.plainAttrs_dict F.slot_dict_items F.type_dict_items (thn (he pins s σ H _ I h) fun u s1 ⟨x, H1, I1, rx, d, o, kvs, ex, hd, q⟩ => ?_)
  subst ex
  obtain rfl : u = Value.ref d := rx
  obtain ⟨hs, hgd, hx, es, ep, vs, hdt, hsz, kv, hm⟩ := I1.frzK hd
  have hl : kvs.length = vs.length := Paired.length kv
  refine ⟨hm.dictOf.typeIs, hm.dictOf.mapOf.noDict, ?_⟩
  have I2 : Inv X pins σ H1 { s1 with heap := s1.heap.push { cls := .type "dict_items", data := .fields #[.ref d] } } := I1.kept (t' := s1.toks) fun b ob q => Heap.get?_push_of_some _ q
  have fin : wpAny (model X.prog X.w) X.A (pyIter (.ref s1.heap.objs.size)) (PIE X pins σ (.Tuple elts kk tpos) R) X.xe { s1 with heap := s1.heap.push { cls := .type "dict_items", data := .fields #[.ref d] } } := by
    refine wpAny_pyIter_items (d := d) (knd := mixKind X.prog X.w) ⟨_, Heap.get?_push_size _ rfl, rfl, rfl⟩ (hm.push _) (pi_one (tk := s1.toks) I2 _ (turn_items _ hdt) ⟨.none, .none, ?_⟩ q)
    rw [hl]
    exact Heap.get?_push_size _ rfl
  show wpAny _ _ (callWith cpos (.builtin "dict.items") [.ref d] [] []) _ X.xe s1
  exact method_meetsIn F.slot_dict_items F.entry_dict_items rfl (PySem.evalArgs_none ⟨rfl, hm.dictOf.typeIs, F.args_dict_items_1 _, _, meets_dict_items (mixKind X.prog X.w) d hs, ⟨vs, hm.dictOf⟩, fin⟩)
end
def Ite (K : PySem.W.Frag) (a : Addr) : It :=
  ⟨fun i H => ∃ (xs : List V) (x : V), SqL K H a xs ∧ xs[i]? = some x, fun i H v H' => ∃ T x, v = .ref T ∧ H T = none ∧ H' = upd H T (.tup [.int (i : Nat), x]) ∧ ∀ xs, SqL K H a xs → xs[i]? = some x, fun i H => ∃ xs : List V, SqL K H a xs ∧ xs.length ≤ i⟩
theorem turn_enum {P : Program} {w : World} {K : PySem.W.Frag} {elts : List Expr} {kk : Nat} {tpos : Pos} (a e it : Addr) :
    Turn P w K (.Tuple elts kk tpos) (Ite K a) [e, it] e (fun i h => (∃ old, IsEnum h e it ((i : Nat) : Int) old) ∧ h.IsListIter it a i ∧ e ≠ it) where
  mem := by simp
  obj := fun i h st b hb => by
    obtain ⟨⟨old, he⟩, ⟨o, ho, hc, hd⟩, _⟩ := st
    have e' : b = e ∨ b = it := by simpa using hb
    rcases e' with z | z
    · rw [z]; exact ⟨_, he, fun v q => nomatch q⟩
    · rw [z]; exact ⟨o, ho, fun v q => by rw [hd] at q; cases q⟩
  keep := fun i h h' st k => let ⟨⟨old, he⟩, hi, hne⟩ := st; ⟨⟨old, k e (by simp) _ he⟩, hi.at fun o q => k it (by simp) o q, hne⟩
  item := by
    intro X hP hw hK hc i pins s σ H E I hf st hg
    subst hP hw hK
    obtain ⟨⟨old, he⟩, hit, hne⟩ := st
    obtain ⟨xs, x, hq, hx⟩ := hg
    obtain ⟨its, rv, p, hz⟩ := I.list hq
    obtain ⟨u, hu, ru⟩ := rv.get hx
    have hel : e < s.heap.objs.size := Heap.lt_size he
    have hil : it < s.heap.objs.size := by obtain ⟨_, q, _⟩ := hit; exact Heap.lt_size q
    refine wpAny_pyNext_enum_item he hit p.isList (x := u) (by simpa using hu) hne fun h' ho hit' hT hsz hk => ?_
    refine ⟨_, rfl, wpAny_letOwnedTupleGo_enum (s := { s with heap := h', toks := s.toks + 1 }) ho fun h'' he' sb => ?_⟩
    have hT2 : h''.get? s.heap.objs.size = some { cls := .type "tuple", data := .seq #[.int i s.toks, u] } := (sb.2 _ (Nat.ne_of_gt hel)).trans hT
    have new : ObjOk X.prog X.w (upd H s.heap.objs.size (.tup [.int (i : Nat), x])) h'' s.heap.objs.size (.tup [.int (i : Nat), x]) :=
      ⟨by show 2 ≤ sizeLine; decide, [.int i s.toks, u], .cons ⟨_, rfl⟩ (.cons ru .nil), ⟨_, hT2, rfl, _, rfl⟩⟩
    have I1 : Inv X pins σ (upd H s.heap.objs.size (.tup [.int (i : Nat), x])) { s with heap := h'', toks := s.toks + 1 } :=
      I.turnedNew (ch := [e, it]) (fun b ob hb q => (sb.2 b (fun z => hb (by simp [z]))).trans (hk b ob (fun z => hb (by simp [z])) (fun z => hb (by simp [z])) q)) hf (Nat.le_refl _) new
    refine ⟨.ref s.heap.objs.size, _, I1, rfl, ⟨_, x, rfl, I.hok.fresh (Nat.le_refl _), rfl, fun ys hy => by rw [I.list_inj hy hq]; exact hx⟩, ⟨⟨u, ?_⟩, hit'.at fun o q => (sb.2 it (Ne.symm hne)).trans q, hne⟩, fun b hb => ?_⟩
    · have e1 : ((i + 1 : Nat) : Int) = (i : Int) + 1 := by omega
      rw [e1]; exact he'
    · have hb' : b < s.heap.objs.size := by
        have e' : b = e ∨ b = it := by simpa using hb
        rcases e' with z | z
        · rw [z]; exact hel
        · rw [z]; exact hil
      rw [upd_ne (Nat.ne_of_lt hb')]
      exact (hf b hb).1
  done := by
    intro X hP hw hK hc i pins s σ H E I hf st hg
    subst hP hw hK
    obtain ⟨⟨old, he⟩, hit, hne⟩ := st
    obtain ⟨xs, hq, hx⟩ := hg
    obtain ⟨its, rv, p, hz⟩ := I.list hq
    obtain ⟨f0, f1, f2, f3, f4, f5⟩ := hf it (by simp)
    have hl := rv.length
    exact wpAny_pyNext_enum_end (I.ok.hd hc) he hit p.isList (by simp; omega) fun h' eb => ⟨rfl, I.turned (t' := s.toks) (fun b o hb q => eb b o hb q) f0 f1 f3 f4 f5⟩
  self := fun A i s Q E st h => let ⟨⟨_, he⟩, _⟩ := st; wpAny_pyIter_enum he h
inductive iEnumI (K : PySem.W.Frag) (vs : List V) (H1 : Hp) (R : It → Hp → Prop) : Prop
  | mk : ∀ a xs, (vs = [.ref a]) → (SqL K H1 a xs) → (R (Ite K a) H1) → iEnumI K vs H1 R
def iEnum (K : PySem.W.Frag) (ta : TA) : TI := fun σ H R => ta σ H fun vs H1 => iEnumI K vs H1 R
theorem pi_enum {X : Cx} {e : Expr} {ta : TA} {p pos tpos : Pos} {elts : List Expr} {kk : Nat} (hg : Gl X "enumerate") (hm : X.mg "enumerate" = none) (ha : PA X [e] ta) (hs : starEach [e] X.env = [(false, eval e X.env)] := by rfl) :
    PI X (.Tuple elts kk tpos) (.Call (.Name "enumerate" p) [e] [] pos) (iEnum X.K ta) := by
  intro pins s σ H R I h
  refine Call_ (ld_blt I hg hm boot_enumerate (PyProof.Rows.callWith_type1 (thn (ha pos pins s σ H _ I h) fun us s1 ⟨vs, H1, I1, r1, q1⟩ => ?_) hs rfl))
  obtain ⟨a, xs, ex, hq, q⟩ := q1
  subst ex
  cases r1 with
  | cons r rr =>
    cases rr
    cases r
    obtain ⟨its, rv, p', hz⟩ := I1.list hq
    refine call_enumerate_list p'.isList fun h' he hit hsz hk => wpAny_pyIter_enum he ?_
    have I2 : Inv X pins σ H1 { s1 with heap := h' } := I1.kept (t' := s1.toks) hk
    refine ⟨s1.heap.objs.size + 1, [s1.heap.objs.size + 1, s1.heap.objs.size], _, _, H1, rfl, I2, turn_enum a (s1.heap.objs.size + 1) s1.heap.objs.size, ⟨⟨.none, he⟩, hit, Nat.succ_ne_self _⟩, fun b hb => ?_, q⟩
    have e' : b = s1.heap.objs.size + 1 ∨ b = s1.heap.objs.size := by simpa using hb
    have hle : s1.heap.objs.size ≤ b := by
      rcases e' with z | z
      · rw [z]; exact Nat.le_add_right _ _
      · rw [z]; exact Nat.le_refl _
    exact I1.fpOk hle (I1.hok.fresh hle)
end L2
namespace L2
open PySem PySem.Spec PyProof.Rows
def inClass (s : Stmt) (j : Nat) : Stmt := match s with
  | .ClassDef _ _ _ body _ _ _ _ _ _ _ => body.getD j (.Pass ⟨0, 0, 0, 0⟩)
  | _ => .Pass ⟨0, 0, 0, 0⟩
def defArgs (s : Stmt) : Arguments := match s with
  | .FunctionDef _ a _ _ _ _ _ _ _ _ => a
  | _ => { posonlyargs := [], args := [], vararg := none, kwonlyargs := [], kw_defaults := [], kwarg := none, defaults := [] }
def defBody (s : Stmt) : List Stmt := match s with
  | .FunctionDef _ _ b _ _ _ _ _ _ _ => b
  | _ => []
def defScope (s : Stmt) : Scope := match s with
  | .FunctionDef _ _ _ _ _ _ sc _ _ _ => sc
  | _ => { kind := .function, names := [], isGenerator := false, isCoroutine := false }
abbrev CX0 : CXT := fun _ _ _ _ _ _ => False
abbrev E0 : XK := fun _ _ _ => False
theorem pass0 {X : Cx} : Passes CX0 X E0 := fun _ _ _ _ _ _ _ h => h.elim
structure Fun (K : PySem.W.Frag) (x qual : Str) (st : Stmt) (f : Addr) (fd : FuncData) : Prop where
  ex : ∃ (oc : Value) (od : Option Addr) (kV doc pm : Value) (an : Option Addr) (cdv ct : Value) (osl : Array (Option Value)),
    fd = PySem.W.fnOf x qual (defArgs st) (defBody st) (defScope st) .none kV doc pm an cdv ct ∧ K.lookup f = some ⟨oc, od, .func fd, osl⟩ ∧ PySem.W.codeIn K cdv qual = true
  kp : PySem.W.keepIn K (.ref f) = true
section
variable {P : Program} {w : World} {K : PySem.W.Frag} {mg : Str → Option Value} {base : Heap}
theorem Fun.ok {x qual : Str} {st : Stmt} {f : Addr} {fd : FuncData} {N ps : List Str} {k : Nat} {sp : Sp} (F : Fun K x qual st f fd) (S : FnScope N ps (defScope st)) (len : ∀ vs H Q E, sp vs H Q E → vs.length = ps.length)
    (hbody : ∀ (cdv : Value) (A : Around) (outer : List Env) (s : Shared) (H : Hp) (vs : List V) (Q : VK) (E : XK), Room k (A.deeper (envOfC qual (defScope st) s.heap.objs.size f cdv)) → sp vs H Q E →
      ∃ t, PSs (cxOf CX0 P w K mg base N qual (defScope st) f cdv A outer s H E).nox (defBody st) t ∧ t { nx := fun _ H' => Q .non H', rt := Q } (start N vs) H) : FnOk P w K mg base CX0 (k + 1) f fd ps sp := by
  obtain ⟨oc, od, kV, doc, pm, an, cdv, ct, osl, rfl, lk, hcd⟩ := F.ex
  refine fn_of lk hcd S len fun A outer s H vs Q E hr hsp => ?_
  obtain ⟨t, h, q⟩ := hbody cdv A outer s H vs Q E hr hsp
  exact ⟨t, h.nox, q⟩
theorem Fun.binds {x qual : Str} {st : Stmt} {f : Addr} {fd : FuncData} {ps : List Str} (F : Fun K x qual st f fd)
    (h : ∀ (kV doc pm : Value) (an : Option Addr) (cdv ct : Value) (us : List Value), us.length = ps.length → bindArgs (PySem.W.fnOf x qual (defArgs st) (defBody st) (defScope st) .none kV doc pm an cdv ct) ⟨us, []⟩ = pure (ps.zip us)) : Binds K fd ps [] := by
  obtain ⟨oc, od, kV, doc, pm, an, cdv, ct, osl, rfl, lk, hcd⟩ := F.ex
  exact .all (h kV doc pm an cdv ct)
theorem fun_mk {x qual : Str} {st : Stmt} {f : Addr} {oc : Value} {od an : Option Addr} {osl : Array (Option Value)} {kV doc pm cdv ct : Value} (l : K.lookup f = some ⟨oc, od, .func (PySem.W.fnOf x qual (defArgs st) (defBody st) (defScope st) .none kV doc pm an cdv ct), osl⟩)
    (c : PySem.W.codeIn K cdv qual = true) (k : PySem.W.keepIn K (.ref f) = true) : Fun K x qual st f (PySem.W.fnOf x qual (defArgs st) (defBody st) (defScope st) .none kV doc pm an cdv ct) := ⟨⟨oc, od, kV, doc, pm, an, cdv, ct, osl, rfl, l, c⟩, k⟩
end
theorem hu_of {A : Around} {k : Nat} (hr : Room k A) : A.units + 1 < cLine := Nat.lt_of_le_of_lt (Nat.add_le_add_left (by decide : 1 ≤ 64) _) hr.units
section
variable {X : Cx}
theorem pv (i : Nat) {x : Str} {pos : Pos} (hN : X.N[i]? = some x := by rfl) (hv : Vis X.env.scope x := by first | exact Or.inl rfl | exact Or.inr (Or.inl rfl) | exact Or.inr (Or.inr rfl)) (hd : (x == ("__debug__" : Str)) = false := by decide)
    (hcd : (x == ("__classdict__" : Str)) = false := by decide) : PE X (.Name x pos) (tVar i) := pe_var hN hv hd hcd
theorem call_lenD : CallR X (.builtin "len") (fun xs H Q => ∃ a kvs, xs = [V.ref a] ∧ H a = some (.dK kvs) ∧ Q (.int kvs.length) H) := by
  intro pins s σ H xs us Q I r h
  obtain ⟨a, kvs, rfl, ha, q⟩ := h
  obtain ⟨u, rfl, ru⟩ := vals1 r
  cases ru
  exact d_len I (.inl ha) fun t s' I' => ⟨.int kvs.length, H, I', ⟨t, rfl⟩, q⟩
end
theorem iteF {A B : Prop} (h : B) : if false = true then A else B := by
  rw [if_neg Bool.false_ne_true]
  exact h
theorem iteT {A B : Prop} (h : A) : if true = true then A else B := by
  rw [if_pos rfl]
  exact h
theorem ite2 {c A B : Prop} [Decidable c] (h1 : c → A) (h2 : ¬ c → B) : if c then A else B := by
  by_cases h : c
  · rw [if_pos h]
    exact h1 h
  · rw [if_neg h]
    exact h2 h
def Same (H H' : Hp) : Prop := ∀ b o, H b = some o → H' b = some o
theorem Same.trans {H H1 H2 : Hp} (a : Same H H1) (b : Same H1 H2) : Same H H2 := fun c o h => b c o (a c o h)
theorem Same.free {H H' : Hp} (e : Same H H') {l : Addr} (h : H' l = Option.none) : H l = Option.none := by
  cases q : H l with
  | none => rfl
  | some o =>
    rw [e l o q] at h
    cases h
theorem Same.seq {K : PySem.W.Frag} {H H' : Hp} {a : Addr} {xs : List V} (e : Same H H') (h : SqL K H a xs) : SqL K H' a xs := by
  rcases h with (h | ⟨o, h⟩) | h
  · exact .inl (.inl (e _ _ h))
  · exact .inl (.inr ⟨o, e _ _ h⟩)
  · exact .inr h
section
variable {κ : Type} [DecidableEq κ]
theorem valV_not {kvs : List (κ × V)} {k : κ} (h : valV kvs k = none) : ¬ k ∈ kvs.map (·.1) := by
  intro m
  obtain ⟨p, hp, e⟩ := List.mem_map.mp m
  have q : (kvs.any fun kv => decide (kv.1 = k)) = true := List.any_eq_true.mpr ⟨p, hp, decide_eq_true e⟩
  rw [valV_any, h] at q
  exact absurd q (by simp)
theorem valV_in {kvs : List (κ × V)} {k : κ} {v : V} (h : valV kvs k = some v) : k ∈ kvs.map (·.1) := by
  have q : (kvs.any fun kv => decide (kv.1 = k)) = true := by
    rw [valV_any, h]
    all_goals rfl
  obtain ⟨p, hp, e⟩ := List.any_eq_true.mp q
  exact List.mem_map.mpr ⟨p, hp, of_decide_eq_true e⟩
theorem nd_snoc : ∀ {l : List κ} {k : κ}, l.Nodup → ¬ k ∈ l → (l ++ [k]).Nodup
  | [], k, _, _ => by simp
  | a :: r, k, h, hk => by
    obtain ⟨h1, h2⟩ := List.nodup_cons.mp h
    show (a :: (r ++ [k])).Nodup
    refine List.nodup_cons.mpr ⟨fun m => ?_, nd_snoc h2 fun m => hk (List.mem_cons.mpr (Or.inr m))⟩
    rcases List.mem_append.mp m with q | q
    · exact h1 q
    · exact hk (List.mem_cons.mpr (Or.inl (List.mem_singleton.mp q).symm))
theorem nd_putK {kvs : List (κ × V)} {k : κ} (v : V) (hn : (kvs.map (·.1)).Nodup) (h : valV kvs k = none) : ((putK kvs k v).map (·.1)).Nodup := by
  rw [putK_new v h, List.map_append]
  exact nd_snoc hn (valV_not h)
theorem dropK_pos {p : κ × V} {r : List (κ × V)} {k : κ} (e : p.1 = k) : dropK (p :: r) k = dropK r k := by
  unfold dropK
  rw [List.filter_cons, if_neg (by simp [e])]
theorem dropK_neg {p : κ × V} {r : List (κ × V)} {k : κ} (e : ¬ p.1 = k) : dropK (p :: r) k = p :: dropK r k := by
  unfold dropK
  rw [List.filter_cons, if_pos (by simp [e])]
theorem dropK_no : ∀ {kvs : List (κ × V)} {k : κ}, ¬ k ∈ kvs.map (·.1) → dropK kvs k = kvs
  | [], _, _ => rfl
  | p :: r, k, h => by
    have h' : ¬ k ∈ r.map (·.1) := fun m => by
      obtain ⟨q, hq, e⟩ := List.mem_map.mp m
      exact h (List.mem_map.mpr ⟨q, List.mem_cons.mpr (Or.inr hq), e⟩)
    rw [dropK_neg fun e => h (List.mem_map.mpr ⟨p, List.mem_cons.mpr (Or.inl rfl), e⟩), dropK_no h']
theorem dropK_mem {kvs : List (κ × V)} {k : κ} {p : κ × V} (h : p ∈ dropK kvs k) : p ∈ kvs := (List.mem_filter.mp h).1
theorem nd_dropK : ∀ {kvs : List (κ × V)} {k : κ}, (kvs.map (·.1)).Nodup → ((dropK kvs k).map (·.1)).Nodup
  | [], _, _ => List.nodup_nil
  | p :: r, k, h => by
    have h : (p.1 :: r.map (·.1)).Nodup := h
    obtain ⟨h1, h2⟩ := List.nodup_cons.mp h
    by_cases e : p.1 = k
    · rw [dropK_pos e]
      exact nd_dropK h2
    · rw [dropK_neg e]
      show (p.1 :: (dropK r k).map (·.1)).Nodup
      refine List.nodup_cons.mpr ⟨fun m => h1 ?_, nd_dropK h2⟩
      obtain ⟨q, hq, eq⟩ := List.mem_map.mp m
      exact List.mem_map.mpr ⟨q, dropK_mem hq, eq⟩
theorem dropK_len : ∀ {kvs : List (κ × V)} {k : κ}, (kvs.map (·.1)).Nodup → k ∈ kvs.map (·.1) → (dropK kvs k).length + 1 = kvs.length
  | [], _, _, m => by simp at m
  | p :: r, k, h, m => by
    have h : (p.1 :: r.map (·.1)).Nodup := h
    have m : k = p.1 ∨ k ∈ r.map (·.1) := List.mem_cons.mp m
    obtain ⟨h1, h2⟩ := List.nodup_cons.mp h
    by_cases e : p.1 = k
    · subst e
      rw [dropK_pos rfl, dropK_no h1]
      all_goals rfl
    · have m' : k ∈ r.map (·.1) := m.resolve_left fun z => e z.symm
      have q := dropK_len h2 m'
      rw [dropK_neg e, List.length_cons, List.length_cons]
      omega
end
theorem nd_ix {α : Type} {l : List α} (hN : l.Nodup) {i j : Nat} {x : α} (a : l[i]? = some x) (b : l[j]? = some x) : i = j := by
  obtain ⟨h1, e1⟩ := List.getElem?_eq_some_iff.mp a
  obtain ⟨h2, e2⟩ := List.getElem?_eq_some_iff.mp b
  exact (List.getElem_inj hN).mp (e1.trans e2.symm)
theorem Same.made {H H1 : Hp} {x dx C : Addr} (nx : H x = Option.none) (nd : H dx = Option.none) (k : ∀ b o, (upd (upd H dx (.own x)) x (.ins C dx [])) b = some o → b ≠ x → H1 b = some o) : Same H H1 := fun b o e =>
  k b o (by rw [upd_ne (ne_of_none e nx), upd_ne (ne_of_none e nd)]; exact e) (ne_of_none e nx)
end L2
section
set_option Elab.async false
set_option linter.all false
set_option maxRecDepth 100000
set_option maxHeartbeats 2000000
namespace L2
open PySem PySem.Spec PyProof.Rows
open PySem.W (WData Codec OpenSpec Well WellAll ReadsW ReadsAllW)
mutual
inductive Dw (K : PySem.W.Frag) (H : Hp) : V → WData → Prop
  | non : Dw K H .non .none
  | bl (b : Bool) : Dw K H (.bl b) (.bool b)
  | int (i : Int) : Dw K H (.int i) (.int i)
  | str (x : Str) : Dw K H (.str x) (.str x)
  | byt (b : Array UInt8) : Dw K H (.byt b) (.bytes b.toList)
  | lst {a : Addr} {xs : List V} {ds : List WData} : SqL K H a xs → DwAll K H xs ds → Dw K H (.ref a) (.list ds)
  | tup {a : Addr} {xs : List V} {ds : List WData} : SqT K H a xs → DwAll K H xs ds → Dw K H (.ref a) (.tuple ds)
inductive DwAll (K : PySem.W.Frag) (H : Hp) : List V → List WData → Prop
  | nil : DwAll K H [] []
  | cons {v : V} {vs : List V} {d : WData} {ds : List WData} : Dw K H v d → DwAll K H vs ds → DwAll K H (v :: vs) (d :: ds)
end
theorem dw_ints {K : PySem.W.Frag} {H : Hp} : ∀ ns : List Int, DwAll K H (ns.map V.int) (ns.map WData.int)
  | [] => .nil
  | n :: r => .cons (.int n) (dw_ints r)
theorem ints_dw {K : PySem.W.Frag} {H : Hp} : ∀ (ns : List Int) (xs : List V), DwAll K H xs (ns.map WData.int) → xs = ns.map V.int
  | [], xs, h => by
    cases h
    rfl
  | n :: r, xs, h => by
    cases h with
    | cons h1 h2 =>
      cases h1
      rw [ints_dw r _ h2] <;> rfl
section
variable {P : Program} {w : World} {K : PySem.W.Frag} {H : Hp} {h : Heap} {R : PySem.W.WRecords} {cl : Str → Option Addr}
theorem sqL_at {a : Addr} {xs : List V} (hok : HOk P w H h) (KX : K.In h) (q : SqL K H a xs) : ∃ (its : List Value) (o : Obj) (n : Nat), Vals xs its ∧ h.get? a = some o ∧ o.cls = .type "list" ∧ o.data = .seq its.toArray n := by
  rcases q with q | ⟨o, its, n, e, hc, _, hd, _, hv⟩
  · obtain ⟨_, its, n, hv, e⟩ := (show ObjOk P w H h a (.lst xs) from q.ok hok)
    exact ⟨its, _, n, hv, e, rfl, rfl⟩
  · exact ⟨its.toList, o, n, hv, KX _ _ e, hc, by simp [hd]⟩
theorem sqT_at {a : Addr} {xs : List V} (hok : HOk P w H h) (KX : K.In h) (q : SqT K H a xs) : ∃ (its : List Value) (o : Obj) (n : Nat), Vals xs its ∧ h.get? a = some o ∧ o.cls = .type "tuple" ∧ o.data = .seq its.toArray n := by
  rcases q with q | ⟨o, its, n, e, hc, hd, _, hv⟩
  · obtain ⟨_, its, hv, o, e, hc, n, hd⟩ := (show ObjOk P w H h a (.tup xs) from q.ok hok)
    exact ⟨its, o, n, hv, e, hc, hd⟩
  · exact ⟨its.toList, o, n, hv, KX _ _ e, hc, by simp [hd]⟩
mutual
theorem Dw.reads (hok : HOk P w H h) (KX : K.In h) : ∀ (d : WData) (v : V) (u : Value), Dw K H v d → RelV v u → ∃ as, ReadsW R cl h u d as
  | .none, _, _, x, r => by
    cases x
    cases r
    exact ⟨_, ReadsW.none⟩
  | .bool b, _, _, x, r => by
    cases x
    cases r
    exact ⟨_, ReadsW.bool b⟩
  | .int i, _, _, x, r => by
    cases x
    obtain ⟨t, rfl⟩ := r
    exact ⟨_, ReadsW.int i t⟩
  | .str s, _, _, x, r => by
    cases x
    obtain ⟨t, rfl⟩ := r
    exact ⟨_, ReadsW.str s t⟩
  | .bytes b, _, _, x, r => by
    cases x
    obtain ⟨t, rfl⟩ := r
    exact ⟨_, ReadsW.bytes _ t⟩
  | .list ds, _, _, x, r => by
    cases x with
    | lst hs ha =>
      cases r
      obtain ⟨its, o, n, rv, ho, hc, hd⟩ := sqL_at hok KX hs
      obtain ⟨as, hr⟩ := Dw.readsAll hok KX ds _ its ha rv
      exact ⟨_, ReadsW.list ho hc hd hr⟩
  | .tuple ds, _, _, x, r => by
    cases x with
    | tup hs ha =>
      cases r
      obtain ⟨its, o, n, rv, ho, hc, hd⟩ := sqT_at hok KX hs
      obtain ⟨as, hr⟩ := Dw.readsAll hok KX ds _ its ha rv
      exact ⟨_, ReadsW.tuple ho hc hd hr⟩
  | .float _, _, _, x, _ => by cases x
  | .dict _, _, _, x, _ => by cases x
  | .bytearray _, _, _, x, _ => by cases x
  | .set _, _, _, x, _ => by cases x
  | .frozenset _, _, _, x, _ => by cases x
  | .obj _ _, _, _, x, _ => by cases x
theorem Dw.readsAll (hok : HOk P w H h) (KX : K.In h) : ∀ (ds : List WData) (vs : List V) (us : List Value), DwAll K H vs ds → Vals vs us → ∃ as, ReadsAllW R cl h us ds as
  | [], _, _, x, r => by
    cases x
    cases r
    exact ⟨_, ReadsAllW.nil⟩
  | d :: ds, _, _, x, r => by
    cases x with
    | cons h1 h2 =>
      cases r with
      | cons r1 r2 =>
        obtain ⟨as, q1⟩ := Dw.reads hok KX d _ _ h1 r1
        obtain ⟨bs, q2⟩ := Dw.readsAll hok KX ds _ _ h2 r2
        exact ⟨_, ReadsAllW.cons q1 q2⟩
end
end
mutual
def plW : WData → Bool
  | .none => true
  | .bool _ => true
  | .int _ => true
  | .str _ => true
  | .bytes _ => true
  | .list xs => plWs xs
  | .tuple xs => plWs xs
  | _ => false
def plWs : List WData → Bool
  | [] => true
  | x :: r => plW x && plWs r
end
theorem plWs_map {α : Type} {f : α → WData} (h : ∀ a, plW (f a) = true) : ∀ l : List α, plWs (l.map f) = true
  | [] => rfl
  | x :: r => by
    show (plW (f x) && plWs (r.map f)) = true
    rw [h x, plWs_map h r] <;> rfl
theorem pl_enc : ∀ (c : Codec) (a : c.denote), plW (c.enc a) = true
  | .unit, _ => rfl
  | .bool, _ => rfl
  | .int _ _, _ => rfl
  | .nat _ _, _ => rfl
  | .u8, _ => rfl
  | .bytes _ _, _ => rfl
  | .text _ _ _ _, _ => rfl
  | .list _ _ c, a => plWs_map (fun x => pl_enc c x) a
  | .pair c d, a => by
    show (plW (c.enc a.1) && (plW (d.enc a.2) && true)) = true
    rw [pl_enc c a.1, pl_enc d a.2] <;> rfl
  | .triple c d e, a => by
    show (plW (c.enc a.1) && (plW (d.enc a.2.1) && (plW (e.enc a.2.2) && true))) = true
    rw [pl_enc c a.1, pl_enc d a.2.1, pl_enc e a.2.2] <;> rfl
  | .option c, none => rfl
  | .option c, some x => pl_enc c x
theorem pl_encAll : ∀ (cs : List Codec) (a : Codec.denoteAll cs), plWs (Codec.encAll cs a) = true
  | [], _ => rfl
  | c :: cs, a => by
    show (plW (c.enc a.1) && plWs (Codec.encAll cs a.2)) = true
    rw [pl_enc c a.1, pl_encAll cs a.2] <;> rfl
theorem weight_mem : ∀ {xs : List WData} {d : WData}, d ∈ xs → d.weight ≤ WData.weightAll xs
  | [], d, h => absurd h (by simp)
  | x :: r, d, h => by
    show d.weight ≤ x.weight + 1 + WData.weightAll r
    rcases List.mem_cons.mp h with e | m
    · rw [e]
      omega
    · have z := weight_mem m
      omega
def toV : Value → V
  | .none => .non
  | .bool b => .bl b
  | .int i _ => .int i
  | .str x _ => .str x
  | .bytes b _ => .byt b
  | .ref a => .ref a
  | _ => .non
def OkU (A : List Addr) : Value → Prop
  | .none => True
  | .bool _ => True
  | .int _ _ => True
  | .str _ _ => True
  | .bytes _ _ => True
  | .ref a => a ∈ A
  | _ => False
theorem OkU.mono {A B : List Addr} (h : ∀ a ∈ A, a ∈ B) : ∀ {u : Value}, OkU A u → OkU B u := fun {u} x => by
  cases u with
  | ref a => exact h a x
  | none => trivial
  | bool b => trivial
  | int i t => trivial
  | str s t => trivial
  | bytes b t => trivial
  | _ => exact False.elim x
theorem relV_toV {A : List Addr} {u : Value} (x : OkU A u) : RelV (toV u) u := by
  cases u with
  | ref a => rfl
  | none => rfl
  | bool b => rfl
  | int i t => exact ⟨t, rfl⟩
  | str s t => exact ⟨t, rfl⟩
  | bytes b t => exact ⟨t, rfl⟩
  | _ => exact False.elim x
theorem vals_toV {A : List Addr} : ∀ {vs : List Value}, (∀ u ∈ vs, OkU A u) → Vals (vs.map toV) vs
  | [], _ => .nil
  | u :: r, h => .cons (relV_toV (h u (List.mem_cons_self ..))) (vals_toV fun x hx => h x (List.mem_cons_of_mem _ hx))
def ArgOb (h : Heap) (A : List Addr) (a : Addr) : Prop := ∃ vs : List Value, vs.length ≤ sizeLine ∧ (∀ u ∈ vs, OkU A u) ∧
  (h.get? a = some { cls := .type "list", data := .seq vs.toArray } ∨ h.get? a = some { cls := .type "tuple", data := .seq vs.toArray })
theorem ArgOb.mono {h : Heap} {A B : List Addr} {a : Addr} (k : ∀ a ∈ A, a ∈ B) (x : ArgOb h A a) : ArgOb h B a := by
  obtain ⟨vs, h1, h2, h3⟩ := x
  exact ⟨vs, h1, fun u hu => (h2 u hu).mono k, h3⟩
theorem wellAll_len {P : Params} {h : Heap} : ∀ {vs : List Value} {ds : List WData}, WellAll P h vs ds → vs.length = ds.length
  | _, _, .nil => rfl
  | _, _, .cons _ b => by
    show _ + 1 = _ + 1
    rw [wellAll_len b]
theorem well_list {P : Params} {h : Heap} {v : Value} {ds : List WData} (x : Well P h v (.list ds)) : ∃ (a : Addr) (vs : List Value), v = .ref a ∧ h.get? a = some { cls := .type "list", data := .seq vs.toArray } ∧ WellAll P h vs ds := by
  cases x with
  | list ho hall => exact ⟨_, _, rfl, ho, hall⟩
theorem well_tuple {P : Params} {h : Heap} {v : Value} {ds : List WData} (x : Well P h v (.tuple ds)) : ∃ (a : Addr) (vs : List Value), v = .ref a ∧ h.get? a = some { cls := .type "tuple", data := .seq vs.toArray } ∧ WellAll P h vs ds := by
  cases x with
  | tuple ho hall => exact ⟨_, _, rfl, ho, hall⟩
theorem well_cons {P : Params} {h : Heap} {us : List Value} {d : WData} {ds : List WData} (x : WellAll P h us (d :: ds)) : ∃ (v : Value) (vs : List Value), us = v :: vs ∧ Well P h v d ∧ WellAll P h vs ds := by
  cases x with
  | cons a b => exact ⟨_, _, rfl, a, b⟩
theorem line_of {n : Nat} (h : n ≤ 1048576) : n ≤ sizeLine := Nat.le_trans h (by decide)
section
variable {P : Params} {h : Heap}
mutual
theorem area_one : ∀ (d : WData) (v : Value), Well P h v d → plW d = true → d.weight ≤ 1048576 → ∃ A : List Addr, OkU A v ∧ ∀ a ∈ A, ArgOb h A a
  | .none, _, x, _, _ => by
    cases x
    exact ⟨[], trivial, fun a m => absurd m (by simp)⟩
  | .bool b, _, x, _, _ => by
    cases x
    exact ⟨[], trivial, fun a m => absurd m (by simp)⟩
  | .int i, _, x, _, _ => by
    cases x
    exact ⟨[], trivial, fun a m => absurd m (by simp)⟩
  | .str s, _, x, _, _ => by
    cases x
    exact ⟨[], trivial, fun a m => absurd m (by simp)⟩
  | .bytes b, _, x, _, _ => by
    cases x
    exact ⟨[], trivial, fun a m => absurd m (by simp)⟩
  | .list ds, _, x, p, z => by
    obtain ⟨a, vs, rfl, ho, hall⟩ := well_list x
    have z2 : WData.weightAll ds ≤ 1048576 := z
    obtain ⟨A, h1, h2⟩ := area_all ds _ hall p fun d hd => Nat.le_trans (weight_mem hd) z2
    have k : ∀ b ∈ A, b ∈ a :: A := fun b hb => List.mem_cons_of_mem _ hb
    refine ⟨a :: A, List.mem_cons_self .., fun b hb => ?_⟩
    rcases List.mem_cons.mp hb with e | m
    · rw [e]
      exact ⟨vs, line_of (by rw [wellAll_len hall]; exact Nat.le_trans (PySem.W.length_le_weightAllW ds) z2), fun u hu => (h1 u hu).mono k, .inl ho⟩
    · exact (h2 b m).mono k
  | .tuple ds, _, x, p, z => by
    obtain ⟨a, vs, rfl, ho, hall⟩ := well_tuple x
    have z2 : WData.weightAll ds ≤ 1048576 := z
    obtain ⟨A, h1, h2⟩ := area_all ds _ hall p fun d hd => Nat.le_trans (weight_mem hd) z2
    have k : ∀ b ∈ A, b ∈ a :: A := fun b hb => List.mem_cons_of_mem _ hb
    refine ⟨a :: A, List.mem_cons_self .., fun b hb => ?_⟩
    rcases List.mem_cons.mp hb with e | m
    · rw [e]
      exact ⟨vs, line_of (by rw [wellAll_len hall]; exact Nat.le_trans (PySem.W.length_le_weightAllW ds) z2), fun u hu => (h1 u hu).mono k, .inr ho⟩
    · exact (h2 b m).mono k
  | .float _, _, _, p, _ => Bool.noConfusion (show false = true from p)
  | .dict _, _, _, p, _ => Bool.noConfusion (show false = true from p)
  | .bytearray _, _, _, p, _ => Bool.noConfusion (show false = true from p)
  | .set _, _, _, p, _ => Bool.noConfusion (show false = true from p)
  | .frozenset _, _, _, p, _ => Bool.noConfusion (show false = true from p)
  | .obj _ _, _, _, p, _ => Bool.noConfusion (show false = true from p)
theorem area_all : ∀ (ds : List WData) (vs : List Value), WellAll P h vs ds → plWs ds = true → (∀ d ∈ ds, d.weight ≤ 1048576) → ∃ A : List Addr, (∀ u ∈ vs, OkU A u) ∧ ∀ a ∈ A, ArgOb h A a
  | [], _, x, _, _ => by
    cases x
    exact ⟨[], fun u m => absurd m (by simp), fun a m => absurd m (by simp)⟩
  | d :: ds, _, x, p, z => by
    obtain ⟨v, vs, rfl, x1, x2⟩ := well_cons x
    have q : plW d = true ∧ plWs ds = true := Bool.and_eq_true_iff.mp p
    obtain ⟨A, a1, a2⟩ := area_one d v x1 q.1 (z d (List.mem_cons_self ..))
    obtain ⟨B, b1, b2⟩ := area_all ds vs x2 q.2 fun e he => z e (List.mem_cons_of_mem _ he)
    have kA : ∀ b ∈ A, b ∈ A ++ B := fun b hb => List.mem_append.mpr (.inl hb)
    have kB : ∀ b ∈ B, b ∈ A ++ B := fun b hb => List.mem_append.mpr (.inr hb)
    refine ⟨A ++ B, fun u hu => ?_, fun b hb => ?_⟩
    · rcases List.mem_cons.mp hu with e | m
      · rw [e]
        exact a1.mono kA
      · exact (b1 u m).mono kB
    · rcases List.mem_append.mp hb with m | m
      · exact (a2 b m).mono kA
      · exact (b2 b m).mono kB
end
end
def hoOf (o : Obj) : Option HO := match o.data with
  | .seq vs _ => if (o.cls == Value.type "list") = true then some (.frz o (.lst (vs.toList.map toV))) else some (.frz o (.tup (vs.toList.map toV)))
  | _ => none
def argH (K : PySem.W.Frag) (h : Heap) (A : List Addr) : Hp := fun b => if b ∈ A then (if (K.lookup b).isNone = true then (h.get? b).bind hoOf else none) else none
def OnlyF (H : Hp) : Prop := ∀ b, H b = none ∨ ∃ o u, H b = some (.frz o u)
theorem hoOf_lst (vs : List Value) : hoOf { cls := .type "list", data := .seq vs.toArray } = some (.frz { cls := .type "list", data := .seq vs.toArray } (.lst (vs.map toV))) := by
  show (if (Value.type "list" == Value.type "list") = true then some (HO.frz { cls := .type "list", data := .seq vs.toArray } (.lst (vs.toArray.toList.map toV))) else some (HO.frz { cls := .type "list", data := .seq vs.toArray } (.tup (vs.toArray.toList.map toV)))) = _
  rw [if_pos (beq_self_eq_true _)]
theorem hoOf_tup (vs : List Value) : hoOf { cls := .type "tuple", data := .seq vs.toArray } = some (.frz { cls := .type "tuple", data := .seq vs.toArray } (.tup (vs.map toV))) := by
  show (if (Value.type "tuple" == Value.type "list") = true then some (HO.frz { cls := .type "tuple", data := .seq vs.toArray } (.lst (vs.toArray.toList.map toV))) else some (HO.frz { cls := .type "tuple", data := .seq vs.toArray } (.tup (vs.toArray.toList.map toV)))) = _
  rw [if_neg (by decide)]
section
variable {P : Program} {w : World} {K : PySem.W.Frag} {h : Heap} {A : List Addr}
theorem argH_at {b : Addr} {o : Obj} (hb : b ∈ A) (hk : K.lookup b = none) (e : h.get? b = some o) : argH K h A b = hoOf o := by
  unfold argH
  rw [if_pos hb, hk, if_pos (show (none : Option Obj).isNone = true from rfl), e] <;> rfl
theorem of_argH {b : Addr} {u : HO} (q : argH K h A b = some u) : b ∈ A ∧ K.lookup b = none := by
  unfold argH at q
  by_cases hb : b ∈ A
  · rw [if_pos hb] at q
    cases hk : K.lookup b with
    | none => exact ⟨hb, rfl⟩
    | some o =>
      rw [hk, if_neg (by simp)] at q
      cases q
  · rw [if_neg hb] at q
    cases q
theorem argH_is (ar : ∀ a ∈ A, ArgOb h A a) {b : Addr} {u : HO} (q : argH K h A b = some u) : K.lookup b = none ∧ ∃ vs : List Value, vs.length ≤ sizeLine ∧ (∀ u ∈ vs, OkU A u) ∧
    ((h.get? b = some { cls := .type "list", data := .seq vs.toArray } ∧ u = .frz { cls := .type "list", data := .seq vs.toArray } (.lst (vs.map toV))) ∨
     (h.get? b = some { cls := .type "tuple", data := .seq vs.toArray } ∧ u = .frz { cls := .type "tuple", data := .seq vs.toArray } (.tup (vs.map toV)))) := by
  obtain ⟨hb, hk⟩ := of_argH q
  obtain ⟨vs, h1, h2, h3⟩ := ar b hb
  refine ⟨hk, vs, h1, h2, ?_⟩
  rcases h3 with e | e
  · rw [argH_at hb hk e, hoOf_lst] at q
    exact .inl ⟨e, (Option.some.inj q).symm⟩
  · rw [argH_at hb hk e, hoOf_tup] at q
    exact .inr ⟨e, (Option.some.inj q).symm⟩
theorem argH_only (ar : ∀ a ∈ A, ArgOb h A a) : OnlyF (argH K h A) := fun b => by
  cases q : argH K h A b with
  | none => exact .inl rfl
  | some u =>
    obtain ⟨_, vs, _, _, ⟨_, e⟩ | ⟨_, e⟩⟩ := argH_is ar q
    · exact .inr ⟨_, _, by rw [e]⟩
    · exact .inr ⟨_, _, by rw [e]⟩
theorem argH_ok (ar : ∀ a ∈ A, ArgOb h A a) : HOk P w (argH K h A) h := fun b u q => by
  obtain ⟨_, vs, h1, h2, ⟨e, rfl⟩ | ⟨e, rfl⟩⟩ := argH_is ar q
  · exact ⟨e, by rw [List.length_map]; exact h1, vs, _, vals_toV h2, e⟩
  · exact ⟨e, by rw [List.length_map]; exact h1, vs, vals_toV h2, _, e, rfl, _, rfl⟩
theorem seq_inj {c c' : Value} {vs us : List Value} (e : (some { cls := c, data := .seq vs.toArray } : Option Obj) = some { cls := c', data := .seq us.toArray }) : c = c' ∧ vs = us := by
  have e1 := Option.some.inj e
  have e2 : c = c' := congrArg Obj.cls e1
  have e3 : Data.seq vs.toArray = Data.seq us.toArray := congrArg Obj.data e1
  injection e3 with e4
  refine ⟨e2, ?_⟩
  have e5 := congrArg Array.toList e4
  simpa using e5
theorem argL (KX : K.In h) (ar : ∀ a ∈ A, ArgOb h A a) {a : Addr} {vs : List Value} (ha : a ∈ A) (e : h.get? a = some { cls := .type "list", data := .seq vs.toArray }) : (∀ u ∈ vs, OkU A u) ∧ SqL K (argH K h A) a (vs.map toV) := by
  obtain ⟨us, h1, h2, h3⟩ := ar a ha
  have hu : us = vs := by
    rcases h3 with q | q
    · rw [e] at q
      exact (seq_inj q).2.symm
    · rw [e] at q
      exact absurd (Value.type.inj (seq_inj q).1) (by decide)
  subst hu
  refine ⟨h2, ?_⟩
  cases hk : K.lookup a with
  | none => exact .inl (.inr ⟨_, by rw [argH_at ha hk e, hoOf_lst]⟩)
  | some o =>
    have e2 := KX a o hk
    rw [e] at e2
    obtain rfl := Option.some.inj e2
    exact .inr ⟨_, us.toArray, _, hk, rfl, rfl, rfl, by rw [List.size_toArray]; exact h1, by simpa using vals_toV h2⟩
theorem argT (KX : K.In h) (ar : ∀ a ∈ A, ArgOb h A a) {a : Addr} {vs : List Value} (ha : a ∈ A) (e : h.get? a = some { cls := .type "tuple", data := .seq vs.toArray }) : (∀ u ∈ vs, OkU A u) ∧ SqT K (argH K h A) a (vs.map toV) := by
  obtain ⟨us, h1, h2, h3⟩ := ar a ha
  have hu : us = vs := by
    rcases h3 with q | q
    · rw [e] at q
      exact absurd (Value.type.inj (seq_inj q).1) (by decide)
    · rw [e] at q
      exact (seq_inj q).2.symm
  subst hu
  refine ⟨h2, ?_⟩
  cases hk : K.lookup a with
  | none => exact .inl (.inr ⟨_, by rw [argH_at ha hk e, hoOf_tup]⟩)
  | some o =>
    have e2 := KX a o hk
    rw [e] at e2
    obtain rfl := Option.some.inj e2
    exact .inr ⟨_, us.toArray, _, hk, rfl, rfl, by rw [List.size_toArray]; exact h1, by simpa using vals_toV h2⟩
mutual
theorem dw_one {Pm : Params} (KX : K.In h) (ar : ∀ a ∈ A, ArgOb h A a) : ∀ (d : WData) (v : Value), Well Pm h v d → plW d = true → OkU A v → Dw K (argH K h A) (toV v) d
  | .none, _, x, _, _ => by
    cases x
    exact .non
  | .bool b, _, x, _, _ => by
    cases x
    exact .bl b
  | .int i, _, x, _, _ => by
    cases x
    exact .int i
  | .str s, _, x, _, _ => by
    cases x
    exact .str s
  | .bytes b, _, x, _, _ => by
    cases x
    have z := Dw.byt (K := K) (H := argH K h A) b.toArray
    exact z
  | .list ds, _, x, p, hu => by
    obtain ⟨a, vs, rfl, ho, hall⟩ := well_list x
    obtain ⟨h2, hs⟩ := argL KX ar hu ho
    exact .lst hs (dw_all KX ar ds _ hall p h2)
  | .tuple ds, _, x, p, hu => by
    obtain ⟨a, vs, rfl, ho, hall⟩ := well_tuple x
    obtain ⟨h2, hs⟩ := argT KX ar hu ho
    exact .tup hs (dw_all KX ar ds _ hall p h2)
  | .float _, _, _, p, _ => Bool.noConfusion (show false = true from p)
  | .dict _, _, _, p, _ => Bool.noConfusion (show false = true from p)
  | .bytearray _, _, _, p, _ => Bool.noConfusion (show false = true from p)
  | .set _, _, _, p, _ => Bool.noConfusion (show false = true from p)
  | .frozenset _, _, _, p, _ => Bool.noConfusion (show false = true from p)
  | .obj _ _, _, _, p, _ => Bool.noConfusion (show false = true from p)
theorem dw_all {Pm : Params} (KX : K.In h) (ar : ∀ a ∈ A, ArgOb h A a) : ∀ (ds : List WData) (vs : List Value), WellAll Pm h vs ds → plWs ds = true → (∀ u ∈ vs, OkU A u) → DwAll K (argH K h A) (vs.map toV) ds
  | [], _, x, _, _ => by
    cases x
    exact .nil
  | d :: ds, _, x, p, hu => by
    obtain ⟨v, vs, rfl, x1, x2⟩ := well_cons x
    have q : plW d = true ∧ plWs ds = true := Bool.and_eq_true_iff.mp p
    exact .cons (dw_one KX ar d v x1 q.1 (hu _ (List.mem_cons_self ..))) (dw_all KX ar ds vs x2 q.2 fun u m => hu u (List.mem_cons_of_mem _ m))
end
end
theorem spec_call {P : Program} {w : World} {K : PySem.W.Frag} {mg mb : Str → Option Value} {CX : CXT} {k : Nat} {fa : Addr} {fd : FuncData} {ps : List Str} {sp : Sp} {s₁ : Shared} {vals : List Value} {ds : List WData} {R : PySem.W.WRecords} {cl : Str → Option Addr} {d0 : WData}
    (KX : K.In s₁.heap) (hns : s₁.heap.Ns mainGlobals mg) (hb : s₁.heap.Ns builtinsNs mb) (hbb : ∀ x : Str, x ≠ "__name__" → mb x = bootBuiltins x) (hlim : s₁.heap.NoLimit) (hg : s₁.gens = #[])
    (hwl : WellAll w.params s₁.heap vals ds) (hpl : plWs ds = true) (hwt : ∀ d ∈ ds, d.weight ≤ 1048576) (hr : Room k callerA)
    (F : ∀ base : Heap, K.In base → base.Ns mainGlobals mg → FnOk P w K mg base CX k fa fd ps sp) (hbind : ∀ (s : Shared) (us : List Value), us.length = ps.length → BindsTo s fd ⟨us, []⟩ (ps.zip us)) (hlen : ds.length = ps.length)
    (hsp : ∀ (H : Hp) (xs : List V), OnlyF H → DwAll K H xs ds → sp xs H (fun v H' => Dw K H' v d0) fun _ _ _ => False)
    (hCX : ∀ H e s', CX [] H s₁ (fun _ _ _ => False) e s' → False) :
    codeAny (model P w) callerA (.call (.ref fa) ⟨vals, []⟩) (fun r s' => ∃ u as, r = .ok (.ret u) ∧ ReadsW R cl s'.heap u d0 as ∧ OldK s₁.heap s'.heap ∧ s'.os = s₁.os ∧ AllBare s'.gens) s₁ := by
  obtain ⟨A, ho, ar⟩ := area_all ds vals hwl hpl hwt
  have hO : OnlyF (argH K s₁.heap A) := argH_only ar
  have hok : HOk P w (argH K s₁.heap A) s₁.heap := argH_ok ar
  have hS := dw_all KX ar ds vals hwl hpl ho
  have hV := vals_toV ho
  have hK : ∀ b u, argH K s₁.heap A b = some u → K.lookup b = none := fun b u q => (argH_is ar q).1
  have noA : ∀ {b : Addr} {o : Obj} {es : Array DictEntry} {ep : Nat}, s₁.heap.get? b = some o → o.data = .dict es ep → argH K s₁.heap A b = none := fun {b o es ep} e d => by
    cases q : argH K s₁.heap A b with
    | none => rfl
    | some u =>
      obtain ⟨_, vs, _, _, ⟨e2, _⟩ | ⟨e2, _⟩⟩ := argH_is ar q
      · rw [e2] at e
        cases e
        have d' : Data.seq vs.toArray _ = Data.dict es ep := d
        cases d'
      · rw [e2] at e
        cases e
        have d' : Data.seq vs.toArray _ = Data.dict es ep := d
        cases d'
  generalize argH K s₁.heap A = H at hO hok hS hK noA
  have base_of : ∀ {b : Addr} {o : Obj}, s₁.heap.get? b = some o → H b = none → (hidT s₁.heap H).get? b = some o := fun e n => hidT_get e n
  have nsK : ∀ {b : Addr} {m : Str → Option Value}, s₁.heap.Ns b m → (hidT s₁.heap H).Ns b m := fun {b m} ⟨o, es, ep, e, d, r⟩ => ⟨o, es, ep, base_of e (noA e d), d, r⟩
  have nK : ∀ b o, K.lookup b = some o → H b = none := fun b o e => by
    cases q : H b with
    | none => rfl
    | some u =>
      rw [hK b u q] at e
      cases e
  have hKb : K.In (hidT s₁.heap H) := fun b o e => base_of (KX b o e) (nK b o e)
  have hM : Mod K mg (hidT s₁.heap H) := ⟨hKb, nsK hns, ⟨mb, nsK hb, hbb⟩, let ⟨mc, h1, h2⟩ := hlim; ⟨mc, nsK h1, h2⟩⟩
  have e0 : Env0 P w K mg (hidT s₁.heap H) callerA [] s₁ H := ⟨rfl, hM, fun b o e => of_hidT e, Nat.le_of_eq (hidT_size _ _), trivial, fun b hb => absurd (show b ∈ ([] : List Addr) from hb) (by simp), hok, .of_eq hg⟩
  have hl : vals.length = ps.length := by rw [wellAll_len hwl]; exact hlen
  refine codeAny_mono ((F _ hKb (nsK hns)).run callerA [] s₁ H ⟨vals, []⟩ vals (vals.map toV) _ _ hr e0 (hbind s₁ vals hl) hV (hsp H _ hO hS)) fun r s' x => ?_
  cases r with
  | error e => exact (hCX H e s' x).elim
  | ok fl =>
    cases fl with
    | next => exact False.elim x
    | brk => exact False.elim x
    | cont => exact False.elim x
    | ret u =>
      obtain ⟨v, H', os, bare, un, hok', r', q⟩ := x
      have kept : ∀ b o, s₁.heap.get? b = some o → s'.heap.get? b = some o := fun b o e => by
        cases q2 : H b with
        | none => exact un.keep b o e q2 (by intro z; exact absurd (show b ∈ ([] : List Addr) from z) (by simp)) (by simp)
        | some u2 =>
          rcases hO b with z | ⟨ob, u3, z⟩
          · rw [q2] at z
            cases z
          · have z2 := un.frzs b ob _ z
            obtain ⟨e1, _⟩ := hok b _ z
            obtain ⟨e2, _⟩ := hok' b _ z2
            rw [e] at e1
            cases e1
            exact e2
      have KX' : K.In s'.heap := fun b o e => kept b o (KX b o e)
      obtain ⟨as, hrd⟩ := Dw.reads (R := R) (cl := cl) hok' KX' d0 v u q r'
      exact ⟨u, as, rfl, hrd, OldK.of_keep kept, os, bare⟩
theorem layable_weight {ds : List WData} (h : WData.layableAll ds = true) : ∀ d ∈ ds, d.weight ≤ 1048576 := fun d hd =>
  (PySem.W.layableW_iff.mp (List.all_eq_true.mp h d hd)).2.2
theorem encAll_len : ∀ (cs : List Codec) (a : Codec.denoteAll cs), (Codec.encAll cs a).length = cs.length
  | [], _ => rfl
  | c :: cs, a => by
    show (Codec.encAll cs a.2).length + 1 = cs.length + 1
    rw [encAll_len cs a.2]
theorem walk_spec {r : OpenSpec} {k : Nat} {q : Program} {loose : List Str} {XP : (Str → Option Value) → Heap → Prop} {YP : World → Heap → Prop} {d : DefRec} {K : Params → PySem.W.Frag} {CX : World → CXT} {ps : List Str} {sp : World → Sp}
    (hwell : r.wellSaid = true) (hdf : d.params.defaults = []) (hlen : r.args.length = ps.length) (hr : Room k callerA)
    (hY : ∀ (w : World) (h : Heap), YP w h → (K w.params).In h)
    (F : ∀ (w : World) (mg : Str → Option Value) (fa : Addr) (h : Heap), YP w h → (K w.params).In h → h.Ns mainGlobals mg → mg d.name = some (.ref fa) →
      ∃ fd : FuncData, (∀ (s : Shared) (us : List Value), us.length = ps.length → BindsTo s fd ⟨us, []⟩ (ps.zip us)) ∧
        ∀ base : Heap, (K w.params).In base → base.Ns mainGlobals mg → FnOk r.prog w (K w.params) mg base (CX w) k fa fd ps (sp w))
    (hsp : ∀ (w : World) (H : Hp) (xs : List V) (a : Codec.denoteAll r.args), OnlyF H → Codec.withinAll r.args a = true → Codec.app r.args r.asked a = true → DwAll (K w.params) H xs (Codec.encAll r.args a) →
      sp w xs H (fun v H' => Dw (K w.params) H' v (r.ret.enc (Codec.app r.args r.f a))) fun _ _ _ => False)
    (hCX : ∀ (w : World) (H : Hp) (s : Shared) (e : Value) (s' : Shared), CX w [] H s (fun _ _ _ => False) e s' → False) :
    PySem.W.WalkOS q loose XP YP r d [] (fun f vs => PySem.call f vs) := by
  intro w s_0 s₁ mg mb G Y fa o pm cd doc dV kV ho hd hcd hD hmg hg args vals as hpre hlay hrd hwl hlo
  obtain ⟨a, e1, e2⟩ := PySem.W.os_pre_some hpre
  obtain ⟨e3, hwi⟩ := Codec.encAll_of_decAll r.args args a e1
  subst e3
  have KX := hY w _ Y
  obtain ⟨fd, hb, hF⟩ := F w mg fa _ Y KX G.T.g hmg
  refine PySem.W.enter_call (codeAny_mono (spec_call (R := []) (cl := classAt s_0.heap) (d0 := r.ret.enc (Codec.app r.args r.f a)) KX G.T.g G.T.b G.T.builtins G.T.nolimit hg hwl (pl_encAll _ _) (layable_weight hlay) hr hF hb (by rw [encAll_len]; exact hlen)
    (fun H xs hO hS => hsp w H xs a hO hwi e2 hS) fun H e s' => hCX w H s₁ e s') fun r' s' hq => ?_)
  obtain ⟨u, as', rfl, h1, h2, h3, h4⟩ := hq
  exact ⟨.inl ⟨u, _, as', rfl, fun _ => rfl, h1, (OpenSpec.post_iff hwell hwi _ _).mpr rfl, fun z => Bool.noConfusion (show false = true from z)⟩, h2, h3, h4⟩
theorem walk_specK {r : OpenSpec} {k : Nat} {q : Program} {loose : List Str} {XP : (Str → Option Value) → Heap → Prop} {YP : World → Heap → Prop} {d : DefRec} {K : Params → PySem.W.Frag} {CX : CXT} {ps : List Str} {sp : PySem.W.Frag → Sp}
    (hwell : r.wellSaid = true) (hdf : d.params.defaults = []) (hlen : r.args.length = ps.length) (hr : Room k callerA)
    (hY : ∀ (w : World) (h : Heap), YP w h → (K w.params).In h)
    (F : ∀ (w : World) (mg : Str → Option Value) (fa : Addr) (h : Heap), YP w h → (K w.params).In h → h.Ns mainGlobals mg → mg d.name = some (.ref fa) →
      ∃ fd : FuncData, (∀ (s : Shared) (us : List Value), us.length = ps.length → BindsTo s fd ⟨us, []⟩ (ps.zip us)) ∧
        ∀ base : Heap, (K w.params).In base → base.Ns mainGlobals mg → FnOk r.prog w (K w.params) mg base CX k fa fd ps (sp (K w.params)))
    (hsp : ∀ (K : PySem.W.Frag) (H : Hp) (xs : List V) (a : Codec.denoteAll r.args), OnlyF H → Codec.withinAll r.args a = true → Codec.app r.args r.asked a = true → DwAll K H xs (Codec.encAll r.args a) →
      sp K xs H (fun v H' => Dw K H' v (r.ret.enc (Codec.app r.args r.f a))) fun _ _ _ => False)
    (hCX : ∀ (H : Hp) (s : Shared) (e : Value) (s' : Shared), CX [] H s (fun _ _ _ => False) e s' → False) :
    PySem.W.WalkOS q loose XP YP r d [] (fun f vs => PySem.call f vs) :=
  walk_spec (K := K) (CX := fun _ => CX) (sp := fun w => sp (K w.params)) hwell hdf hlen hr hY F (fun w H xs a h1 h2 h3 h4 => hsp (K w.params) H xs a h1 h2 h3 h4) fun _ H s e s' => hCX H s e s'
end L2
end
set_option linter.all false
set_option Elab.async false
namespace Hc
open Vasnpe
def S (l : List Nat) (f : Nat → Nat) : Nat := (l.map f).sum
theorem S_nil (f : Nat → Nat) : S [] f = 0 := rfl
theorem S_cons (a : Nat) (l : List Nat) (f : Nat → Nat) : S (a :: l) f = f a + S l f := by simp [S]
theorem foldl_sum : ∀ (l : List Nat) (z : Nat), l.foldl (fun a b => a + b) z = z + l.sum
  | [], z => by simp
  | a :: l, z => by rw [List.foldl_cons, foldl_sum l, List.sum_cons]; omega
theorem sum_eq (l : List Nat) : Vasnpa.sum l = l.sum := by unfold Vasnpa.sum; rw [foldl_sum]; omega
theorem S_congr {l : List Nat} {f g : Nat → Nat} (h : ∀ x, x ∈ l → f x = g x) : S l f = S l g := by
  induction l with
  | nil => rfl
  | cons a l ih =>
    rw [S_cons, S_cons, h a (by simp), ih fun x hx => h x (by simp [hx])]
theorem S_le {l : List Nat} {f g : Nat → Nat} (h : ∀ x, x ∈ l → f x ≤ g x) : S l f ≤ S l g := by
  induction l with
  | nil => exact Nat.le_refl _
  | cons a l ih =>
    rw [S_cons, S_cons]
    have h1 := h a (by simp)
    have h2 := ih fun x hx => h x (by simp [hx])
    omega
theorem S_mem {l : List Nat} {f : Nat → Nat} {x : Nat} (h : x ∈ l) : f x ≤ S l f := by
  induction l with
  | nil => simp at h
  | cons a l ih =>
    rw [S_cons]
    rcases List.mem_cons.mp h with rfl | h
    · omega
    · have := ih h; omega
theorem S_zero {l : List Nat} {f : Nat → Nat} (h : S l f = 0) {x : Nat} (hx : x ∈ l) : f x = 0 := by
  have := S_mem (f := f) hx; omega
theorem S_const0 {l : List Nat} {f : Nat → Nat} (h : ∀ x, x ∈ l → f x = 0) : S l f = 0 := by
  induction l with
  | nil => rfl
  | cons a l ih => rw [S_cons, h a (by simp), ih fun x hx => h x (by simp [hx])]
theorem S_point {l : List Nat} {f g : Nat → Nat} {x : Nat} (nd : l.Nodup) (hx : x ∈ l) (h : ∀ y, y ≠ x → g y = f y) : S l g + f x = S l f + g x := by
  induction l with
  | nil => simp at hx
  | cons a l ih =>
    rw [S_cons, S_cons]
    have nd' := List.nodup_cons.mp nd
    by_cases e : a = x
    · subst e
      have q : S l g = S l f := S_congr fun y hy => h y fun z => nd'.1 (z ▸ hy)
      omega
    · have hx' : x ∈ l := by
        rcases List.mem_cons.mp hx with z | z
        · exact absurd z.symm e
        · exact z
      have q := ih nd'.2 hx'
      have q2 := h a e
      omega
theorem S_perm {l m : List Nat} {f : Nat → Nat} (p : l.Perm m) : S l f = S m f := by
  induction p with
  | nil => rfl
  | cons a _ ih => rw [S_cons, S_cons, ih]
  | swap a b l => rw [S_cons, S_cons, S_cons, S_cons]; omega
  | trans _ _ a b => exact a.trans b
theorem S_split (p : Nat → Bool) (f : Nat → Nat) : ∀ l : List Nat, S l f = S (l.filter p) f + S (l.filter fun x => !p x) f
  | [] => rfl
  | a :: l => by
    rw [S_cons, S_split p f l]
    cases e : p a
    · rw [List.filter_cons_of_neg (by simp [e]), List.filter_cons_of_pos (by simp [e]), S_cons]; omega
    · rw [List.filter_cons_of_pos (by simp [e]), List.filter_cons_of_neg (by simp [e]), S_cons]; omega
theorem S_sub {l m : List Nat} {f : Nat → Nat} (nl : l.Nodup) (nm : m.Nodup) (h : ∀ x, x ∈ l → x ∈ m) : S m f = S l f + S (m.filter fun x => !l.contains x) f := by
  rw [S_split (fun x => l.contains x) f m]
  have p : (m.filter fun x => l.contains x).Perm l := by
    refine (List.perm_ext_iff_of_nodup (nm.filter _) nl).mpr fun a => ?_
    rw [List.mem_filter, List.contains_iff_mem]
    exact ⟨fun z => z.2, fun z => ⟨h a z, z⟩⟩
  rw [S_perm p]
theorem cellAt_def (h : Heap) (o : Nat) : cellAt h o = (h.cells[o]?).getD none := by
  unfold cellAt; cases h.cells[o]? <;> rfl
theorem cell_lt {h : Heap} {o : Nat} {c : Cell} (e : cellAt h o = some c) : o < h.cells.length := by
  rw [cellAt_def] at e
  cases q : h.cells[o]? with
  | none => rw [q] at e; cases e
  | some x => exact (List.getElem?_eq_some_iff.mp q).1
theorem cellAt_set {h : Heap} {o : Nat} (c : Option Cell) (hl : o < h.cells.length) (x : Nat) : cellAt (setCell h o c) x = if x = o then c else cellAt h x := by
  rw [cellAt_def, cellAt_def]
  show ((h.cells.set o c)[x]?).getD none = _
  by_cases e : x = o
  · subst e
    rw [if_pos rfl, List.getElem?_set_self hl]; rfl
  · rw [if_neg e, List.getElem?_set_ne (fun z => e z.symm)]
def slotsOf : Option Cell → List Nat
  | some c => c.slots.filterMap fun x => x
  | none => []
theorem inSlots_def (h : Heap) (o : Nat) : inSlots h o = slotsOf (cellAt h o) := by
  unfold inSlots slotsOf; cases cellAt h o <;> rfl
def cntO : Option Cell → Nat
  | some c => c.count
  | none => 0
def cntOf (h : Heap) (o : Nat) : Nat := cntO (cellAt h o)
def slotSum (h : Heap) (o : Nat) : Nat := S (List.range 32) fun x => (inSlots h x).count o
def slotTot (h : Heap) : Nat := S (List.range 32) fun x => (inSlots h x).length
structure Good (h : Heap) (pend : List Nat) : Prop where
  clen : h.cells.length = 32
  rlen : h.regs.length = 8
  eq : ∀ o, cntOf h o = h.regs.count (some o) + slotSum h o + pend.count o
  sheld : ∀ o, o ∈ h.suspects → isHeld h o = true
  snd : h.suspects.Nodup
  shape : ∀ o c, cellAt h o = some c → c.kind < 100 ∧ c.size ≤ 1000000 ∧ c.slots.length ≤ 5
theorem isHeld_iff {h : Heap} {o : Nat} : isHeld h o = true ↔ ∃ c, cellAt h o = some c := by
  unfold isHeld; rw [Option.isSome_iff_exists]
theorem held_of_cnt {h : Heap} {o : Nat} (e : 0 < cntOf h o) : ∃ c, cellAt h o = some c := by
  unfold cntOf cntO at e
  cases q : cellAt h o with
  | none => rw [q] at e; exact absurd e (Nat.lt_irrefl 0)
  | some c => exact ⟨c, rfl⟩
section
variable {h : Heap} {pend : List Nat}
theorem Good.lt (G : Good h pend) {o : Nat} {c : Cell} (e : cellAt h o = some c) : o < 32 := by
  have := cell_lt e; rw [G.clen] at this; exact this
theorem Good.reg (G : Good h pend) {r o : Nat} (e : h.regs[r]? = some (some o)) : ∃ c, cellAt h o = some c := by
  have m : some o ∈ h.regs := List.mem_of_getElem? e
  have q := List.count_pos_iff.mpr m
  exact held_of_cnt (by rw [G.eq]; omega)
theorem Good.mreg (G : Good h pend) {o : Nat} (m : some o ∈ h.regs) : ∃ c, cellAt h o = some c := by
  have q := List.count_pos_iff.mpr m
  exact held_of_cnt (by rw [G.eq]; omega)
theorem Good.mpend (G : Good h pend) {o : Nat} (m : o ∈ pend) : ∃ c, cellAt h o = some c := by
  have q := List.count_pos_iff.mpr m
  exact held_of_cnt (by rw [G.eq]; omega)
theorem inSlots_lt (G : Good h pend) {x t : Nat} (m : t ∈ inSlots h x) : x < 32 := by
  cases q : cellAt h x with
  | none => rw [inSlots_def, q] at m; simp [slotsOf] at m
  | some c => exact G.lt q
theorem Good.slot (G : Good h pend) {x t : Nat} (m : t ∈ inSlots h x) : ∃ c, cellAt h t = some c := by
  have q := List.count_pos_iff.mpr m
  have q2 : (inSlots h x).count t ≤ slotSum h t := S_mem (f := fun x => (inSlots h x).count t) (List.mem_range.mpr (inSlots_lt G m))
  exact held_of_cnt (by rw [G.eq]; omega)
theorem slots_mem {c : Cell} {t : Nat} {i : Nat} (e : c.slots[i]? = some (some t)) : t ∈ slotsOf (some c) :=
  List.mem_filterMap.mpr ⟨some t, List.mem_of_getElem? e, rfl⟩
theorem slotTot_le (G : Good h pend) : slotTot h ≤ 160 := by
  have q : slotTot h ≤ S (List.range 32) fun _ => 5 := S_le fun x hx => by
    show (inSlots h x).length ≤ 5
    rw [inSlots_def]
    cases e : cellAt h x with
    | none => exact Nat.zero_le _
    | some c => exact Nat.le_trans (List.length_filterMap_le ..) (G.shape x c e).2.2
  have e : S (List.range 32) (fun _ => 5) = 160 := by decide
  omega
end
theorem slotSum_set {h : Heap} (hl : h.cells.length = 32) {o : Nat} (ho : o < 32) (c : Option Cell) (t : Nat) :
    slotSum (setCell h o c) t + (inSlots h o).count t = slotSum h t + (slotsOf c).count t := by
  have q := S_point (l := List.range 32) (f := fun x => (inSlots h x).count t) (g := fun x => (inSlots (setCell h o c) x).count t) (x := o) List.nodup_range (List.mem_range.mpr ho) (fun y hy => by
    show (inSlots (setCell h o c) y).count t = (inSlots h y).count t
    rw [inSlots_def, inSlots_def, cellAt_set c (by omega), if_neg hy])
  have e : (inSlots (setCell h o c) o).count t = (slotsOf c).count t := by rw [inSlots_def, cellAt_set c (by omega), if_pos rfl]
  have q' : slotSum (setCell h o c) t + (inSlots h o).count t = slotSum h t + (inSlots (setCell h o c) o).count t := q
  rw [e] at q'
  exact q'
theorem slotTot_set {h : Heap} (hl : h.cells.length = 32) {o : Nat} (ho : o < 32) (c : Option Cell) :
    slotTot (setCell h o c) + (inSlots h o).length = slotTot h + (slotsOf c).length := by
  have q := S_point (l := List.range 32) (f := fun x => (inSlots h x).length) (g := fun x => (inSlots (setCell h o c) x).length) (x := o) List.nodup_range (List.mem_range.mpr ho) (fun y hy => by
    show (inSlots (setCell h o c) y).length = (inSlots h y).length
    rw [inSlots_def, inSlots_def, cellAt_set c (by omega), if_neg hy])
  have e : (inSlots (setCell h o c) o).length = (slotsOf c).length := by rw [inSlots_def, cellAt_set c (by omega), if_pos rfl]
  have q' : slotTot (setCell h o c) + (inSlots h o).length = slotTot h + (inSlots (setCell h o c) o).length := q
  rw [e] at q'
  exact q'
theorem cntOf_set {h : Heap} {o : Nat} (hl : o < h.cells.length) (c : Option Cell) (x : Nat) : cntOf (setCell h o c) x = if x = o then cntO c else cntOf h x := by
  unfold cntOf
  rw [cellAt_set c hl]
  split <;> rfl
end Hc
set_option linter.all false
set_option Elab.async false
namespace Hc
open Vasnpe
theorem moreOf_some {h : Heap} {o : Nat} {c : Cell} (e : cellAt h o = some c) : moreOf h (some o) = { setCell h o (some { c with count := c.count + 1 }) with suspects := h.suspects.filter fun s => s != o } := by
  unfold moreOf; simp only [e]
theorem put_mem {l : List Nat} {n x : Nat} : x ∈ Vasnpa.put l n ↔ x ∈ l ∨ x = n := by
  unfold Vasnpa.put
  by_cases e : l.contains n = true
  · rw [if_pos e]
    exact ⟨.inl, fun z => z.elim id fun z => by subst z; exact List.contains_iff_mem.mp e⟩
  · rw [if_neg e]; simp
theorem put_nodup {l : List Nat} {n : Nat} (h : l.Nodup) : (Vasnpa.put l n).Nodup := by
  unfold Vasnpa.put
  by_cases e : l.contains n = true
  · rw [if_pos e]; exact h
  · rw [if_neg e]
    refine List.nodup_append.mpr ⟨h, by simp, fun a ha b hb => ?_⟩
    have : b = n := by simpa using hb
    subst this
    intro z
    subst z
    exact e (List.contains_iff_mem.mpr ha)
theorem filter_mem {l : List Nat} {o x : Nat} : x ∈ l.filter (fun s => s != o) ↔ x ∈ l ∧ x ≠ o := by simp [List.mem_filter]
def goneHeap (h : Heap) (o : Nat) : Heap := { setCell h o none with suspects := h.suspects.filter fun s => s != o }
def decHeap (h : Heap) (o : Nat) (c : Cell) : Heap := { setCell h o (some { c with count := c.count - 1 }) with suspects := Vasnpa.put h.suspects o }
theorem less_nil (n : Nat) (h : Heap) (done : List Nat) : lessOf n h [] done = (h, done) := by cases n <;> rfl
theorem less_go {n : Nat} {h : Heap} {o : Nat} {r done : List Nat} {c : Cell} (e : cellAt h o = some c) (h1 : c.count ≤ 1) : lessOf (n + 1) h (o :: r) done = lessOf n (goneHeap h o) (slotsOf (some c) ++ r) (done ++ [o]) := by
  rw [lessOf]; simp only [e]; rw [if_pos h1]; rfl
theorem less_dec {n : Nat} {h : Heap} {o : Nat} {r done : List Nat} {c : Cell} (e : cellAt h o = some c) (h1 : ¬ c.count ≤ 1) : lessOf (n + 1) h (o :: r) done = lessOf n (decHeap h o c) r done := by
  rw [lessOf]; simp only [e]; rw [if_neg h1]; rfl
theorem count_cons' (o t : Nat) (r : List Nat) : (o :: r).count t = r.count t + if o = t then 1 else 0 := by
  rw [List.count_cons]
  congr 1
  by_cases e : o = t <;> simp [e]
section
variable {h : Heap} {pend r : List Nat} {o : Nat} {c : Cell}
theorem good_more (G : Good h pend) (e : cellAt h o = some c) : Good (moreOf h (some o)) (o :: pend) := by
  have hl := cell_lt e
  have ho := G.lt e
  rw [moreOf_some e]
  refine ⟨by show (h.cells.set o _).length = 32; rw [List.length_set]; exact G.clen, G.rlen, fun t => ?_, fun x hx => ?_, G.snd.filter _, fun x d hd => ?_⟩
  · have q := G.eq t
    have s := slotSum_set G.clen ho (some { c with count := c.count + 1 }) t
    have k := cntOf_set hl (some { c with count := c.count + 1 }) t
    show cntOf (setCell h o (some { c with count := c.count + 1 })) t = h.regs.count (some t) + slotSum (setCell h o (some { c with count := c.count + 1 })) t + (o :: pend).count t
    rw [k, count_cons']
    have s2 : (inSlots h o).count t = (slotsOf (some { c with count := c.count + 1 })).count t := by rw [inSlots_def, e]; rfl
    by_cases et : t = o
    · subst et
      rw [if_pos rfl, if_pos rfl]
      have q' : c.count = h.regs.count (some t) + slotSum h t + pend.count t := by rw [← q]; unfold cntOf; rw [e]; rfl
      show c.count + 1 = _
      omega
    · rw [if_neg et, if_neg (fun z => et z.symm)]
      omega
  · obtain ⟨h1, h2⟩ := filter_mem.mp hx
    obtain ⟨d, hd⟩ := isHeld_iff.mp (G.sheld x h1)
    refine isHeld_iff.mpr ⟨d, ?_⟩
    show cellAt (setCell h o _) x = some d
    rw [cellAt_set _ hl, if_neg h2]; exact hd
  · have hd' : cellAt (setCell h o (some { c with count := c.count + 1 })) x = some d := hd
    rw [cellAt_set _ hl] at hd'
    by_cases ex : x = o
    · rw [if_pos ex] at hd'
      obtain rfl := Option.some.inj hd'
      exact G.shape o c e
    · rw [if_neg ex] at hd'
      exact G.shape x d hd'
theorem Good.one (G : Good h (o :: r)) (e : cellAt h o = some c) : 1 ≤ c.count := by
  have q := G.eq o
  have q' : cntOf h o = c.count := by unfold cntOf; rw [e]; rfl
  rw [q', count_cons', if_pos rfl] at q
  omega
theorem good_go (G : Good h (o :: r)) (e : cellAt h o = some c) (h1 : c.count ≤ 1) : Good (goneHeap h o) (slotsOf (some c) ++ r) := by
  have hl := cell_lt e
  have ho := G.lt e
  have g1 := G.one e
  refine ⟨by show (h.cells.set o _).length = 32; rw [List.length_set]; exact G.clen, G.rlen, fun t => ?_, fun x hx => ?_, G.snd.filter _, fun x d hd => ?_⟩
  · have q := G.eq t
    have s := slotSum_set G.clen ho none t
    have k := cntOf_set hl none t
    show cntOf (setCell h o none) t = h.regs.count (some t) + slotSum (setCell h o none) t + (slotsOf (some c) ++ r).count t
    rw [k, List.count_append]
    rw [count_cons'] at q
    have s1 : (slotsOf none).count t = 0 := rfl
    have s2 : (inSlots h o).count t = (slotsOf (some c)).count t := by rw [inSlots_def, e]
    by_cases et : t = o
    · subst et
      rw [if_pos rfl]
      rw [if_pos rfl] at q
      have q' : cntOf h t = c.count := by unfold cntOf; rw [e]; rfl
      show 0 = _
      omega
    · rw [if_neg et]
      rw [if_neg (fun z => et z.symm)] at q
      omega
  · obtain ⟨h1, h2⟩ := filter_mem.mp hx
    obtain ⟨d, hd⟩ := isHeld_iff.mp (G.sheld x h1)
    refine isHeld_iff.mpr ⟨d, ?_⟩
    show cellAt (setCell h o _) x = some d
    rw [cellAt_set _ hl, if_neg h2]; exact hd
  · have hd' : cellAt (setCell h o none) x = some d := hd
    rw [cellAt_set _ hl] at hd'
    by_cases ex : x = o
    · rw [if_pos ex] at hd'; cases hd'
    · rw [if_neg ex] at hd'
      exact G.shape x d hd'
theorem tot_go (G : Good h (o :: r)) (e : cellAt h o = some c) : slotTot (goneHeap h o) + (slotsOf (some c) ++ r).length + 1 = slotTot h + (o :: r).length := by
  have s := slotTot_set G.clen (G.lt e) none
  have s1 : (slotsOf none).length = 0 := rfl
  have s2 : (inSlots h o).length = (slotsOf (some c)).length := by rw [inSlots_def, e]
  have s3 : slotTot (goneHeap h o) = slotTot (setCell h o none) := rfl
  rw [List.length_append, List.length_cons]
  omega
theorem good_dec (G : Good h (o :: r)) (e : cellAt h o = some c) : Good (decHeap h o c) r := by
  have hl := cell_lt e
  have ho := G.lt e
  have g1 := G.one e
  refine ⟨by show (h.cells.set o _).length = 32; rw [List.length_set]; exact G.clen, G.rlen, fun t => ?_, fun x hx => ?_, put_nodup G.snd, fun x d hd => ?_⟩
  · have q := G.eq t
    have s := slotSum_set G.clen ho (some { c with count := c.count - 1 }) t
    have k := cntOf_set hl (some { c with count := c.count - 1 }) t
    show cntOf (setCell h o (some { c with count := c.count - 1 })) t = h.regs.count (some t) + slotSum (setCell h o (some { c with count := c.count - 1 })) t + r.count t
    rw [k]
    rw [count_cons'] at q
    have s2 : (inSlots h o).count t = (slotsOf (some { c with count := c.count - 1 })).count t := by rw [inSlots_def, e]; rfl
    by_cases et : t = o
    · subst et
      rw [if_pos rfl]
      rw [if_pos rfl] at q
      have q' : cntOf h t = c.count := by unfold cntOf; rw [e]; rfl
      show c.count - 1 = _
      omega
    · rw [if_neg et]
      rw [if_neg (fun z => et z.symm)] at q
      omega
  · rcases put_mem.mp hx with h1 | rfl
    · obtain ⟨d, hd⟩ := isHeld_iff.mp (G.sheld x h1)
      refine isHeld_iff.mpr ?_
      show ∃ c', cellAt (setCell h o _) x = some c'
      rw [cellAt_set _ hl]
      by_cases ex : x = o
      · rw [if_pos ex]; exact ⟨_, rfl⟩
      · rw [if_neg ex]; exact ⟨d, hd⟩
    · refine isHeld_iff.mpr ?_
      show ∃ c', cellAt (setCell h x _) x = some c'
      rw [cellAt_set _ hl, if_pos rfl]; exact ⟨_, rfl⟩
  · have hd' : cellAt (setCell h o (some { c with count := c.count - 1 })) x = some d := hd
    rw [cellAt_set _ hl] at hd'
    by_cases ex : x = o
    · rw [if_pos ex] at hd'
      obtain rfl := Option.some.inj hd'
      exact G.shape o c e
    · rw [if_neg ex] at hd'
      exact G.shape x d hd'
theorem tot_dec (G : Good h (o :: r)) (e : cellAt h o = some c) : slotTot (decHeap h o c) + r.length + 1 = slotTot h + (o :: r).length := by
  have s := slotTot_set G.clen (G.lt e) (some { c with count := c.count - 1 })
  have s2 : (inSlots h o).length = (slotsOf (some { c with count := c.count - 1 })).length := by rw [inSlots_def, e]; rfl
  have s3 : slotTot (decHeap h o c) = slotTot (setCell h o (some { c with count := c.count - 1 })) := rfl
  rw [List.length_cons]
  omega
end
theorem less_good (n : Nat) : ∀ {h : Heap} {pend done : List Nat}, Good h pend → slotTot h + pend.length < n → Good (lessOf n h pend done).1 [] := by
  induction n with
  | zero => intro h pend done G hn; exact absurd hn (Nat.not_lt_zero _)
  | succ n ih =>
    intro h pend done G hn
    cases pend with
    | nil => rw [less_nil]; exact G
    | cons o r =>
      obtain ⟨c, e⟩ := G.mpend (List.mem_cons_self ..)
      by_cases h1 : c.count ≤ 1
      · rw [less_go e h1]
        exact ih (good_go G e h1) (by have := tot_go G e; omega)
      · rw [less_dec e h1]
        exact ih (good_dec G e) (by have := tot_dec G e; omega)
theorem fuel_ok {h : Heap} {pend : List Nat} (G : Good h pend) (hp : pend.length ≤ 1) : slotTot h + pend.length < FUEL := by
  have := slotTot_le G
  show _ < 400
  omega
def opt (x : Option Nat) : List Nat := x.toList
theorem dropOld_eq (h : Heap) (x : Option Nat) : dropOld h x = lessOf FUEL h (opt x) [] := by
  cases x with
  | none => exact (less_nil _ _ _).symm
  | some o => rfl
theorem opt_le (x : Option Nat) : (opt x).length ≤ 1 := by cases x <;> simp [opt]
theorem opt_count (x : Option Nat) (t : Nat) : (opt x).count t = if x = some t then 1 else 0 := by
  cases x with
  | none => simp [opt]
  | some o =>
    show [o].count t = _
    rw [count_cons']
    by_cases e : o = t <;> simp [e]
theorem count_set_opt : ∀ {l : List (Option Nat)} {r : Nat} {old : Option Nat} (x : Option Nat) (t : Nat), l[r]? = some old → (l.set r x).count (some t) + (opt old).count t = l.count (some t) + (opt x).count t
  | [], r, old, x, t, h => by simp at h
  | a :: l, 0, old, x, t, h => by
    have e : a = old := by simpa using h
    subst e
    rw [List.set_cons_zero, List.count_cons, List.count_cons, opt_count, opt_count]
    by_cases e1 : x = some t <;> by_cases e2 : a = some t <;> simp [e1, e2]
  | a :: l, r + 1, old, x, t, h => by
    have ih := count_set_opt (l := l) (r := r) (old := old) x t (by simpa using h)
    rw [List.set_cons_succ, List.count_cons, List.count_cons]
    omega
theorem count_filled : ∀ (l : List (Option Nat)) (t : Nat), (l.filterMap fun x => x).count t = l.count (some t)
  | [], t => rfl
  | none :: l, t => by
    have z : (none :: l).filterMap (fun x => x) = l.filterMap fun x => x := rfl
    rw [z, count_filled l, List.count_cons]
    simp
  | some a :: l, t => by
    have z : (some a :: l).filterMap (fun x => x) = a :: l.filterMap fun x => x := rfl
    rw [z, count_cons', count_filled l, List.count_cons]
    by_cases e : a = t <;> simp [e]
theorem regAt_def (h : Heap) (r : Nat) : regAt h r = (h.regs[r]?).getD none := by unfold regAt; cases h.regs[r]? <;> rfl
section
variable {h : Heap} {pend : List Nat} {x : Option Nat}
theorem Good.regs_get (G : Good h pend) {r : Nat} (hr : r < 8) : h.regs[r]? = some (regAt h r) := by
  rw [regAt_def]
  have : r < h.regs.length := by rw [G.rlen]; exact hr
  rw [List.getElem?_eq_getElem this]; rfl
theorem Good.regAt_held (G : Good h pend) {r o : Nat} (e : regAt h r = some o) : ∃ c, cellAt h o = some c := by
  rw [regAt_def] at e
  cases q : h.regs[r]? with
  | none => rw [q] at e; cases e
  | some y =>
    rw [q] at e
    have : y = some o := e
    subst this
    exact G.reg q
theorem good_moreO (G : Good h pend) (hx : ∀ o, x = some o → ∃ c, cellAt h o = some c) : Good (moreOf h x) (opt x ++ pend) := by
  cases x with
  | none => exact G
  | some o =>
    obtain ⟨c, e⟩ := hx o rfl
    exact good_more G e
theorem more_regs (h : Heap) (x : Option Nat) : (moreOf h x).regs = h.regs := by
  cases x with
  | none => rfl
  | some o =>
    unfold moreOf
    cases e : cellAt h o <;> simp [e] <;> rfl
theorem good_setReg {r : Nat} (hr : r < 8) (G : Good h (opt x ++ pend)) : Good (setReg h r x) (opt (regAt h r) ++ pend) := by
  refine ⟨G.clen, by show (h.regs.set r x).length = 8; rw [List.length_set]; exact G.rlen, fun t => ?_, G.sheld, G.snd, G.shape⟩
  have q := G.eq t
  have s := count_set_opt x t (G.regs_get hr)
  show cntOf h t = (h.regs.set r x).count (some t) + slotSum h t + (opt (regAt h r) ++ pend).count t
  rw [List.count_append] at q ⊢
  omega
theorem good_setSlot {o i : Nat} {d : Cell} {old : Option Nat} (G : Good h (opt x ++ pend)) (e : cellAt h o = some d) (hi : d.slots[i]? = some old) :
    Good (setCell h o (some { d with slots := d.slots.set i x })) (opt old ++ pend) := by
  have hl := cell_lt e
  have ho := G.lt e
  refine ⟨by show (h.cells.set o _).length = 32; rw [List.length_set]; exact G.clen, G.rlen, fun t => ?_, fun y hy => ?_, G.snd, fun y d' hd => ?_⟩
  · have q := G.eq t
    have s := slotSum_set G.clen ho (some { d with slots := d.slots.set i x }) t
    have k := cntOf_set hl (some { d with slots := d.slots.set i x }) t
    have z := count_set_opt x t hi
    have s1 : (inSlots h o).count t = d.slots.count (some t) := by rw [inSlots_def, e]; exact count_filled _ _
    have s2 : (slotsOf (some { d with slots := d.slots.set i x })).count t = (d.slots.set i x).count (some t) := count_filled _ _
    show cntOf (setCell h o (some { d with slots := d.slots.set i x })) t = h.regs.count (some t) + slotSum (setCell h o (some { d with slots := d.slots.set i x })) t + (opt old ++ pend).count t
    rw [List.count_append] at q ⊢
    have k2 : cntOf (setCell h o (some { d with slots := d.slots.set i x })) t = cntOf h t := by
      rw [k]
      by_cases et : t = o
      · rw [if_pos et, et]; unfold cntOf; rw [e]; rfl
      · rw [if_neg et]
    omega
  · obtain ⟨d', hd⟩ := isHeld_iff.mp (G.sheld y hy)
    refine isHeld_iff.mpr ?_
    rw [cellAt_set _ hl]
    by_cases ex : y = o
    · rw [if_pos ex]; exact ⟨_, rfl⟩
    · rw [if_neg ex]; exact ⟨d', hd⟩
  · rw [cellAt_set _ hl] at hd
    by_cases ex : y = o
    · rw [if_pos ex] at hd
      obtain rfl := Option.some.inj hd
      have := G.shape o d e
      exact ⟨this.1, this.2.1, by show (d.slots.set i x).length ≤ 5; rw [List.length_set]; exact this.2.2⟩
    · rw [if_neg ex] at hd
      exact G.shape y d' hd
theorem filled_none (n : Nat) : (List.replicate n (none : Option Nat)).filterMap (fun x => x) = [] := by
  induction n with
  | zero => rfl
  | succ n ih => rw [List.replicate_succ, List.filterMap_cons_none rfl, ih]
theorem good_new {o k s n : Nat} (G : Good h pend) (e : cellAt h o = none) (ho : o < 32) (hk : k < 100) (hs : s ≤ 1000000) (hn : n ≤ 5) :
    Good (setCell h o (some { kind := k, size := s, slots := List.replicate n none, count := 0 })) pend := by
  have hl : o < h.cells.length := by rw [G.clen]; exact ho
  refine ⟨by show (h.cells.set o _).length = 32; rw [List.length_set]; exact G.clen, G.rlen, fun t => ?_, fun y hy => ?_, G.snd, fun y d' hd => ?_⟩
  · have q := G.eq t
    have s' := slotSum_set G.clen ho (some { kind := k, size := s, slots := List.replicate n none, count := 0 }) t
    have k' := cntOf_set hl (some { kind := k, size := s, slots := List.replicate n none, count := 0 }) t
    have s1 : (inSlots h o).count t = 0 := by rw [inSlots_def, e]; rfl
    have s2 : (slotsOf (some { kind := k, size := s, slots := List.replicate n none, count := 0 })).count t = 0 := by
      show ((List.replicate n (none : Option Nat)).filterMap fun x => x).count t = 0
      rw [filled_none]; rfl
    have k2 : cntOf (setCell h o (some { kind := k, size := s, slots := List.replicate n none, count := 0 })) t = cntOf h t := by
      rw [k']
      by_cases et : t = o
      · rw [if_pos et, et]; unfold cntOf; rw [e]; rfl
      · rw [if_neg et]
    show cntOf (setCell h o (some { kind := k, size := s, slots := List.replicate n none, count := 0 })) t = h.regs.count (some t) + slotSum (setCell h o (some { kind := k, size := s, slots := List.replicate n none, count := 0 })) t + pend.count t
    omega
  · obtain ⟨d', hd⟩ := isHeld_iff.mp (G.sheld y hy)
    refine isHeld_iff.mpr ?_
    rw [cellAt_set _ hl]
    by_cases ex : y = o
    · rw [if_pos ex]; exact ⟨_, rfl⟩
    · rw [if_neg ex]; exact ⟨d', hd⟩
  · rw [cellAt_set _ hl] at hd
    by_cases ex : y = o
    · rw [if_pos ex] at hd
      obtain rfl := Option.some.inj hd
      exact ⟨hk, hs, by show (List.replicate n none).length ≤ 5; rw [List.length_replicate]; exact hn⟩
    · rw [if_neg ex] at hd
      exact G.shape y d' hd
end
theorem regAt_more (h : Heap) (x : Option Nat) (r : Nat) : regAt (moreOf h x) r = regAt h r := by rw [regAt_def, regAt_def, more_regs]
theorem give_eq (h : Heap) (r : Nat) (x : Option Nat) : giveReg h r x = lessOf FUEL (setReg (moreOf h x) r x) (opt (regAt h r)) [] := by unfold giveReg; rw [dropOld_eq]
theorem good_pre_give {h : Heap} {r : Nat} {x : Option Nat} (hr : r < 8) (G : Good h []) (hx : ∀ o, x = some o → ∃ c, cellAt h o = some c) : Good (setReg (moreOf h x) r x) (opt (regAt h r)) := by
  have g := good_setReg (x := x) (pend := []) hr (good_moreO G hx)
  rw [regAt_more, List.append_nil] at g
  exact g
theorem good_give {h : Heap} {r : Nat} {x : Option Nat} (hr : r < 8) (G : Good h []) (hx : ∀ o, x = some o → ∃ c, cellAt h o = some c) : Good (giveReg h r x).1 [] := by
  rw [give_eq]
  have g := good_pre_give hr G hx
  exact less_good _ g (fuel_ok g (opt_le _))
theorem good_start : Good emptyHeap [] := by
  refine ⟨rfl, rfl, fun o => ?_, fun o h => absurd h (by simp [emptyHeap]), by simp [emptyHeap], fun o c e => ?_⟩
  · have h1 : ∀ x, cellAt emptyHeap x = none := fun x => by
      rw [cellAt_def]
      show ((List.replicate 32 (none : Option Cell))[x]?).getD none = none
      rw [List.getElem?_replicate]; split <;> rfl
    have h2 : slotSum emptyHeap o = 0 := S_const0 fun x _ => by
      show (inSlots emptyHeap x).count o = 0
      rw [inSlots_def, h1]; rfl
    have h3 : emptyHeap.regs.count (some o) = 0 := by
      show (List.replicate 8 (none : Option Nat)).count (some o) = 0
      rw [List.count_replicate]; simp
    rw [h2, h3]; unfold cntOf; rw [h1]; rfl
  · rw [cellAt_def] at e
    have e' : ((List.replicate 32 (none : Option Cell))[o]?).getD none = some c := e
    rw [List.getElem?_replicate] at e'
    split at e' <;> cases e'
end Hc
set_option linter.all false
set_option Elab.async false
namespace Hc
open Vasnpe
def fp (l xs : List Nat) : List Nat := xs.foldl Vasnpa.put l
theorem fp_nil (l : List Nat) : fp l [] = l := rfl
theorem fp_cons (l : List Nat) (x : Nat) (xs : List Nat) : fp l (x :: xs) = fp (Vasnpa.put l x) xs := rfl
theorem put_prefix (l : List Nat) (n : Nat) : ∃ m, Vasnpa.put l n = l ++ m := by
  unfold Vasnpa.put
  by_cases e : l.contains n = true
  · exact ⟨[], by rw [if_pos e]; simp⟩
  · exact ⟨[n], by rw [if_neg e]⟩
theorem fp_prefix : ∀ (xs l : List Nat), ∃ m, fp l xs = l ++ m
  | [], l => ⟨[], by simp [fp_nil]⟩
  | x :: xs, l => by
    obtain ⟨m1, e1⟩ := put_prefix l x
    obtain ⟨m2, e2⟩ := fp_prefix xs (Vasnpa.put l x)
    exact ⟨m1 ++ m2, by rw [fp_cons, e2, e1, List.append_assoc]⟩
theorem fp_mem : ∀ {xs l : List Nat} {t : Nat}, t ∈ fp l xs ↔ t ∈ l ∨ t ∈ xs
  | [], l, t => by simp [fp_nil]
  | x :: xs, l, t => by
    rw [fp_cons, fp_mem, put_mem, List.mem_cons]
    constructor
    · rintro ((h | h) | h)
      · exact .inl h
      · exact .inr (.inl h)
      · exact .inr (.inr h)
    · rintro (h | h | h)
      · exact .inl (.inl h)
      · exact .inl (.inr h)
      · exact .inr h
theorem fp_nodup : ∀ {xs l : List Nat}, l.Nodup → (fp l xs).Nodup
  | [], l, h => h
  | x :: xs, l, h => fp_nodup (xs := xs) (put_nodup h)
theorem put_id {l : List Nat} {x : Nat} (h : x ∈ l) : Vasnpa.put l x = l := by
  unfold Vasnpa.put; rw [if_pos (List.contains_iff_mem.mpr h)]
theorem fp_id : ∀ {xs l : List Nat}, (∀ x, x ∈ xs → x ∈ l) → fp l xs = l
  | [], l, h => rfl
  | x :: xs, l, h => by rw [fp_cons, put_id (h x (by simp))]; exact fp_id fun y hy => h y (by simp [hy])
inductive Runs (h : Heap) : List Nat → Nat → List Nat → Prop
  | done {l : List Nat} {p : Nat} : l.length ≤ p → Runs h l p l
  | go {l R : List Nat} {p o : Nat} : l[p]? = some o → Runs h (fp l (inSlots h o)) (p + 1) R → Runs h l p R
def proc (h : Heap) (m os : List Nat) : List Nat := os.foldl (fun m o => fp m (inSlots h o)) m
theorem proc_cons (h : Heap) (m : List Nat) (o : Nat) (os : List Nat) : proc h m (o :: os) = proc h (fp m (inSlots h o)) os := rfl
theorem proc_append (h : Heap) : ∀ (as bs m : List Nat), proc h m (as ++ bs) = proc h (proc h m as) bs
  | [], bs, m => rfl
  | a :: as, bs, m => by rw [List.cons_append, proc_cons, proc_append h as, proc_cons]
theorem round_eq (h : Heap) (l : List Nat) : reachRound h l = proc h l l := rfl
theorem proc_prefix (h : Heap) : ∀ (os m : List Nat), ∃ k, proc h m os = m ++ k
  | [], m => ⟨[], by simp [proc]⟩
  | o :: os, m => by
    obtain ⟨k1, e1⟩ := fp_prefix (inSlots h o) m
    obtain ⟨k2, e2⟩ := proc_prefix h os (fp m (inSlots h o))
    exact ⟨k1 ++ k2, by rw [proc_cons, e2, e1, List.append_assoc]⟩
theorem proc_id (h : Heap) : ∀ {os m : List Nat}, (∀ o, o ∈ os → ∀ t, t ∈ inSlots h o → t ∈ m) → proc h m os = m
  | [], m, _ => rfl
  | o :: os, m, s => by
    rw [proc_cons, fp_id (s o (by simp))]
    exact proc_id h fun x hx => s x (by simp [hx])
theorem proc_sat (h : Heap) : ∀ {os m : List Nat} {o t : Nat}, o ∈ os → t ∈ inSlots h o → t ∈ proc h m os
  | [], m, o, t, ho, _ => by simp at ho
  | a :: os, m, o, t, ho, ht => by
    rw [proc_cons]
    rcases List.mem_cons.mp ho with rfl | ho
    · obtain ⟨k, e⟩ := proc_prefix h os (fp m (inSlots h o))
      rw [e]
      exact List.mem_append_left _ (fp_mem.mpr (.inr ht))
    · exact proc_sat h ho ht
theorem proc_nodup (h : Heap) : ∀ {os m : List Nat}, m.Nodup → (proc h m os).Nodup
  | [], m, n => n
  | o :: os, m, n => proc_nodup h (os := os) (fp_nodup n)
theorem proc_all (h : Heap) {P : Nat → Prop} (hp : ∀ o, P o → ∀ t, t ∈ inSlots h o → P t) : ∀ {os m : List Nat}, (∀ o, o ∈ m → P o) → (∀ o, o ∈ os → P o) → ∀ o, o ∈ proc h m os → P o
  | [], m, hm, _ => hm
  | a :: os, m, hm, ho => by
    rw [proc_cons]
    exact proc_all h hp (fun o q => (fp_mem.mp q).elim (hm o) fun q => hp a (ho a (by simp)) o q) fun o q => ho o (by simp [q])
theorem runs_proc (h : Heap) : ∀ (os pre rest R : List Nat), Runs h (proc h (pre ++ (os ++ rest)) os) (pre.length + os.length) R → Runs h (pre ++ (os ++ rest)) pre.length R
  | [], pre, rest, R, r => r
  | o :: os, pre, rest, R, r => by
    have e1 : (pre ++ (o :: os ++ rest))[pre.length]? = some o := by
      rw [List.getElem?_append_right (Nat.le_refl _)]; simp
    refine .go e1 ?_
    obtain ⟨k, e⟩ := fp_prefix (inSlots h o) (pre ++ (o :: os ++ rest))
    have e2 : fp (pre ++ (o :: os ++ rest)) (inSlots h o) = (pre ++ [o]) ++ (os ++ (rest ++ k)) := by rw [e]; simp
    have ih := runs_proc h os (pre ++ [o]) (rest ++ k) R
    rw [← e2] at ih
    have e3 : (pre ++ [o]).length = pre.length + 1 := by simp
    rw [e3] at ih
    refine ih ?_
    rw [proc_cons] at r
    have e4 : pre.length + (o :: os).length = pre.length + 1 + os.length := by rw [List.length_cons]; omega
    rw [e4] at r
    exact r
theorem full_mem {l : List Nat} (nd : l.Nodup) (lt : ∀ x, x ∈ l → x < 32) (hl : 32 ≤ l.length) {x : Nat} (hx : x < 32) : x ∈ l := by
  have q := S_sub (l := l) (m := List.range 32) (f := fun _ => 1) nd List.nodup_range fun y hy => List.mem_range.mpr (lt y hy)
  have q1 : S (List.range 32) (fun _ => 1) = 32 := by decide
  have q2 : ∀ m : List Nat, S m (fun _ => 1) = m.length := fun m => by
    induction m with
    | nil => rfl
    | cons a m ih => rw [S_cons, ih, List.length_cons]; omega
  rw [q1, q2, q2] at q
  have z : ((List.range 32).filter fun x => !l.contains x) = [] := List.length_eq_zero_iff.mp (by omega)
  by_cases e : l.contains x = true
  · exact List.contains_iff_mem.mp e
  · have : x ∈ (List.range 32).filter fun x => !l.contains x := List.mem_filter.mpr ⟨List.mem_range.mpr hx, by simpa using e⟩
    rw [z] at this
    simp at this
theorem nodup_le {l : List Nat} (nd : l.Nodup) (lt : ∀ x, x ∈ l → x < 32) : l.length ≤ 32 := by
  have q := S_sub (l := l) (m := List.range 32) (f := fun _ => 1) nd List.nodup_range fun y hy => List.mem_range.mpr (lt y hy)
  have q1 : S (List.range 32) (fun _ => 1) = 32 := by decide
  have q2 : ∀ m : List Nat, S m (fun _ => 1) = m.length := fun m => by
    induction m with
    | nil => rfl
    | cons a m ih => rw [S_cons, ih, List.length_cons]; omega
  rw [q1, q2, q2] at q
  omega
theorem prefix_eq {l m : List Nat} (h : ∃ k, m = l ++ k) (e : m.length = l.length) : m = l := by
  obtain ⟨k, rfl⟩ := h
  rw [List.length_append] at e
  have : k = [] := List.length_eq_zero_iff.mp (by omega)
  subst this
  simp
theorem reachIn_runs {h : Heap} (hs : ∀ o t, t ∈ inSlots h o → t < 32) : ∀ (n : Nat) (pre os : List Nat), (∀ o, o ∈ pre → ∀ t, t ∈ inSlots h o → t ∈ pre ++ os) → (pre ++ os).Nodup → (∀ o, o ∈ pre ++ os → o < 32) → 32 ≤ n + (pre ++ os).length →
    Runs h (pre ++ os) pre.length (reachIn h n (pre ++ os)) := by
  intro n
  induction n with
  | zero =>
    intro pre os sat nd lt hn
    have e : proc h (pre ++ (os ++ [])) os = pre ++ os := by
      rw [List.append_nil]
      exact proc_id h fun o _ t ht => full_mem nd lt (by omega) (hs o t ht)
    have q := runs_proc h os pre [] (pre ++ os)
    rw [e] at q
    rw [List.append_nil] at q
    exact q (.done (by simp))
  | succ n ih =>
    intro pre os sat nd lt hn
    have e1 : reachRound h (pre ++ os) = proc h (pre ++ os) os := by rw [round_eq, proc_append, proc_id h sat]
    have q := runs_proc h os pre [] (reachIn h (n + 1) (pre ++ os))
    rw [List.append_nil] at q
    apply q
    rw [← e1]
    rw [reachIn]
    obtain ⟨k, ek⟩ := proc_prefix h os (pre ++ os)
    by_cases e : ((reachRound h (pre ++ os)).length == (pre ++ os).length) = true
    · simp only [e, if_true]
      have e' := prefix_eq ⟨k, by rw [e1]; exact ek⟩ (eq_of_beq e)
      rw [e']
      exact .done (by simp)
    · simp only [e]
      have e2 : reachRound h (pre ++ os) = (pre ++ os) ++ k := by rw [e1]; exact ek
      have hk : k ≠ [] := fun z => by
        subst z
        rw [e2] at e
        simp at e
      have hk2 : 0 < k.length := List.length_pos_iff.mpr hk
      have e3 : (pre ++ os).length = pre.length + os.length := by simp
      rw [← e3, e2]
      refine ih (pre ++ os) k (fun o ho t ht => ?_) ?_ ?_ ?_
      · rw [← e2, round_eq]; exact proc_sat h ho ht
      · rw [← e2, e1]; exact proc_nodup h nd
      · rw [← e2, e1]
        refine proc_all h (P := fun o => o < 32) (fun o _ t ht => hs o t ht) lt fun o ho => lt o (List.mem_append_right _ ho)
      · rw [List.length_append]; omega
section
variable {h : Heap} {l R : List Nat} {p : Nat}
theorem Runs.prefix (r : Runs h l p R) : ∃ m, R = l ++ m := by
  induction r with
  | done _ => exact ⟨[], by simp⟩
  | @go l' R' p' o' e r ih =>
    obtain ⟨m, rfl⟩ := ih
    obtain ⟨k, ek⟩ := fp_prefix (inSlots h o') l'
    exact ⟨k ++ m, by rw [ek, List.append_assoc]⟩
theorem Runs.nodup (r : Runs h l p R) (nd : l.Nodup) : R.Nodup := by
  induction r with
  | done _ => exact nd
  | go e _ ih => exact ih (fp_nodup nd)
theorem Runs.least (r : Runs h l p R) {P : Nat → Prop} (hp : ∀ o, P o → ∀ t, t ∈ inSlots h o → P t) (h0 : ∀ o, o ∈ l → P o) : ∀ o, o ∈ R → P o := by
  induction r with
  | done _ => exact h0
  | go e _ ih => exact ih fun o q => (fp_mem.mp q).elim (h0 o) fun q => hp _ (h0 _ (List.mem_of_getElem? e)) o q
theorem Runs.closed (r : Runs h l p R) (sat : ∀ (i : Nat) o, i < p → l[i]? = some o → ∀ t, t ∈ inSlots h o → t ∈ l) : ∀ o, o ∈ R → ∀ t, t ∈ inSlots h o → t ∈ R := by
  induction r with
  | done hl =>
    intro o ho t ht
    obtain ⟨i, hi⟩ := List.getElem?_of_mem ho
    exact sat i o (Nat.lt_of_lt_of_le (List.getElem?_eq_some_iff.mp hi).1 hl) hi t ht
  | @go l' R' p' o' e r ih =>
    refine ih fun i o hi ho t ht => ?_
    obtain ⟨k, ek⟩ := fp_prefix (inSlots h o') l'
    have hlt : p' < l'.length := (List.getElem?_eq_some_iff.mp e).1
    rw [ek, List.getElem?_append_left (by omega)] at ho
    by_cases e2 : i = p'
    · subst e2
      rw [e] at ho
      obtain rfl := Option.some.inj ho
      exact fp_mem.mpr (.inr ht)
    · exact fp_mem.mpr (.inl (sat i o (by omega) ho t ht))
end
section
variable {h : Heap} {pend : List Nat} {l : List Nat}
theorem Good.slt (G : Good h pend) : ∀ o t, t ∈ inSlots h o → t < 32 := fun o t ht => by
  obtain ⟨c, e⟩ := G.slot ht
  exact G.lt e
def HeldAll (h : Heap) (l : List Nat) : Prop := ∀ o, o ∈ l → ∃ c, cellAt h o = some c
theorem HeldAll.lt (G : Good h pend) (k : HeldAll h l) : ∀ o, o ∈ l → o < 32 := fun o ho => by
  obtain ⟨c, e⟩ := k o ho
  exact G.lt e
theorem reach_runs (G : Good h pend) (k : HeldAll h l) : Runs h (fp [] l) 0 (reach h l) := by
  have q := reachIn_runs G.slt 32 [] (fp [] l) (fun o ho => by simp at ho) (fp_nodup (by simp)) (fun o ho => k.lt G o (by
    have := fp_mem.mp (show o ∈ fp [] l from ho)
    simpa using this)) (by omega)
  exact q
theorem held_fp (k : HeldAll h l) {xs : List Nat} (k2 : HeldAll h xs) : HeldAll h (fp l xs) := fun o ho => (fp_mem.mp ho).elim (k o) (k2 o)
theorem held_slots (G : Good h pend) (o : Nat) : HeldAll h (inSlots h o) := fun t ht => G.slot ht
theorem held_nil : HeldAll h [] := fun o ho => by simp at ho
theorem reach_held (G : Good h pend) (k : HeldAll h l) : HeldAll h (reach h l) := fun o ho =>
  (reach_runs G k).least (P := fun o => ∃ c, cellAt h o = some c) (fun o _ t ht => G.slot ht) (held_fp held_nil k) o ho
theorem reach_nodup (G : Good h pend) (k : HeldAll h l) : (reach h l).Nodup := (reach_runs G k).nodup (fp_nodup (by simp))
theorem reach_closed (G : Good h pend) (k : HeldAll h l) : ∀ o, o ∈ reach h l → ∀ t, t ∈ inSlots h o → t ∈ reach h l :=
  (reach_runs G k).closed fun i o hi => absurd hi (Nat.not_lt_zero _)
theorem reach_sub (G : Good h pend) (k : HeldAll h l) : ∀ o, o ∈ l → o ∈ reach h l := fun o ho => by
  obtain ⟨m, e⟩ := (reach_runs G k).prefix
  rw [e]
  exact List.mem_append_left _ (fp_mem.mpr (.inr ho))
theorem filter_count (xs : List Nat) (o : Nat) : (xs.filter fun t => t == o).length = xs.count o := by
  rw [List.count, List.countP_eq_length_filter]
def ins (h : Heap) (l : List Nat) (o : Nat) : Nat := S l fun x => (inSlots h x).count o
theorem outside_eq (h : Heap) (l : List Nat) (o : Nat) : outside h l o = cntOf h o - ins h l o := by
  unfold outside cntOf cntO ins
  rw [sum_eq]
  have e : (l.map fun x => ((inSlots h x).filter fun t => t == o).length) = l.map fun x => (inSlots h x).count o := List.map_congr_left fun x _ => filter_count _ _
  rw [e]
  cases cellAt h o <;> rfl
theorem ins_le (G : Good h pend) (nd : l.Nodup) (lt : ∀ x, x ∈ l → x < 32) (o : Nat) : ins h l o ≤ cntOf h o := by
  have q := S_sub (l := l) (m := List.range 32) (f := fun x => (inSlots h x).count o) nd List.nodup_range fun y hy => List.mem_range.mpr (lt y hy)
  have e := G.eq o
  unfold slotSum at e
  unfold ins
  omega
theorem sus_held (G : Good h pend) : HeldAll h h.suspects := fun o ho => isHeld_iff.mp (G.sheld o ho)
theorem field_held (G : Good h pend) : HeldAll h (field h) := reach_held G (sus_held G)
theorem field_nodup (G : Good h pend) : (field h).Nodup := reach_nodup G (sus_held G)
theorem field_lt (G : Good h pend) : ∀ o, o ∈ field h → o < 32 := (field_held G).lt G
theorem field_ins (G : Good h pend) (o : Nat) : ins h (field h) o ≤ cntOf h o := ins_le G (field_nodup G) (field_lt G) o
def roots (h : Heap) : List Nat := (field h).filter fun o => decide (0 < outside h (field h) o)
theorem staying_eq (h : Heap) : staying h = reach h (roots h) := rfl
theorem roots_held (G : Good h pend) : HeldAll h (roots h) := fun o ho => field_held G o (List.mem_filter.mp ho).1
theorem going_held (G : Good h pend) : HeldAll h (going h) := fun o ho => field_held G o (List.mem_filter.mp ho).1
theorem going_nodup (G : Good h pend) : (going h).Nodup := (field_nodup G).filter _
theorem going_lt (G : Good h pend) : ∀ o, o ∈ going h → o < 32 := (going_held G).lt G
theorem going_mem {o : Nat} : o ∈ going h ↔ o ∈ field h ∧ o ∉ staying h := by
  unfold going
  rw [List.mem_filter]
  simp
theorem cells_lessFor (h : Heap) (gone : List Nat) (x : Nat) : cellAt (lessFor h gone) x = if x ∈ gone then none else (cellAt h x).map fun c => { c with count := c.count - ins h gone x } := by
  rw [cellAt_def]
  show ((h.cells.zipIdx.map _)[x]?).getD none = _
  rw [List.getElem?_map, List.getElem?_zipIdx]
  have es : Vasnpa.sum (gone.map fun y => ((inSlots h y).filter fun t => t == x).length) = ins h gone x := by
    rw [sum_eq]
    have e : (gone.map fun y => ((inSlots h y).filter fun t => t == x).length) = gone.map fun y => (inSlots h y).count x := List.map_congr_left fun y _ => filter_count _ _
    rw [e]; rfl
  rw [cellAt_def]
  cases q : h.cells[x]? with
  | none => simp
  | some c =>
    simp only [Option.map_some, Option.getD_some, Nat.zero_add]
    by_cases e : x ∈ gone
    · rw [if_pos e, if_pos (List.contains_iff_mem.mpr e)]
    · rw [if_neg e, if_neg (fun z => e (List.contains_iff_mem.mp z))]
      cases c with
      | none => rfl
      | some c => simp only [Option.map_some]; rw [es]
theorem going_free (G : Good h []) {o : Nat} (ho : o ∈ going h) : h.regs.count (some o) = 0 ∧ ∀ x, x ∉ going h → (inSlots h x).count o = 0 := by
  obtain ⟨hf, hs⟩ := going_mem.mp ho
  have e0 : outside h (field h) o = 0 := by
    refine Nat.eq_zero_of_not_pos fun z => hs ?_
    rw [staying_eq]
    exact reach_sub G (roots_held G) o (List.mem_filter.mpr ⟨hf, decide_eq_true z⟩)
  rw [outside_eq] at e0
  have q := S_sub (l := field h) (m := List.range 32) (f := fun x => (inSlots h x).count o) (field_nodup G) List.nodup_range fun y hy => List.mem_range.mpr (field_lt G y hy)
  have e := G.eq o
  have e2 : slotSum h o = ins h (field h) o + S ((List.range 32).filter fun x => !(field h).contains x) fun x => (inSlots h x).count o := q
  have e3 : ([] : List Nat).count o = 0 := rfl
  refine ⟨by omega, fun x hx => ?_⟩
  have e4 : S ((List.range 32).filter fun x => !(field h).contains x) (fun x => (inSlots h x).count o) = 0 := by omega
  refine Nat.eq_zero_of_not_pos fun z => ?_
  have m := List.count_pos_iff.mp z
  have xl := inSlots_lt G m
  by_cases ef : x ∈ field h
  · have sx : x ∈ staying h := Classical.byContradiction fun n => hx (going_mem.mpr ⟨ef, n⟩)
    exact hs (reach_closed G (roots_held G) x sx o m)
  · have := S_zero e4 (x := x) (List.mem_filter.mpr ⟨List.mem_range.mpr xl, by simpa using ef⟩)
    omega
theorem good_collect (G : Good h []) : Good (lessFor h (going h)) [] := by
  refine ⟨by show (h.cells.zipIdx.map _).length = 32; rw [List.length_map, List.length_zipIdx]; exact G.clen, G.rlen, fun t => ?_, fun o ho => absurd ho (by simp [lessFor]), by simp [lessFor], fun o c e => ?_⟩
  · have hin : ∀ x, (inSlots (lessFor h (going h)) x).count t = if x ∈ going h then 0 else (inSlots h x).count t := fun x => by
      rw [inSlots_def, cells_lessFor]
      by_cases e : x ∈ going h
      · rw [if_pos e, if_pos e]; rfl
      · rw [if_neg e, if_neg e, inSlots_def]
        cases cellAt h x <;> rfl
    have q := S_sub (l := going h) (m := List.range 32) (f := fun x => (inSlots h x).count t) (going_nodup G) List.nodup_range fun y hy => List.mem_range.mpr (going_lt G y hy)
    have q2 := S_sub (l := going h) (m := List.range 32) (f := fun x => (inSlots (lessFor h (going h)) x).count t) (going_nodup G) List.nodup_range fun y hy => List.mem_range.mpr (going_lt G y hy)
    have z1 : S (going h) (fun x => (inSlots (lessFor h (going h)) x).count t) = 0 := S_const0 fun x hx => by rw [hin, if_pos hx]
    have z2 : S ((List.range 32).filter fun x => !(going h).contains x) (fun x => (inSlots (lessFor h (going h)) x).count t) = S ((List.range 32).filter fun x => !(going h).contains x) (fun x => (inSlots h x).count t) := S_congr fun x hx => by
      have : x ∉ going h := by simpa using (List.mem_filter.mp hx).2
      rw [hin, if_neg this]
    have e := G.eq t
    have e3 : ([] : List Nat).count t = 0 := rfl
    have le := ins_le G (going_nodup G) (going_lt G) t
    show cntOf (lessFor h (going h)) t = h.regs.count (some t) + slotSum (lessFor h (going h)) t + 0
    have es : slotSum h t = ins h (going h) t + S ((List.range 32).filter fun x => !(going h).contains x) (fun x => (inSlots h x).count t) := q
    have es2 : slotSum (lessFor h (going h)) t = S ((List.range 32).filter fun x => !(going h).contains x) (fun x => (inSlots h x).count t) := by
      unfold slotSum
      rw [q2, z1, z2]; omega
    have ec : cntOf (lessFor h (going h)) t = if t ∈ going h then 0 else cntOf h t - ins h (going h) t := by
      unfold cntOf
      rw [cells_lessFor]
      by_cases et : t ∈ going h
      · rw [if_pos et, if_pos et]; rfl
      · rw [if_neg et, if_neg et]
        cases cellAt h t with
        | none => show 0 = 0 - _; omega
        | some c => rfl
    rw [ec]
    by_cases et : t ∈ going h
    · rw [if_pos et]
      obtain ⟨f1, f2⟩ := going_free G et
      have f3 : S ((List.range 32).filter fun x => !(going h).contains x) (fun x => (inSlots h x).count t) = 0 := S_const0 fun x hx => f2 x (by simpa using (List.mem_filter.mp hx).2)
      omega
    · rw [if_neg et]
      omega
  · rw [cells_lessFor] at e
    by_cases eo : o ∈ going h
    · rw [if_pos eo] at e; cases e
    · rw [if_neg eo] at e
      cases q : cellAt h o with
      | none => rw [q] at e; cases e
      | some d =>
        rw [q] at e
        obtain rfl := Option.some.inj e
        exact G.shape o d q
end
end Hc
set_option linter.all false
set_option Elab.async false
namespace Hc
open Vasnpe
theorem less_regs (n : Nat) : ∀ {h : Heap} {pend done : List Nat}, (lessOf n h pend done).1.regs = h.regs := by
  induction n with
  | zero => intro h pend done; rfl
  | succ n ih =>
    intro h pend done
    cases pend with
    | nil => rw [less_nil]
    | cons o r =>
      cases e : cellAt h o with
      | none => rw [lessOf]; simp only [e]; exact ih
      | some c =>
        by_cases h1 : c.count ≤ 1
        · rw [less_go e h1, ih]; rfl
        · rw [less_dec e h1, ih]; rfl
theorem less_old (n : Nat) : ∀ {h : Heap} {pend done : List Nat} {x : Nat} {d : Cell}, cellAt (lessOf n h pend done).1 x = some d → ∃ c, cellAt h x = some c ∧ d.kind = c.kind ∧ d.size = c.size ∧ d.slots = c.slots := by
  induction n with
  | zero => intro h pend done x d e; exact ⟨d, e, rfl, rfl, rfl⟩
  | succ n ih =>
    intro h pend done x d e
    cases pend with
    | nil => rw [less_nil] at e; exact ⟨d, e, rfl, rfl, rfl⟩
    | cons o r =>
      cases eo : cellAt h o with
      | none =>
        rw [lessOf] at e
        simp only [eo] at e
        exact ih e
      | some c =>
        have hl := cell_lt eo
        by_cases h1 : c.count ≤ 1
        · rw [less_go eo h1] at e
          obtain ⟨c', e1, q⟩ := ih e
          have e2 : cellAt (setCell h o none) x = some c' := e1
          rw [cellAt_set _ hl] at e2
          by_cases ex : x = o
          · rw [if_pos ex] at e2; cases e2
          · rw [if_neg ex] at e2; exact ⟨c', e2, q⟩
        · rw [less_dec eo h1] at e
          obtain ⟨c', e1, q⟩ := ih e
          have e2 : cellAt (setCell h o (some { c with count := c.count - 1 })) x = some c' := e1
          rw [cellAt_set _ hl] at e2
          by_cases ex : x = o
          · rw [if_pos ex] at e2
            obtain rfl := Option.some.inj e2
            subst ex
            exact ⟨c, eo, q⟩
          · rw [if_neg ex] at e2; exact ⟨c', e2, q⟩
theorem less_dead (n : Nat) : ∀ {h : Heap} {pend done : List Nat}, (∀ x, x ∈ done → cellAt h x = none) → ∀ x, x ∈ (lessOf n h pend done).2 → cellAt (lessOf n h pend done).1 x = none := by
  induction n with
  | zero => intro h pend done hd; exact hd
  | succ n ih =>
    intro h pend done hd
    cases pend with
    | nil => rw [less_nil]; exact hd
    | cons o r =>
      cases eo : cellAt h o with
      | none =>
        have e : lessOf (n + 1) h (o :: r) done = lessOf n h r done := by rw [lessOf]; simp only [eo]
        rw [e]
        exact ih hd
      | some c =>
        have hl := cell_lt eo
        by_cases h1 : c.count ≤ 1
        · rw [less_go eo h1]
          refine ih fun x hx => ?_
          show cellAt (setCell h o none) x = none
          rw [cellAt_set _ hl]
          by_cases ex : x = o
          · rw [if_pos ex]
          · rw [if_neg ex]
            rcases List.mem_append.mp hx with z | z
            · exact hd x z
            · exact absurd (by simpa using z) ex
        · rw [less_dec eo h1]
          refine ih fun x hx => ?_
          show cellAt (setCell h o _) x = none
          rw [cellAt_set _ hl]
          by_cases ex : x = o
          · rw [ex] at hx
            have := hd o hx
            rw [eo] at this; cases this
          · rw [if_neg ex]; exact hd x hx
theorem less_len (n : Nat) : ∀ {h : Heap} {pend done : List Nat}, (∀ x, x ∈ done → cellAt h x = none) → done.Nodup → (∀ x, x ∈ done → x < 32) → h.cells.length = 32 → (lessOf n h pend done).2.length ≤ 32 := by
  induction n with
  | zero => intro h pend done _ nd lt _; exact nodup_le nd lt
  | succ n ih =>
    intro h pend done hd nd lt hc
    cases pend with
    | nil => rw [less_nil]; exact nodup_le nd lt
    | cons o r =>
      cases eo : cellAt h o with
      | none =>
        have e : lessOf (n + 1) h (o :: r) done = lessOf n h r done := by rw [lessOf]; simp only [eo]
        rw [e]
        exact ih hd nd lt hc
      | some c =>
        have hl := cell_lt eo
        by_cases h1 : c.count ≤ 1
        · rw [less_go eo h1]
          refine ih (fun x hx => ?_) ?_ (fun x hx => ?_) ?_
          · show cellAt (setCell h o none) x = none
            rw [cellAt_set _ hl]
            by_cases ex : x = o
            · rw [if_pos ex]
            · rw [if_neg ex]
              rcases List.mem_append.mp hx with z | z
              · exact hd x z
              · exact absurd (by simpa using z) ex
          · refine List.nodup_append.mpr ⟨nd, by simp, fun a ha b hb => ?_⟩
            have : b = o := by simpa using hb
            subst this
            intro z
            subst z
            rw [hd a ha] at eo; cases eo
          · rcases List.mem_append.mp hx with z | z
            · exact lt x z
            · have : x = o := by simpa using z
              omega
          · show (h.cells.set o none).length = 32
            rw [List.length_set]; exact hc
        · rw [less_dec eo h1]
          refine ih (fun x hx => ?_) nd lt ?_
          · show cellAt (setCell h o _) x = none
            rw [cellAt_set _ hl]
            by_cases ex : x = o
            · rw [ex] at hx
              have := hd o hx
              rw [eo] at this; cases this
            · rw [if_neg ex]; exact hd x hx
          · show (h.cells.set o _).length = 32
            rw [List.length_set]; exact hc
theorem free_some {h : Heap} {o : Nat} : freeId h = some o ↔ (o < 32 ∧ cellAt h o = none ∧ ∀ x, x < o → ∃ c, cellAt h x = some c) := by
  unfold freeId
  rw [show CELLS = 32 from rfl, List.find?_range_eq_some]
  have e : ∀ x, ((!isHeld h x) = true ↔ cellAt h x = none) := fun x => by
    unfold isHeld; cases cellAt h x <;> simp
  have e2 : ∀ x, ((!(!isHeld h x)) = true ↔ ∃ c, cellAt h x = some c) := fun x => by
    unfold isHeld; cases cellAt h x <;> simp
  constructor
  · rintro ⟨a, b, c⟩
    exact ⟨by simpa using b, (e o).mp a, fun x hx => (e2 x).mp (c x hx)⟩
  · rintro ⟨a, b, c⟩
    exact ⟨(e o).mpr b, by simpa using a, fun x hx => (e2 x).mpr (c x hx)⟩
theorem free_none {h : Heap} : freeId h = none ↔ (heldIds h).length = 32 := by
  unfold freeId heldIds
  rw [List.find?_eq_none]
  constructor
  · intro a
    have : (List.range CELLS).filter (isHeld h) = List.range CELLS := List.filter_eq_self.mpr fun x hx => by
      have := a x hx
      simpa using this
    rw [this]; rfl
  · intro a x hx z
    have lt : ((List.range CELLS).filter (isHeld h)).length < (List.range CELLS).length := by
      refine List.length_filter_lt_length_iff_exists.mpr ⟨x, hx, ?_⟩
      simpa using z
    have : (List.range CELLS).length = 32 := rfl
    omega
inductive IOp where
  | new (r k z n : Int)
  | copy (r s : Int)
  | load (r s i : Int)
  | store (s i r : Int)
  | clear (r : Int)
  | collect
def isR (r : Int) : Bool := decide (0 ≤ r) && decide (r ≤ 7)
def cslots (h : Heap) (o : Nat) : List (Option Nat) := match cellAt h o with
  | some c => c.slots
  | none => []
def slotRef (h : Heap) (s i r : Int) : Int :=
  if (isR s && isR r) = false then -3 else match regAt h s.toNat with
    | none => -4
    | some o => if (decide (0 ≤ i) && decide (i ≤ ((cslots h o).length : Int) - 1)) = false then -10 else 0
def goodNew (k z n : Int) : Bool := (decide (0 ≤ k) && decide (k ≤ 99)) && ((decide (0 ≤ z) && decide (z ≤ 1000000)) && (decide (0 ≤ n) && decide (n ≤ 5)))
def refuse (h : Heap) : IOp → Int
  | .new r k z n => if isR r = false then -3 else if goodNew k z n = false then -7 else if (heldIds h).length = 32 then -9 else 0
  | .copy r s => if (isR r && isR s) = false then -3 else 0
  | .load r s i => slotRef h s i r
  | .store s i r => slotRef h s i r
  | .clear r => if isR r = false then -3 else 0
  | .collect => 0
def slotIn (h : Heap) (s i : Int) : Option Nat := match regAt h s.toNat with
  | none => none
  | some o => ((cslots h o)[i.toNat]?).getD none
def newCell (k z n : Int) : Cell := { kind := k.toNat, size := z.toNat, slots := List.replicate n.toNat none, count := 0 }
def storeHeap (h : Heap) (o i : Nat) (x : Option Nat) : Heap := match cellAt (moreOf h x) o with
  | some d => setCell (moreOf h x) o (some { d with slots := d.slots.set i x })
  | none => moreOf h x
def doI (h : Heap) : IOp → Heap × List Nat
  | .new r k z n => giveReg (setCell h ((freeId h).getD 0) (some (newCell k z n))) r.toNat (some ((freeId h).getD 0))
  | .copy r s => giveReg h r.toNat (regAt h s.toNat)
  | .load r s i => giveReg h r.toNat (slotIn h s i)
  | .store s i r => dropOld (storeHeap h ((regAt h s.toNat).getD 0) i.toNat (regAt h r.toNat)) (slotIn h s i)
  | .clear r => giveReg h r.toNat none
  | .collect => (lessFor h (going h), going h)
def madeI (h : Heap) : IOp → List Nat
  | .new _ _ _ _ => [(freeId h).getD 0]
  | _ => []
def madeZ : IOp → Nat
  | .new _ _ z _ => z.toNat
  | _ => 0
def zOf (h : Heap) (o : Nat) : Nat := match cellAt h o with
  | some c => c.size
  | none => 0
theorem sizeOf_eq (h : Heap) (l : List Nat) : Vasnpe.sizeOf h l = (l.map (zOf h)).sum := by unfold Vasnpe.sizeOf zOf; rw [sum_eq]; rfl
def stepI (s : State) (p : IOp) : State :=
  { heap := (doI s.heap p).1
    totals :=
      { made := s.totals.made + (madeI s.heap p).length
        madeSize := s.totals.madeSize + madeZ p
        gone := s.totals.gone + (doI s.heap p).2.length
        goneSize := s.totals.goneSize + Vasnpe.sizeOf s.heap (doI s.heap p).2 } }
def rowI (s : State) (p : IOp) : List Int := 0 :: toInts (madeI s.heap p ++ (doI s.heap p).2.length :: Vasnpe.sizeOf s.heap (doI s.heap p).2 :: (doI s.heap p).2)
def toI : Op → IOp
  | .new r k s n => .new r k s n
  | .copy r s => .copy r s
  | .load r s i => .load r s i
  | .store s i r => .store s i r
  | .clear r => .clear r
  | .collect => .collect
theorem isR_nat (r : Nat) : isR (r : Int) = isReg r := by
  unfold isR isReg REGS
  rw [Bool.eq_iff_iff]
  simp
  omega
theorem isR_iff {r : Int} : isR r = true ↔ 0 ≤ r ∧ r ≤ 7 := by unfold isR; simp
theorem isR_lt {r : Int} (h : isR r = true) : r.toNat < 8 := by have := isR_iff.mp h; omega
theorem goodNew_iff {k z n : Int} : goodNew k z n = true ↔ (0 ≤ k ∧ k ≤ 99) ∧ (0 ≤ z ∧ z ≤ 1000000) ∧ 0 ≤ n ∧ n ≤ 5 := by unfold goodNew; simp [and_assoc]
theorem free_ok {h : Heap} (e : (heldIds h).length ≠ 32) : ∃ o, freeId h = some o := by
  cases q : freeId h with
  | none => exact absurd (free_none.mp q) e
  | some o => exact ⟨o, rfl⟩
section
variable {h : Heap}
theorem good_storeHeap {o i : Nat} {c : Cell} {old x : Option Nat} (G : Good h []) (hx : ∀ t, x = some t → ∃ c, cellAt h t = some c) (e : cellAt h o = some c) (hi : c.slots[i]? = some old) : Good (storeHeap h o i x) (opt old) := by
  have g := good_moreO (x := x) G hx
  have q : ∃ d, cellAt (moreOf h x) o = some d ∧ d.slots = c.slots := by
    cases x with
    | none => exact ⟨c, e, rfl⟩
    | some t =>
      obtain ⟨ct, et⟩ := hx t rfl
      rw [moreOf_some et]
      show ∃ d, cellAt (setCell h t _) o = some d ∧ _
      rw [cellAt_set _ (cell_lt et)]
      by_cases ex : o = t
      · rw [if_pos ex]
        subst ex
        rw [e] at et
        obtain rfl := Option.some.inj et
        exact ⟨_, rfl, rfl⟩
      · rw [if_neg ex]; exact ⟨c, e, rfl⟩
  obtain ⟨d, ed, es⟩ := q
  unfold storeHeap
  simp only [ed]
  have := good_setSlot (x := x) (pend := []) (i := i) (old := old) g ed (by rw [es]; exact hi)
  rw [List.append_nil] at this
  exact this
theorem cslots_of {o : Nat} {c : Cell} (e : cellAt h o = some c) : cslots h o = c.slots := by unfold cslots; rw [e]
theorem slotRef_ok {s i r : Int} (G : Good h []) (e : slotRef h s i r = 0) : ∃ o c old, isR s = true ∧ isR r = true ∧ regAt h s.toNat = some o ∧ cellAt h o = some c ∧ c.slots[i.toNat]? = some old ∧ 0 ≤ i ∧ i < (c.slots.length : Int) ∧ slotIn h s i = old := by
  unfold slotRef at e
  by_cases h1 : (isR s && isR r) = false
  · rw [if_pos h1] at e; exact absurd e (by decide)
  · rw [if_neg h1] at e
    have h1' : isR s = true ∧ isR r = true := by simpa using h1
    cases q : regAt h s.toNat with
    | none => rw [q] at e; exact absurd (show (-4 : Int) = 0 from e) (by decide)
    | some o =>
      rw [q] at e
      obtain ⟨c, ec⟩ := G.regAt_held q
      simp only [cslots_of ec] at e
      by_cases h2 : (decide (0 ≤ i) && decide (i ≤ (c.slots.length : Int) - 1)) = false
      · rw [if_pos h2] at e; exact absurd e (by decide)
      · have h3 : 0 ≤ i ∧ i ≤ (c.slots.length : Int) - 1 := by simpa using h2
        have hlt : i.toNat < c.slots.length := by omega
        refine ⟨o, c, c.slots[i.toNat], h1'.1, h1'.2, rfl, ec, by simp [hlt], h3.1, by omega, ?_⟩
        unfold slotIn
        rw [q]
        simp only [cslots_of ec]
        rw [List.getElem?_eq_getElem hlt]; rfl
theorem new_ok {r k z n : Int} (e : refuse h (.new r k z n) = 0) : isR r = true ∧ goodNew k z n = true ∧ ∃ o, freeId h = some o := by
  simp only [refuse] at e
  by_cases h1 : isR r = false
  · rw [if_pos h1] at e; exact absurd e (by decide)
  · rw [if_neg h1] at e
    by_cases h2 : goodNew k z n = false
    · rw [if_pos h2] at e; exact absurd e (by decide)
    · rw [if_neg h2] at e
      by_cases h3 : (heldIds h).length = 32
      · rw [if_pos h3] at e; exact absurd e (by decide)
      · exact ⟨by simpa using h1, by simpa using h2, free_ok h3⟩
theorem good_newH {k z n : Int} {o : Nat} (G : Good h []) (g : goodNew k z n = true) (e : freeId h = some o) : Good (setCell h o (some (newCell k z n))) [] := by
  obtain ⟨⟨k0, k1⟩, ⟨z0, z1⟩, n0, n1⟩ := goodNew_iff.mp g
  obtain ⟨ho, ec, _⟩ := free_some.mp e
  exact good_new G ec ho (by omega) (by omega) (by omega)
theorem slotIn_held (G : Good h []) {s i : Int} : ∀ o, slotIn h s i = some o → ∃ c, cellAt h o = some c := by
  intro t e
  unfold slotIn at e
  cases q : regAt h s.toNat with
  | none => rw [q] at e; cases e
  | some o =>
    rw [q] at e
    obtain ⟨c, ec⟩ := G.regAt_held q
    simp only [cslots_of ec] at e
    cases q2 : c.slots[i.toNat]? with
    | none => rw [q2] at e; cases e
    | some y =>
      rw [q2] at e
      have : y = some t := e
      subst this
      exact G.slot (x := o) (by rw [inSlots_def, ec]; exact slots_mem q2)
theorem good_doI (G : Good h []) {p : IOp} (e : refuse h p = 0) : Good (doI h p).1 [] := by
  cases p with
  | new r k z n =>
    obtain ⟨hr, hg, o, ho⟩ := new_ok e
    show Good (giveReg (setCell h ((freeId h).getD 0) (some (newCell k z n))) r.toNat (some ((freeId h).getD 0))).1 []
    rw [ho]
    exact good_give (isR_lt hr) (good_newH G hg ho) fun x hx => by
      obtain rfl := Option.some.inj hx
      rw [Option.getD_some, cellAt_set _ (by rw [G.clen]; exact (free_some.mp ho).1), if_pos rfl]
      exact ⟨_, rfl⟩
  | copy r s =>
    simp only [refuse] at e
    by_cases h1 : (isR r && isR s) = false
    · rw [if_pos h1] at e; exact absurd e (by decide)
    · have h2 : isR r = true ∧ isR s = true := by simpa using h1
      exact good_give (isR_lt h2.1) G fun o ho => G.regAt_held ho
  | load r s i =>
    obtain ⟨o, c, old, h1, h2, _⟩ := slotRef_ok G (show slotRef h s i r = 0 from e)
    exact good_give (isR_lt h2) G (slotIn_held G)
  | store s i r =>
    obtain ⟨o, c, old, h1, h2, h3, h4, h5, _, _, h6⟩ := slotRef_ok G (show slotRef h s i r = 0 from e)
    show Good (dropOld (storeHeap h ((regAt h s.toNat).getD 0) i.toNat (regAt h r.toNat)) (slotIn h s i)).1 []
    rw [h3, h6, dropOld_eq]
    have g := good_storeHeap (x := regAt h r.toNat) G (fun t ht => G.regAt_held ht) h4 h5
    exact less_good _ g (fuel_ok g (opt_le _))
  | clear r =>
    simp only [refuse] at e
    by_cases h1 : isR r = false
    · rw [if_pos h1] at e; exact absurd e (by decide)
    · exact good_give (isR_lt (by simpa using h1)) G fun o ho => by cases ho
  | collect => exact good_collect G
end
end Hc
set_option linter.all false
set_option Elab.async false
namespace Hc
open Vasnpe
section
variable {h : Heap}
theorem new_there {k z n : Int} {o r : Nat} (G : Good h []) (g : goodNew k z n = true) (e : freeId h = some o) (hr : r < 8) :
    ∃ d, cellAt (giveReg (setCell h o (some (newCell k z n))) r (some o)).1 o = some d ∧ d.size = z.toNat := by
  have g1 := good_newH G g e
  have hl : o < h.cells.length := by rw [G.clen]; exact (free_some.mp e).1
  have ec : cellAt (setCell h o (some (newCell k z n))) o = some (newCell k z n) := by rw [cellAt_set _ hl, if_pos rfl]
  have hx : ∀ x, some o = some x → ∃ c, cellAt (setCell h o (some (newCell k z n))) x = some c := fun x hx => by
    obtain rfl := Option.some.inj hx
    exact ⟨_, ec⟩
  have g2 := good_give hr g1 hx
  have g3 := good_pre_give hr g1 hx
  have er : (giveReg (setCell h o (some (newCell k z n))) r (some o)).1.regs = (setReg (moreOf (setCell h o (some (newCell k z n))) (some o)) r (some o)).regs := by rw [give_eq, less_regs]
  have em : (giveReg (setCell h o (some (newCell k z n))) r (some o)).1.regs[r]? = some (some o) := by
    rw [er]
    show ((moreOf (setCell h o (some (newCell k z n))) (some o)).regs.set r (some o))[r]? = some (some o)
    refine List.getElem?_set_self ?_
    rw [more_regs]
    show r < h.regs.length
    rw [G.rlen]; exact hr
  obtain ⟨d, ed⟩ := g2.reg em
  refine ⟨d, ed, ?_⟩
  rw [give_eq] at ed
  obtain ⟨c, e1, _, e2, _⟩ := less_old _ ed
  have e3 : cellAt (moreOf (setCell h o (some (newCell k z n))) (some o)) o = some c := e1
  rw [moreOf_some ec] at e3
  have e4 : cellAt (setCell (setCell h o (some (newCell k z n))) o (some { newCell k z n with count := (newCell k z n).count + 1 })) o = some c := e3
  rw [cellAt_set _ (cell_lt ec), if_pos rfl] at e4
  obtain rfl := Option.some.inj e4
  exact e2
theorem no_eq {p : Op} {n : Int} (hn : n ≠ 0) (hd : doOp h p = .error n) (hr : refuse h (toI p) = n) : doOp h p = if refuse h (toI p) = 0 then .ok { heap := (doI h (toI p)).1, made := (madeI h (toI p)).head?, gone := (doI h (toI p)).2 } else .error (refuse h (toI p)) := by
  rw [hd, hr, if_neg hn]
theorem yes_eq {p : Op} {d : Done} (hd : doOp h p = .ok d) (hr : refuse h (toI p) = 0) (e : d = { heap := (doI h (toI p)).1, made := (madeI h (toI p)).head?, gone := (doI h (toI p)).2 }) : doOp h p = if refuse h (toI p) = 0 then .ok { heap := (doI h (toI p)).1, made := (madeI h (toI p)).head?, gone := (doI h (toI p)).2 } else .error (refuse h (toI p)) := by
  rw [hd, if_pos hr, e]
theorem slotRef_3 {s i r : Nat} (e : (isReg s && isReg r) = false) : slotRef h s i r = -3 := by
  unfold slotRef; rw [isR_nat, isR_nat, if_pos e]
theorem slotRef_4 {s i r : Nat} (e : (isReg s && isReg r) = true) (q : regAt h s = none) : slotRef h s i r = -4 := by
  unfold slotRef
  rw [isR_nat, isR_nat, if_neg (by rw [e]; decide), show (s : Int).toNat = s by omega, q]
theorem slotRef_10 {s i r o : Nat} {c : Cell} (e : (isReg s && isReg r) = true) (q : regAt h s = some o) (ec : cellAt h o = some c) (hi : ¬ i < c.slots.length) : slotRef h s i r = -10 := by
  unfold slotRef
  rw [isR_nat, isR_nat, if_neg (by rw [e]; decide), show (s : Int).toNat = s by omega, q]
  simp only [cslots_of ec]
  rw [if_pos (by simp; omega)]
theorem slotRef_0 {s i r o : Nat} {c : Cell} (e : (isReg s && isReg r) = true) (q : regAt h s = some o) (ec : cellAt h o = some c) (hi : i < c.slots.length) : slotRef h s i r = 0 := by
  unfold slotRef
  rw [isR_nat, isR_nat, if_neg (by rw [e]; decide), show (s : Int).toNat = s by omega, q]
  simp only [cslots_of ec]
  rw [if_neg (by simp; omega)]
theorem slotIn_nat {s i o : Nat} {c : Cell} {old : Option Nat} (q : regAt h s = some o) (ec : cellAt h o = some c) (hi : c.slots[i]? = some old) : slotIn h s i = old := by
  unfold slotIn
  rw [show (s : Int).toNat = s by omega, show (i : Int).toNat = i by omega, q]
  simp only [cslots_of ec]
  rw [hi]; rfl
theorem doOp_eq (G : Good h []) (p : Op) : doOp h p = if refuse h (toI p) = 0 then .ok { heap := (doI h (toI p)).1, made := (madeI h (toI p)).head?, gone := (doI h (toI p)).2 } else .error (refuse h (toI p)) := by
  cases p with
  | new r k s n =>
    have er : refuse h (toI (.new r k s n)) = if isR (r : Int) = false then -3 else if goodNew k s n = false then -7 else if (heldIds h).length = 32 then -9 else 0 := rfl
    rw [isR_nat] at er
    cases h1 : isReg r with
    | false => exact no_eq (n := -3) (by decide) (by simp only [doOp, h1]; rfl) (by rw [er, h1]; rfl)
    | true =>
      rw [h1, if_neg (by decide)] at er
      cases h2 : goodNew k s n with
      | false =>
        have h2' : KINDS ≤ k ∨ Vasnpe.SIZE < s ∨ SLOTS < n := by
          have h3 : ¬ goodNew k s n = true := by rw [h2]; decide
          rw [goodNew_iff] at h3
          unfold KINDS Vasnpe.SIZE SLOTS
          omega
        exact no_eq (n := -7) (by decide) (by simp only [doOp, h1, h2', if_true]; rfl) (by rw [er, h2]; rfl)
      | true =>
        rw [h2, if_neg (by decide)] at er
        have h2' : ¬ (KINDS ≤ k ∨ Vasnpe.SIZE < s ∨ SLOTS < n) := by
          have := goodNew_iff.mp h2
          unfold KINDS Vasnpe.SIZE SLOTS
          omega
        cases q : freeId h with
        | none => exact no_eq (n := -9) (by decide) (by simp only [doOp, h1, h2', if_false, q]; rfl) (by rw [er, if_pos (free_none.mp q)])
        | some o =>
          have q2 : ¬ (heldIds h).length = 32 := fun z => by
            rw [free_none.mpr z] at q; cases q
          rw [if_neg q2] at er
          refine yes_eq (d := _) (by simp only [doOp, h1, h2', if_false, q]; rfl) er ?_
          have e1 : doI h (toI (.new r k s n)) = giveReg (setCell h o (some (newCell k s n))) (r : Int).toNat (some o) := by
            show giveReg (setCell h ((freeId h).getD 0) (some (newCell k s n))) (r : Int).toNat (some ((freeId h).getD 0)) = _
            rw [q]; rfl
          have e2 : madeI h (toI (.new r k s n)) = [o] := by
            show [(freeId h).getD 0] = [o]
            rw [q]; rfl
          rw [e1, e2]
          rfl
  | copy r s =>
    have er : refuse h (toI (.copy r s)) = if (isR (r : Int) && isR (s : Int)) = false then -3 else 0 := rfl
    rw [isR_nat, isR_nat] at er
    cases h1 : isReg r with
    | false => exact no_eq (n := -3) (by decide) (by simp only [doOp, h1]; rfl) (by rw [er, h1]; rfl)
    | true =>
      cases h2 : isReg s with
      | false => exact no_eq (n := -3) (by decide) (by simp only [doOp, h1, h2]; rfl) (by rw [er, h1, h2]; rfl)
      | true => exact yes_eq (d := _) (by simp only [doOp, h1, h2]; rfl) (by rw [er, h1, h2]; rfl) rfl
  | load r s i =>
    have er : refuse h (toI (.load r s i)) = slotRef h s i r := rfl
    cases h1 : isReg r with
    | false => exact no_eq (n := -3) (by decide) (by simp only [doOp, h1]; rfl) (by rw [er]; exact slotRef_3 (by rw [h1]; cases isReg s <;> rfl))
    | true =>
      cases h2 : isReg s with
      | false => exact no_eq (n := -3) (by decide) (by simp only [doOp, h1, h2]; rfl) (by rw [er]; exact slotRef_3 (by rw [h2]; rfl))
      | true =>
        cases q : regAt h s with
        | none => exact no_eq (n := -4) (by decide) (by simp only [doOp, h1, h2, q]; rfl) (by rw [er]; exact slotRef_4 (by rw [h1, h2]; rfl) q)
        | some o =>
          obtain ⟨c, ec⟩ := G.regAt_held q
          by_cases hlt : i < c.slots.length
          · have hi := List.getElem?_eq_getElem hlt
            refine yes_eq (d := _) (by simp only [doOp, h1, h2, q, Option.bind_some, ec, hi]; rfl) (by rw [er]; exact slotRef_0 (by rw [h1, h2]; rfl) q ec hlt) ?_
            have e1 : doI h (toI (.load r s i)) = giveReg h r (slotIn h (s : Int) (i : Int)) := rfl
            rw [e1, slotIn_nat q ec hi]
            rfl
          · have hi : c.slots[i]? = none := List.getElem?_eq_none (by omega)
            exact no_eq (n := -10) (by decide) (by simp only [doOp, h1, h2, q, Option.bind_some, ec, hi]; rfl) (by rw [er]; exact slotRef_10 (by rw [h1, h2]; rfl) q ec hlt)
  | store s i r =>
    have er : refuse h (toI (.store s i r)) = slotRef h s i r := rfl
    cases h1 : isReg s with
    | false => exact no_eq (n := -3) (by decide) (by simp only [doOp, h1]; rfl) (by rw [er]; exact slotRef_3 (by rw [h1]; rfl))
    | true =>
      cases h2 : isReg r with
      | false => exact no_eq (n := -3) (by decide) (by simp only [doOp, h1, h2]; rfl) (by rw [er]; exact slotRef_3 (by rw [h1, h2]; rfl))
      | true =>
        cases q : regAt h s with
        | none => exact no_eq (n := -4) (by decide) (by simp only [doOp, h1, h2, q]; rfl) (by rw [er]; exact slotRef_4 (by rw [h1, h2]; rfl) q)
        | some o =>
          obtain ⟨c, ec⟩ := G.regAt_held q
          by_cases hlt : i < c.slots.length
          · have hi := List.getElem?_eq_getElem hlt
            refine yes_eq (d := _) (by simp only [doOp, h1, h2, q, ec, hi]; rfl) (by rw [er]; exact slotRef_0 (by rw [h1, h2]; rfl) q ec hlt) ?_
            have e1 : doI h (toI (.store s i r)) = dropOld (storeHeap h ((regAt h s).getD 0) i (regAt h r)) (slotIn h (s : Int) (i : Int)) := rfl
            rw [e1, slotIn_nat q ec hi, q]
            rfl
          · have hi : c.slots[i]? = none := List.getElem?_eq_none (by omega)
            exact no_eq (n := -10) (by decide) (by simp only [doOp, h1, h2, q, ec, hi]; rfl) (by rw [er]; exact slotRef_10 (by rw [h1, h2]; rfl) q ec hlt)
  | clear r =>
    have er : refuse h (toI (.clear r)) = if isR (r : Int) = false then -3 else 0 := rfl
    rw [isR_nat] at er
    cases h1 : isReg r with
    | false => exact no_eq (n := -3) (by decide) (by simp only [doOp, h1]; rfl) (by rw [er, h1]; rfl)
    | true => exact yes_eq (d := _) (by simp only [doOp, h1]; rfl) (by rw [er, h1]; rfl) rfl
  | collect => rfl
end
theorem made_size {s : State} (G : Good s.heap []) {p : Op} (e : refuse s.heap (toI p) = 0) : (match (madeI s.heap (toI p)).head? with
    | some o => Vasnpe.sizeOf (doI s.heap (toI p)).1 [o]
    | none => 0) = madeZ (toI p) ∧ (match (madeI s.heap (toI p)).head? with
    | some _ => 1
    | none => 0) = (madeI s.heap (toI p)).length := by
  cases p with
  | new r k z n =>
    obtain ⟨hr, hg, o, ho⟩ := new_ok (show refuse s.heap (.new r k z n) = 0 from e)
    obtain ⟨d, e1, e2⟩ := new_there G hg ho (isR_lt hr)
    have em : madeI s.heap (toI (.new r k z n)) = [o] := by
      show [(freeId s.heap).getD 0] = [o]
      rw [ho]; rfl
    have ed : doI s.heap (toI (.new r k z n)) = giveReg (setCell s.heap o (some (newCell k z n))) (r : Int).toNat (some o) := by
      show giveReg (setCell s.heap ((freeId s.heap).getD 0) (some (newCell k z n))) (r : Int).toNat (some ((freeId s.heap).getD 0)) = _
      rw [ho]; rfl
    rw [em, ed]
    refine ⟨?_, rfl⟩
    show Vasnpe.sizeOf _ [o] = (z : Int).toNat
    rw [sizeOf_eq]
    simp only [List.map_cons, List.map_nil, List.sum_cons, List.sum_nil]
    unfold zOf
    rw [e1]
    exact e2
  | copy r s => exact ⟨rfl, rfl⟩
  | load r s i => exact ⟨rfl, rfl⟩
  | store s i r => exact ⟨rfl, rfl⟩
  | clear r => exact ⟨rfl, rfl⟩
  | collect => exact ⟨rfl, rfl⟩
theorem doing_ok {s : State} (G : Good s.heap []) {p : Op} (e : refuse s.heap (toI p) = 0) : doing s p = .ok (stepI s (toI p), { heap := (doI s.heap (toI p)).1, made := (madeI s.heap (toI p)).head?, gone := (doI s.heap (toI p)).2 }) := by
  unfold doing
  rw [doOp_eq G, if_pos e]
  obtain ⟨m1, m2⟩ := made_size G e
  simp only [Except.map]
  unfold stepI
  rw [← m1, ← m2]
  rfl
theorem doing_no {s : State} (G : Good s.heap []) {p : Op} (e : refuse s.heap (toI p) ≠ 0) : doing s p = .error (refuse s.heap (toI p)) := by
  unfold doing
  rw [doOp_eq G, if_neg e]
  rfl
theorem opRow_eq {s : State} (G : Good s.heap []) (p : Op) : opRow s p = if refuse s.heap (toI p) = 0 then (stepI s (toI p), rowI s (toI p)) else (s, [refuse s.heap (toI p)]) := by
  unfold opRow
  by_cases e : refuse s.heap (toI p) = 0
  · rw [doing_ok G e, if_pos e]
    simp only
    unfold rowI
    cases p <;> rfl
  · rw [doing_no G e, if_neg e]
def callI : IOp → Vasnpe.Call
  | .new r k z n => .new r k z n
  | .copy r s => .copy r s
  | .load r s i => .load r s i
  | .store s i r => .store s i r
  | .clear r => .clear r
  | .collect => .collect
theorem onNats_bad {s : State} {regs rest : List Int} {f : State × Answer} (h : regs.any (fun n => decide (n < 0) || decide ((REGS : Int) ≤ n)) = true) : onNats s regs rest f = (s, [-3]) := by unfold onNats; rw [if_pos h]
theorem onNats_bad2 {s : State} {regs rest : List Int} {f : State × Answer} (h : regs.any (fun n => decide (n < 0) || decide ((REGS : Int) ≤ n)) = false) (h2 : rest.any (fun n => decide (n < 0)) = true) : onNats s regs rest f = (s, [-7]) := by unfold onNats; rw [if_neg (by rw [h]; decide), if_pos h2]
theorem onNats_ok {s : State} {regs rest : List Int} {f : State × Answer} (h : regs.any (fun n => decide (n < 0) || decide ((REGS : Int) ≤ n)) = false) (h2 : rest.any (fun n => decide (n < 0)) = false) : onNats s regs rest f = f := by unfold onNats; rw [if_neg (by rw [h]; decide), if_neg (by rw [h2]; decide)]
theorem reg_test {r : Int} : (decide (r < 0) || decide ((REGS : Int) ≤ r)) = !isR r := by
  unfold isR REGS
  rw [Bool.eq_iff_iff]
  simp
  omega
theorem regs1 {r : Int} : [r].any (fun n => decide (n < 0) || decide ((REGS : Int) ≤ n)) = !isR r := by
  show ((decide (r < 0) || decide ((REGS : Int) ≤ r)) || false) = _
  rw [reg_test, Bool.or_false]
theorem regs2 {r s : Int} : [r, s].any (fun n => decide (n < 0) || decide ((REGS : Int) ≤ n)) = !(isR r && isR s) := by
  show ((decide (r < 0) || decide ((REGS : Int) ≤ r)) || ((decide (s < 0) || decide ((REGS : Int) ≤ s)) || false)) = _
  rw [reg_test, reg_test, Bool.or_false]
  cases isR r <;> cases isR s <;> rfl
theorem slotRef_neg {h : Heap} {s i r : Int} (G : Good h []) (hi : i < 0) : slotRef h s i r = slotRef h s 5 r := by
  unfold slotRef
  split
  · rfl
  · cases q : regAt h s.toNat with
    | none => rfl
    | some o =>
      obtain ⟨c, ec⟩ := G.regAt_held q
      have := (G.shape o c ec).2.2
      simp only [cslots_of ec]
      have e1 : (decide (0 ≤ i) && decide (i ≤ (c.slots.length : Int) - 1)) = false := by simp; omega
      have e2 : (decide ((0 : Int) ≤ 5) && decide ((5 : Int) ≤ (c.slots.length : Int) - 1)) = false := by simp; omega
      rw [e1, e2]
theorem slotRef_five {h : Heap} {s r : Int} (G : Good h []) : slotRef h s 5 r ≠ 0 := by
  intro e
  obtain ⟨o, c, old, _, _, _, ec, _, _, h5, _⟩ := slotRef_ok G e
  have := (G.shape o c ec).2.2
  omega
theorem step_eq {s : State} (G : Good s.heap []) (p : IOp) : Vasnpe.step s (callI p) = if refuse s.heap p = 0 then (stepI s p, rowI s p) else (s, [refuse s.heap p]) := by
  cases p with
  | new r k z n =>
    show onNats s [r] [k, z, n] (opRow s (.new r.toNat k.toNat z.toNat n.toNat)) = _
    by_cases h1 : isR r = true
    · have er : (r.toNat : Int) = r := by have := isR_iff.mp h1; omega
      by_cases h2 : ([k, z, n].any fun n => decide (n < 0)) = true
      · rw [onNats_bad2 (by rw [regs1, h1]; rfl) h2]
        have h3 : goodNew k z n = false := by
          cases q : goodNew k z n with
          | false => rfl
          | true =>
            have := goodNew_iff.mp q
            simp at h2
            omega
        have e : refuse s.heap (.new r k z n) = -7 := by simp only [refuse, h1, h3, if_true, if_false, Bool.true_eq_false]
        rw [e, if_neg (by decide)]
      · rw [onNats_ok (by rw [regs1, h1]; rfl) (by simpa using h2)]
        have h3 : 0 ≤ k ∧ 0 ≤ z ∧ 0 ≤ n := by simpa using h2
        have e : toI (.new r.toNat k.toNat z.toNat n.toNat) = .new r k z n := by
          show IOp.new (r.toNat : Int) (k.toNat : Int) (z.toNat : Int) (n.toNat : Int) = _
          rw [er, Int.toNat_of_nonneg h3.1, Int.toNat_of_nonneg h3.2.1, Int.toNat_of_nonneg h3.2.2]
        rw [opRow_eq G, e]
    · have h1f : isR r = false := by simpa using h1
      rw [onNats_bad (by rw [regs1, h1f]; rfl)]
      have e : refuse s.heap (.new r k z n) = -3 := by simp only [refuse, h1f, if_true]
      rw [e, if_neg (by decide)]
  | copy r q =>
    show onNats s [r, q] [] (opRow s (.copy r.toNat q.toNat)) = _
    by_cases h1 : (isR r && isR q) = true
    · rw [onNats_ok (by rw [regs2, h1]; rfl) rfl]
      have h2 : isR r = true ∧ isR q = true := by simpa using h1
      have e : toI (.copy r.toNat q.toNat) = .copy r q := by
        show IOp.copy (r.toNat : Int) (q.toNat : Int) = _
        rw [Int.toNat_of_nonneg (isR_iff.mp h2.1).1, Int.toNat_of_nonneg (isR_iff.mp h2.2).1]
      rw [opRow_eq G, e]
    · have h1f : (isR r && isR q) = false := by simpa using h1
      rw [onNats_bad (by rw [regs2, h1f]; rfl)]
      have e : refuse s.heap (.copy r q) = -3 := by simp only [refuse, h1f, if_true]
      rw [e, if_neg (by decide)]
  | load r q i =>
    show onNats s [r, q] [] (if i < 0 then opRow s (.load r.toNat q.toNat SLOTS) else opRow s (.load r.toNat q.toNat i.toNat)) = _
    by_cases h1 : (isR r && isR q) = true
    · rw [onNats_ok (by rw [regs2, h1]; rfl) rfl]
      have h2 : isR r = true ∧ isR q = true := by simpa using h1
      by_cases hi : i < 0
      · rw [if_pos hi, opRow_eq G]
        have e : toI (.load r.toNat q.toNat SLOTS) = .load r q 5 := by
          show IOp.load (r.toNat : Int) (q.toNat : Int) (5 : Int) = _
          rw [Int.toNat_of_nonneg (isR_iff.mp h2.1).1, Int.toNat_of_nonneg (isR_iff.mp h2.2).1]
        rw [e]
        have e2 : refuse s.heap (.load r q i) = refuse s.heap (.load r q 5) := slotRef_neg G hi
        rw [e2, if_neg (show refuse s.heap (.load r q 5) ≠ 0 from slotRef_five G), if_neg (show refuse s.heap (.load r q 5) ≠ 0 from slotRef_five G)]
      · rw [if_neg hi, opRow_eq G]
        have e : toI (.load r.toNat q.toNat i.toNat) = .load r q i := by
          show IOp.load (r.toNat : Int) (q.toNat : Int) (i.toNat : Int) = _
          rw [Int.toNat_of_nonneg (isR_iff.mp h2.1).1, Int.toNat_of_nonneg (isR_iff.mp h2.2).1, Int.toNat_of_nonneg (by omega)]
        rw [e]
    · have h1f : (isR r && isR q) = false := by simpa using h1
      rw [onNats_bad (by rw [regs2, h1f]; rfl)]
      have h1g : (isR q && isR r) = false := by rw [Bool.and_comm]; exact h1f
      have e : refuse s.heap (.load r q i) = -3 := by simp only [refuse, slotRef, h1g, if_true]
      rw [e, if_neg (by decide)]
  | store q i r =>
    show onNats s [q, r] [] (if i < 0 then opRow s (.store q.toNat SLOTS r.toNat) else opRow s (.store q.toNat i.toNat r.toNat)) = _
    by_cases h1 : (isR q && isR r) = true
    · rw [onNats_ok (by rw [regs2, h1]; rfl) rfl]
      have h2 : isR q = true ∧ isR r = true := by simpa using h1
      by_cases hi : i < 0
      · rw [if_pos hi, opRow_eq G]
        have e : toI (.store q.toNat SLOTS r.toNat) = .store q 5 r := by
          show IOp.store (q.toNat : Int) (5 : Int) (r.toNat : Int) = _
          rw [Int.toNat_of_nonneg (isR_iff.mp h2.1).1, Int.toNat_of_nonneg (isR_iff.mp h2.2).1]
        rw [e]
        have e2 : refuse s.heap (.store q i r) = refuse s.heap (.store q 5 r) := slotRef_neg G hi
        rw [e2, if_neg (show refuse s.heap (.store q 5 r) ≠ 0 from slotRef_five G), if_neg (show refuse s.heap (.store q 5 r) ≠ 0 from slotRef_five G)]
      · rw [if_neg hi, opRow_eq G]
        have e : toI (.store q.toNat i.toNat r.toNat) = .store q i r := by
          show IOp.store (q.toNat : Int) (i.toNat : Int) (r.toNat : Int) = _
          rw [Int.toNat_of_nonneg (isR_iff.mp h2.1).1, Int.toNat_of_nonneg (isR_iff.mp h2.2).1, Int.toNat_of_nonneg (by omega)]
        rw [e]
    · have h1f : (isR q && isR r) = false := by simpa using h1
      rw [onNats_bad (by rw [regs2, h1f]; rfl)]
      have e : refuse s.heap (.store q i r) = -3 := by simp only [refuse, slotRef, h1f, if_true]
      rw [e, if_neg (by decide)]
  | clear r =>
    show onNats s [r] [] (opRow s (.clear r.toNat)) = _
    by_cases h1 : isR r = true
    · rw [onNats_ok (by rw [regs1, h1]; rfl) rfl]
      have e : toI (.clear r.toNat) = .clear r := by
        show IOp.clear (r.toNat : Int) = _
        rw [Int.toNat_of_nonneg (isR_iff.mp h1).1]
      rw [opRow_eq G, e]
    · have h1f : isR r = false := by simpa using h1
      rw [onNats_bad (by rw [regs1, h1f]; rfl)]
      have e : refuse s.heap (.clear r) = -3 := by simp only [refuse, h1f, if_true]
      rw [e, if_neg (by decide)]
  | collect => exact opRow_eq G .collect
def ar : Nat → Nat
  | 0 => 4
  | 1 => 2
  | 2 => 3
  | 3 => 3
  | 4 => 1
  | _ => 0
inductive RawOp : Nat → List Nat → Op → Prop
  | new (r k z n : Nat) : RawOp 0 [r, k, z, n] (.new r k z n)
  | copy (r s : Nat) : RawOp 1 [r, s] (.copy r s)
  | load (r s i : Nat) : RawOp 2 [r, s, i] (.load r s i)
  | store (s i r : Nat) : RawOp 3 [s, i, r] (.store s i r)
  | clear (r : Nat) : RawOp 4 [r] (.clear r)
  | collect : RawOp 5 [] .collect
theorem rd_nil (f : Nat) : readOps f [] = some [] := by cases f <;> rfl
theorem rd_bad {p f : Nat} {l : List Nat} (hp : 6 ≤ p) : readOps (f + 1) (p :: l) = none := by
  match p, hp with
  | p + 6, _ => rfl
theorem rd_short {p f : Nat} {l : List Nat} (hp : p ≤ 5) (hl : l.length < ar p) : readOps (f + 1) (p :: l) = none := by
  match p, hp with
  | 0, _ =>
    match l, hl with
    | [], _ => rfl
    | [_], _ => rfl
    | [_, _], _ => rfl
    | [_, _, _], _ => rfl
    | _ :: _ :: _ :: _ :: _, h => simp [ar] at h; omega
  | 1, _ =>
    match l, hl with
    | [], _ => rfl
    | [_], _ => rfl
    | _ :: _ :: _, h => simp [ar] at h; omega
  | 2, _ =>
    match l, hl with
    | [], _ => rfl
    | [_], _ => rfl
    | [_, _], _ => rfl
    | _ :: _ :: _ :: _, h => simp [ar] at h; omega
  | 3, _ =>
    match l, hl with
    | [], _ => rfl
    | [_], _ => rfl
    | [_, _], _ => rfl
    | _ :: _ :: _ :: _, h => simp [ar] at h; omega
  | 4, _ =>
    match l, hl with
    | [], _ => rfl
    | _ :: _, h => simp [ar] at h
  | 5, _ => exact absurd hl (by simp [ar])
theorem rd_step {p f : Nat} {l : List Nat} (hp : p ≤ 5) (hl : ar p ≤ l.length) : ∃ op, RawOp p (l.take (ar p)) op ∧ readOps (f + 1) (p :: l) = (readOps f (l.drop (ar p))).map (op :: ·) := by
  match p, hp with
  | 0, _ =>
    match l, hl with
    | r :: k :: z :: n :: l, _ => exact ⟨_, .new r k z n, rfl⟩
    | [], h => simp [ar] at h
    | [_], h => simp [ar] at h
    | [_, _], h => simp [ar] at h
    | [_, _, _], h => simp [ar] at h
  | 1, _ =>
    match l, hl with
    | r :: s :: l, _ => exact ⟨_, .copy r s, rfl⟩
    | [], h => simp [ar] at h
    | [_], h => simp [ar] at h
  | 2, _ =>
    match l, hl with
    | r :: s :: i :: l, _ => exact ⟨_, .load r s i, rfl⟩
    | [], h => simp [ar] at h
    | [_], h => simp [ar] at h
    | [_, _], h => simp [ar] at h
  | 3, _ =>
    match l, hl with
    | s :: i :: r :: l, _ => exact ⟨_, .store s i r, rfl⟩
    | [], h => simp [ar] at h
    | [_], h => simp [ar] at h
    | [_, _], h => simp [ar] at h
  | 4, _ =>
    match l, hl with
    | r :: l, _ => exact ⟨_, .clear r, rfl⟩
    | [], h => simp [ar] at h
  | 5, _ => exact ⟨_, .collect, rfl⟩
theorem running_nil (s : State) (n : Nat) : running [] s n = (s, n, 0) := rfl
theorem running_go {s : State} (G : Good s.heap []) {p : Op} {r : List Op} {n : Nat} (e : refuse s.heap (toI p) = 0) : running (p :: r) s n = running r (stepI s (toI p)) (n + 1) := by
  rw [running, doing_ok G e]
theorem running_no {s : State} (G : Good s.heap []) {p : Op} {r : List Op} {n : Nat} (e : refuse s.heap (toI p) ≠ 0) : running (p :: r) s n = (s, n, -refuse s.heap (toI p)) := by
  rw [running, doing_no G e]
inductive Told : List Int → Vasnpe.Call → List Int → Prop
  | op0 (r k z n : Int) (t : List Int) : Told (0 :: r :: k :: z :: n :: t) (.new r k z n) t
  | op1 (r s : Int) (t : List Int) : Told (1 :: r :: s :: t) (.copy r s) t
  | op2 (r s i : Int) (t : List Int) : Told (2 :: r :: s :: i :: t) (.load r s i) t
  | op3 (s i r : Int) (t : List Int) : Told (3 :: s :: i :: r :: t) (.store s i r) t
  | op4 (r : Int) (t : List Int) : Told (4 :: r :: t) (.clear r) t
  | op5 (t : List Int) : Told (5 :: t) .collect t
  | op6 (x : List Int) (t : List Int) : Told (6 :: (x.length : Int) :: (x ++ t)) (.run x) t
  | op7 (t : List Int) : Told (7 :: t) .regs t
  | op8 (t : List Int) : Told (8 :: t) .objects t
  | op9 (t : List Int) : Told (9 :: t) .live t
  | op10 (t : List Int) : Told (10 :: t) .waste t
  | op11 (t : List Int) : Told (11 :: t) .suspects t
  | op12 (t : List Int) : Told (12 :: t) .trial t
  | op13 (t : List Int) : Told (13 :: t) .row t
  | op14 (o : Int) (t : List Int) : Told (14 :: o :: t) (.holders o) t
  | op15 (t : List Int) : Told (15 :: t) .totals t
inductive Line : List Int → List Vasnpe.Call → Prop
  | nil : Line [] []
  | cons {l t : List Int} {k : Vasnpe.Call} {ks : List Vasnpe.Call} : Told l k t → Line t ks → Line l (k :: ks)
theorem shape_some {p : Int} {q : Nat × Nat} (h : PyVasnpe.shape p = some q) : p = 0 ∧ q = (4, 0) ∨ p = 1 ∧ q = (2, 0) ∨ p = 2 ∧ q = (3, 0) ∨ p = 3 ∧ q = (3, 0) ∨ p = 4 ∧ q = (1, 0) ∨ p = 5 ∧ q = (0, 0) ∨ p = 6 ∧ q = (0, 1) ∨ p = 7 ∧ q = (0, 0) ∨ p = 8 ∧ q = (0, 0) ∨ p = 9 ∧ q = (0, 0) ∨ p = 10 ∧ q = (0, 0) ∨ p = 11 ∧ q = (0, 0) ∨ p = 12 ∧ q = (0, 0) ∨ p = 13 ∧ q = (0, 0) ∨ p = 14 ∧ q = (1, 0) ∨ p = 15 ∧ q = (0, 0) := by
  unfold PyVasnpe.shape at h
  by_cases e0 : p = 0
  · rw [if_pos e0] at h; exact Or.inl ⟨e0, (Option.some.inj h).symm⟩
  rw [if_neg e0] at h
  refine Or.inr ?_
  by_cases e1 : p = 1
  · rw [if_pos e1] at h; exact Or.inl ⟨e1, (Option.some.inj h).symm⟩
  rw [if_neg e1] at h
  refine Or.inr ?_
  by_cases e2 : p = 2
  · rw [if_pos e2] at h; exact Or.inl ⟨e2, (Option.some.inj h).symm⟩
  rw [if_neg e2] at h
  refine Or.inr ?_
  by_cases e3 : p = 3
  · rw [if_pos e3] at h; exact Or.inl ⟨e3, (Option.some.inj h).symm⟩
  rw [if_neg e3] at h
  refine Or.inr ?_
  by_cases e4 : p = 4
  · rw [if_pos e4] at h; exact Or.inl ⟨e4, (Option.some.inj h).symm⟩
  rw [if_neg e4] at h
  refine Or.inr ?_
  by_cases e5 : p = 5
  · rw [if_pos e5] at h; exact Or.inl ⟨e5, (Option.some.inj h).symm⟩
  rw [if_neg e5] at h
  refine Or.inr ?_
  by_cases e6 : p = 6
  · rw [if_pos e6] at h; exact Or.inl ⟨e6, (Option.some.inj h).symm⟩
  rw [if_neg e6] at h
  refine Or.inr ?_
  by_cases e7 : p = 7
  · rw [if_pos e7] at h; exact Or.inl ⟨e7, (Option.some.inj h).symm⟩
  rw [if_neg e7] at h
  refine Or.inr ?_
  by_cases e8 : p = 8
  · rw [if_pos e8] at h; exact Or.inl ⟨e8, (Option.some.inj h).symm⟩
  rw [if_neg e8] at h
  refine Or.inr ?_
  by_cases e9 : p = 9
  · rw [if_pos e9] at h; exact Or.inl ⟨e9, (Option.some.inj h).symm⟩
  rw [if_neg e9] at h
  refine Or.inr ?_
  by_cases e10 : p = 10
  · rw [if_pos e10] at h; exact Or.inl ⟨e10, (Option.some.inj h).symm⟩
  rw [if_neg e10] at h
  refine Or.inr ?_
  by_cases e11 : p = 11
  · rw [if_pos e11] at h; exact Or.inl ⟨e11, (Option.some.inj h).symm⟩
  rw [if_neg e11] at h
  refine Or.inr ?_
  by_cases e12 : p = 12
  · rw [if_pos e12] at h; exact Or.inl ⟨e12, (Option.some.inj h).symm⟩
  rw [if_neg e12] at h
  refine Or.inr ?_
  by_cases e13 : p = 13
  · rw [if_pos e13] at h; exact Or.inl ⟨e13, (Option.some.inj h).symm⟩
  rw [if_neg e13] at h
  refine Or.inr ?_
  by_cases e14 : p = 14
  · rw [if_pos e14] at h; exact Or.inl ⟨e14, (Option.some.inj h).symm⟩
  rw [if_neg e14] at h
  refine Or.inr ?_
  by_cases e15 : p = 15
  · rw [if_pos e15] at h; exact ⟨e15, (Option.some.inj h).symm⟩
  · rw [if_neg e15] at h; cases h
theorem told_of {p : Int} {r : List Int} {c : List (List Int)} {t : List Int} (h : PyFlat.call PyVasnpe.shape (p :: r) = some (c, t)) : ∃ k, VasnpeNeutral.callOf (PyVasnpe.whole c) = some k ∧ Told (p :: r) k t := by
  simp only [PyFlat.call] at h
  cases q : PyVasnpe.shape p with
  | none => rw [q] at h; cases h
  | some nk =>
    obtain ⟨n, k⟩ := nk
    rw [q] at h
    simp only at h
    by_cases hl : r.length < n
    · rw [if_pos hl] at h; cases h
    · rw [if_neg hl] at h
      rcases shape_some q with ⟨rfl, e⟩ | ⟨rfl, e⟩ | ⟨rfl, e⟩ | ⟨rfl, e⟩ | ⟨rfl, e⟩ | ⟨rfl, e⟩ | ⟨rfl, e⟩ | ⟨rfl, e⟩ | ⟨rfl, e⟩ | ⟨rfl, e⟩ | ⟨rfl, e⟩ | ⟨rfl, e⟩ | ⟨rfl, e⟩ | ⟨rfl, e⟩ | ⟨rfl, e⟩ | ⟨rfl, e⟩ <;> cases e
      · match r, hl, h with
        | a :: b :: c' :: d :: t', _, h => cases h; exact ⟨_, rfl, .op0 a b c' d _⟩
        | [], hl, _ => simp at hl
        | [_], hl, _ => simp at hl
        | [_, _], hl, _ => simp at hl
        | [_, _, _], hl, _ => simp at hl
      · match r, hl, h with
        | a :: b :: t', _, h => cases h; exact ⟨_, rfl, .op1 a b _⟩
        | [], hl, _ => simp at hl
        | [_], hl, _ => simp at hl
      · match r, hl, h with
        | a :: b :: c' :: t', _, h => cases h; exact ⟨_, rfl, .op2 a b c' _⟩
        | [], hl, _ => simp at hl
        | [_], hl, _ => simp at hl
        | [_, _], hl, _ => simp at hl
      · match r, hl, h with
        | a :: b :: c' :: t', _, h => cases h; exact ⟨_, rfl, .op3 a b c' _⟩
        | [], hl, _ => simp at hl
        | [_], hl, _ => simp at hl
        | [_, _], hl, _ => simp at hl
      · match r, hl, h with
        | a :: t', _, h => cases h; exact ⟨_, rfl, .op4 a _⟩
        | [], hl, _ => simp at hl
      · cases h; exact ⟨_, rfl, .op5 _⟩
      · simp only [List.drop_zero, List.take_zero, PyFlat.rows] at h
        match r, h with
        | [], h => simp [PyFlat.row] at h
        | n :: r', h =>
          simp only [PyFlat.row] at h
          by_cases hc : 0 ≤ n ∧ n.toNat ≤ r'.length
          · rw [if_pos hc] at h
            cases h
            have e1 : n = ((r'.take n.toNat).length : Int) := by rw [List.length_take]; omega
            have tk := Told.op6 (r'.take n.toNat) (r'.drop n.toNat)
            rw [List.take_append_drop, ← e1] at tk
            exact ⟨_, rfl, tk⟩
          · rw [if_neg hc] at h; cases h
      · cases h; exact ⟨_, rfl, .op7 _⟩
      · cases h; exact ⟨_, rfl, .op8 _⟩
      · cases h; exact ⟨_, rfl, .op9 _⟩
      · cases h; exact ⟨_, rfl, .op10 _⟩
      · cases h; exact ⟨_, rfl, .op11 _⟩
      · cases h; exact ⟨_, rfl, .op12 _⟩
      · cases h; exact ⟨_, rfl, .op13 _⟩
      · match r, hl, h with
        | a :: t', _, h => cases h; exact ⟨_, rfl, .op14 a _⟩
        | [], hl, _ => simp at hl
      · cases h; exact ⟨_, rfl, .op15 _⟩
def playedC : State → List Vasnpe.Call → List (List Int)
  | _, [] => []
  | s, k :: ks => (Vasnpe.step s k).2 :: playedC (Vasnpe.step s k).1 ks
theorem line_of (f : Nat) : ∀ {l : List Int} {cs : List (List (List Int))}, PyFlat.calls PyVasnpe.shape f l = some cs → ∃ ks, Line l ks ∧ ks.length = cs.length ∧ ∀ s, PyFlat.played VasnpeNeutral.step s (cs.map PyVasnpe.whole) = playedC s ks := by
  induction f with
  | zero =>
    intro l cs h
    cases l with
    | nil => cases h; exact ⟨[], .nil, rfl, fun _ => rfl⟩
    | cons p r => cases h
  | succ f ih =>
    intro l cs h
    cases l with
    | nil => cases h; exact ⟨[], .nil, rfl, fun _ => rfl⟩
    | cons p r =>
      rw [PyFlat.calls] at h
      cases q : PyFlat.call PyVasnpe.shape (p :: r) with
      | none => rw [q] at h; cases h
      | some ct =>
        obtain ⟨c, t⟩ := ct
        rw [q] at h
        simp only at h
        cases q2 : PyFlat.calls PyVasnpe.shape f t with
        | none => rw [q2] at h; cases h
        | some cs' =>
          rw [q2] at h
          cases h
          obtain ⟨k, hk, tk⟩ := told_of q
          obtain ⟨ks, l1, l2, l3⟩ := ih q2
          refine ⟨k :: ks, .cons tk l1, by simp [l2], fun s => ?_⟩
          rw [List.map_cons, PyFlat.played, playedC]
          have e : VasnpeNeutral.step s (PyVasnpe.whole c) = Vasnpe.step s k := by
            unfold VasnpeNeutral.step
            rw [hk]
            rfl
          rw [e, l3]
theorem answers_of {l : List Int} (ha : PyVasnpe.answers_asked l = true) : ∃ ks, Line l ks ∧ ks.length ≤ 60 ∧ PyVasnpe.answers l = PyFlat.told (playedC Vasnpe.start ks) := by
  unfold PyVasnpe.answers_asked at ha
  unfold PyVasnpe.answers
  cases q : PyVasnpe.calls l with
  | none => rw [q] at ha; cases ha
  | some cs =>
    rw [q] at ha
    simp only at ha
    unfold PyVasnpe.calls at q
    cases q2 : PyFlat.calls PyVasnpe.shape l.length l with
    | none => rw [q2] at q; cases q
    | some cs' =>
      rw [q2] at q
      cases q
      obtain ⟨ks, l1, l2, l3⟩ := line_of _ q2
      refine ⟨ks, l1, ?_, ?_⟩
      · have h1 := (Bool.and_eq_true_iff.mp ha).1
        unfold PyFlat.atMost at h1
        have h2 := of_decide_eq_true h1
        rw [List.length_map] at h2
        omega
      · simp only
        rw [← l3]
        rfl
theorem told_cons (a : List Int) (l : List (List Int)) : PyFlat.told (a :: l) = (a.length : Int) :: a ++ PyFlat.told l := rfl
end Hc
set_option linter.all false
set_option Elab.async false
namespace Hc
theorem take_snoc {α : Type} : ∀ {l : List α} {i : Nat} {x : α}, l[i]? = some x → l.take (i + 1) = l.take i ++ [x]
  | [], i, x, h => by simp at h
  | a :: l, 0, x, h => by
    have e : a = x := Option.some.inj h
    subst e
    rfl
  | a :: l, i + 1, x, h => by
    have ih := take_snoc (l := l) (i := i) (x := x) h
    show a :: l.take (i + 1) = a :: l.take i ++ [x]
    rw [ih]
    rfl
theorem drop_cons {α : Type} : ∀ {l : List α} {i : Nat} {x : α}, l[i]? = some x → l.drop i = x :: l.drop (i + 1)
  | [], i, x, h => by simp at h
  | a :: l, 0, x, h => by
    have e : a = x := Option.some.inj h
    subst e
    rfl
  | a :: l, i + 1, x, h => by
    have ih := drop_cons (l := l) (i := i) (x := x) h
    show l.drop i = x :: l.drop (i + 1)
    exact ih
theorem ix_uniq {l : List Nat} (nd : l.Nodup) {i j o : Nat} (hi : l[i]? = some o) (hj : l[j]? = some o) : i = j := by
  obtain ⟨h1, e1⟩ := List.getElem?_eq_some_iff.mp hi
  obtain ⟨h2, e2⟩ := List.getElem?_eq_some_iff.mp hj
  exact (List.getElem_inj nd).mp (e1.trans e2.symm)
theorem filter_ne_self {l : List Nat} {o : Nat} (h : o ∉ l) : l.filter (fun s => s != o) = l :=
  List.filter_eq_self.mpr fun a ha => by
    have : a ≠ o := fun z => h (z ▸ ha)
    simpa using this
theorem erase_filter : ∀ {l : List Nat} {j o : Nat}, l.Nodup → l[j]? = some o → l.eraseIdx j = l.filter (fun s => s != o)
  | [], j, o, _, h => by simp at h
  | a :: l, 0, o, nd, h => by
    have e : a = o := by simpa using h
    subst e
    have n := List.nodup_cons.mp nd
    rw [List.eraseIdx_cons_zero, List.filter_cons_of_neg (by simp), filter_ne_self n.1]
  | a :: l, j + 1, o, nd, h => by
    have n := List.nodup_cons.mp nd
    have h' : l[j]? = some o := by simpa using h
    have hne : a ≠ o := fun z => n.1 (z ▸ List.mem_of_getElem? h')
    rw [List.eraseIdx_cons_succ, List.filter_cons_of_pos (by simpa using hne), erase_filter n.2 h']
theorem filterMap_take_snoc {l : List (Option Nat)} {i : Nat} {x : Option Nat} (h : l[i]? = some x) : ((l.take (i + 1)).filterMap fun y => y) = ((l.take i).filterMap fun y => y) ++ x.toList := by
  rw [take_snoc h, List.filterMap_append]
  cases x <;> rfl
theorem map_get {α β : Type} {f : α → β} {l : List α} {i : Nat} {y : β} (h : (l.map f)[i]? = some y) : ∃ x, l[i]? = some x ∧ y = f x := by
  rw [List.getElem?_map] at h
  cases e : l[i]? with
  | none => rw [e] at h; cases h
  | some x => rw [e] at h; exact ⟨x, rfl, (Option.some.inj h).symm⟩
theorem foldl_take {α β : Type} {f : β → α → β} {z : β} {l : List α} {i : Nat} {x : α} (h : l[i]? = some x) : (l.take (i + 1)).foldl f z = f ((l.take i).foldl f z) x := by
  rw [take_snoc h, List.foldl_append]; rfl
open Vasnpe
def moreAll (h : Vasnpe.Heap) (l : List Nat) : Vasnpe.Heap := l.foldl (fun h o => moreOf h (some o)) h
theorem moreAll_opt (h : Vasnpe.Heap) (x : Option Nat) : moreAll h (opt x) = moreOf h x := by cases x <;> rfl
theorem S_snoc (l : List Nat) (x : Nat) (f : Nat → Nat) : S (l ++ [x]) f = S l f + f x := by
  induction l with
  | nil => simp [S_cons, S_nil]
  | cons a l ih => rw [List.cons_append, S_cons, S_cons, ih]; omega
theorem ins_take {h : Vasnpe.Heap} {l : List Nat} {i x : Nat} (e : l[i]? = some x) (t : Nat) : ins h (l.take (i + 1)) t = ins h (l.take i) t + (inSlots h x).count t := by
  unfold ins
  rw [take_snoc e, S_snoc]
theorem heldIds_mem {h : Vasnpe.Heap} (hl : h.cells.length = 32) {o : Nat} : o ∈ heldIds h ↔ ∃ c, cellAt h o = some c := by
  unfold heldIds
  rw [List.mem_filter, isHeld_iff]
  exact ⟨fun z => z.2, fun ⟨c, e⟩ => ⟨List.mem_range.mpr (by have := cell_lt e; rw [hl] at this; exact this), c, e⟩⟩
theorem heldIds_nodup (h : Vasnpe.Heap) : (heldIds h).Nodup := List.nodup_range.filter _
theorem heldIds_len (h : Vasnpe.Heap) : (heldIds h).length ≤ 32 := by
  have := List.length_filter_le (isHeld h) (List.range CELLS)
  have e : (List.range CELLS).length = 32 := rfl
  unfold heldIds
  omega
theorem heldIds_congr {h h' : Vasnpe.Heap} (e : ∀ o, (cellAt h o).isSome = (cellAt h' o).isSome) : heldIds h = heldIds h' := by
  unfold heldIds
  congr 1
  funext o
  exact e o
theorem len_set_some {h : Vasnpe.Heap} {o : Nat} {c c' : Cell} (e : cellAt h o = some c) : heldIds (setCell h o (some c')) = heldIds h := heldIds_congr fun x => by
  rw [cellAt_set _ (cell_lt e)]
  by_cases ex : x = o
  · subst ex; rw [if_pos rfl, e]; rfl
  · rw [if_neg ex]
theorem len_filter_point {l : List Nat} {p q : Nat → Bool} {o : Nat} (nd : l.Nodup) (ho : o ∈ l) (hp : p o = true) (hq : q o = false) (h : ∀ x, x ≠ o → q x = p x) : (l.filter q).length + 1 = (l.filter p).length := by
  induction l with
  | nil => simp at ho
  | cons a l ih =>
    have n := List.nodup_cons.mp nd
    by_cases e : a = o
    · subst e
      rw [List.filter_cons_of_neg (by simp [hq]), List.filter_cons_of_pos hp, List.length_cons]
      have z : l.filter q = l.filter p := List.filter_congr fun x hx => h x fun z => n.1 (z ▸ hx)
      rw [z]
    · have ho' : o ∈ l := by
        rcases List.mem_cons.mp ho with z | z
        · exact absurd z.symm e
        · exact z
      have i := ih n.2 ho'
      cases k : p a with
      | true => rw [List.filter_cons_of_pos k, List.filter_cons_of_pos (by rw [h a e]; exact k), List.length_cons, List.length_cons, i]
      | false =>
        have k2 : q a = false := by rw [h a e]; exact k
        rw [List.filter_cons_of_neg (p := q) (by simp [k2]), List.filter_cons_of_neg (p := p) (by simp [k]), i]
theorem len_set_none {h : Vasnpe.Heap} {o : Nat} {c : Cell} (hl : h.cells.length = 32) (e : cellAt h o = some c) : (heldIds (setCell h o none)).length + 1 = (heldIds h).length := by
  have hc := cell_lt e
  refine len_filter_point List.nodup_range (List.mem_range.mpr (by rw [hl] at hc; exact hc)) ?_ ?_ fun x hx => ?_
  · unfold isHeld; rw [e]; rfl
  · unfold isHeld; rw [cellAt_set _ hc, if_pos rfl]; rfl
  · unfold isHeld; rw [cellAt_set _ hc, if_neg hx]
theorem len_set_new {h : Vasnpe.Heap} {o : Nat} {c : Cell} (hl : h.cells.length = 32) (ho : o < 32) (e : cellAt h o = none) : (heldIds (setCell h o (some c))).length = (heldIds h).length + 1 := by
  have hc : o < h.cells.length := by omega
  refine (len_filter_point (p := isHeld (setCell h o (some c))) (q := isHeld h) List.nodup_range (List.mem_range.mpr ho) ?_ ?_ fun x hx => ?_).symm
  · unfold isHeld; rw [cellAt_set _ hc, if_pos rfl]; rfl
  · unfold isHeld; rw [e]; rfl
  · unfold isHeld; rw [cellAt_set _ hc, if_neg hx]
end Hc
set_option linter.all false
set_option Elab.async false
namespace Hc
open Vasnpe
theorem sorted_is {ns' : List Int} {ms : List Nat} {p : Nat → Bool} (perm : ns'.Perm (ms.map fun (n : Nat) => (n : Int))) (hs : ns'.Pairwise (· ≤ ·)) (nd : ms.Nodup) (mem : ∀ o, o ∈ ms ↔ o < 32 ∧ p o = true) :
    ns' = ((List.range 32).filter p).map fun (n : Nat) => (n : Int) := by
  refine List.Perm.eq_of_pairwise (le := fun a b : Int => a ≤ b) (fun a b _ _ h1 h2 => by omega) hs ?_ (perm.trans ?_)
  · refine List.Pairwise.map _ (R := fun a b : Nat => a < b) (fun a b h => by show (a : Int) ≤ (b : Int); omega) (List.pairwise_lt_range.filter _)
  · refine List.Perm.map _ ((List.perm_ext_iff_of_nodup nd (List.nodup_range.filter _)).mpr fun a => ?_)
    rw [List.mem_filter, List.mem_range]
    exact mem a
theorem sorted_held {h : Vasnpe.Heap} (hl : h.cells.length = 32) {ns' : List Int} {ms : List Nat} (perm : ns'.Perm (ms.map fun (n : Nat) => (n : Int))) (hs : ns'.Pairwise (· ≤ ·)) (nd : ms.Nodup) (mem : ∀ o, o ∈ ms ↔ ∃ c, cellAt h o = some c) : ns' = (heldIds h).map fun (n : Nat) => (n : Int) :=
  sorted_is perm hs nd fun o => by
    rw [mem, isHeld_iff]
    exact ⟨fun ⟨c, e⟩ => ⟨by have := cell_lt e; rw [hl] at this; exact this, c, e⟩, fun z => z.2⟩
theorem regsFull_held {h : Vasnpe.Heap} (G : Good h []) : HeldAll h (h.regs.filterMap fun x => x) := fun o ho => by
  obtain ⟨x, hx, e⟩ := List.mem_filterMap.mp ho
  have e' : x = some o := e
  subst e'
  exact G.mreg hx
def liveAll (h : Vasnpe.Heap) : List Nat := reach h (h.regs.filterMap fun x => x)
theorem liveAll_held {h : Vasnpe.Heap} (G : Good h []) : HeldAll h (liveAll h) := reach_held G (regsFull_held G)
theorem liveAll_nodup {h : Vasnpe.Heap} (G : Good h []) : (liveAll h).Nodup := reach_nodup G (regsFull_held G)
theorem liveIds_eq (h : Vasnpe.Heap) : liveIds h = (heldIds h).filter fun o => (liveAll h).contains o := rfl
theorem sorted_live {h : Vasnpe.Heap} (G : Good h []) {ns' : List Int} (perm : ns'.Perm ((liveAll h).map fun (n : Nat) => (n : Int))) (hs : ns'.Pairwise (· ≤ ·)) : ns' = (liveIds h).map fun (n : Nat) => (n : Int) := by
  have e : liveIds h = (List.range 32).filter fun o => isHeld h o && (liveAll h).contains o := by
    rw [liveIds_eq]
    unfold heldIds
    rw [List.filter_filter, show CELLS = 32 from rfl]
    congr 1
    funext o
    exact Bool.and_comm _ _
  rw [e]
  refine sorted_is perm hs (liveAll_nodup G) fun o => ?_
  rw [Bool.and_eq_true, isHeld_iff, List.contains_iff_mem]
  exact ⟨fun z => ⟨(liveAll_held G).lt G o z, liveAll_held G o z, z⟩, fun z => z.2.2⟩
theorem waste_eq2 {h : Vasnpe.Heap} : wasteIds h = (heldIds h).filter fun o => !(liveIds h).contains o := rfl
theorem outside_int {h : Vasnpe.Heap} (G : Good h []) (o : Nat) : ((outside h (field h) o : Nat) : Int) = (cntOf h o : Int) - (ins h (field h) o : Int) := by
  have h1 := field_ins G o
  rw [outside_eq]
  omega
def placeOf (h : Vasnpe.Heap) (o : Nat) : Nat := ((heldIds h).findIdx? fun x => x == o).getD 0
def slotRow (h : Vasnpe.Heap) (p : Option Nat × Nat) : List Nat := match p.1 with
  | some t => [p.2, 0, placeOf h t]
  | none => []
def cellRow (h : Vasnpe.Heap) (c : Cell) : List Nat := c.kind :: c.size :: (c.slots.filterMap fun x => x).length :: c.slots.zipIdx.flatMap (slotRow h)
theorem fields_len (f : Option Nat × Nat → Option Vasnpa.Field) (hf : ∀ p, (f p).isSome = p.1.isSome) : ∀ (l : List (Option Nat)) (n : Nat), ((l.zipIdx n).filterMap f).length = (l.filterMap fun x => x).length
  | [], n => rfl
  | x :: l, n => by
    have ih := fields_len f hf l (n + 1)
    rw [List.zipIdx_cons]
    have q := hf (x, n)
    cases x with
    | none =>
      have e : f (none, n) = none := by simpa using q
      have z : (none :: l).filterMap (fun x => x) = l.filterMap fun x => x := rfl
      rw [List.filterMap_cons_none e, z, ih]
    | some t =>
      obtain ⟨v, e⟩ := Option.isSome_iff_exists.mp (show (f (some t, n)).isSome = true from q)
      have z : (some t :: l).filterMap (fun x => x) = t :: l.filterMap fun x => x := rfl
      rw [List.filterMap_cons_some e, z, List.length_cons, List.length_cons, ih]
def fld (h : Vasnpe.Heap) (s : Option Nat × Nat) : Option Vasnpa.Field := s.1.map fun t => { label := s.2, weak := false, to := placeOf h t }
def obj (h : Vasnpe.Heap) (o : Nat) : Option Vasnpa.Obj := (cellAt h o).map fun c => { kind := c.kind, size := c.size, fields := c.slots.zipIdx.filterMap (fld h) }
def objRow (h : Vasnpe.Heap) (o : Nat) : List Nat := match cellAt h o with
  | some c => cellRow h c
  | none => []
theorem fields_flat (h : Vasnpe.Heap) : ∀ (l : List (Option Nat)) (n : Nat), ((l.zipIdx n).filterMap (fld h)).flatMap (fun f => [f.label, Vasnpa.bit f.weak, f.to]) = (l.zipIdx n).flatMap (slotRow h)
  | [], n => rfl
  | none :: l, n => by
    rw [List.zipIdx_cons, List.filterMap_cons_none (f := fld h) rfl, fields_flat h l (n + 1), List.flatMap_cons]; rfl
  | some t :: l, n => by
    rw [List.zipIdx_cons, List.filterMap_cons_some (f := fld h) (b := { label := n, weak := false, to := placeOf h t }) rfl, List.flatMap_cons, List.flatMap_cons, fields_flat h l (n + 1)]; rfl
def placeO (h : Vasnpe.Heap) (x : Option Nat) : Option Nat := x.map (placeOf h)
theorem row_flat {h : Vasnpe.Heap} (hl : h.cells.length = 32) : Vasnpa.flatGraph (graphOf h) = (heldIds h).length :: ((heldIds h).flatMap (objRow h) ++ (h.regs.filterMap fun x => x).length :: (h.regs.filterMap fun x => x).map (placeOf h)) := by
  have objs : ∀ l : List Nat, (∀ o, o ∈ l → ∃ c, cellAt h o = some c) → (l.filterMap (obj h)).length = l.length ∧
      (l.filterMap (obj h)).flatMap (fun x => x.kind :: x.size :: x.fields.length :: x.fields.flatMap fun f => [f.label, Vasnpa.bit f.weak, f.to]) = l.flatMap (objRow h) := by
    intro l
    induction l with
    | nil => exact fun _ => ⟨rfl, rfl⟩
    | cons o l ih =>
      intro k
      obtain ⟨c, e⟩ := k o (by simp)
      obtain ⟨i1, i2⟩ := ih fun x hx => k x (by simp [hx])
      have e2 : obj h o = some { kind := c.kind, size := c.size, fields := c.slots.zipIdx.filterMap (fld h) } := by unfold obj; rw [e]; rfl
      rw [List.filterMap_cons_some (f := obj h) e2]
      refine ⟨by rw [List.length_cons, List.length_cons, i1], ?_⟩
      rw [List.flatMap_cons, List.flatMap_cons, i2]
      congr 1
      unfold objRow
      simp only [e]
      unfold cellRow
      rw [fields_len (fld h) (fun p => by unfold fld; cases p.1 <;> rfl), fields_flat]
  have regs : ∀ l : List (Option Nat), l.filterMap (placeO h) = (l.filterMap fun x => x).map (placeOf h) := by
    intro l
    induction l with
    | nil => rfl
    | cons x l ih =>
      cases x with
      | none =>
        have z : (none :: l).filterMap (fun x => x) = l.filterMap fun x => x := rfl
        rw [List.filterMap_cons_none (f := placeO h) rfl, z, ih]
      | some t =>
        have z : (some t :: l).filterMap (fun x => x) = t :: l.filterMap fun x => x := rfl
        rw [List.filterMap_cons_some (f := placeO h) (b := placeOf h t) rfl, z, List.map_cons, ih]
  obtain ⟨o1, o2⟩ := objs (heldIds h) fun o ho => (heldIds_mem hl).mp ho
  have eg : graphOf h = { objs := (heldIds h).filterMap (obj h), roots := h.regs.filterMap (placeO h) } := rfl
  unfold Vasnpa.flatGraph
  rw [eg]
  simp only
  rw [o1, o2, regs, List.length_map]
theorem placeOf_ix {h : Vasnpe.Heap} {i o : Nat} (e : (heldIds h)[i]? = some o) : placeOf h o = i := by
  obtain ⟨hi, eo⟩ := List.getElem?_eq_some_iff.mp e
  unfold placeOf
  have : (heldIds h).findIdx? (fun x => x == o) = some i := by
    rw [List.findIdx?_eq_some_iff_getElem]
    refine ⟨hi, by rw [eo]; exact beq_self_eq_true o, fun j hj => ?_⟩
    intro z
    have ej : (heldIds h)[j]? = some o := by
      rw [List.getElem?_eq_getElem (by omega)]
      exact congrArg some (eq_of_beq z)
    have := ix_uniq (heldIds_nodup h) ej e
    omega
  rw [this]; rfl
end Hc
set_option linter.all false
set_option Elab.async false
namespace Hc
open Vasnpe
def szs (h : Vasnpe.Heap) (o : Nat) : Option Nat := (cellAt h o).map (·.size)
theorem zOf_szs (h : Vasnpe.Heap) (o : Nat) : zOf h o = (szs h o).getD 0 := by
  unfold zOf szs
  cases cellAt h o <;> rfl
theorem isHeld_szs (h : Vasnpe.Heap) (o : Nat) : isHeld h o = (szs h o).isSome := by
  unfold isHeld szs
  cases cellAt h o <;> rfl
theorem S_filter (p : Nat → Bool) (z : Nat → Nat) : ∀ l : List Nat, S (l.filter p) z = S l fun x => if p x = true then z x else 0
  | [] => rfl
  | a :: l => by
    have ih := S_filter p z l
    by_cases e : p a = true
    · rw [List.filter_cons_of_pos e, S_cons, S_cons, ih, if_pos e]
    · rw [List.filter_cons_of_neg e, S_cons, ih, if_neg e, Nat.zero_add]
theorem S_one : ∀ l : List Nat, S l (fun _ => 1) = l.length
  | [] => rfl
  | a :: l => by rw [S_cons, S_one l, List.length_cons]; omega
theorem held_point {h h' : Vasnpe.Heap} {o : Nat} (z : Nat → Nat) (ho : o < 32) (e : ∀ y, y ≠ o → isHeld h' y = isHeld h y) :
    S (heldIds h') z + (if isHeld h o = true then z o else 0) = S (heldIds h) z + (if isHeld h' o = true then z o else 0) := by
  unfold heldIds
  rw [S_filter, S_filter]
  exact S_point (l := List.range 32) (f := fun x => if isHeld h x = true then z x else 0) (g := fun x => if isHeld h' x = true then z x else 0) List.nodup_range (List.mem_range.mpr ho) fun y hy => by
    show (if isHeld h' y = true then z y else 0) = if isHeld h y = true then z y else 0
    rw [e y hy]
theorem heldIds_szs {h h' : Vasnpe.Heap} (e : ∀ o, szs h o = szs h' o) : heldIds h = heldIds h' := by
  unfold heldIds
  congr 1
  funext o
  rw [isHeld_szs, isHeld_szs, e]
theorem zOf_congr {h h' : Vasnpe.Heap} (e : ∀ o, szs h o = szs h' o) : zOf h = zOf h' := by
  funext o
  rw [zOf_szs, zOf_szs, e]
theorem less_held (n : Nat) : ∀ {h : Vasnpe.Heap} {pend done : List Nat} (z : Nat → Nat), h.cells.length = 32 → S (heldIds (lessOf n h pend done).1) z + S (lessOf n h pend done).2 z = S (heldIds h) z + S done z := by
  induction n with
  | zero => intro h pend done z _; rfl
  | succ n ih =>
    intro h pend done z hl
    cases pend with
    | nil => rw [less_nil]
    | cons o r =>
      cases eo : cellAt h o with
      | none =>
        have e : lessOf (n + 1) h (o :: r) done = lessOf n h r done := by rw [lessOf]; simp only [eo]
        rw [e]
        exact ih z hl
      | some c =>
        have hc := cell_lt eo
        by_cases h1 : c.count ≤ 1
        · rw [less_go eo h1, ih z (by show (h.cells.set o none).length = 32; rw [List.length_set]; exact hl), S_snoc]
          have q := held_point (h := h) (h' := goneHeap h o) (o := o) z (by omega) (fun y hy => by
            show (cellAt (setCell h o none) y).isSome = (cellAt h y).isSome
            rw [cellAt_set _ hc, if_neg hy])
          have e1 : isHeld h o = true := isHeld_iff.mpr ⟨c, eo⟩
          have e2 : isHeld (goneHeap h o) o = false := by
            show (cellAt (setCell h o none) o).isSome = false
            rw [cellAt_set _ hc, if_pos rfl]; rfl
          rw [e1, e2, if_pos rfl, if_neg (by decide)] at q
          omega
        · rw [less_dec eo h1, ih z (by show (h.cells.set o _).length = 32; rw [List.length_set]; exact hl)]
          have : heldIds (decHeap h o c) = heldIds h := len_set_some eo
          rw [this]
theorem less_sizes (n : Nat) {h : Vasnpe.Heap} {pend done : List Nat} (hl : h.cells.length = 32) (hl' : (lessOf n h pend done).1.cells.length = 32) : S (heldIds (lessOf n h pend done).1) (zOf (lessOf n h pend done).1) = S (heldIds (lessOf n h pend done).1) (zOf h) := by
  refine S_congr fun x hx => ?_
  obtain ⟨d, ed⟩ := (heldIds_mem hl').mp hx
  obtain ⟨c, ec, _, e2, _⟩ := less_old n ed
  rw [zOf_szs, zOf_szs, szs, szs, ed, ec, Option.map_some, Option.map_some, e2]
theorem szs_set {h : Vasnpe.Heap} {o : Nat} {c : Cell} (c' : Cell) (e : cellAt h o = some c) (es : c'.size = c.size) (x : Nat) : szs (setCell h o (some c')) x = szs h x := by
  unfold szs
  rw [cellAt_set _ (cell_lt e)]
  by_cases q : x = o
  · rw [if_pos q, q, e, Option.map_some, Option.map_some, es]
  · rw [if_neg q]
theorem szs_more (h : Vasnpe.Heap) (x : Option Nat) (o : Nat) : szs (moreOf h x) o = szs h o := by
  cases x with
  | none => rfl
  | some t =>
    cases e : cellAt h t with
    | none => unfold moreOf; simp only [e]
    | some c =>
      rw [moreOf_some e]
      exact szs_set { c with count := c.count + 1 } e rfl o
theorem szs_store (h : Vasnpe.Heap) (o i : Nat) (x : Option Nat) (t : Nat) : szs (storeHeap h o i x) t = szs h t := by
  unfold storeHeap
  cases e : cellAt (moreOf h x) o with
  | none => simp only; exact szs_more h x t
  | some d =>
    simp only
    rw [szs_set { d with slots := d.slots.set i x } e rfl, szs_more]
theorem more_len (h : Vasnpe.Heap) (x : Option Nat) : (moreOf h x).cells.length = h.cells.length := by
  cases x with
  | none => rfl
  | some t =>
    cases e : cellAt h t with
    | none => unfold moreOf; simp only [e]
    | some c =>
      rw [moreOf_some e]
      show (h.cells.set t _).length = _
      rw [List.length_set]
theorem store_len (h : Vasnpe.Heap) (o i : Nat) (x : Option Nat) : (storeHeap h o i x).cells.length = h.cells.length := by
  unfold storeHeap
  cases e : cellAt (moreOf h x) o with
  | none => simp only; exact more_len h x
  | some d =>
    simp only
    show ((moreOf h x).cells.set o _).length = _
    rw [List.length_set, more_len]
structure TotInv (s : Vasnpe.State) : Prop where
  num : s.totals.made = s.totals.gone + (heldIds s.heap).length
  siz : s.totals.madeSize = s.totals.goneSize + S (heldIds s.heap) (zOf s.heap)
theorem tot_start : TotInv start := ⟨by decide, by decide⟩
structure Bal (h : Vasnpe.Heap) (res : Vasnpe.Heap × List Nat) (a b : Nat) : Prop where
  num : (heldIds res.1).length + res.2.length = (heldIds h).length + a
  siz : S (heldIds res.1) (zOf res.1) + S res.2 (zOf h) = S (heldIds h) (zOf h) + b
theorem bal_less {h h0 : Vasnpe.Heap} {x : Option Nat} (e : ∀ o, szs h0 o = szs h o) (hl : h0.cells.length = 32) (G : Good (lessOf FUEL h0 (opt x) []).1 []) : Bal h (lessOf FUEL h0 (opt x) []) 0 0 := by
  have q := fun z => less_held FUEL (h := h0) (pend := opt x) (done := []) z hl
  refine ⟨?_, ?_⟩
  · have := q fun _ => 1
    rw [S_one, S_one, S_one, heldIds_szs e] at this
    exact this
  · have := q (zOf h0)
    rw [less_sizes FUEL hl G.clen, ← zOf_congr e, ← heldIds_szs e]
    exact this
theorem bal_give {h : Vasnpe.Heap} {r : Nat} {x : Option Nat} (hl : h.cells.length = 32) (G : Good (giveReg h r x).1 []) : Bal h (giveReg h r x) 0 0 := by
  rw [give_eq] at G ⊢
  refine bal_less (fun o => szs_more h x o) ?_ G
  show (moreOf h x).cells.length = 32
  rw [more_len]; exact hl
theorem bal_new {h : Vasnpe.Heap} {k z n : Int} {o r : Nat} (G : Good h []) (g : goodNew k z n = true) (e : freeId h = some o) (hr : r < 8) : Bal h (giveReg (setCell h o (some (newCell k z n))) r (some o)) 1 z.toNat := by
  have g1 := good_newH G g e
  obtain ⟨ho, en, _⟩ := free_some.mp e
  have hl : o < h.cells.length := by rw [G.clen]; exact ho
  have ec : cellAt (setCell h o (some (newCell k z n))) o = some (newCell k z n) := by rw [cellAt_set _ hl, if_pos rfl]
  have g2 : Good (giveReg (setCell h o (some (newCell k z n))) r (some o)).1 [] := good_give hr g1 fun x hx => by
    obtain rfl := Option.some.inj hx
    exact ⟨_, ec⟩
  have b := bal_give (r := r) (x := some o) g1.clen g2
  have e0 : isHeld h o = false := by unfold isHeld; rw [en]; rfl
  have e1 : isHeld (setCell h o (some (newCell k z n))) o = true := isHeld_iff.mpr ⟨_, ec⟩
  have hp := fun w => held_point (h := h) (h' := setCell h o (some (newCell k z n))) w ho fun y hy => by
    unfold isHeld
    rw [cellAt_set _ hl, if_neg hy]
  have hno : o ∉ (giveReg (setCell h o (some (newCell k z n))) r (some o)).2 := fun hm => by
    obtain ⟨d, ed, _⟩ := new_there G g e hr
    have : cellAt (giveReg (setCell h o (some (newCell k z n))) r (some o)).1 o = none := by
      rw [give_eq] at hm ⊢
      exact less_dead _ (fun q hq => by simp at hq) o hm
    rw [ed] at this
    cases this
  refine ⟨?_, ?_⟩
  · have h1 := hp fun _ => 1
    have h2 := b.num
    rw [e0, e1, if_pos rfl, if_neg (by decide), S_one, S_one] at h1
    omega
  · have h1 := hp (zOf (setCell h o (some (newCell k z n))))
    have h2 := b.siz
    rw [e0, e1, if_pos rfl, if_neg (by decide)] at h1
    have z1 : zOf (setCell h o (some (newCell k z n))) o = z.toNat := by unfold zOf; rw [ec]; rfl
    have z2 : ∀ x, x ≠ o → zOf (setCell h o (some (newCell k z n))) x = zOf h x := fun x hx => by
      unfold zOf
      rw [cellAt_set _ hl, if_neg hx]
    have z3 : S (heldIds h) (zOf (setCell h o (some (newCell k z n)))) = S (heldIds h) (zOf h) := S_congr fun x hx => z2 x fun q => by
      obtain ⟨c, e'⟩ := (heldIds_mem G.clen).mp hx
      rw [q, en] at e'
      cases e'
    have z4 : S (giveReg (setCell h o (some (newCell k z n))) r (some o)).2 (zOf (setCell h o (some (newCell k z n)))) = S (giveReg (setCell h o (some (newCell k z n))) r (some o)).2 (zOf h) := S_congr fun x hx => z2 x fun q => hno (q ▸ hx)
    rw [z4] at h2
    rw [z1, z3] at h1
    omega
theorem bal_collect {h : Vasnpe.Heap} (G : Good h []) : Bal h (lessFor h (going h), going h) 0 0 := by
  have G' := good_collect G
  have mem : ∀ x, x ∈ heldIds (lessFor h (going h)) ↔ x ∈ (heldIds h).filter fun y => !(going h).contains y := fun x => by
    rw [heldIds_mem G'.clen, List.mem_filter, heldIds_mem G.clen, cells_lessFor]
    by_cases e : x ∈ going h
    · rw [if_pos e]
      have : (going h).contains x = true := List.contains_iff_mem.mpr e
      rw [this]
      exact ⟨fun ⟨c, z⟩ => (by cases z), fun z => (by cases z.2)⟩
    · rw [if_neg e]
      have : (going h).contains x = false := by
        cases q : (going h).contains x with
        | false => rfl
        | true => exact absurd (List.contains_iff_mem.mp q) e
      rw [this]
      constructor
      · rintro ⟨c, z⟩
        cases q : cellAt h x with
        | none => rw [q] at z; cases z
        | some d => exact ⟨⟨d, rfl⟩, rfl⟩
      · rintro ⟨⟨d, q⟩, _⟩
        rw [q]; exact ⟨_, rfl⟩
  have perm : (heldIds (lessFor h (going h))).Perm ((heldIds h).filter fun y => !(going h).contains y) := (List.perm_ext_iff_of_nodup (heldIds_nodup _) ((heldIds_nodup h).filter _)).mpr mem
  have q := fun z => S_sub (f := z) (going_nodup G) (heldIds_nodup h) fun x hx => (heldIds_mem G.clen).mpr (going_held G x hx)
  have zz : S (heldIds (lessFor h (going h))) (zOf (lessFor h (going h))) = S (heldIds (lessFor h (going h))) (zOf h) := S_congr fun x hx => by
    obtain ⟨d, ed⟩ := (heldIds_mem G'.clen).mp hx
    rw [zOf_szs, zOf_szs, szs, szs, ed]
    rw [cells_lessFor] at ed
    by_cases e : x ∈ going h
    · rw [if_pos e] at ed; cases ed
    · rw [if_neg e] at ed
      cases q : cellAt h x with
      | none => rw [q] at ed; cases ed
      | some c =>
        rw [q, Option.map_some] at ed
        obtain rfl := Option.some.inj ed
        rfl
  refine ⟨?_, ?_⟩
  · have := q fun _ => 1
    rw [← S_perm perm, S_one, S_one, S_one] at this
    show (heldIds (lessFor h (going h))).length + (going h).length = _
    omega
  · have := q (zOf h)
    rw [← S_perm perm] at this
    show S (heldIds (lessFor h (going h))) (zOf (lessFor h (going h))) + S (going h) (zOf h) = _
    rw [zz]
    omega
theorem bal_doI {h : Vasnpe.Heap} (G : Good h []) {p : IOp} (e : refuse h p = 0) : Bal h (doI h p) (madeI h p).length (madeZ p) := by
  have G' := good_doI G e
  cases p with
  | new r k z n =>
    obtain ⟨hR, hg, o, ho⟩ := new_ok e
    have := bal_new G hg ho (isR_lt hR)
    show Bal h (giveReg (setCell h ((freeId h).getD 0) (some (newCell k z n))) r.toNat (some ((freeId h).getD 0))) 1 z.toNat
    rw [ho]
    exact this
  | copy r s => exact bal_give G.clen G'
  | load r s i => exact bal_give G.clen G'
  | clear r => exact bal_give G.clen G'
  | store s i r =>
    have G2 : Good (dropOld (storeHeap h ((regAt h s.toNat).getD 0) i.toNat (regAt h r.toNat)) (slotIn h s i)).1 [] := G'
    show Bal h (dropOld (storeHeap h ((regAt h s.toNat).getD 0) i.toNat (regAt h r.toNat)) (slotIn h s i)) 0 0
    rw [dropOld_eq] at G2 ⊢
    exact bal_less (fun o => szs_store _ _ _ _ o) (by rw [store_len]; exact G.clen) G2
  | collect => exact bal_collect G
theorem tot_step {s : Vasnpe.State} (G : Good s.heap []) {p : IOp} (e : refuse s.heap p = 0) (t : TotInv s) : TotInv (stepI s p) := by
  have b := bal_doI G e
  have h1 := t.num
  have h2 := t.siz
  have h3 := b.num
  have h4 := b.siz
  refine ⟨?_, ?_⟩
  · show s.totals.made + (madeI s.heap p).length = s.totals.gone + (doI s.heap p).2.length + (heldIds (doI s.heap p).1).length
    omega
  · show s.totals.madeSize + madeZ p = s.totals.goneSize + Vasnpe.sizeOf s.heap (doI s.heap p).2 + S (heldIds (doI s.heap p).1) (zOf (doI s.heap p).1)
    rw [sizeOf_eq]
    have : S (doI s.heap p).2 (zOf s.heap) = ((doI s.heap p).2.map (zOf s.heap)).sum := rfl
    omega
end Hc
set_option linter.all false
set_option Elab.async false
namespace Hc
open Vasnpe
theorem zip_snoc {α : Type} {l : List α} {i : Nat} {x : α} (h : l[i]? = some x) : (l.take (i + 1)).zipIdx = (l.take i).zipIdx ++ [(x, i)] := by
  have hi : i < l.length := (List.getElem?_eq_some_iff.mp h).1
  rw [take_snoc h, List.zipIdx_append, List.length_take, Nat.min_eq_left (Nat.le_of_lt hi)]
  simp
theorem flat_snoc {α β : Type} {l : List α} {i : Nat} {x : α} (f : α → List β) (h : l[i]? = some x) : (l.take (i + 1)).flatMap f = (l.take i).flatMap f ++ f x := by
  rw [take_snoc h, List.flatMap_append]
  simp
theorem flat_len {α β : Type} {f : α → List β} {B : Nat} : ∀ {l : List α}, (∀ x, x ∈ l → (f x).length ≤ B) → (l.flatMap f).length ≤ B * l.length
  | [], _ => by simp
  | a :: l, h => by
    rw [List.flatMap_cons, List.length_append, List.length_cons]
    have h1 := h a (by simp)
    have h2 := flat_len (f := f) (B := B) (l := l) fun x hx => h x (by simp [hx])
    rw [Nat.mul_add]
    omega
theorem slots5 {h : Vasnpe.Heap} {pend : List Nat} (G : Good h pend) {o : Nat} {c : Cell} (e : cellAt h o = some c) : c.slots.length ≤ 5 := (G.shape o c e).2.2
theorem objectRow_some {h : Vasnpe.Heap} {o : Nat} {c : Cell} (e : cellAt h o = some c) : objectRow h o = [o, c.kind, c.size, c.count, c.slots.length] ++ c.slots.map optRow := by
  unfold objectRow
  rw [e]
theorem objectRow_len {h : Vasnpe.Heap} {pend : List Nat} (G : Good h pend) (o : Nat) : (objectRow h o).length ≤ 10 := by
  cases e : cellAt h o with
  | none => unfold objectRow; rw [e]; exact Nat.zero_le _
  | some c =>
    rw [objectRow_some e, List.length_append, List.length_map]
    have := slots5 G e
    show 5 + c.slots.length ≤ 10
    omega
theorem objects_len {h : Vasnpe.Heap} {pend : List Nat} (G : Good h pend) (l : List Nat) : (l.flatMap (objectRow h)).length ≤ 10 * l.length := flat_len fun x _ => objectRow_len G x
def trialPart (h : Vasnpe.Heap) (o : Nat) : List Nat := [o, outside h (field h) o, if (staying h).contains o = true then 1 else 0]
theorem trialRow_eq (h : Vasnpe.Heap) : trialRow h = (field h).flatMap (trialPart h) := rfl
theorem trial_len (h : Vasnpe.Heap) (l : List Nat) : (l.flatMap (trialPart h)).length ≤ 3 * l.length := flat_len fun x _ => Nat.le_refl 3
theorem slotRow_len (h : Vasnpe.Heap) (p : Option Nat × Nat) : (slotRow h p).length ≤ 3 := by
  obtain ⟨x, n⟩ := p
  cases x with
  | none => exact Nat.zero_le _
  | some t => exact Nat.le_refl 3
theorem slotRows_len (h : Vasnpe.Heap) (l : List (Option Nat)) : (l.zipIdx.flatMap (slotRow h)).length ≤ 3 * l.length := by
  have := flat_len (f := slotRow h) (B := 3) (l := l.zipIdx) fun p _ => slotRow_len h p
  rw [List.length_zipIdx] at this
  exact this
theorem objRow_some {h : Vasnpe.Heap} {o : Nat} {c : Cell} (e : cellAt h o = some c) : objRow h o = cellRow h c := by
  unfold objRow
  rw [e]
theorem objRow_len {h : Vasnpe.Heap} {pend : List Nat} (G : Good h pend) (o : Nat) : (objRow h o).length ≤ 18 := by
  cases e : cellAt h o with
  | none => unfold objRow; rw [e]; exact Nat.zero_le _
  | some c =>
    rw [objRow_some e]
    have h1 := slots5 G e
    have h2 := slotRows_len h c.slots
    unfold cellRow
    rw [List.length_cons, List.length_cons, List.length_cons]
    omega
theorem objRows_len {h : Vasnpe.Heap} {pend : List Nat} (G : Good h pend) (l : List Nat) : (l.flatMap (objRow h)).length ≤ 18 * l.length := flat_len fun x _ => objRow_len G x
def placesOf (l : List (Option Nat)) (o : Nat) : List Nat := (l.zipIdx.filter fun r => r.1 == some o).map (·.2)
theorem placesOf_len (l : List (Option Nat)) (o : Nat) : (placesOf l o).length ≤ l.length := by
  unfold placesOf
  rw [List.length_map]
  refine Nat.le_trans (List.length_filter_le ..) ?_
  rw [List.length_zipIdx]
  exact Nat.le_refl _
theorem placesOf_pos {l : List (Option Nat)} {o i : Nat} {x : Option Nat} (h : l[i]? = some x) (e : x = some o) : placesOf (l.take (i + 1)) o = placesOf (l.take i) o ++ [i] := by
  unfold placesOf
  rw [zip_snoc h, List.filter_append, List.filter_cons_of_pos (by simp [e]), List.filter_nil, List.map_append]
  rfl
theorem placesOf_neg {l : List (Option Nat)} {o i : Nat} {x : Option Nat} (h : l[i]? = some x) (e : x ≠ some o) : placesOf (l.take (i + 1)) o = placesOf (l.take i) o := by
  unfold placesOf
  rw [zip_snoc h, List.filter_append, List.filter_cons_of_neg (by simp [e]), List.filter_nil, List.append_nil]
def slotPairs (h : Vasnpe.Heap) (o x : Nat) : List (Nat × Nat) := match cellAt h x with
  | some c => (placesOf c.slots o).map fun p => (x, p)
  | none => []
theorem slotPairs_some {h : Vasnpe.Heap} {o x : Nat} {c : Cell} (e : cellAt h x = some c) : slotPairs h o x = (placesOf c.slots o).map fun p => (x, p) := by
  unfold slotPairs
  rw [e]
theorem slotPairs_len {h : Vasnpe.Heap} {pend : List Nat} (G : Good h pend) (o x : Nat) : (slotPairs h o x).length ≤ 5 := by
  cases e : cellAt h x with
  | none => unfold slotPairs; rw [e]; exact Nat.zero_le _
  | some c =>
    rw [slotPairs_some e, List.length_map]
    exact Nat.le_trans (placesOf_len _ _) (slots5 G e)
theorem pairs_flat_len {h : Vasnpe.Heap} {pend : List Nat} (G : Good h pend) (o : Nat) (l : List Nat) : (l.flatMap (slotPairs h o)).length ≤ 5 * l.length := flat_len fun x _ => slotPairs_len G o x
def slotPairs' (h : Vasnpe.Heap) (o x : Nat) : List (Nat × Nat) := match cellAt h x with
  | some c => (c.slots.zipIdx.filter fun s => s.1 == some o).map fun s => (x, s.2)
  | none => []
theorem slotPairs'_eq (h : Vasnpe.Heap) (o : Nat) : slotPairs' h o = slotPairs h o := by
  funext x
  unfold slotPairs' slotPairs placesOf
  cases cellAt h x with
  | none => rfl
  | some c => simp only [List.map_map]; rfl
theorem holdersRow_eq (h : Vasnpe.Heap) (o : Nat) : holdersRow h o = (placesOf h.regs o).length :: (placesOf h.regs o ++ ((heldIds h).flatMap (slotPairs h o)).length :: ((heldIds h).flatMap (slotPairs h o)).flatMap fun s => [s.1, s.2]) := by
  rw [← slotPairs'_eq]
  rfl
theorem two_len (l : List (Nat × Nat)) : (l.flatMap fun s => [s.1, s.2]).length ≤ 2 * l.length := flat_len fun x _ => Nat.le_refl 2
theorem sizeOf_S (h : Vasnpe.Heap) (l : List Nat) : Vasnpe.sizeOf h l = S l (zOf h) := sizeOf_eq h l
end Hc
set_option Elab.async false
set_option linter.all false
set_option maxRecDepth 100000
set_option maxHeartbeats 2000000
namespace Hc
open PySem PySem.Spec PyProof.Rows L2
abbrev lk (fs : List (Str × V)) (x : Str) : Option V := fs.lookup x
def iV (o : Nat) : V := .int (o : Int)
def oV : Option Nat → V
  | none => .non
  | some o => .int (o : Int)
abbrev nk (o : Nat) : Key := Sum.inl (o : Int)
theorem nk_inj {a b : Nat} (h : nk a = nk b) : a = b := by
  have := Sum.inl.inj h
  omega
abbrev AS := Addr → Prop
theorem as_eq {F : AS} {a b : Addr} (e : a = b) (h : F b) : F a := by rw [e]; exact h
structure Frm (F : AS) (H : Hp) (F' : AS) (H' : Hp) : Prop where
  keep : ∀ b o, H b = some o → ¬ F b → H' b = some o
  grow : ∀ b, F' b → F b ∨ H b = none
theorem Frm.refl {F : AS} {H : Hp} : Frm F H F H := ⟨fun _ _ e _ => e, fun _ h => .inl h⟩
theorem Frm.out {F F' : AS} {H H' : Hp} (f : Frm F H F' H') {b : Addr} {o : HO} (e : H b = some o) (n : ¬ F b) : ¬ F' b := fun h => by
  rcases f.grow b h with z | z
  · exact n z
  · rw [e] at z; cases z
theorem Frm.trans {F F1 F2 : AS} {H H1 H2 : Hp} (a : Frm F H F1 H1) (b : Frm F1 H1 F2 H2) : Frm F H F2 H2 where
  keep := fun c o e n => b.keep c o (a.keep c o e n) (a.out e n)
  grow := fun c h => by
    rcases b.grow c h with z | z
    · exact a.grow c z
    · cases q : H c with
      | none => exact .inr rfl
      | some o =>
        refine .inl (Classical.byContradiction fun n => ?_)
        rw [a.keep c o q n] at z; cases z
theorem Frm.same {F : AS} {H H' : Hp} (s : Same H H') : Frm F H F H' := ⟨fun b o e _ => s b o e, fun _ h => .inl h⟩
theorem same_new {H : Hp} {p : Addr} {o : HO} (n : H p = none) : Same H (upd H p o) := fun b u e => by
  rw [upd_ne (ne_of_none e n)]; exact e
theorem Frm.write {F : AS} {H : Hp} {p : Addr} {o : HO} (hp : F p) : Frm F H F (upd H p o) := ⟨fun b u e n => by
  rw [upd_ne (fun z => n (as_eq z hp))]; exact e, fun _ h => .inl h⟩
structure ThingAt (CT : Addr) (H : Hp) (a l : Addr) (o : Nat) (c : Vasnpe.Cell) : Prop where
  ex : ∃ dx fs, H a = some (.ins CT dx fs) ∧ fs.length < 100 ∧ lk fs "number" = some (iV o) ∧ lk fs "kind" = some (iV c.kind) ∧ lk fs "size" = some (iV c.size) ∧ lk fs "slots" = some (.ref l) ∧ lk fs "count" = some (iV c.count)
  sl : H l = some (.lst (c.slots.map oV))
structure Adr where
  ra : Addr
  ha : Addr
  sa : Addr
  tA : Nat → Addr
  sA : Nat → Addr
structure HeldAt (H : Hp) (ha : Addr) (tA : Nat → Addr) (h : Vasnpe.Heap) : Prop where
  ex : ∃ kvs : List (Key × V), H ha = some (.dK kvs) ∧ (kvs.map (·.1)).Nodup ∧ kvs.length ≤ 32 ∧ kvs.length = (Vasnpe.heldIds h).length ∧
    (∀ o c, Vasnpe.cellAt h o = some c → valV kvs (nk o) = some (.ref (tA o))) ∧ ∀ k v, valV kvs k = some v → ∃ o c, k = nk o ∧ Vasnpe.cellAt h o = some c
def isMac (x : Str) : Prop := x = "registers" ∨ x = "held" ∨ x = "suspects"
structure Rep (CM CT : Addr) (H : Hp) (m : Addr) (W : Str → Option V) (A : Adr) (h : Vasnpe.Heap) : Prop where
  mac : ∃ dx fs, H m = some (.ins CM dx fs) ∧ fs.length < 100 ∧ lk fs "registers" = some (.ref A.ra) ∧ lk fs "held" = some (.ref A.ha) ∧ lk fs "suspects" = some (.ref A.sa) ∧ ∀ x, ¬ isMac x → lk fs x = W x
  regs : H A.ra = some (.lst (h.regs.map oV))
  sus : H A.sa = some (.lst (h.suspects.map iV))
  held : HeldAt H A.ha A.tA h
  thing : ∀ o c, Vasnpe.cellAt h o = some c → ThingAt CT H (A.tA o) (A.sA o) o c
  sep : A.ra ≠ A.sa
  sepS : ∀ o c, Vasnpe.cellAt h o = some c → A.sA o ≠ A.ra ∧ A.sA o ≠ A.sa
  sepT : ∀ o o' c c', Vasnpe.cellAt h o = some c → Vasnpe.cellAt h o' = some c' → o ≠ o' → A.sA o ≠ A.sA o'
def Foot (A : Adr) (m : Addr) (h : Vasnpe.Heap) : AS := fun b => b = m ∨ b = A.ra ∨ b = A.sa ∨ b = A.ha ∨ ∃ o c, Vasnpe.cellAt h o = some c ∧ (b = A.tA o ∨ b = A.sA o)
def MachAt (CM CT : Addr) (H : Hp) (m : Addr) (W : Str → Option V) (F : AS) (h : Vasnpe.Heap) : Prop := ∃ A, Rep CM CT H m W A h ∧ F = Foot A m h
section
variable {CM CT : Addr} {H H' : Hp} {m : Addr} {W : Str → Option V} {A : Adr} {h : Vasnpe.Heap} {F : AS}
theorem Foot.mm : Foot A m h m := .inl rfl
theorem Foot.ra : Foot A m h A.ra := .inr (.inl rfl)
theorem Foot.sa : Foot A m h A.sa := .inr (.inr (.inl rfl))
theorem Foot.ha : Foot A m h A.ha := .inr (.inr (.inr (.inl rfl)))
theorem Foot.tA {o : Nat} {c : Vasnpe.Cell} (e : Vasnpe.cellAt h o = some c) : Foot A m h (A.tA o) := .inr (.inr (.inr (.inr ⟨o, c, e, .inl rfl⟩)))
theorem Foot.sA {o : Nat} {c : Vasnpe.Cell} (e : Vasnpe.cellAt h o = some c) : Foot A m h (A.sA o) := .inr (.inr (.inr (.inr ⟨o, c, e, .inr rfl⟩)))
theorem ThingAt.keep {a l : Addr} {o : Nat} {c : Vasnpe.Cell} (t : ThingAt CT H a l o c) (k1 : ∀ u, H a = some u → H' a = some u) (k2 : ∀ u, H l = some u → H' l = some u) : ThingAt CT H' a l o c := by
  obtain ⟨⟨dx, fs, e, r⟩, s⟩ := t
  exact ⟨⟨dx, fs, k1 _ e, r⟩, k2 _ s⟩
theorem HeldAt.keep {ha : Addr} {tA : Nat → Addr} (t : HeldAt H ha tA h) (k : ∀ u, H ha = some u → H' ha = some u) : HeldAt H' ha tA h := by
  obtain ⟨kvs, e, r⟩ := t
  exact ⟨kvs, k _ e, r⟩
theorem Rep.keep (R : Rep CM CT H m W A h) (k : ∀ b u, Foot A m h b → H b = some u → H' b = some u) : Rep CM CT H' m W A h where
  mac := by
    obtain ⟨dx, fs, e, r⟩ := R.mac
    exact ⟨dx, fs, k _ _ .mm e, r⟩
  regs := k _ _ .ra R.regs
  sus := k _ _ .sa R.sus
  held := R.held.keep (k _ · .ha)
  thing := fun o c e => (R.thing o c e).keep (k _ · (.tA e)) (k _ · (.sA e))
  sep := R.sep
  sepS := R.sepS
  sepT := R.sepT
theorem Rep.same (R : Rep CM CT H m W A h) (s : Same H H') : Rep CM CT H' m W A h := R.keep fun b u _ e => s b u e
theorem MachAt.keep (M : MachAt CM CT H m W F h) (k : ∀ b u, F b → H b = some u → H' b = some u) : MachAt CM CT H' m W F h := by
  obtain ⟨A, R, rfl⟩ := M
  exact ⟨A, R.keep k, rfl⟩
theorem MachAt.same (M : MachAt CM CT H m W F h) (s : Same H H') : MachAt CM CT H' m W F h := M.keep fun b u _ e => s b u e
theorem Rep.there (R : Rep CM CT H m W A h) {b : Addr} (f : Foot A m h b) : ∃ u, H b = some u := by
  rcases f with rfl | rfl | rfl | rfl | ⟨o, c, e, rfl | rfl⟩
  · obtain ⟨dx, fs, e, _⟩ := R.mac; exact ⟨_, e⟩
  · exact ⟨_, R.regs⟩
  · exact ⟨_, R.sus⟩
  · obtain ⟨kvs, e, _⟩ := R.held.ex; exact ⟨_, e⟩
  · obtain ⟨dx, fs, e', _⟩ := (R.thing o c e).ex; exact ⟨_, e'⟩
  · exact ⟨_, (R.thing o c e).sl⟩
theorem MachAt.there (M : MachAt CM CT H m W F h) {b : Addr} (f : F b) : ∃ u, H b = some u := by
  obtain ⟨A, R, rfl⟩ := M
  exact R.there f
theorem MachAt.fresh (M : MachAt CM CT H m W F h) {b : Addr} (n : H b = none) : ¬ F b := fun f => by
  obtain ⟨u, e⟩ := M.there f
  rw [n] at e; cases e
theorem MachAt.upd_out (M : MachAt CM CT H m W F h) {b : Addr} {o : HO} (n : ¬ F b) : MachAt CM CT (upd H b o) m W F h := M.keep fun c u f e => by
  rw [upd_ne (fun z => n (as_eq z.symm f))]; exact e
theorem Rep.thing_ne (R : Rep CM CT H m W A h) {o o' : Nat} {c c' : Vasnpe.Cell} (e : Vasnpe.cellAt h o = some c) (e' : Vasnpe.cellAt h o' = some c') (n : o ≠ o') : A.tA o ≠ A.tA o' := fun z => by
  obtain ⟨dx, fs, h1, _, h2, _⟩ := (R.thing o c e).ex
  obtain ⟨dx', fs', h1', _, h2', _⟩ := (R.thing o' c' e').ex
  rw [z, h1'] at h1
  cases h1
  rw [h2] at h2'
  have := Option.some.inj h2'
  have q : (o : Int) = (o' : Int) := V.int.inj this
  omega
end
theorem Rep.macE {CM CT : Addr} {H : Hp} {m : Addr} {W : Str → Option V} {A : Adr} {h : Vasnpe.Heap} {G : Prop} (R : Rep CM CT H m W A h)
    (k : ∀ dx fs, H m = some (.ins CM dx fs) → fs.length < 100 → lk fs "registers" = some (.ref A.ra) → lk fs "held" = some (.ref A.ha) → lk fs "suspects" = some (.ref A.sa) → (∀ x, ¬ isMac x → lk fs x = W x) → G) : G := by
  obtain ⟨dx, fs, a, b, c, d, e, f⟩ := R.mac
  exact k dx fs a b c d e f
theorem ThingAt.exE {CT : Addr} {H : Hp} {a l : Addr} {o : Nat} {c : Vasnpe.Cell} {G : Prop} (t : ThingAt CT H a l o c)
    (k : ∀ dx fs, H a = some (.ins CT dx fs) → fs.length < 100 → lk fs "number" = some (iV o) → lk fs "kind" = some (iV c.kind) → lk fs "size" = some (iV c.size) → lk fs "slots" = some (.ref l) → lk fs "count" = some (iV c.count) → G) : G := by
  obtain ⟨dx, fs, a, b, c, d, e, f, g⟩ := t.ex
  exact k dx fs a b c d e f g
theorem HeldAt.exE {H : Hp} {ha : Addr} {tA : Nat → Addr} {h : Vasnpe.Heap} {G : Prop} (t : HeldAt H ha tA h)
    (k : ∀ kvs : List (Key × V), H ha = some (.dK kvs) → (kvs.map (·.1)).Nodup → kvs.length ≤ 32 → kvs.length = (Vasnpe.heldIds h).length → (∀ o c, Vasnpe.cellAt h o = some c → valV kvs (nk o) = some (.ref (tA o))) → (∀ k v, valV kvs k = some v → ∃ o c, k = nk o ∧ Vasnpe.cellAt h o = some c) → G) : G := by
  obtain ⟨kvs, a, b, c, d, e, f⟩ := t.ex
  exact k kvs a b c d e f
end Hc
set_option Elab.async false
set_option linter.all false
set_option maxRecDepth 100000
set_option maxHeartbeats 2000000
namespace Hc
open PySem PySem.Spec PyProof.Rows L2
structure Callee (P : Program) (w : World) (K : PySem.W.Frag) (mg : Str → Option Value) (base : Heap) (k : Nat) (x : Str) (ps : List Str) (sp : Sp) : Prop where
  ex : ∃ f fd, FnOk P w K mg base CX0 k f fd ps sp ∧ mg x = some (.ref f) ∧ PySem.W.keepIn K (.ref f) = true ∧ Binds K fd ps []
section
variable {X : Cx} {k : Nat} {x : Str} {ps : List Str} {sp : Sp} {p pos : Pos} {e : Expr} {es : List Expr} {t : TA}
theorem pe_cal (C : Callee X.prog X.w X.K X.mg X.base k x ps sp) (hr : Room k X.A) (ha : PA X (e :: es) t) (hg : Gl X x := by rfl) (hdb : (x == ("__debug__" : Str)) = false := by decide)
    (he : starEach (e :: es) X.env = (false, eval e X.env) :: starEach es X.env := by rfl) (hpl : (backTo pos (starEach es X.env)).any (·.1) = false := by rfl) :
    PE X (.Call (.Name x p) (e :: es) [] pos) (tCall sp [] E0 t) := by
  obtain ⟨f, fd, F, hm, hk, hb⟩ := C
  exact pe_call F hr hg hm hk hb .nil pass0 ha hdb he hpl
end
theorem ints_kf : ∀ {ns : List Int} {us : List Value}, Vals (ns.map V.int) us → PySem.W.kf_ints us = true
  | [], _, .nil => rfl
  | n :: ns, _, .cons r t => by
    obtain ⟨tk, rfl⟩ := r
    exact (ints_kf t : PySem.W.kf_ints _ = true)
section
variable {X : Cx}
inductive rRemoveI (x : V) (vs : List V) (H : Hp) (Q : VK) : Prop
  | mk : ∀ (l : Addr) (ns : List Int) (n : Int) (j : Nat), (x = .ref l) → (vs = [.int n]) → (H l = some (.lst (ns.map V.int))) → (ns[j]? = some n) → ((∀ m : Nat, m < j → ns[m]? ≠ some n)) → (Q .non (upd H l (.lst ((ns.eraseIdx j).map V.int)))) → rRemoveI x vs H Q
def rRemove : V → List V → Hp → VK → Prop := fun x vs H Q => rRemoveI x vs H Q
theorem map_eraseIdx {α β : Type} (f : α → β) : ∀ (l : List α) (j : Nat), (l.eraseIdx j).map f = (l.map f).eraseIdx j
  | [], _ => rfl
  | _ :: _, 0 => rfl
  | a :: l, j + 1 => by
    show f a :: (l.eraseIdx j).map f = f a :: (l.map f).eraseIdx j
    rw [map_eraseIdx f l j]
theorem mt_remove : MtM X "list.remove" rRemove := by
  intro pins s σ H x vs v us Q I rx rv h
  obtain ⟨l, ns, n, j, rfl, rfl, hH, hj, hno, q⟩ := h
  cases rx
  obtain ⟨u, rfl, ru⟩ := rv.one
  obtain ⟨t, rfl⟩ := ru
  obtain ⟨z, its, n0, r, hl, e⟩ := I.lstM hH
  have hk := ints_kf r
  obtain ⟨hjl, hje⟩ := List.getElem?_eq_some_iff.mp hj
  have hln : its.length = ns.length := by rw [← hl, List.length_map]
  have item : ∀ (m : Nat) (hm : m < its.length), ∃ tk, its[m] = .int (ns[m]'(by omega)) tk := fun m hm => by
    have e1 : (ns.map V.int)[m]? = some (.int (ns[m]'(by omega))) := by rw [List.getElem?_map, List.getElem?_eq_getElem (by omega)]; rfl
    obtain ⟨u, hu, tk, ru⟩ := r.get e1
    rw [List.getElem?_eq_getElem hm] at hu
    exact ⟨tk, by rw [Option.some.inj hu, ru]⟩
  have isI : ∀ (a b : Int) (tk : Tok), PyProof.Rows.isInt a (.int b tk) = (b == a) := fun a b tk => rfl
  refine call_meets PySem.F.slot_list_remove ⟨_, e, rfl⟩ PySem.F.entry_list_remove (PySem.F.args_list_remove_2 _ _)
    (MeetsSeq.list_remove l its.toArray n0 (.int n t) (PyProof.Rows.isInt n) (fun y hy => PySem.W.kf_eq hk y (by simpa using hy)) j (by rw [List.size_toArray]; omega) ?_ ?_ (by rw [List.size_toArray]; omega)) ⟨e, ?_⟩
  · obtain ⟨tk, ek⟩ := item j (by omega)
    show PyProof.Rows.isInt n its[j] = true
    rw [ek, isI, hje]
    exact beq_self_eq_true n
  · intro m hm hmj
    have hm' : m < its.length := by simpa using hm
    obtain ⟨tk, ek⟩ := item m hm'
    show PyProof.Rows.isInt n its[m] = false
    rw [ek, isI]
    refine beq_eq_false_iff_ne.mpr fun z => hno m hmj ?_
    rw [List.getElem?_eq_getElem (by omega), z]
  · refine ⟨.non, _, I.lset (its' := its.eraseIdx j) hH e ?_ ?_ ?_, rfl, q⟩
    · show its.toArray.eraseIdxIfInBounds j = (its.eraseIdx j).toArray
      rw [List.eraseIdxIfInBounds_toArray]
    · rw [map_eraseIdx]; exact r.eraseIdx j
    · rw [map_eraseIdx]
      have := len_erase (ns.map V.int) j
      omega
end
def ModD (P : Program) (w : World) (K : PySem.W.Frag) (a : Addr) (kvs : List (Key × V)) : Prop := (a == sysModules) = false ∧ ∀ h : Heap, K.In h → ∃ vs, KV kvs vs ∧ h.DictOf (mixKind P w) a vs
inductive tMGetI (a : Addr) (kvs : List (Key × V)) (x y : V) (H2 : Hp) (Q : VK) : Prop
  | mk : ∀ k v, (x = .ref a) → (y = kV k) → (valV kvs k = some v) → (Q v H2) → tMGetI a kvs x y H2 Q
def tMGet (a : Addr) (kvs : List (Key × V)) (td ty : TE) : TE := fun σ H Q => td σ H fun x H1 => ty σ H1 fun y H2 => tMGetI a kvs x y H2 Q
inductive tMInI (a : Addr) (kvs : List (Key × V)) (y x : V) (H2 : Hp) (Q : VK) : Prop
  | mk : ∀ k, (x = .ref a) → (y = kV k) → (Q (.bl (valV kvs k).isSome) H2) → tMInI a kvs y x H2 Q
def tMIn (a : Addr) (kvs : List (Key × V)) (ty td : TE) : TE := fun σ H Q => ty σ H fun y H1 => td σ H1 fun x H2 => tMInI a kvs y x H2 Q
inductive tMNotInI (a : Addr) (kvs : List (Key × V)) (y x : V) (H2 : Hp) (Q : VK) : Prop
  | mk : ∀ k, (x = .ref a) → (y = kV k) → (Q (.bl (!(valV kvs k).isSome)) H2) → tMNotInI a kvs y x H2 Q
def tMNotIn (a : Addr) (kvs : List (Key × V)) (ty td : TE) : TE := fun σ H Q => ty σ H fun y H1 => td σ H1 fun x H2 => tMNotInI a kvs y x H2 Q
section
variable {X : Cx} {o i : Expr} {pos : Pos} {td ty : TE} {a : Addr} {kvs : List (Key × V)}
theorem pe_mget (hM : ModD X.prog X.w X.K a kvs) (ho : PE X o td) (hi : PE X i ty) (hs : NoSl i) : PE X (.Subscript o i pos) (tMGet a kvs td ty) := by
  intro pins s σ H Q I h
  refine subD_of PySem.F.slot_dict_getitem.lookup hs (thn (ho pins s σ H _ I h) fun u s1 ⟨x, H1, I1, rx, q1⟩ => thn (hi pins s1 σ H1 _ I1 q1) fun iv s2 ⟨y, H2, I2, ry, k, v, ex, ey, l, q2⟩ => ?_)
  subst ex ey
  obtain rfl : u = Value.ref a := rx
  obtain ⟨vs, rel, dd⟩ := hM.2 _ I2.kIn
  obtain ⟨w', hw, rw'⟩ := RelO.some_of (v := v) (o := valueAt vs k) (by rw [← l]; exact rel.val k)
  exact ⟨dd.typeIs, wpAny_getItem_of (kV_is ry) dd.mapOf hw ⟨v, H2, I2.tok _, rw', q2⟩⟩
theorem pc_min (hM : ModD X.prog X.w X.K a kvs) (hi : PE X i ty) (ho : PE X o td) : PC X .In i o (tMIn a kvs ty td) := by
  intro pins s σ H Q I h
  refine thn (hi pins s σ H _ I h) fun iv s1 ⟨y, H1, I1, ry, q1⟩ => thn (ho pins s1 σ H1 _ I1 q1) fun u s2 ⟨x, H2, I2, rx, k, ex, ey, q2⟩ => ?_
  subst ex ey
  obtain rfl : u = Value.ref a := rx
  obtain ⟨vs, rel, dd⟩ := hM.2 _ I2.kIn
  refine wpAny_in_of (kV_is ry) hM.1 dd.mapOf ?_
  rw [← (rel.val k).isSome_eq]
  exact ⟨.bl (valV kvs k).isSome, H2, I2.tok _, rfl, q2⟩
theorem pc_mnotin (hM : ModD X.prog X.w X.K a kvs) (hi : PE X i ty) (ho : PE X o td) : PC X .NotIn i o (tMNotIn a kvs ty td) := by
  intro pins s σ H Q I h
  refine thn (hi pins s σ H _ I h) fun iv s1 ⟨y, H1, I1, ry, q1⟩ => thn (ho pins s1 σ H1 _ I1 q1) fun u s2 ⟨x, H2, I2, rx, k, ex, ey, q2⟩ => ?_
  subst ex ey
  obtain rfl : u = Value.ref a := rx
  obtain ⟨vs, rel, dd⟩ := hM.2 _ I2.kIn
  refine wpAny_notIn_of (kV_is ry) hM.1 dd.mapOf ?_
  rw [← (rel.val k).isSome_eq]
  exact ⟨.bl (!(valV kvs k).isSome), H2, I2.tok _, rfl, q2⟩
end
end Hc
set_option Elab.async false
set_option linter.all false
set_option maxRecDepth 100000
set_option maxHeartbeats 2000000
namespace Hc
open PySem PySem.Spec PyProof.Rows L2
section
variable {CM CT : Addr} {H H' : Hp} {m : Addr} {W : Str → Option V} {A : Adr} {h : Vasnpe.Heap} {F : AS} {o : Nat} {c : Vasnpe.Cell}
theorem Rep.m_ne_ra (R : Rep CM CT H m W A h) : m ≠ A.ra := by obtain ⟨dx, fs, e, _⟩ := R.mac; exact ne_of e R.regs (by intro z; cases z)
theorem Rep.m_ne_sa (R : Rep CM CT H m W A h) : m ≠ A.sa := by obtain ⟨dx, fs, e, _⟩ := R.mac; exact ne_of e R.sus (by intro z; cases z)
theorem Rep.m_ne_ha (R : Rep CM CT H m W A h) : m ≠ A.ha := by
  obtain ⟨dx, fs, e, _⟩ := R.mac
  obtain ⟨kvs, e2, _⟩ := R.held.ex
  exact ne_of e e2 (by intro z; cases z)
theorem Rep.ha_ne_ra (R : Rep CM CT H m W A h) : A.ha ≠ A.ra := by obtain ⟨kvs, e2, _⟩ := R.held.ex; exact ne_of e2 R.regs (by intro z; cases z)
theorem Rep.ha_ne_sa (R : Rep CM CT H m W A h) : A.ha ≠ A.sa := by obtain ⟨kvs, e2, _⟩ := R.held.ex; exact ne_of e2 R.sus (by intro z; cases z)
theorem Rep.t_ne_ra (R : Rep CM CT H m W A h) (e : Vasnpe.cellAt h o = some c) : A.tA o ≠ A.ra := by obtain ⟨dx, fs, e1, _⟩ := (R.thing o c e).ex; exact ne_of e1 R.regs (by intro z; cases z)
theorem Rep.t_ne_sa (R : Rep CM CT H m W A h) (e : Vasnpe.cellAt h o = some c) : A.tA o ≠ A.sa := by obtain ⟨dx, fs, e1, _⟩ := (R.thing o c e).ex; exact ne_of e1 R.sus (by intro z; cases z)
theorem Rep.t_ne_ha (R : Rep CM CT H m W A h) (e : Vasnpe.cellAt h o = some c) : A.tA o ≠ A.ha := by
  obtain ⟨dx, fs, e1, _⟩ := (R.thing o c e).ex
  obtain ⟨kvs, e2, _⟩ := R.held.ex
  exact ne_of e1 e2 (by intro z; cases z)
theorem Rep.t_ne_s (R : Rep CM CT H m W A h) {o' : Nat} {c' : Vasnpe.Cell} (e : Vasnpe.cellAt h o = some c) (e' : Vasnpe.cellAt h o' = some c') : A.tA o ≠ A.sA o' := by
  obtain ⟨dx, fs, e1, _⟩ := (R.thing o c e).ex
  exact ne_of e1 (R.thing o' c' e').sl (by intro z; cases z)
theorem Rep.s_ne_m (R : Rep CM CT H m W A h) (e : Vasnpe.cellAt h o = some c) : A.sA o ≠ m := by
  obtain ⟨dx, fs, e1, _⟩ := R.mac
  exact ne_of (R.thing o c e).sl e1 (by intro z; cases z)
theorem Rep.s_ne_ha (R : Rep CM CT H m W A h) (e : Vasnpe.cellAt h o = some c) : A.sA o ≠ A.ha := by
  obtain ⟨kvs, e2, _⟩ := R.held.ex
  exact ne_of (R.thing o c e).sl e2 (by intro z; cases z)
theorem Rep.t_ne_m (R : Rep CM CT H m W A h) (hC : CM ≠ CT) (e : Vasnpe.cellAt h o = some c) : A.tA o ≠ m := fun z => by
  obtain ⟨dx, fs, e1, _⟩ := R.mac
  obtain ⟨dx', fs', e2, _⟩ := (R.thing o c e).ex
  rw [z, e1] at e2
  cases e2
  exact hC rfl
theorem Foot_congr {h h' : Vasnpe.Heap} (k : ∀ o, (∃ c, Vasnpe.cellAt h' o = some c) ↔ ∃ c, Vasnpe.cellAt h o = some c) : Foot A m h' = Foot A m h := by
  funext b
  refine propext ⟨?_, ?_⟩
  · rintro (z | z | z | z | ⟨o, c, e, z⟩)
    · exact .inl z
    · exact .inr (.inl z)
    · exact .inr (.inr (.inl z))
    · exact .inr (.inr (.inr (.inl z)))
    · obtain ⟨c', e'⟩ := (k o).mp ⟨c, e⟩
      exact .inr (.inr (.inr (.inr ⟨o, c', e', z⟩)))
  · rintro (z | z | z | z | ⟨o, c, e, z⟩)
    · exact .inl z
    · exact .inr (.inl z)
    · exact .inr (.inr (.inl z))
    · exact .inr (.inr (.inr (.inl z)))
    · obtain ⟨c', e'⟩ := (k o).mpr ⟨c, e⟩
      exact .inr (.inr (.inr (.inr ⟨o, c', e', z⟩)))
theorem set_held {h : Vasnpe.Heap} {o : Nat} {c c' : Vasnpe.Cell} (e : Vasnpe.cellAt h o = some c) (x : Nat) : (∃ d, Vasnpe.cellAt (Vasnpe.setCell h o (some c')) x = some d) ↔ ∃ d, Vasnpe.cellAt h x = some d := by
  rw [cellAt_set _ (cell_lt e)]
  by_cases ex : x = o
  · subst ex; rw [if_pos rfl, e]; exact ⟨fun _ => ⟨_, rfl⟩, fun _ => ⟨_, rfl⟩⟩
  · rw [if_neg ex]
theorem HeldAt.congr {ha : Addr} {tA : Nat → Addr} {h h' : Vasnpe.Heap} (t : HeldAt H ha tA h) (k : ∀ o, (∃ c, Vasnpe.cellAt h' o = some c) ↔ ∃ c, Vasnpe.cellAt h o = some c) : HeldAt H ha tA h' := by
  obtain ⟨kvs, e, nd, l32, ln, a, b⟩ := t
  have e2 : Vasnpe.heldIds h' = Vasnpe.heldIds h := heldIds_congr fun o => by
    have := k o
    cases q : Vasnpe.cellAt h o <;> cases q' : Vasnpe.cellAt h' o <;> simp [q, q'] at this ⊢
  refine ⟨kvs, e, nd, l32, by rw [e2]; exact ln, fun o c ec => ?_, fun key v hv => ?_⟩
  · obtain ⟨c', ec'⟩ := (k o).mp ⟨c, ec⟩
    exact a o c' ec'
  · obtain ⟨o, c, e1, e2⟩ := b key v hv
    obtain ⟨c', ec'⟩ := (k o).mpr ⟨c, e2⟩
    exact ⟨o, c', e1, ec'⟩
theorem Rep.setSus (R : Rep CM CT H m W A h) (l : List Nat) : Rep CM CT (upd H A.sa (.lst (l.map iV))) m W A { h with suspects := l } where
  mac := by
    obtain ⟨dx, fs, e, r⟩ := R.mac
    exact ⟨dx, fs, by rw [upd_ne R.m_ne_sa]; exact e, r⟩
  regs := by rw [upd_ne R.sep]; exact R.regs
  sus := upd_same
  held := (R.held.keep fun u e => by rw [upd_ne R.ha_ne_sa]; exact e).congr fun _ => Iff.rfl
  thing := fun o c e => (R.thing o c e).keep (fun u z => by rw [upd_ne (R.t_ne_sa e)]; exact z) (fun u z => by rw [upd_ne (R.sepS o c e).2]; exact z)
  sep := R.sep
  sepS := R.sepS
  sepT := R.sepT
theorem Rep.setRegs (R : Rep CM CT H m W A h) (l : List (Option Nat)) : Rep CM CT (upd H A.ra (.lst (l.map oV))) m W A { h with regs := l } where
  mac := by
    obtain ⟨dx, fs, e, r⟩ := R.mac
    exact ⟨dx, fs, by rw [upd_ne R.m_ne_ra]; exact e, r⟩
  regs := upd_same
  sus := by rw [upd_ne R.sep.symm]; exact R.sus
  held := (R.held.keep fun u e => by rw [upd_ne R.ha_ne_ra]; exact e).congr fun _ => Iff.rfl
  thing := fun o c e => (R.thing o c e).keep (fun u z => by rw [upd_ne (R.t_ne_ra e)]; exact z) (fun u z => by rw [upd_ne (R.sepS o c e).1]; exact z)
  sep := R.sep
  sepS := R.sepS
  sepT := R.sepT
theorem lookup_put {fs : List (Str × V)} {f g : Str} {v w : V} (n : g ≠ f) (e : fs.lookup g = some w) : (putF f v fs).lookup g = some w := by rw [lookup_putF, if_neg n]; exact e
theorem length_put_in {f : Str} {v : V} : ∀ {fs : List (Str × V)} {w : V}, fs.lookup f = some w → (putF f v fs).length = fs.length
  | [], w, h => by cases h
  | (g, x) :: r, w, h => by
    by_cases e : g = f
    · subst e
      show (if g = g then (g, v) :: r else (g, x) :: putF g v r).length = _
      rw [if_pos rfl]; rfl
    · have h' : r.lookup f = some w := by
        rw [List.lookup_cons] at h
        have : (f == g) = false := beq_eq_false_iff_ne.mpr fun z => e z.symm
        rw [this] at h
        exact h
      show (if g = f then (g, v) :: r else (g, x) :: putF f v r).length = _
      rw [if_neg e, List.length_cons, List.length_cons, length_put_in h']
theorem Rep.setCount (R : Rep CM CT H m W A h) (hC : CM ≠ CT) (e : Vasnpe.cellAt h o = some c) {dx : Addr} {fs : List (Str × V)} (hx : H (A.tA o) = some (.ins CT dx fs)) (n : Nat) :
    Rep CM CT (upd H (A.tA o) (.ins CT dx (putF "count" (iV n) fs))) m W A (Vasnpe.setCell h o (some { c with count := n })) where
  mac := by
    obtain ⟨dx, fs, e1, r⟩ := R.mac
    exact ⟨dx, fs, by rw [upd_ne (R.t_ne_m hC e).symm]; exact e1, r⟩
  regs := by rw [upd_ne (R.t_ne_ra e).symm]; exact R.regs
  sus := by rw [upd_ne (R.t_ne_sa e).symm]; exact R.sus
  held := (R.held.keep fun u z => by rw [upd_ne (R.t_ne_ha e).symm]; exact z).congr (set_held e)
  thing := fun x d hd => by
    rw [cellAt_set _ (cell_lt e)] at hd
    by_cases ex : x = o
    · subst ex
      rw [if_pos rfl] at hd
      obtain rfl := Option.some.inj hd
      obtain ⟨⟨dx', fs', h1, h2, h3, h4, h5, h6, h7⟩, hs⟩ := R.thing x c e
      rw [hx] at h1
      cases h1
      refine ⟨⟨dx, _, upd_same, by rw [length_put_in h7]; exact h2, lookup_put (by decide +kernel) h3, lookup_put (by decide +kernel) h4, lookup_put (by decide +kernel) h5, lookup_put (by decide +kernel) h6, (lookup_putF _ _ _ _).trans (if_pos rfl)⟩, ?_⟩
      rw [upd_ne (R.t_ne_s e e).symm]; exact hs
    · rw [if_neg ex] at hd
      exact (R.thing x d hd).keep (fun u z => by rw [upd_ne (R.thing_ne hd e ex)]; exact z) (fun u z => by rw [upd_ne (R.t_ne_s e hd).symm]; exact z)
  sep := R.sep
  sepS := fun x d hd => by
    obtain ⟨d', hd'⟩ := (set_held e x).mp ⟨d, hd⟩
    exact R.sepS x d' hd'
  sepT := fun x y d d' hd hd' n => by
    obtain ⟨d1, hd1⟩ := (set_held e x).mp ⟨d, hd⟩
    obtain ⟨d2, hd2⟩ := (set_held e y).mp ⟨d', hd'⟩
    exact R.sepT x y d1 d2 hd1 hd2 n
theorem Rep.setSlots (R : Rep CM CT H m W A h) (e : Vasnpe.cellAt h o = some c) (l : List (Option Nat)) :
    Rep CM CT (upd H (A.sA o) (.lst (l.map oV))) m W A (Vasnpe.setCell h o (some { c with slots := l })) where
  mac := by
    obtain ⟨dx, fs, e1, r⟩ := R.mac
    exact ⟨dx, fs, by rw [upd_ne (R.s_ne_m e).symm]; exact e1, r⟩
  regs := by rw [upd_ne (R.sepS o c e).1.symm]; exact R.regs
  sus := by rw [upd_ne (R.sepS o c e).2.symm]; exact R.sus
  held := (R.held.keep fun u z => by rw [upd_ne (R.s_ne_ha e).symm]; exact z).congr (set_held e)
  thing := fun x d hd => by
    rw [cellAt_set _ (cell_lt e)] at hd
    by_cases ex : x = o
    · subst ex
      rw [if_pos rfl] at hd
      obtain rfl := Option.some.inj hd
      obtain ⟨⟨dx', fs', h1, r⟩, hs⟩ := R.thing x c e
      exact ⟨⟨dx', fs', by rw [upd_ne (R.t_ne_s e e)]; exact h1, r⟩, upd_same⟩
    · rw [if_neg ex] at hd
      exact (R.thing x d hd).keep (fun u z => by rw [upd_ne (R.t_ne_s hd e)]; exact z) (fun u z => by rw [upd_ne (R.sepT x o d c hd e ex)]; exact z)
  sep := R.sep
  sepS := fun x d hd => by
    obtain ⟨d', hd'⟩ := (set_held e x).mp ⟨d, hd⟩
    exact R.sepS x d' hd'
  sepT := fun x y d d' hd hd' n => by
    obtain ⟨d1, hd1⟩ := (set_held e x).mp ⟨d, hd⟩
    obtain ⟨d2, hd2⟩ := (set_held e y).mp ⟨d', hd'⟩
    exact R.sepT x y d1 d2 hd1 hd2 n
theorem valV_drop {kvs : List (Key × V)} {k j : Key} : valV (dropK kvs k) j = if j = k then none else valV kvs j := by
  unfold valV dropK
  by_cases e : j = k
  · subst e
    rw [if_pos rfl]
    have : (kvs.filter fun kv => decide (kv.1 ≠ j)).find? (fun kv => decide (kv.1 = j)) = none := by
      rw [List.find?_eq_none]
      intro x hx
      have := (List.mem_filter.mp hx).2
      simpa using this
    rw [this]; rfl
  · rw [if_neg e, List.find?_filter]
    congr 2
    funext kv
    by_cases e2 : kv.1 = j
    · rw [e2]; simp [e]
    · simp [e2]
theorem Rep.setGone (R : Rep CM CT H m W A h) (hl : h.cells.length = 32) (e : Vasnpe.cellAt h o = some c) {kvs : List (Key × V)} (hk : H A.ha = some (.dK kvs)) :
    Rep CM CT (upd H A.ha (.dK (dropK kvs (nk o)))) m W A (Vasnpe.setCell h o none) where
  mac := by
    obtain ⟨dx, fs, e1, r⟩ := R.mac
    exact ⟨dx, fs, by rw [upd_ne R.m_ne_ha]; exact e1, r⟩
  regs := by rw [upd_ne R.ha_ne_ra.symm]; exact R.regs
  sus := by rw [upd_ne R.ha_ne_sa.symm]; exact R.sus
  held := by
    refine HeldAt.exE (R.held) fun kvs' e1 nd l32 ln a b => ?_
    rw [hk] at e1
    cases e1
    have hin : nk o ∈ kvs.map (·.1) := valV_in (a o c e)
    have hd := dropK_len nd hin
    have hs := len_set_none hl e
    refine ⟨_, upd_same, nd_dropK nd, by omega, by omega, fun x d hx => ?_, fun k v hv => ?_⟩
    · rw [cellAt_set _ (cell_lt e)] at hx
      by_cases ex : x = o
      · rw [if_pos ex] at hx; cases hx
      · rw [if_neg ex] at hx
        rw [valV_drop, if_neg (fun z => ex (nk_inj z))]
        exact a x d hx
    · rw [valV_drop] at hv
      by_cases ek : k = nk o
      · rw [if_pos ek] at hv; cases hv
      · rw [if_neg ek] at hv
        obtain ⟨x, d, rfl, hx⟩ := b k v hv
        refine ⟨x, d, rfl, ?_⟩
        rw [cellAt_set _ (cell_lt e), if_neg (fun z => ek (by rw [z]))]
        exact hx
  thing := fun x d hx => by
    rw [cellAt_set _ (cell_lt e)] at hx
    by_cases ex : x = o
    · rw [if_pos ex] at hx; cases hx
    · rw [if_neg ex] at hx
      exact (R.thing x d hx).keep (fun u z => by rw [upd_ne (R.t_ne_ha hx)]; exact z) (fun u z => by rw [upd_ne (R.s_ne_ha hx)]; exact z)
  sep := R.sep
  sepS := fun x d hx => by
    rw [cellAt_set _ (cell_lt e)] at hx
    by_cases ex : x = o
    · rw [if_pos ex] at hx; cases hx
    · rw [if_neg ex] at hx; exact R.sepS x d hx
  sepT := fun x y d d' hx hy n => by
    rw [cellAt_set _ (cell_lt e)] at hx hy
    by_cases ex : x = o
    · rw [if_pos ex] at hx; cases hx
    · by_cases ey : y = o
      · rw [if_pos ey] at hy; cases hy
      · rw [if_neg ex] at hx
        rw [if_neg ey] at hy
        exact R.sepT x y d d' hx hy n
theorem foot_gone {b : Addr} (e : Vasnpe.cellAt h o = some c) (f : Foot A m (Vasnpe.setCell h o none) b) : Foot A m h b := by
  rcases f with z | z | z | z | ⟨x, d, hx, z⟩
  · exact .inl z
  · exact .inr (.inl z)
  · exact .inr (.inr (.inl z))
  · exact .inr (.inr (.inr (.inl z)))
  · rw [cellAt_set _ (cell_lt e)] at hx
    by_cases ex : x = o
    · rw [if_pos ex] at hx; cases hx
    · rw [if_neg ex] at hx
      exact .inr (.inr (.inr (.inr ⟨x, d, hx, z⟩)))
theorem Rep.gone_out (R : Rep CM CT H m W A h) (hC : CM ≠ CT) (e : Vasnpe.cellAt h o = some c) : ¬ Foot A m (Vasnpe.setCell h o none) (A.tA o) := by
  rintro (z | z | z | z | ⟨x, d, hx, z⟩)
  · exact R.t_ne_m hC e z
  · exact R.t_ne_ra e z
  · exact R.t_ne_sa e z
  · exact R.t_ne_ha e z
  · rw [cellAt_set _ (cell_lt e)] at hx
    by_cases ex : x = o
    · rw [if_pos ex] at hx; cases hx
    · rw [if_neg ex] at hx
      rcases z with z | z
      · exact R.thing_ne e hx (fun q => ex q.symm) z
      · exact R.t_ne_s e hx z
def Adr.add (A : Adr) (o : Nat) (t l : Addr) : Adr := { A with tA := fun x => if x = o then t else A.tA x, sA := fun x => if x = o then l else A.sA x }
theorem Rep.setNew (R : Rep CM CT H m W A h) (hl : h.cells.length = 32) (ho : o < 32) (e : Vasnpe.cellAt h o = none) {kvs : List (Key × V)} (hk : H A.ha = some (.dK kvs)) {t l : Addr} (ht : ThingAt CT H t l o c) (h32 : kvs.length < 32)
    (nt : ¬ Foot A m h t) (nl : ¬ Foot A m h l) : Rep CM CT (upd H A.ha (.dK (putK kvs (nk o) (.ref t)))) m W (A.add o t l) (Vasnpe.setCell h o (some c)) := by
  have hc : o < h.cells.length := by omega
  have cell : ∀ {x : Nat} {d : Vasnpe.Cell}, Vasnpe.cellAt (Vasnpe.setCell h o (some c)) x = some d → (x = o ∧ d = c) ∨ (x ≠ o ∧ Vasnpe.cellAt h x = some d) := fun {x d} hx => by
    rw [cellAt_set _ hc] at hx
    by_cases ex : x = o
    · rw [if_pos ex] at hx; exact .inl ⟨ex, (Option.some.inj hx).symm⟩
    · rw [if_neg ex] at hx; exact .inr ⟨ex, hx⟩
  have tA_o : (A.add o t l).tA o = t := if_pos rfl
  have sA_o : (A.add o t l).sA o = l := if_pos rfl
  have tA_n : ∀ {x : Nat}, x ≠ o → (A.add o t l).tA x = A.tA x := fun n => if_neg n
  have sA_n : ∀ {x : Nat}, x ≠ o → (A.add o t l).sA x = A.sA x := fun n => if_neg n
  have nth : t ≠ A.ha := fun z => nt (as_eq z (Foot.ha))
  have nlh : l ≠ A.ha := fun z => nl (as_eq z (Foot.ha))
  refine ⟨?_, ?_, ?_, ?_, ?_, R.sep, ?_, ?_⟩
  · obtain ⟨dx, fs, e1, r⟩ := R.mac
    exact ⟨dx, fs, by rw [upd_ne R.m_ne_ha]; exact e1, r⟩
  · show upd H A.ha _ A.ra = _
    rw [upd_ne R.ha_ne_ra.symm]; exact R.regs
  · show upd H A.ha _ A.sa = _
    rw [upd_ne R.ha_ne_sa.symm]; exact R.sus
  · refine HeldAt.exE (R.held) fun kvs' e1 nd l32 ln a b => ?_
    rw [hk] at e1
    cases e1
    have hnone : valV kvs (nk o) = none := by
      cases q : valV kvs (nk o) with
      | none => rfl
      | some v =>
        obtain ⟨x, d, ex, hx⟩ := b _ v q
        rw [← nk_inj ex, e] at hx
        cases hx
    have hs := len_set_new (c := c) hl ho e
    have hlen : (putK kvs (nk o) (.ref t)).length = kvs.length + 1 := by rw [putK_new _ hnone]; simp
    refine ⟨_, upd_same, nd_putK _ nd hnone, by omega, by omega, fun x d hx => ?_, fun k v hv => ?_⟩
    · rw [valV_put]
      rcases cell hx with ⟨rfl, _⟩ | ⟨ex, hx⟩
      · rw [if_pos rfl, tA_o]
      · rw [if_neg (fun z => ex (nk_inj z)), tA_n ex]
        exact a x d hx
    · rw [valV_put] at hv
      by_cases ek : k = nk o
      · exact ⟨o, c, ek, by rw [cellAt_set _ hc, if_pos rfl]⟩
      · rw [if_neg ek] at hv
        obtain ⟨x, d, rfl, hx⟩ := b k v hv
        exact ⟨x, d, rfl, by rw [cellAt_set _ hc, if_neg (fun z => ek (by rw [z]))]; exact hx⟩
  · intro x d hx
    rcases cell hx with ⟨rfl, rfl⟩ | ⟨ex, hx⟩
    · rw [tA_o, sA_o]
      exact ht.keep (fun u z => by rw [upd_ne nth]; exact z) (fun u z => by rw [upd_ne nlh]; exact z)
    · rw [tA_n ex, sA_n ex]
      exact (R.thing x d hx).keep (fun u z => by rw [upd_ne (R.t_ne_ha hx)]; exact z) (fun u z => by rw [upd_ne (R.s_ne_ha hx)]; exact z)
  · intro x d hx
    show (A.add o t l).sA x ≠ A.ra ∧ (A.add o t l).sA x ≠ A.sa
    rcases cell hx with ⟨rfl, rfl⟩ | ⟨ex, hx⟩
    · rw [sA_o]
      exact ⟨fun z => nl (as_eq z (Foot.ra)), fun z => nl (as_eq z (Foot.sa))⟩
    · rw [sA_n ex]
      exact R.sepS x d hx
  · intro x y d d' hx hy n
    rcases cell hx with ⟨rfl, rfl⟩ | ⟨ex, hx'⟩
    · rcases cell hy with ⟨rfl, rfl⟩ | ⟨ey, hy'⟩
      · exact absurd rfl n
      · rw [sA_o, sA_n ey]
        exact fun z => nl (as_eq z (Foot.sA hy'))
    · rcases cell hy with ⟨rfl, rfl⟩ | ⟨ey, hy'⟩
      · rw [sA_o, sA_n ex]
        exact fun z => nl (as_eq z.symm (Foot.sA hx'))
      · rw [sA_n ex, sA_n ey]
        exact R.sepT x y d d' hx' hy' n
theorem foot_new {b t l : Addr} (hl : h.cells.length = 32) (ho : o < 32) (f : Foot (A.add o t l) m (Vasnpe.setCell h o (some c)) b) : Foot A m h b ∨ b = t ∨ b = l := by
  rcases f with z | z | z | z | ⟨x, d, hx, z⟩
  · exact .inl (.inl z)
  · exact .inl (.inr (.inl z))
  · exact .inl (.inr (.inr (.inl z)))
  · exact .inl (.inr (.inr (.inr (.inl z))))
  · rw [cellAt_set _ (by omega)] at hx
    by_cases ex : x = o
    · subst ex
      rcases z with z | z
      · exact .inr (.inl (z.trans (if_pos rfl)))
      · exact .inr (.inr (z.trans (if_pos rfl)))
    · rw [if_neg ex] at hx
      refine .inl (.inr (.inr (.inr (.inr ⟨x, d, hx, ?_⟩))))
      rcases z with z | z
      · exact .inl (z.trans (if_neg ex))
      · exact .inr (z.trans (if_neg ex))
end
end Hc
set_option Elab.async false
set_option linter.all false
set_option maxRecDepth 100000
set_option maxHeartbeats 2000000
namespace Hc
open PySem PySem.Spec PyProof.Rows L2
theorem ints_of_get : ∀ {us : List Value} {ns : List Int}, us.length = ns.length → (∀ (j : Nat) (v : Value), us[j]? = some v → ∃ (n : Int) (t : Tok), ns[j]? = some n ∧ v = .int n t) → IntsAre us ns
  | [], [], _, _ => .nil
  | u :: us, n :: ns, hl, h => by
    obtain ⟨n', t, e1, e2⟩ := h 0 u rfl
    have e : n = n' := by simpa using e1
    subst e e2
    exact .cons n t (ints_of_get (by simpa using hl) fun j v hj => by simpa using h (j + 1) v (by simpa using hj))
  | [], _ :: _, hl, _ => by simp at hl
  | _ :: _, [], hl, _ => by simp at hl
section
variable {X : Cx}
inductive rSortedDI (vs : List V) (H : Hp) (Q : VK) : Prop
  | mk : ∀ (a : Addr) (kvs : List (Key × V)) (ns : List Int), (vs = [V.ref a]) → (H a = some (.dK kvs)) → (kvs.map (·.1) = ns.map Sum.inl) → (ns.length < 64) → (∀ (ns' : List Int) (p : Addr), ns'.Perm ns → ns'.Pairwise (· ≤ ·) → H p = none → Q (.ref p) (upd H p (.lst (ns'.map V.int)))) → rSortedDI vs H Q
def rSortedD : List V → Hp → VK → Prop := fun vs H Q => rSortedDI vs H Q
theorem kv_keys : ∀ {kvs : List (Key × V)} {vs : List (Key × Value)}, KV kvs vs → vs.map (·.1) = kvs.map (·.1)
  | _, _, .nil => rfl
  | _, _, .cons h t => by rw [List.map_cons, List.map_cons, kv_keys t, h.1]
theorem kv_vals : ∀ {kvs : List (Key × V)} {vs : List (Key × Value)}, KV kvs vs → Vals (kvs.map (·.2)) (vs.map (·.2))
  | _, _, .nil => .nil
  | _, _, .cons h t => .cons h.2 (kv_vals t)
theorem cr_sortedD (hc : X.calm = true) : CallR X (.builtin "sorted") rSortedD := by
  intro pins s σ H vs us Q I r h
  obtain ⟨a, kvs, ns, rfl, ha, hk, h64, q⟩ := h
  rw [Vals.ref1 r]
  obtain ⟨hz, hs, vs, kv, hD⟩ := I.hok a _ ha
  obtain ⟨ep, hat⟩ := hD.dictAt
  have hkeys : vs.map (·.1) = ns.map Sum.inl := (kv_keys kv).trans hk
  have hl : vs.length = ns.length := by
    have := congrArg List.length hkeys
    rw [List.length_map, List.length_map] at this
    exact this
  refine PySem.Calls.call_function_entry kind_sorted plain_sorted entry_sorted (args_sorted1 _) ?_
  unfold Builtin.«sorted»
  refine wpAny_bind (m := checkCount "sorted" 1 1 _) (wpAny_pure ?_)
  refine wpAny_bind (PySem.W.kdu_collect (A := X.A.in1) (PySem.W.kdl_dict (knd := mixKind X.prog X.w) (kvs := vs) (ep := ep) hs) (I.ok.hd hc) hat (by rw [hl]; exact small64 h64) fun h' tk acc hk' hacc => ?_)
  have hal : acc.toList.length = ns.length := by rw [Array.length_toList, hacc.1, hl]
  have hI : IntsAre acc.toList ns := ints_of_get hal fun j v hj => by
    obtain ⟨k, x, hx, hki⟩ := hacc.2 j v (by rw [← Array.getElem?_toList]; exact hj)
    have e1 : (vs.map (·.1))[j]? = some k := by rw [List.getElem?_map, hx]; rfl
    rw [hkeys, List.getElem?_map] at e1
    cases en : ns[j]? with
    | none => rw [en] at e1; cases e1
    | some n =>
      rw [en] at e1
      obtain rfl : Sum.inl n = k := Option.some.inj e1
      obtain ⟨t, e⟩ := Value.isInt_shape (k := n) (v := v) hki
      exact ⟨n, t, rfl, e⟩
  refine wpAny_bind (wpAny_newList ?_ (by rw [hal]; exact small64 h64))
  have I1 : Inv X pins σ H { s with heap := h', toks := tk } := I.kept hk'
  have hob : (h'.push (seqObj "list" acc.toList.toArray 0)).get? h'.objs.size = some (seqObj "list" acc.toList.toArray 0) := Heap.get?_push_size _ rfl
  refine wpAny_bind (wpAny_holding (wpAny_call_entry slot_list_sort ⟨_, hob, rfl⟩ entry_list_sort (list_sort_tree hob hI (by rw [hal]; exact h64) fun out ns' h1 h2 h3 => ⟨_, rfl, ?_⟩) (args_list_sort _)))
  refine wpAny_pure ⟨_, rfl, ?_⟩
  obtain ⟨ep', he'⟩ := sortedHeap_at (vs := acc.toList) (out := out) hob
  have hlen : (ns'.map V.int).length ≤ sizeLine := by rw [List.length_map, h2.length_eq]; exact small64 h64
  refine ⟨.ref _, upd H h'.objs.size (.lst (ns'.map V.int)), I1.laid (t' := tk) (fun b u hu => ?_) (Nat.le_refl _) ⟨hlen, out.toList, ep', vals_of_ints h1, he'⟩, rfl, q ns' _ h2 h3 (I1.hok.fresh (Nat.le_refl _))⟩
  have hb : b < h'.objs.size := Heap.lt_size hu
  rw [sortedHeap_old (Nat.ne_of_lt hb) (by rw [Heap.size_push]; exact Nat.lt_succ_of_lt hb)]
  exact Heap.get?_push_of_some _ hu
inductive rValuesI (x : V) (xs : List V) (H : Hp) (Q : VK) : Prop
  | mk : ∀ (d : Addr) (kvs : List (Key × V)), (x = .ref d) → (xs = []) → (H d = some (.dK kvs)) → (∀ p, H p = none → Q (.ref p) (upd H p (.ext fun h => h.IsValuesView p d))) → rValuesI x xs H Q
def rValues : V → List V → Hp → VK → Prop := fun x xs H Q => rValuesI x xs H Q
theorem mt_values : MtR X "dict.values" rValues := by
  intro pins s σ H x xs v us Q I rx rxs h
  obtain ⟨d, kvs, rfl, rfl, hd, q⟩ := h
  cases rx
  cases rxs
  obtain ⟨hz, hs, vs, kv, hD⟩ := I.hok d _ hd
  refine call_meetsIn F.slot_dict_values hD.typeIs F.entry_dict_values (F.args_dict_values_1 _) (meets_dict_values (mixKind X.prog X.w) d hs) ⟨⟨vs, hD⟩, ?_⟩
  have hv : (s.heap.push { cls := .type "dict_values", data := .fields #[.ref d] }).IsValuesView s.heap.objs.size d := ⟨_, Heap.get?_push_size _ rfl, rfl, rfl⟩
  exact ⟨.ref _, upd H s.heap.objs.size (.ext fun h => h.IsValuesView s.heap.objs.size d), I.laid (t' := s.toks) (fun b u e => Heap.get?_push_of_some _ e) (Nat.le_refl _) ⟨hv, ⟨_, Heap.get?_push_size _ rfl⟩, fun h1 h2 ⟨o, e, z⟩ k => ⟨o, k o e, z⟩⟩, rfl, q _ (I.hok.fresh (Nat.le_refl _))⟩
inductive rListValsI (vs : List V) (H : Hp) (Q : VK) : Prop
  | mk : ∀ (p d : Addr) (kvs : List (Key × V)), (vs = [V.ref p]) → (H p = some (.ext fun h => h.IsValuesView p d)) → (H d = some (.dK kvs)) → (∀ l, H l = none → Q (.ref l) (upd H l (.lst (kvs.map (·.2))))) → rListValsI vs H Q
def rListVals : List V → Hp → VK → Prop := fun vs H Q => rListValsI vs H Q
theorem cr_listVals (hc : X.calm = true) : CallR X (.type "list") rListVals := by
  intro pins s σ H vs us Q I r h
  obtain ⟨p, d, kvs, rfl, hp, hd, q⟩ := h
  rw [Vals.ref1 r]
  obtain ⟨hz, hs, vs, kv, hD⟩ := I.hok d _ hd
  obtain ⟨hv, _, _⟩ := I.hok p _ hp
  obtain ⟨ep, hat⟩ := hD.dictAt
  have hl : kvs.length = vs.length := Paired.length kv
  refine PySem.W.kdl_call (PySem.W.kdl_values (knd := mixKind X.prog X.w) (kvs := vs) (ep := ep)) (I.ok.hd hc) ⟨hv, hat⟩ (by rw [← hl]; exact hz) fun h' tk acc c' hk' hS hacc => ?_
  have e : acc.toList = vs.map (·.2) := PySem.W.kdl_vals_eq acc.toList (by rw [Array.length_toList]; exact hacc.1) fun j v hj => hacc.2 j v (by rw [← Array.getElem?_toList]; exact hj)
  exact ⟨.ref _, _, I.laid (t' := tk) hk' (Nat.le_refl _) (show ObjOk X.prog X.w _ h' _ (.lst (kvs.map (·.2))) from ⟨by rw [List.length_map]; exact hz, acc.toList, c', by rw [e]; exact kv_vals kv, hS⟩), rfl, q _ (I.hok.fresh (Nat.le_refl _))⟩
end
theorem for_keys {d : Addr} {od : Obj} {kvs : List (Key × V)} {g : TG} {tb : TS} {D : Ends} {σ : L2.St} {H : Hp} (Pv : Nat → L2.St → Hp → Prop) (h0 : Pv 0 σ H) (hl : ∀ i σ H, i ≤ kvs.length → Pv i σ H → H d = some (.frz od (.dK kvs)))
    (hs : ∀ i k v σ H, kvs[i]? = some (k, v) → Pv i σ H → g (kV k) σ H fun σ2 H2 => tb { D with nx := Pv (i + 1), ct := Pv (i + 1), bk := D.nx } σ2 H2) (hd : ∀ σ H, Pv kvs.length σ H → D.nx σ H) :
    ∃ W : Nat → Nat → L2.St → Hp → Prop, (∃ m, W 0 m σ H) ∧ ∀ i m σ H, W i m σ H →
      ((Itk d od kvs).stop i H ∧ D.nx σ H) ∨ ((Itk d od kvs).go i H ∧ ∃ N : L2.St → Hp → Prop, (∀ σ' H', N σ' H' → ∃ m', m' < m ∧ W (i + 1) m' σ' H') ∧ ∀ x H', (Itk d od kvs).yld i H x H' → g x σ H' fun σ2 H2 => tb { D with nx := N, ct := N, bk := D.nx } σ2 H2) := by
  refine ⟨fun i m σ H => m = kvs.length - i ∧ i ≤ kvs.length ∧ Pv i σ H, ⟨kvs.length, by simp, Nat.zero_le _, h0⟩, ?_⟩
  rintro i m σ H ⟨rfl, hi, p⟩
  have q := hl i σ H hi p
  by_cases hlt : i < kvs.length
  · refine .inr ⟨⟨q, hlt⟩, Pv (i + 1), fun σ' H' p' => ⟨kvs.length - (i + 1), by omega, rfl, hlt, p'⟩, fun x H' y => ?_⟩
    obtain ⟨rfl, k, v, e1, rfl⟩ := y
    exact hs i k v σ _ e1 p
  · have e : i = kvs.length := by omega
    subst e
    exact .inl ⟨⟨q, Nat.le_refl _⟩, hd σ H p⟩
theorem lc_keys {d : Addr} {od : Obj} {kvs : List (Key × V)} {g : TG} {tt : TT} {te : TE} {vs : List Nat} {σ : L2.St} {H1 : Hp} {D : Addr} {Qd : Hp → Prop} (Pv : Nat → Hp → Prop) (h0 : Pv 0 (upd H1 D (.lst []))) (hl : ∀ i H, i ≤ kvs.length → Pv i H → H d = some (.frz od (.dK kvs)))
    (hs : ∀ i k v H, kvs[i]? = some (k, v) → Pv i H → g (kV k) (wipe σ vs) H fun σ2 H2 => wipe σ2 vs = wipe σ vs ∧ tt σ2 H2 fun b H3 =>
      if b = true then te σ2 H3 fun y H4 => ∃ acc, H4 D = some (.lst acc) ∧ acc.length < sizeLine ∧ Pv (i + 1) (upd H4 D (.lst (acc ++ [y]))) else Pv (i + 1) H3) (hd : ∀ H, Pv kvs.length H → Qd H) :
    ∃ W : Nat → Nat → Hp → Prop, (∃ m, W 0 m (upd H1 D (.lst []))) ∧ ∀ i m H, W i m H →
      ((Itk d od kvs).stop i H ∧ Qd H) ∨ ((Itk d od kvs).go i H ∧ ∃ Nx : Hp → Prop, (∀ H', Nx H' → ∃ m', m' < m ∧ W (i + 1) m' H') ∧ ∀ x H', (Itk d od kvs).yld i H x H' → g x (wipe σ vs) H' fun σ2 H2 => wipe σ2 vs = wipe σ vs ∧ tt σ2 H2 fun b H3 =>
        if b = true then te σ2 H3 fun y H4 => ∃ acc, H4 D = some (.lst acc) ∧ acc.length < sizeLine ∧ Nx (upd H4 D (.lst (acc ++ [y]))) else Nx H3) := by
  refine ⟨fun i m H => m = kvs.length - i ∧ i ≤ kvs.length ∧ Pv i H, ⟨kvs.length, by simp, Nat.zero_le _, h0⟩, ?_⟩
  rintro i m H ⟨rfl, hi, p⟩
  have q := hl i H hi p
  by_cases hlt : i < kvs.length
  · refine .inr ⟨⟨q, hlt⟩, Pv (i + 1), fun H' p' => ⟨kvs.length - (i + 1), by omega, rfl, hlt, p'⟩, fun x H' y => ?_⟩
    obtain ⟨rfl, k, v, e1, rfl⟩ := y
    exact hs i k v _ e1 p
  · have e : i = kvs.length := by omega
    subst e
    exact .inl ⟨⟨q, Nat.le_refl _⟩, hd H p⟩
theorem for_enum {K : PySem.W.Frag} {a : Addr} {xs : List V} {g : TG} {tb : TS} {D : Ends} {σ : L2.St} {H : Hp} (Pv : Nat → L2.St → Hp → Prop) (h0 : Pv 0 σ H) (hl : ∀ i σ H, i ≤ xs.length → Pv i σ H → SqL K H a xs)
    (hs : ∀ i x σ H T, xs[i]? = some x → Pv i σ H → H T = none → g (.ref T) σ (upd H T (.tup [.int (i : Nat), x])) fun σ2 H2 => tb { D with nx := Pv (i + 1), ct := Pv (i + 1), bk := D.nx } σ2 H2) (hd : ∀ σ H, Pv xs.length σ H → D.nx σ H) :
    ∃ W : Nat → Nat → L2.St → Hp → Prop, (∃ m, W 0 m σ H) ∧ ∀ i m σ H, W i m σ H →
      ((Ite K a).stop i H ∧ D.nx σ H) ∨ ((Ite K a).go i H ∧ ∃ N : L2.St → Hp → Prop, (∀ σ' H', N σ' H' → ∃ m', m' < m ∧ W (i + 1) m' σ' H') ∧ ∀ x H', (Ite K a).yld i H x H' → g x σ H' fun σ2 H2 => tb { D with nx := N, ct := N, bk := D.nx } σ2 H2) := by
  refine ⟨fun i m σ H => m = xs.length - i ∧ i ≤ xs.length ∧ Pv i σ H, ⟨xs.length, by simp, Nat.zero_le _, h0⟩, ?_⟩
  rintro i m σ H ⟨rfl, hi, p⟩
  have q := hl i σ H hi p
  by_cases hlt : i < xs.length
  · refine .inr ⟨⟨xs, xs[i], q, by simp [hlt]⟩, Pv (i + 1), fun σ' H' p' => ⟨xs.length - (i + 1), by omega, rfl, hlt, p'⟩, fun x H' y => ?_⟩
    obtain ⟨T, x, rfl, hT, rfl, y⟩ := y
    exact hs i x σ _ T (y xs q) p hT
  · have e : i = xs.length := by omega
    subst e
    exact .inl ⟨⟨xs, q, Nat.le_refl _⟩, hd σ H p⟩
theorem lc_enum {K : PySem.W.Frag} {a : Addr} {xs : List V} {g : TG} {tt : TT} {te : TE} {vs : List Nat} {σ : L2.St} {H1 : Hp} {D : Addr} {Qd : Hp → Prop} (Pv : Nat → Hp → Prop) (h0 : Pv 0 (upd H1 D (.lst []))) (hl : ∀ i H, i ≤ xs.length → Pv i H → SqL K H a xs)
    (hs : ∀ i x H T, xs[i]? = some x → Pv i H → H T = none → g (.ref T) (wipe σ vs) (upd H T (.tup [.int (i : Nat), x])) fun σ2 H2 => wipe σ2 vs = wipe σ vs ∧ tt σ2 H2 fun b H3 =>
      if b = true then te σ2 H3 fun y H4 => ∃ acc, H4 D = some (.lst acc) ∧ acc.length < sizeLine ∧ Pv (i + 1) (upd H4 D (.lst (acc ++ [y]))) else Pv (i + 1) H3) (hd : ∀ H, Pv xs.length H → Qd H) :
    ∃ W : Nat → Nat → Hp → Prop, (∃ m, W 0 m (upd H1 D (.lst []))) ∧ ∀ i m H, W i m H →
      ((Ite K a).stop i H ∧ Qd H) ∨ ((Ite K a).go i H ∧ ∃ Nx : Hp → Prop, (∀ H', Nx H' → ∃ m', m' < m ∧ W (i + 1) m' H') ∧ ∀ x H', (Ite K a).yld i H x H' → g x (wipe σ vs) H' fun σ2 H2 => wipe σ2 vs = wipe σ vs ∧ tt σ2 H2 fun b H3 =>
        if b = true then te σ2 H3 fun y H4 => ∃ acc, H4 D = some (.lst acc) ∧ acc.length < sizeLine ∧ Nx (upd H4 D (.lst (acc ++ [y]))) else Nx H3) := by
  refine ⟨fun i m H => m = xs.length - i ∧ i ≤ xs.length ∧ Pv i H, ⟨xs.length, by simp, Nat.zero_le _, h0⟩, ?_⟩
  rintro i m H ⟨rfl, hi, p⟩
  have q := hl i H hi p
  by_cases hlt : i < xs.length
  · refine .inr ⟨⟨xs, xs[i], q, by simp [hlt]⟩, Pv (i + 1), fun H' p' => ⟨xs.length - (i + 1), by omega, rfl, hlt, p'⟩, fun x H' y => ?_⟩
    obtain ⟨T, x, rfl, hT, rfl, y⟩ := y
    exact hs i x _ T (y xs q) p hT
  · have e : i = xs.length := by omega
    subst e
    exact .inl ⟨⟨xs, q, Nat.le_refl _⟩, hd H p⟩
end Hc
set_option Elab.async false
set_option linter.all false
set_option maxRecDepth 100000
namespace Hc
open PySem PySem.Spec PyProof.Rows L2
def top (i : Nat) : Stmt := PySem.Challenge.pw_holdercounts_s01_answers.main.body.getD i (.Pass ⟨0, 0, 0, 0⟩)
abbrev s_Thing_init : Stmt := inClass (top 3) 0
abbrev s_Machine_init : Stmt := inClass (top 4) 0
abbrev s_filled : Stmt := top 5
abbrev s_sizes_together : Stmt := top 6
abbrev s_least_free : Stmt := top 7
abbrev s_drop_suspect : Stmt := top 9
abbrev s_add_suspect : Stmt := top 10
abbrev s_one_more : Stmt := top 11
abbrev s_one_less : Stmt := top 12
abbrev s_put : Stmt := top 13
abbrev s_add_missing : Stmt := top 15
abbrev s_reached : Stmt := top 16
abbrev s_slot_holders : Stmt := top 17
abbrev s_outside_counts : Stmt := top 18
abbrev s_staying : Stmt := top 19
abbrev s_collect : Stmt := top 20
abbrev s_within : Stmt := top 37
abbrev s_is_register_number : Stmt := top 38
abbrev s_new_refusal : Stmt := top 39
abbrev s_registers_refusal : Stmt := top 40
abbrev s_slot_refusal : Stmt := top 41
abbrev s_slots_of : Stmt := top 42
abbrev s_refusal : Stmt := top 43
abbrev s_do_new : Stmt := top 44
abbrev s_perform : Stmt := top 45
abbrev s_told_operations : Stmt := top 48
abbrev s_run : Stmt := top 49
abbrev s_one_up : Stmt := top 61
abbrev s_regs : Stmt := top 62
abbrev s_objects : Stmt := top 63
abbrev s_live_numbers : Stmt := top 64
abbrev s_live : Stmt := top 65
abbrev s_waste : Stmt := top 66
abbrev s_suspects : Stmt := top 67
abbrev s_trial : Stmt := top 68
abbrev s_numbered_anew : Stmt := top 69
abbrev s_row_part : Stmt := top 70
abbrev s_row : Stmt := top 71
abbrev s_places_of : Stmt := top 72
abbrev s_holders : Stmt := top 73
abbrev s_totals : Stmt := top 74
abbrev s_view : Stmt := top 75
abbrev s_went : Stmt := top 78
abbrev s_operation_answer : Stmt := top 79
abbrev s_call_end : Stmt := top 80
abbrev s_answer : Stmt := top 81
abbrev s_answers : Stmt := top 82
end Hc
set_option Elab.async false
set_option linter.all false
set_option maxRecDepth 100000
set_option maxHeartbeats 4000000
namespace Hc
open PySem PySem.Spec PyProof.Rows L2
section
variable {P : Program} {w : World} {K : PySem.W.Frag} {mg : Str → Option Value} {base : Heap}
inductive spFilledI (K : PySem.W.Frag) (vs : List V) (H : Hp) (Q : VK) : Prop
  | mk : ∀ (a : Addr) (xs : List (Option Nat)), (vs = [.ref a]) → (SqL K H a (xs.map oV)) → (xs.length ≤ 1000) → (∀ (H' : Hp) (g : Addr), H g = none → H' g = some (.lst ((xs.filterMap fun x => x).map iV)) → Same H H' → Q (.ref g) H') → spFilledI K vs H Q
def spFilled (K : PySem.W.Frag) : Sp := fun vs H Q _ => spFilledI K vs H Q
theorem sc_filled : FnScope ["places", "number"] ["places"] (defScope s_filled) := ⟨rfl, rfl, rfl, by decide +kernel, rfl, by decide +kernel, by decide +kernel⟩
theorem len_filled_take (xs : List (Option Nat)) (i : Nat) : (((xs.take i).filterMap fun x => x).map iV).length ≤ xs.length := by
  rw [List.length_map]
  exact Nat.le_trans (List.length_filterMap_le ..) (by rw [List.length_take]; exact Nat.min_le_right _ _)
theorem ok_filled {f : Addr} {fd : FuncData} (F : Fun K "filled" "filled" s_filled f fd) : FnOk P w K mg base CX0 1 f fd ["places"] (spFilled K) := by
  refine F.ok sc_filled (fun vs H Q E h => ?_) (fun cdv A outer s H vs Q E hr h => ?_)
  · obtain ⟨a, xs, rfl, _⟩ := h
    rfl
  · obtain ⟨a, xs, rfl, hS, hl, k⟩ := h
    refine ⟨_, pss_one (ps_ret (pe_lc (own := [("number", 1)]) rfl sc_filled.nd (pi_list (pv 0)) (blkOk_by (N := ["places", "number"]) (sc := defScope s_filled) (by decide +kernel)) (fun s H C cl fp => pg_name (i := 1) sc_filled.nd rfl (Or.inl rfl)) (fun s H C cl fp => pts_one (pt_cmpR op_notN (pv 1) pe_non (nomark _))) (fun s H C cl fp => pv 1))), ?_⟩
    refine ⟨_, rfl, a, rfl, ⟨_, hS⟩, fun D hD => ?_⟩
    refine lc_list (K := K) (a := a) (xs := xs.map oV) (fun i H' => H' D = some (.lst (((xs.take i).filterMap fun x => x).map iV)) ∧ Same H H') ⟨upd_same, same_new hD⟩ (fun i H' _ h => h.2.seq hS) ?_ ?_
    · rintro i x H' hi ⟨h1, h2⟩
      obtain ⟨y, hy, rfl⟩ := map_get hi
      refine ⟨rfl, _, rfl, rfl, _, rfl, ?_⟩
      cases y with
      | none =>
        refine iteF ?_
        rw [filterMap_take_snoc hy, Option.toList_none, List.append_nil]
        exact ⟨h1, h2⟩
      | some o =>
        refine iteT ⟨_, rfl, _, h1, ?_, ?_, ?_⟩
        · exact Nat.lt_of_le_of_lt (Nat.le_trans (len_filled_take xs i) hl) (by decide)
        · rw [upd_same, filterMap_take_snoc hy, List.map_append]; rfl
        · exact fun b u e => by rw [upd_ne (ne_of_none e hD)]; exact h2 b u e
    · rintro H' ⟨h1, h2⟩
      rw [List.length_map, List.take_length] at h1
      exact k H' D hD h1 h2
end
end Hc
set_option Elab.async false
set_option linter.all false
set_option maxRecDepth 100000
set_option maxHeartbeats 4000000
namespace Hc
open PySem PySem.Spec PyProof.Rows L2
structure Txt (K : PySem.W.Frag) (mg : Str → Option Value) (CM CT : Addr) : Prop where
  clM : Cls K CM
  clT : Cls K CT
  ne : CM ≠ CT
  nReg : NoAttr K CM "registers"
  nHeld : NoAttr K CM "held"
  nSus : NoAttr K CM "suspects"
  nMade : NoAttr K CM "made"
  nMadeS : NoAttr K CM "made_sizes"
  nNum : NoAttr K CT "number"
  nKind : NoAttr K CT "kind"
  nSize : NoAttr K CT "size"
  nSlots : NoAttr K CT "slots"
  nCnt : NoAttr K CT "count"
theorem flat_ints (l : List Nat) : (l.map iV).all flatV = true := List.all_eq_true.mpr fun x hx => by
  obtain ⟨o, _, rfl⟩ := List.mem_map.mp hx
  rfl
theorem inV_nat (o : Nat) : ∀ l : List Nat, inV (iV o) (l.map iV) = l.contains o
  | [] => rfl
  | a :: l => by
    have ih := inV_nat o l
    show (eqV (iV a) (iV o) || inV (iV o) (l.map iV)) = _
    rw [ih, List.contains_cons]
    congr 1
    show ((a : Int) == (o : Int)) = (o == a)
    rw [Bool.eq_iff_iff]
    simp
    omega
section
variable {P : Program} {w : World} {K : PySem.W.Frag} {mg : Str → Option Value} {base : Heap} {CM CT : Addr}
inductive spLeastI (CM CT : Addr) (vs : List V) (H : Hp) (Q : VK) : Prop
  | mk : ∀ (m : Addr) (W : Str → Option V) (F : AS) (h : Vasnpe.Heap) (o : Nat), (vs = [.ref m]) → (MachAt CM CT H m W F h) → (Vasnpe.freeId h = some o) → (Q (iV o) H) → spLeastI CM CT vs H Q
def spLeast (CM CT : Addr) : Sp := fun vs H Q _ => spLeastI CM CT vs H Q
theorem sc_least : FnScope ["machine", "number"] ["machine"] (defScope s_least_free) := ⟨rfl, rfl, rfl, by decide +kernel, rfl, by decide +kernel, by decide +kernel⟩
theorem ok_least {f : Addr} {fd : FuncData} (F : Fun K "least_free" "least_free" s_least_free f fd) (T : Txt K mg CM CT) : FnOk P w K mg base CX0 1 f fd ["machine"] (spLeast CM CT) := by
  refine F.ok sc_least (fun vs H Q E h => ?_) (fun cdv A outer s H vs Q E hr h => ?_)
  · obtain ⟨m, W, F, h, o, rfl, _⟩ := h
    rfl
  · obtain ⟨m, W, F, h, o, rfl, ⟨A', R, rfl⟩, ho, k⟩ := h
    have hu := hu_of hr
    obtain ⟨ho1, ho2, ho3⟩ := free_some.mp ho
    refine ⟨_, pss_cons (ps_set (i := 1) sc_least.nd rfl (Or.inl rfl) pe_int) (pss_cons (ps_while PassesOwn.never (pt_cmp (pc_din hu (pv 1) (pe_fld (pv 0) rfl))) (pss_one (ps_aug (i := 1) sc_least.nd rfl (Or.inl rfl) pe_int ip_add))) (pss_one (ps_ret (pv 1)))), ?_⟩
    refine ⟨fun k σ H' => ∃ n : Nat, σ = [some (.ref m), some (iV n)] ∧ n + k = o ∧ H' = H, ⟨o, 0, rfl, by omega, rfl⟩, ?_⟩
    rintro j σ H' ⟨n, rfl, hn, rfl⟩
    refine Rep.macE (R) fun dx fs hm hlen l1 l2 l3 _ => ?_
    refine HeldAt.exE (R.held) fun kvs hk nd l32 ln a b => ?_
    refine ⟨_, rfl, _, rfl, m, CM, dx, fs, _, rfl, hm, T.clM, T.nHeld, l2, A'.ha, _, rfl, DGet.k (k := nk n) hk, _, rfl, ?_⟩
    by_cases e : n = o
    · have hv : valV kvs (nk n) = none := by
        cases q : valV kvs (nk n) with
        | none => rfl
        | some v =>
          obtain ⟨x, d, ex, hx⟩ := b _ v q
          rw [← nk_inj ex, e, ho2] at hx
          cases hx
      rw [hv]
      refine iteF ⟨_, rfl, ?_⟩
      rw [e]
      exact k
    · obtain ⟨d, hd⟩ := ho3 n (by omega)
      rw [a n d hd]
      refine iteT ⟨fun σ' H'' => σ' = [some (.ref m), some (iV (n + 1))] ∧ H'' = H', fun σ' H'' ⟨e1, e2⟩ => ⟨j - 1, by omega, n + 1, e1, by omega, e2⟩, ?_⟩
      exact ⟨_, rfl, _, _, rfl, rfl, rfl, rfl⟩
inductive spDropI (CM CT : Addr) (vs : List V) (H : Hp) (Q : VK) : Prop
  | mk : ∀ (m : Addr) (W : Str → Option V) (A : Adr) (h : Vasnpe.Heap) (o : Nat), (vs = [.ref m, iV o]) → (Rep CM CT H m W A h) → (h.suspects.Nodup) → (∀ H' : Hp, Rep CM CT H' m W A { h with suspects := h.suspects.filter fun s => s != o } → Frm (Foot A m h) H (Foot A m h) H' → Q .non H') → spDropI CM CT vs H Q
def spDrop (CM CT : Addr) : Sp := fun vs H Q _ => spDropI CM CT vs H Q
inductive spAddSI (CM CT : Addr) (vs : List V) (H : Hp) (Q : VK) : Prop
  | mk : ∀ (m : Addr) (W : Str → Option V) (A : Adr) (h : Vasnpe.Heap) (o : Nat), (vs = [.ref m, iV o]) → (Rep CM CT H m W A h) → (h.suspects.length < 1000) → (∀ H' : Hp, Rep CM CT H' m W A { h with suspects := Vasnpa.put h.suspects o } → Frm (Foot A m h) H (Foot A m h) H' → Q .non H') → spAddSI CM CT vs H Q
def spAddS (CM CT : Addr) : Sp := fun vs H Q _ => spAddSI CM CT vs H Q
theorem sc_drop : FnScope ["machine", "number"] ["machine", "number"] (defScope s_drop_suspect) := ⟨rfl, rfl, rfl, by decide +kernel, rfl, by decide +kernel, by decide +kernel⟩
theorem sc_addS : FnScope ["machine", "number"] ["machine", "number"] (defScope s_add_suspect) := ⟨rfl, rfl, rfl, by decide +kernel, rfl, by decide +kernel, by decide +kernel⟩
theorem ok_drop {f : Addr} {fd : FuncData} (F : Fun K "drop_suspect" "drop_suspect" s_drop_suspect f fd) (T : Txt K mg CM CT) : FnOk P w K mg base CX0 1 f fd ["machine", "number"] (spDrop CM CT) := by
  refine F.ok sc_drop (fun vs H Q E h => ?_) (fun cdv A outer s H vs Q E hr h => ?_)
  · obtain ⟨m, W, F, h, o, rfl, _⟩ := h
    rfl
  · obtain ⟨m, W, A', h, o, rfl, R, nd, k⟩ := h
    refine ⟨_, pss_one (ps_if (pt_cmpR op_in_seq (pv 1) (pe_fld (pv 0) rfl) (by rfl)) (pss_one (ps_expr (pe_bm PySem.F.plainAttrs_list PySem.F.slot_list_remove PySem.F.type_list_remove mt_remove (pe_fld (pv 0) rfl) (pa_cons (pv 1) pa_nil)))) pss_nil), ?_⟩
    refine Rep.macE (R) fun dx fs hm hlen l1 l2 l3 _ => ?_
    refine ⟨_, rfl, _, rfl, m, CM, dx, fs, _, rfl, hm, T.clM, T.nSus, l3, A'.sa, _, rfl, .inl (SqL.of R.sus), rfl, flat_ints _, _, rfl, ?_⟩
    show if inV (iV o) (h.suspects.map iV) = true then _ else _
    rw [inV_nat]
    refine ite2 (fun hc => ?_) (fun hc => ?_)
    · obtain ⟨j, hj⟩ := List.getElem?_of_mem (List.contains_iff_mem.mp hc)
      refine ⟨_, rfl, m, CM, dx, fs, _, rfl, hm, T.clM, T.nSus, l3, .inl ⟨rfl, _, SqL.of R.sus⟩, _, rfl, A'.sa, h.suspects.map fun (n : Nat) => (n : Int), (o : Int), j, rfl, rfl, ?_, ?_, ?_, ?_⟩
      · rw [R.sus, List.map_map]; rfl
      · rw [List.getElem?_map, hj]; rfl
      · intro i hi z
        rw [List.getElem?_map] at z
        cases q : h.suspects[i]? with
        | none => rw [q] at z; cases z
        | some x =>
          rw [q] at z
          have : (x : Int) = (o : Int) := Option.some.inj z
          have : x = o := by omega
          subst this
          have := ix_uniq nd q hj
          omega
      · have e : (h.suspects.map fun (n : Nat) => (n : Int)).eraseIdx j = (h.suspects.filter fun s => s != o).map fun (n : Nat) => (n : Int) := by rw [← map_eraseIdx, erase_filter nd hj]
        rw [e, List.map_map]
        exact k _ (R.setSus _) (Frm.write .sa)
    · have hn : o ∉ h.suspects := fun z => hc (List.contains_iff_mem.mpr z)
      refine k H ?_ .refl
      have e : h.suspects.filter (fun s => s != o) = h.suspects := filter_ne_self hn
      rw [e]
      exact R
theorem ok_addS {f : Addr} {fd : FuncData} (F : Fun K "add_suspect" "add_suspect" s_add_suspect f fd) (T : Txt K mg CM CT) : FnOk P w K mg base CX0 1 f fd ["machine", "number"] (spAddS CM CT) := by
  refine F.ok sc_addS (fun vs H Q E h => ?_) (fun cdv A outer s H vs Q E hr h => ?_)
  · obtain ⟨m, W, F, h, o, rfl, _⟩ := h
    rfl
  · obtain ⟨m, W, A', h, o, rfl, R, hl, k⟩ := h
    refine ⟨_, pss_one (ps_if (pt_cmpR op_notIn_seq (pv 1) (pe_fld (pv 0) rfl) (by rfl)) (pss_one (ps_expr (pe_bm PySem.F.plainAttrs_list PySem.F.slot_list_append PySem.F.type_list_append mt_append (pe_fld (pv 0) rfl) (pa_cons (pv 1) pa_nil)))) pss_nil), ?_⟩
    refine Rep.macE (R) fun dx fs hm hlen l1 l2 l3 _ => ?_
    refine ⟨_, rfl, _, rfl, m, CM, dx, fs, _, rfl, hm, T.clM, T.nSus, l3, A'.sa, _, rfl, .inl (SqL.of R.sus), rfl, flat_ints _, _, rfl, ?_⟩
    show if (!inV (iV o) (h.suspects.map iV)) = true then _ else _
    rw [inV_nat]
    refine ite2 (fun hc => ?_) (fun hc => ?_)
    · refine ⟨_, rfl, m, CM, dx, fs, _, rfl, hm, T.clM, T.nSus, l3, .inl ⟨rfl, _, SqL.of R.sus⟩, _, rfl, A'.sa, _, _, rfl, rfl, R.sus, ?_, ?_⟩
      · rw [List.length_map]; exact Nat.lt_trans hl (by decide)
      · have e : Vasnpa.put h.suspects o = h.suspects ++ [o] := by
          unfold Vasnpa.put; rw [if_neg (by simpa using hc)]
        have r := R.setSus (h.suspects ++ [o])
        rw [List.map_append] at r
        refine k _ ?_ (Frm.write .sa)
        rw [e]
        exact r
    · have e : Vasnpa.put h.suspects o = h.suspects := put_id (List.contains_iff_mem.mp (by simpa using hc))
      refine k H ?_ .refl
      rw [e]
      exact R
end
end Hc
set_option Elab.async false
set_option linter.all false
set_option maxRecDepth 100000
set_option maxHeartbeats 4000000
namespace Hc
open PySem PySem.Spec PyProof.Rows L2
def GoneTh (CT : Addr) (H : Hp) (F : AS) (a : Addr) (o z : Nat) : Prop := ¬ F a ∧ ∃ dx fs, H a = some (.ins CT dx fs) ∧ lk fs "number" = some (iV o) ∧ lk fs "size" = some (iV z)
def GoneAt (CT : Addr) (H : Hp) (F : AS) (g : Addr) (l : List Nat) (sz : Nat → Nat) : Prop :=
  ∃ ps : List (Addr × Nat), H g = some (.lst (ps.map fun p => V.ref p.1)) ∧ ps.map (·.2) = l ∧ ¬ F g ∧ ∀ p, p ∈ ps → GoneTh CT H F p.1 p.2 (sz p.2)
section
variable {CM CT : Addr} {H H' : Hp} {F F' : AS} {a g : Addr} {o z : Nat} {l : List Nat} {sz : Nat → Nat}
theorem GoneTh.frm (t : GoneTh CT H F a o z) (f : Frm F H F' H') : GoneTh CT H' F' a o z := by
  obtain ⟨n, dx, fs, e, r⟩ := t
  exact ⟨f.out e n, dx, fs, f.keep a _ e n, r⟩
theorem GoneAt.frm (t : GoneAt CT H F g l sz) (f : Frm F H F' H') : GoneAt CT H' F' g l sz := by
  obtain ⟨ps, e, hl, n, r⟩ := t
  exact ⟨ps, f.keep g _ e n, hl, f.out e n, fun p hp => (r p hp).frm f⟩
theorem GoneAt.nil {g : Addr} (e : H g = some (.lst [])) (n : ¬ F g) : GoneAt CT H F g [] sz := ⟨[], e, rfl, n, fun p hp => by simp at hp⟩
theorem GoneAt.snoc (t : GoneAt CT H F g l sz) (x : GoneTh CT H F a o (sz o)) : ∃ xs, H g = some (.lst xs) ∧ xs.length = l.length ∧ GoneAt CT (upd H g (.lst (xs ++ [.ref a]))) F g (l ++ [o]) sz := by
  obtain ⟨ps, e, hl, n, r⟩ := t
  refine ⟨_, e, by rw [List.length_map, ← hl, List.length_map], ps ++ [(a, o)], by rw [upd_same, List.map_append]; rfl, by rw [List.map_append, hl]; rfl, n, fun p hp => ?_⟩
  have q : GoneTh CT H F p.1 p.2 (sz p.2) := by
    rcases List.mem_append.mp hp with z | z
    · exact r p z
    · have : p = (a, o) := by simpa using z
      subst this
      exact x
  obtain ⟨n1, dx, fs, e1, r1⟩ := q
  exact ⟨n1, dx, fs, by rw [upd_ne (ne_of e1 e (by intro z; cases z))]; exact e1, r1⟩
theorem Frm.seq {K : PySem.W.Frag} {xs : List V} (f : Frm F H F' H') (n : ¬ F a) (h : SqL K H a xs) : SqL K H' a xs := by
  rcases h with (h | ⟨o, h⟩) | h
  · exact .inl (.inl (f.keep _ _ h n))
  · exact .inl (.inr ⟨o, f.keep _ _ h n⟩)
  · exact .inr h
end
section
variable {CM CT : Addr} {H H' : Hp} {m : Addr} {W : Str → Option V} {A : Adr} {h : Vasnpe.Heap} {F : AS} {o : Nat} {c : Vasnpe.Cell}
theorem Rep.gone_out_s (R : Rep CM CT H m W A h) (e : Vasnpe.cellAt h o = some c) : ¬ Foot A m (Vasnpe.setCell h o none) (A.sA o) := by
  rintro (z | z | z | z | ⟨x, d, hx, z⟩)
  · exact R.s_ne_m e z
  · exact (R.sepS o c e).1 z
  · exact (R.sepS o c e).2 z
  · exact R.s_ne_ha e z
  · rw [cellAt_set _ (cell_lt e)] at hx
    by_cases ex : x = o
    · rw [if_pos ex] at hx; cases hx
    · rw [if_neg ex] at hx
      rcases z with z | z
      · exact R.t_ne_s hx e z.symm
      · exact R.sepT o x c d e hx (fun q => ex q.symm) z
theorem more_held {h : Vasnpe.Heap} {o : Nat} {c : Vasnpe.Cell} (e : Vasnpe.cellAt h o = some c) (x : Nat) : (∃ d, Vasnpe.cellAt (Vasnpe.moreOf h (some o)) x = some d) ↔ ∃ d, Vasnpe.cellAt h x = some d := by
  rw [moreOf_some e]
  exact set_held e x
theorem moreAll_ok {h : Vasnpe.Heap} (nd : h.suspects.Nodup) : ∀ {ns : List Nat}, HeldAll h ns → (∀ x, (∃ d, Vasnpe.cellAt (moreAll h ns) x = some d) ↔ ∃ d, Vasnpe.cellAt h x = some d) ∧ (moreAll h ns).suspects.Nodup := by
  intro ns
  induction ns generalizing h with
  | nil => exact fun _ => ⟨fun _ => Iff.rfl, nd⟩
  | cons o ns ih =>
    intro k
    obtain ⟨c, e⟩ := k o (by simp)
    have nd2 : (Vasnpe.moreOf h (some o)).suspects.Nodup := by rw [moreOf_some e]; exact nd.filter _
    have q := ih nd2 (fun x hx => (more_held e x).mpr (k x (by simp [hx])))
    exact ⟨fun x => (q.1 x).trans (more_held e x), q.2⟩
theorem Rep.more (R : Rep CM CT H m W A h) (hC : CM ≠ CT) (e : Vasnpe.cellAt h o = some c) : ∃ dx fs, H (A.tA o) = some (.ins CT dx fs) ∧ fs.length < 100 ∧ lk fs "count" = some (iV c.count) ∧
    Rep CM CT (upd H (A.tA o) (.ins CT dx (putF "count" (.int ((c.count : Int) + 1)) fs))) m W A (Vasnpe.setCell h o (some { c with count := c.count + 1 })) := by
  refine ThingAt.exE ((R.thing o c e)) fun dx fs h1 h2 _ _ _ _ h7 => ?_
  exact ⟨dx, fs, h1, h2, h7, R.setCount hC e h1 (c.count + 1)⟩
end
section
variable {P : Program} {w : World} {K : PySem.W.Frag} {mg : Str → Option Value} {base : Heap} {CM CT : Addr}
inductive spMoreI (K : PySem.W.Frag) (CM CT : Addr) (vs : List V) (H : Hp) (Q : VK) : Prop
  | mk : ∀ (m a : Addr) (W : Str → Option V) (A : Adr) (h : Vasnpe.Heap) (ns : List Nat), (vs = [.ref m, .ref a]) → (Rep CM CT H m W A h) → (SqL K H a (ns.map iV)) → (¬ Foot A m h a) → (HeldAll h ns) → (h.suspects.Nodup) → (∀ H' : Hp, Rep CM CT H' m W A (moreAll h ns) → Frm (Foot A m h) H (Foot A m h) H' → Q .non H') → spMoreI K CM CT vs H Q
def spMore (K : PySem.W.Frag) (CM CT : Addr) : Sp := fun vs H Q _ => spMoreI K CM CT vs H Q
theorem sc_more : FnScope ["machine", "numbers", "number", "thing"] ["machine", "numbers"] (defScope s_one_more) := ⟨rfl, rfl, rfl, by decide +kernel, rfl, by decide +kernel, by decide +kernel⟩
theorem ok_more {f : Addr} {fd : FuncData} (F : Fun K "one_more" "one_more" s_one_more f fd) (T : Txt K mg CM CT) (C1 : Callee P w K mg base 1 "drop_suspect" ["machine", "number"] (spDrop CM CT)) : FnOk P w K mg base CX0 2 f fd ["machine", "numbers"] (spMore K CM CT) := by
  refine F.ok sc_more (fun vs H Q E h => ?_) (fun cdv A0 outer s H vs Q E hr h => ?_)
  · obtain ⟨m, a, W, A, h, ns, rfl, _⟩ := h
    rfl
  · obtain ⟨m, a, W, A, h, ns, rfl, R, hS, na, hh, nd, k⟩ := h
    have hu := hu_of hr
    refine ⟨_, pss_one (ps_for PassesOwn.never rfl (pi_list (pv 1)) (pg_name (i := 2) sc_more.nd rfl (Or.inl rfl))
      (pss_cons (ps_set (i := 3) sc_more.nd rfl (Or.inl rfl) (pe_dget hu (pe_fld (pv 0) rfl) (pv 2) (fun _ _ => rfl)))
      (pss_cons (ps_fldaug (pv 3) pe_int in_add)
      (pss_one (ps_expr (pe_cal C1 hr (pa_cons (pv 0) (pa_cons (pv 2) pa_nil)))))))), ?_⟩
    refine ⟨_, rfl, a, rfl, ⟨_, hS⟩, for_list (K := K) (a := a) (xs := ns.map iV) (fun i σ H' => ∃ v2 v3 : Option V, σ = [some (.ref m), some (.ref a), v2, v3] ∧ Rep CM CT H' m W A (moreAll h (ns.take i)) ∧ Frm (Foot A m h) H (Foot A m h) H')
      ⟨none, none, rfl, R, .refl⟩ (fun i σ H' _ ⟨_, _, _, _, f⟩ => f.seq na hS) ?_ ?_⟩
    · rintro i y σ H' hi ⟨v2, v3, rfl, R', f⟩
      obtain ⟨o, ho, rfl⟩ := map_get hi
      have q := moreAll_ok (ns := ns.take i) nd (fun x hx => hh x (List.mem_of_mem_take hx))
      obtain ⟨c, e⟩ := (q.1 o).mpr (hh o (List.mem_of_getElem? ho))
      refine Rep.macE (R') fun dx fs hm hlen l1 l2 l3 _ => ?_
      refine HeldAt.exE (R'.held) fun kvs hk _ _ _ ka _ => ?_
      obtain ⟨dt, ft, t1, t2, t3, R2⟩ := R'.more T.ne e
      have hg : DGet H' A.ha (iV o) (some (.ref (A.tA o))) := by
        have := DGet.k (k := nk o) hk
        rw [ka o c e] at this
        exact this
      refine ⟨_, rfl, m, CM, dx, fs, _, rfl, hm, T.clM, T.nHeld, l2, _, rfl, A.ha, _, rfl, hg, ?_⟩
      refine ⟨_, rfl, A.tA o, CT, dt, ft, _, rfl, t1, T.clT, T.nCnt, t3, _, _, rfl, rfl, dt, ft, t1, Nat.lt_trans t2 (by decide), ?_⟩
      refine ⟨_, rfl, _, rfl, m, W, A, _, o, rfl, R2, q.2, fun H2 R3 f2 => ?_⟩
      have e3 : Foot A m (Vasnpe.setCell (moreAll h (ns.take i)) o (some { c with count := c.count + 1 })) = Foot A m h := (Foot_congr (set_held e)).trans (Foot_congr q.1)
      rw [e3] at f2
      have e4 : moreAll h (ns.take (i + 1)) = Vasnpe.moreOf (moreAll h (ns.take i)) (some o) := foldl_take ho
      refine ⟨_, _, rfl, ?_, f.trans ((Frm.write (by rw [← Foot_congr q.1]; exact .tA e)).trans f2)⟩
      rw [e4, moreOf_some e]
      exact R3
    · rintro σ H' ⟨v2, v3, rfl, R', f⟩
      rw [List.length_map, List.take_length] at R'
      exact k H' R' f
end
end Hc
set_option Elab.async false
set_option linter.all false
set_option maxRecDepth 100000
set_option maxHeartbeats 4000000
namespace Hc
open PySem PySem.Spec PyProof.Rows L2
theorem sus_len {h : Vasnpe.Heap} {pend : List Nat} (G : Good h pend) : h.suspects.length < 1000 := by
  have := nodup_le G.snd (fun x hx => (sus_held G).lt G x hx)
  omega
theorem slots_len {h : Vasnpe.Heap} {pend : List Nat} (G : Good h pend) {o : Nat} {c : Vasnpe.Cell} (e : Vasnpe.cellAt h o = some c) : c.slots.length ≤ 5 := (G.shape o c e).2.2
section
variable {P : Program} {w : World} {K : PySem.W.Frag} {mg : Str → Option Value} {base : Heap} {CM CT : Addr}
inductive spLessI (K : PySem.W.Frag) (CM CT : Addr) (vs : List V) (H : Hp) (Q : VK) : Prop
  | mk : ∀ (m a : Addr) (W : Str → Option V) (A : Adr) (h : Vasnpe.Heap) (ns : List Nat) (sz : Nat → Nat), (vs = [.ref m, .ref a]) → (Rep CM CT H m W A h) → (SqL K H a (ns.map iV)) → (ns.length ≤ 1) → (Good h ns) → ((∀ o c, Vasnpe.cellAt h o = some c → c.size = sz o)) → (∀ (H' : Hp) (g : Addr), Rep CM CT H' m W A (Vasnpe.lessOf Vasnpe.FUEL h ns []).1 → Frm (Foot A m h) H (Foot A m (Vasnpe.lessOf Vasnpe.FUEL h ns []).1) H' → GoneAt CT H' (Foot A m (Vasnpe.lessOf Vasnpe.FUEL h ns []).1) g (Vasnpe.lessOf Vasnpe.FUEL h ns []).2 sz → H g = none → Q (.ref g) H') → spLessI K CM CT vs H Q
def spLess (K : PySem.W.Frag) (CM CT : Addr) : Sp := fun vs H Q _ => spLessI K CM CT vs H Q
theorem sc_less : FnScope ["machine", "numbers", "gone", "waiting", "number", "thing"] ["machine", "numbers"] (defScope s_one_less) := ⟨rfl, rfl, rfl, by decide +kernel, rfl, by decide +kernel, by decide +kernel⟩
structure LessI (CM CT : Addr) (m g : Addr) (W : Str → Option V) (A : Adr) (sz : Nat → Nat) (F0 : AS) (H0 : Hp) (res : Vasnpe.Heap × List Nat) (k : Nat) (wa : Addr) (H : Hp) (h : Vasnpe.Heap) (ws done : List Nat) : Prop where
  rep : Rep CM CT H m W A h
  good : Good h ws
  meas : Hc.slotTot h + ws.length = k
  run : ∃ n, k < n ∧ Vasnpe.lessOf n h ws done = res
  wl : H wa = some (.lst (ws.map iV))
  wo : ¬ Foot A m h wa
  wf : ∀ b u, H0 b = some u → ¬ F0 b → b ≠ wa
  gone : GoneAt CT H (Foot A m h) g done sz
  ne : wa ≠ g
  frm : Frm F0 H0 (Foot A m h) H
  size : ∀ o c, Vasnpe.cellAt h o = some c → c.size = sz o
  few : done.length + k < 400
theorem ok_less {f : Addr} {fd : FuncData} (F : Fun K "one_less" "one_less" s_one_less f fd) (T : Txt K mg CM CT) (bList : mg "list" = none) (C1 : Callee P w K mg base 1 "drop_suspect" ["machine", "number"] (spDrop CM CT)) (C2 : Callee P w K mg base 1 "add_suspect" ["machine", "number"] (spAddS CM CT))
    (C3 : Callee P w K mg base 1 "filled" ["places"] (spFilled K)) : FnOk P w K mg base CX0 2 f fd ["machine", "numbers"] (spLess K CM CT) := by
  refine F.ok sc_less (fun vs H Q E h => ?_) (fun cdv A0 outer s H vs Q E hr h => ?_)
  · obtain ⟨m, a, W, A, h, ns, sz, rfl, _⟩ := h
    rfl
  · obtain ⟨m, a, W, A, h, ns, sz, rfl, R, hS, hn1, G, hz, k⟩ := h
    have hu := hu_of hr
    refine ⟨_, pss_cons (ps_set (i := 2) sc_less.nd rfl (Or.inl rfl) (pe_lst pa_nil))
      (pss_cons (ps_set (i := 3) sc_less.nd rfl (Or.inl rfl) (pe_callTy call_list_of rfl bList (by rfl) (pa_cons (pv 1) pa_nil)))
      (pss_cons (ps_while PassesOwn.never (pt_truth (pv 3) (fun _ => rfl))
        (pss_cons (ps_set (i := 4) sc_less.nd rfl (Or.inl rfl) (pe_bm PySem.F.plainAttrs_list PySem.F.slot_list_pop PySem.F.type_list_pop mt_popAt (pv 3) (pa_cons pe_int pa_nil)))
        (pss_cons (ps_set (i := 5) sc_less.nd rfl (Or.inl rfl) (pe_dget1 hu (pe_fld (pv 0) rfl) (pv 4) ⟨rfl, rfl, rfl, rfl⟩))
        (pss_cons (ps_if (pt_cmpR op_isN (pv 5) pe_non (nomark _)) (pss_one ps_continue) pss_nil)
        (pss_one (ps_if (pt_cmpR op_eq (pe_fld (pv 5) rfl) pe_int (nomark _))
          (pss_cons (ps_expr (pe_dpop1 (pe_fld (pv 0) rfl) (pv 4) ⟨rfl, rfl, rfl, rfl⟩))
          (pss_cons (ps_expr (pe_cal C1 hr (pa_cons (pv 0) (pa_cons (pv 4) pa_nil))))
          (pss_cons (ps_expr (pe_bm PySem.F.plainAttrs_list PySem.F.slot_list_append PySem.F.type_list_append mt_append (pv 2) (pa_cons (pv 5) pa_nil)))
          (pss_one (ps_set (i := 3) sc_less.nd rfl (Or.inl rfl) (pe_op op_cat (pe_cal C3 hr (pa_cons (pe_fld (pv 5) rfl) pa_nil)) (pv 3)))))))
          (pss_cons (ps_fldaug (pv 5) pe_int in_sub)
          (pss_one (ps_expr (pe_cal C2 hr (pa_cons (pv 0) (pa_cons (pv 4) pa_nil))))))))))))
      (pss_one (ps_ret (pv 2))))), ?_⟩
    refine ⟨Nat.zero_le _, fun g hg => ?_⟩
    refine ⟨_, rfl, a, _, rfl, .inl ((same_new hg).seq hS), fun wa hwa => ?_⟩
    have s1 : Same H (upd H g (.lst [])) := same_new hg
    have s2 : Same (upd H g (.lst [])) (upd (upd H g (.lst [])) wa (.lst (ns.map iV))) := same_new hwa
    have wne : wa ≠ g := fun z => by
      rw [z, upd_same] at hwa
      cases hwa
    have R2 := R.same (s1.trans s2)
    refine ⟨fun k σ H' => ∃ (wa : Addr) (h' : Vasnpe.Heap) (ws done : List Nat) (v4 v5 : Option V), σ = [some (.ref m), some (.ref a), some (.ref g), some (.ref wa), v4, v5] ∧ LessI CM CT m g W A sz (Foot A m h) H (Vasnpe.lessOf Vasnpe.FUEL h ns []) k wa H' h' ws done,
      ⟨_, wa, h, ns, [], none, none, rfl, R2, G, rfl, ⟨_, fuel_ok G hn1, rfl⟩, upd_same, fun fz => ?_, fun b u e _ => ne_of_none (s1 _ _ e) hwa, GoneAt.nil (by rw [upd_ne wne.symm]; exact upd_same) (fun fz => ?_), wne, Frm.same (s1.trans s2), hz, ?_⟩, ?_⟩
    · obtain ⟨u, e⟩ := (R.same s1).there fz
      rw [hwa] at e; cases e
    · obtain ⟨u, e⟩ := R.there fz
      rw [hg] at e; cases e
    · have := fuel_ok G hn1
      show ([] : List Nat).length + (slotTot h + ns.length) < 400
      have e : Vasnpe.FUEL = 400 := rfl
      simp only [List.length_nil]
      omega
    rintro j σ H' ⟨wa', h', ws, done, v4, v5, rfl, I⟩
    refine ⟨_, rfl, !(ws.map iV).isEmpty, .inl ⟨_, SqL.of I.wl, rfl⟩, ?_⟩
    cases ws with
    | nil =>
      refine iteF ⟨_, rfl, ?_⟩
      obtain ⟨n, hn, e⟩ := I.run
      rw [less_nil] at e
      have e1 : (Vasnpe.lessOf Vasnpe.FUEL h ns []).1 = h' := by rw [← e]
      have e2 : (Vasnpe.lessOf Vasnpe.FUEL h ns []).2 = done := by rw [← e]
      refine k H' g ?_ ?_ ?_ hg
      · rw [e1]; exact I.rep
      · rw [e1]; exact I.frm
      · rw [e1, e2]; exact I.gone
    | cons o r =>
      obtain ⟨c, ec⟩ := I.good.mpend (List.mem_cons_self ..)
      have one := I.good.one ec
      obtain ⟨n, hn, erun⟩ := I.run
      have hmeas := I.meas
      rw [List.length_cons] at hmeas
      refine iteT ⟨fun σ' H'' => ∃ (wa : Addr) (h'' : Vasnpe.Heap) (ws' done' : List Nat) (v4 v5 : Option V), σ' = [some (.ref m), some (.ref a), some (.ref g), some (.ref wa), v4, v5] ∧ LessI CM CT m g W A sz (Foot A m h) H (Vasnpe.lessOf Vasnpe.FUEL h ns []) (j - 1) wa H'' h'' ws' done',
        fun σ' H'' ⟨x1, x2, x3, x4, x5, x6, x7, x8⟩ => ⟨j - 1, by omega, x1, x2, x3, x4, x5, x6, x7, x8⟩, ?_⟩
      refine ⟨_, rfl, .inl ⟨rfl, _, SqL.of I.wl⟩, wa', _, 0, 0, _, rfl, rfl, I.wl, by decide, by decide, (ixN_seq (i := 0) (j := 0) (by simp [ixN])).1, rfl, ?_⟩
      have hH1 : ∀ b u, H' b = some u → b ≠ wa' → upd H' wa' (.lst (((o :: r).map iV).eraseIdx 0)) b = some u := fun b u e n => by rw [upd_ne n]; exact e
      have f1 : ∀ b u, Foot A m h' b → H' b = some u → upd H' wa' (.lst (((o :: r).map iV).eraseIdx 0)) b = some u := fun b u fb e => hH1 b u e fun z => I.wo (as_eq z.symm fb)
      have R1 := I.rep.keep f1
      have wl1 : upd H' wa' (.lst (((o :: r).map iV).eraseIdx 0)) wa' = some (.lst (r.map iV)) := upd_same
      have gone1 : GoneAt CT (upd H' wa' (.lst (((o :: r).map iV).eraseIdx 0))) (Foot A m h') g done sz := by
        obtain ⟨ps, e1, e2, e3, e4⟩ := I.gone
        refine ⟨ps, hH1 g _ e1 I.ne.symm, e2, e3, fun p hp => ?_⟩
        obtain ⟨n1, dx, fs, e5, e6⟩ := e4 p hp
        exact ⟨n1, dx, fs, hH1 _ _ e5 (ne_of e5 I.wl (by intro z; cases z)), e6⟩
      have frm1 : Frm (Foot A m h) H (Foot A m h') (upd H' wa' (.lst (((o :: r).map iV).eraseIdx 0))) := by
        refine ⟨fun b u e n => ?_, I.frm.grow⟩
        have e' := I.frm.keep b u e n
        exact hH1 b u e' (I.wf b u e n)
      generalize upd H' wa' (.lst (((o :: r).map iV).eraseIdx 0)) = H1 at R1 wl1 gone1 frm1
      refine Rep.macE (R1) fun dx fs hm hlen l1 l2 l3 _ => ?_
      refine HeldAt.exE (R1.held) fun kvs hk _ _ _ ka _ => ?_
      have hv := ka o c ec
      have hg1 : DGet H1 A.ha (iV o) (some (.ref (A.tA o))) := by
        have := DGet.k (k := nk o) hk
        rw [hv] at this
        exact this
      refine ⟨_, rfl, m, CM, dx, fs, _, rfl, hm, T.clM, T.nHeld, l2, A.ha, rfl, .inl ⟨_, .inl hk⟩, _, rfl, _, hg1, ?_⟩
      rw [Option.getD_some]
      refine ⟨_, rfl, rfl, _, rfl, ?_⟩
      refine iteF ?_
      refine ThingAt.exE ((R1.thing o c ec)) fun dt ft t1 t2 t3 t4 t5 t6 t7 => ?_
      refine ⟨_, rfl, A.tA o, CT, dt, ft, _, rfl, t1, T.clT, T.nCnt, t7, rfl, _, rfl, ?_⟩
      show if decide (V.int (c.count : Int) = V.int 1) = true then _ else _
      have hrun : ∃ n', n = n' + 1 := ⟨n - 1, by omega⟩
      obtain ⟨n', rfl⟩ := hrun
      refine ite2 (fun hc => ?_) (fun hc => ?_)
      · have c1 : c.count ≤ 1 := by
          have := V.int.inj (of_decide_eq_true hc)
          omega
        refine ⟨_, rfl, m, CM, dx, fs, _, rfl, hm, T.clM, T.nHeld, l2, A.ha, rfl, .inl ⟨_, .inl hk⟩, _, rfl, kvs, nk o, _, hk, rfl, hv, ?_⟩
        have R2 := R1.setGone I.good.clen ec hk
        have g2 := good_go I.good ec c1
        have o1 := R1.gone_out T.ne ec
        have o2 := R1.gone_out_s ec
        have t1' : upd H1 A.ha (.dK (dropK kvs (nk o))) (A.tA o) = some (.ins CT dt ft) := by rw [upd_ne (R1.t_ne_ha ec)]; exact t1
        have ts' : upd H1 A.ha (.dK (dropK kvs (nk o))) (A.sA o) = some (.lst (c.slots.map oV)) := by rw [upd_ne (R1.s_ne_ha ec)]; exact (R1.thing o c ec).sl
        have f2 : Frm (Foot A m h') H1 (Foot A m (Vasnpe.setCell h' o none)) (upd H1 A.ha (.dK (dropK kvs (nk o)))) := ⟨fun b u e nb => by rw [upd_ne (fun z => nb (as_eq z .ha))]; exact e, fun b fb => .inl (foot_gone ec fb)⟩
        have nwa : ¬ Foot A m h' wa' := I.wo
        have wl2 := f2.keep _ _ wl1 nwa
        have wo2 := f2.out wl1 nwa
        have gone2 := gone1.frm f2
        have frm2 := frm1.trans f2
        generalize upd H1 A.ha (.dK (dropK kvs (nk o))) = H2 at R2 t1' ts' wl2 gone2 frm2
        refine ⟨_, rfl, _, rfl, m, W, A, _, o, rfl, R2, I.good.snd, fun H3 R3 f3 => ?_⟩
        have t1'' := f3.keep _ _ t1' o1
        have ts'' := f3.keep _ _ ts' o2
        have wl3 := f3.keep _ _ wl2 wo2
        have gone3 := gone2.frm f3
        have frm3 := frm2.trans f3
        obtain ⟨xs, hgx, hxl, gone4⟩ := gone3.snoc (a := A.tA o) (o := o) ⟨o1, dt, ft, t1'', t3, by rw [← I.size o c ec]; exact t5⟩
        refine ⟨_, rfl, .inl ⟨rfl, _, SqL.of hgx⟩, _, rfl, g, _, _, rfl, rfl, hgx, ?_, ?_⟩
        · have := I.few
          rw [hxl]
          exact Nat.lt_trans (show done.length < 400 by omega) (by decide)
        have go3 : ¬ Foot A m (Vasnpe.setCell h' o none) g := by
          obtain ⟨_, _, _, ng, _⟩ := gone3
          exact ng
        have hU : ∀ b u, H3 b = some u → b ≠ g → upd H3 g (.lst (xs ++ [.ref (A.tA o)])) b = some u := fun b u e nb => by rw [upd_ne nb]; exact e
        have R4 := R3.keep (H' := upd H3 g (.lst (xs ++ [.ref (A.tA o)]))) fun b u fb e => hU b u e fun z => go3 (as_eq z.symm fb)
        have t4'' := hU _ _ t1'' (ne_of t1'' hgx (by intro z; cases z))
        have wl4 := hU _ _ wl3 I.ne
        have frm4 : Frm (Foot A m h) H (Foot A m (Vasnpe.setCell h' o none)) (upd H3 g (.lst (xs ++ [.ref (A.tA o)]))) := ⟨fun b u e nb => hU b u (frm3.keep b u e nb) fun z => (by rw [z, hg] at e; cases e), frm3.grow⟩
        have ts4 : upd H3 g (.lst (xs ++ [.ref (A.tA o)])) (A.sA o) = some (.lst (c.slots.map oV)) := hU _ _ ts'' fun z => by
          obtain ⟨ps, e1, e2, e3, e4⟩ := gone1
          have := (R1.thing o c ec).sl
          exact e3 (as_eq z.symm (.sA ec))
        generalize upd H3 g (.lst (xs ++ [.ref (A.tA o)])) = H4 at R4 t4'' wl4 frm4 ts4 gone4
        refine ⟨_, rfl, A.tA o, CT, dt, ft, _, rfl, t4'', T.clT, T.nSlots, t6, A.sA o, c.slots, rfl, SqL.of ts4, Nat.le_trans (slots_len I.good ec) (by decide), fun H5 q hq hq5 s5 => ?_⟩
        have wl5 := s5 _ _ wl4
        refine ⟨_, rfl, q, wa', _, _, rfl, rfl, hq5, wl5, ?_, fun p hp => ?_⟩
        · rw [List.length_map, List.length_map]
          have h1 := List.length_filterMap_le (fun x : Option Nat => x) c.slots
          have h2 := slots_len I.good ec
          have := I.few
          show _ ≤ 16777216
          omega
        have s6 : Same H5 (upd H5 p (.lst ((List.filterMap (fun x => x) c.slots).map iV ++ r.map iV))) := same_new hp
        have s46 := s5.trans s6
        have np : ∀ b u, H4 b = some u → b ≠ p := fun b u e => ne_of_none (s5 _ _ e) hp
        refine ⟨p, goneHeap h' o, slotsOf (some c) ++ r, done ++ [o], _, _, rfl, R4.same s46, g2, ?_, ⟨n', by omega, ?_⟩, ?_, fun fz => ?_, fun b u e nb => np b u (frm4.keep b u e nb), gone4.frm (Frm.same s46), fun z => ?_, frm4.trans (Frm.same s46), fun x d hd => ?_, ?_⟩
        · have := tot_go I.good ec
          rw [List.length_cons] at this
          omega
        · rw [← erun, less_go ec c1]
        · rw [upd_same, ← List.map_append]; rfl
        · obtain ⟨u, e⟩ := R4.there fz
          exact np _ _ e rfl
        · obtain ⟨ps, e1, _⟩ := gone4
          exact np g _ e1 z.symm
        · have hd' : Vasnpe.cellAt (Vasnpe.setCell h' o none) x = some d := hd
          rw [cellAt_set _ (cell_lt ec)] at hd'
          by_cases ex : x = o
          · rw [if_pos ex] at hd'; cases hd'
          · rw [if_neg ex] at hd'; exact I.size x d hd'
        · have := I.few
          rw [List.length_append, List.length_singleton]
          omega
      · have c1 : ¬ c.count ≤ 1 := fun z => hc (decide_eq_true (by
          have : c.count = 1 := by omega
          rw [this]; rfl))
        have R2 := R1.setCount T.ne ec t1 (c.count - 1)
        have e0 : ((c.count : Int) - 1) = ((c.count - 1 : Nat) : Int) := by omega
        refine ⟨_, rfl, A.tA o, CT, dt, ft, _, rfl, t1, T.clT, T.nCnt, t7, _, _, rfl, rfl, dt, ft, t1, Nat.lt_trans t2 (by decide), ?_⟩
        have e1 : (V.int ((c.count : Int) - 1)) = iV (c.count - 1) := by unfold iV; rw [e0]
        rw [e1]
        have f2 : Frm (Foot A m h') H1 (Foot A m h') (upd H1 (A.tA o) (.ins CT dt (putF "count" (iV (c.count - 1)) ft))) := Frm.write (.tA ec)
        have wl2 := f2.keep _ _ wl1 I.wo
        have gone2 := gone1.frm f2
        have frm2 := frm1.trans f2
        generalize upd H1 (A.tA o) (.ins CT dt (putF "count" (iV (c.count - 1)) ft)) = H2 at R2 wl2 gone2 frm2
        refine ⟨_, rfl, _, rfl, m, W, A, _, o, rfl, R2, (show h'.suspects.length < 1000 from sus_len I.good), fun H3 R3 f3 => ?_⟩
        have e3 : Foot A m (Vasnpe.setCell h' o (some { c with count := c.count - 1 })) = Foot A m h' := Foot_congr (set_held ec)
        rw [e3] at f3
        have e4 : Foot A m (decHeap h' o c) = Foot A m h' := e3
        refine ⟨wa', decHeap h' o c, r, done, _, _, rfl, R3, good_dec I.good ec, ?_, ⟨n', by omega, ?_⟩, f3.keep _ _ wl2 I.wo, ?_, I.wf, ?_, I.ne, ?_, fun x d hd => ?_, ?_⟩
        · have := tot_dec I.good ec
          rw [List.length_cons] at this
          omega
        · rw [← erun, less_dec ec c1]
        · rw [e4]; exact I.wo
        · rw [e4]; exact gone2.frm f3
        · rw [e4]; exact frm2.trans f3
        · have hd' : Vasnpe.cellAt (Vasnpe.setCell h' o (some { c with count := c.count - 1 })) x = some d := hd
          rw [cellAt_set _ (cell_lt ec)] at hd'
          by_cases ex : x = o
          · rw [if_pos ex] at hd'
            obtain rfl := Option.some.inj hd'
            rw [ex]
            exact I.size o c ec
          · rw [if_neg ex] at hd'; exact I.size x d hd'
        · have := I.few
          omega
end
end Hc
set_option Elab.async false
set_option linter.all false
set_option maxRecDepth 100000
set_option maxHeartbeats 4000000
namespace Hc
open PySem PySem.Spec PyProof.Rows L2
def Place (A : Adr) (h : Vasnpe.Heap) (x : Option Nat) (pl : Addr) (i : Nat) (old : Option Nat) (h2 : Vasnpe.Heap) : Prop :=
  (pl = A.ra ∧ i < 8 ∧ old = Vasnpe.regAt h i ∧ h2 = Vasnpe.setReg (Vasnpe.moreOf h x) i x) ∨ ∃ o c, pl = A.sA o ∧ Vasnpe.cellAt h o = some c ∧ c.slots[i]? = some old ∧ h2 = storeHeap h o i x
theorem more_cell {h : Vasnpe.Heap} {x : Option Nat} (hx : ∀ t, x = some t → ∃ c, Vasnpe.cellAt h t = some c) (o : Nat) : (∀ c, Vasnpe.cellAt h o = some c → ∃ d, Vasnpe.cellAt (Vasnpe.moreOf h x) o = some d ∧ d.kind = c.kind ∧ d.size = c.size ∧ d.slots = c.slots) ∧
    ∀ d, Vasnpe.cellAt (Vasnpe.moreOf h x) o = some d → ∃ c, Vasnpe.cellAt h o = some c ∧ d.kind = c.kind ∧ d.size = c.size ∧ d.slots = c.slots := by
  cases x with
  | none => exact ⟨fun c e => ⟨c, e, rfl, rfl, rfl⟩, fun c e => ⟨c, e, rfl, rfl, rfl⟩⟩
  | some t =>
    obtain ⟨ct, et⟩ := hx t rfl
    rw [moreOf_some et]
    have e0 : ∀ y, Vasnpe.cellAt { Vasnpe.setCell h t (some { ct with count := ct.count + 1 }) with suspects := h.suspects.filter fun s => s != t } y = if y = t then some { ct with count := ct.count + 1 } else Vasnpe.cellAt h y := fun y => cellAt_set _ (cell_lt et) y
    rw [e0]
    by_cases e : o = t
    · subst e
      rw [if_pos rfl]
      refine ⟨fun c ec => ?_, fun d ed => ?_⟩
      · rw [et] at ec
        cases ec
        exact ⟨_, rfl, rfl, rfl, rfl⟩
      · cases ed
        exact ⟨ct, et, rfl, rfl, rfl⟩
    · rw [if_neg e]
      exact ⟨fun c e => ⟨c, e, rfl, rfl, rfl⟩, fun c e => ⟨c, e, rfl, rfl, rfl⟩⟩
section
variable {CM CT : Addr} {H H' : Hp} {m : Addr} {W : Str → Option V} {A : Adr} {h h2 : Vasnpe.Heap} {x old : Option Nat} {pl : Addr} {i : Nat}
theorem store_cell {o : Nat} {c : Vasnpe.Cell} (hx : ∀ t, x = some t → ∃ c, Vasnpe.cellAt h t = some c) (e : Vasnpe.cellAt h o = some c) : ∃ d, Vasnpe.cellAt (Vasnpe.moreOf h x) o = some d ∧ d.size = c.size ∧ d.slots = c.slots ∧ storeHeap h o i x = Vasnpe.setCell (Vasnpe.moreOf h x) o (some { d with slots := d.slots.set i x }) := by
  obtain ⟨d, ed, _, e1, e2⟩ := (more_cell hx o).1 c e
  refine ⟨d, ed, e1, e2, ?_⟩
  unfold storeHeap
  simp only [ed]
theorem Place.held (p : Place A h x pl i old h2) (hx : ∀ t, x = some t → ∃ c, Vasnpe.cellAt h t = some c) : ∀ o, (∃ d, Vasnpe.cellAt h2 o = some d) ↔ ∃ d, Vasnpe.cellAt h o = some d := by
  have q : ∀ o, (∃ d, Vasnpe.cellAt (Vasnpe.moreOf h x) o = some d) ↔ ∃ d, Vasnpe.cellAt h o = some d := fun o =>
    ⟨fun ⟨d, e⟩ => let ⟨c, e2, _⟩ := (more_cell hx o).2 d e; ⟨c, e2⟩, fun ⟨d, e⟩ => let ⟨c, e2, _⟩ := (more_cell hx o).1 d e; ⟨c, e2⟩⟩
  intro o
  rcases p with ⟨_, _, _, rfl⟩ | ⟨o', c, _, e, _, rfl⟩
  · exact q o
  · obtain ⟨d, ed, _, _, es⟩ := store_cell (i := i) hx e
    rw [es]
    exact (set_held ed o).trans (q o)
theorem Place.size (p : Place A h x pl i old h2) (hx : ∀ t, x = some t → ∃ c, Vasnpe.cellAt h t = some c) {sz : Nat → Nat} (hz : ∀ o c, Vasnpe.cellAt h o = some c → c.size = sz o) : ∀ o c, Vasnpe.cellAt h2 o = some c → c.size = sz o := by
  have q : ∀ o c, Vasnpe.cellAt (Vasnpe.moreOf h x) o = some c → c.size = sz o := fun o c e => by
    obtain ⟨d, e1, _, e2, _⟩ := (more_cell hx o).2 c e
    rw [e2]; exact hz o d e1
  intro o c ec
  rcases p with ⟨_, _, _, rfl⟩ | ⟨o', c', _, e, _, rfl⟩
  · exact q o c ec
  · obtain ⟨d, ed, e1, _, es⟩ := store_cell (i := i) hx e
    rw [es, cellAt_set _ (cell_lt ed)] at ec
    by_cases eo : o = o'
    · rw [if_pos eo] at ec
      obtain rfl := Option.some.inj ec
      rw [eo]
      exact q o' d ed
    · rw [if_neg eo] at ec; exact q o c ec
theorem Place.good (p : Place A h x pl i old h2) (G : Good h []) (hx : ∀ t, x = some t → ∃ c, Vasnpe.cellAt h t = some c) : Good h2 (opt old) := by
  rcases p with ⟨_, hi, rfl, rfl⟩ | ⟨o', c', _, e, hi, rfl⟩
  · exact good_pre_give hi G hx
  · exact good_storeHeap G hx e hi
theorem Place.foot (p : Place A h x pl i old h2) : Foot A m h pl := by
  rcases p with ⟨rfl, _, rfl, rfl⟩ | ⟨o', c', rfl, e, hi, rfl⟩
  · exact .ra
  · exact .sA e
theorem Place.at_ (p : Place A h x pl i old h2) (G : Good h []) (hx : ∀ t, x = some t → ∃ c, Vasnpe.cellAt h t = some c) (R : Rep CM CT H m W A (Vasnpe.moreOf h x)) :
    ∃ l : List (Option Nat), H pl = some (.lst (l.map oV)) ∧ l[i]? = some old ∧ Rep CM CT (upd H pl (.lst ((l.set i x).map oV))) m W A h2 := by
  rcases p with ⟨rfl, hi, rfl, rfl⟩ | ⟨o', c', rfl, e, hi, rfl⟩
  · refine ⟨(Vasnpe.moreOf h x).regs, R.regs, ?_, R.setRegs _⟩
    rw [more_regs]
    exact G.regs_get hi
  · obtain ⟨d, ed, e1, e2, es⟩ := store_cell (i := i) hx e
    refine ⟨d.slots, (R.thing o' d ed).sl, by rw [e2]; exact hi, ?_⟩
    rw [es]
    exact R.setSlots ed _
end
section
variable {P : Program} {w : World} {K : PySem.W.Frag} {mg : Str → Option Value} {base : Heap} {CM CT : Addr}
inductive spPutI (CM CT : Addr) (vs : List V) (H : Hp) (Q : VK) : Prop
  | mk : ∀ (m pl : Addr) (W : Str → Option V) (A : Adr) (h h2 : Vasnpe.Heap) (x old : Option Nat) (i : Nat) (sz : Nat → Nat), (vs = [.ref m, .ref pl, iV i, oV x]) → (Rep CM CT H m W A h) → (Good h []) → ((∀ t, x = some t → ∃ c, Vasnpe.cellAt h t = some c)) → (Place A h x pl i old h2) → ((∀ o c, Vasnpe.cellAt h o = some c → c.size = sz o)) → (∀ (H' : Hp) (g : Addr), Rep CM CT H' m W A (Vasnpe.dropOld h2 old).1 → Frm (Foot A m h) H (Foot A m (Vasnpe.dropOld h2 old).1) H' → GoneAt CT H' (Foot A m (Vasnpe.dropOld h2 old).1) g (Vasnpe.dropOld h2 old).2 sz → (∀ b u, H b = some u → ¬ Foot A m h b → b ≠ g) → Q (.ref g) H') → spPutI CM CT vs H Q
def spPut (CM CT : Addr) : Sp := fun vs H Q _ => spPutI CM CT vs H Q
theorem sc_put : FnScope ["machine", "places", "place", "number", "before"] ["machine", "places", "place", "number"] (defScope s_put) := ⟨rfl, rfl, rfl, by decide +kernel, rfl, by decide +kernel, by decide +kernel⟩
theorem opt_filled (x : Option Nat) : ([x].filterMap fun y => y) = opt x := by cases x <;> rfl
theorem ixN_nat {n i : Nat} (h : i < n) : ixN n (i : Int) = some i := by
  unfold ixN
  rw [if_pos (by omega), if_pos (by omega)]
  simp
theorem ok_put {f : Addr} {fd : FuncData} (F : Fun K "put" "put" s_put f fd) (T : Txt K mg CM CT) (C1 : Callee P w K mg base 1 "filled" ["places"] (spFilled K)) (C2 : Callee P w K mg base 2 "one_more" ["machine", "numbers"] (spMore K CM CT))
    (C3 : Callee P w K mg base 2 "one_less" ["machine", "numbers"] (spLess K CM CT)) : FnOk P w K mg base CX0 3 f fd ["machine", "places", "place", "number"] (spPut CM CT) := by
  refine F.ok sc_put (fun vs H Q E h => ?_) (fun cdv A0 outer s H vs Q E hr h => ?_)
  · obtain ⟨m, pl, W, A, h, h2, x, old, i, sz, rfl, _⟩ := h
    rfl
  · obtain ⟨m, pl, W, A, h, h2, x, old, i, sz, rfl, R, G, hx, hp, hz, k⟩ := h
    have hr1 : Room 1 _ := hr.mono (by decide)
    refine ⟨_, pss_cons (ps_expr (pe_cal C2 hr (pa_cons (pv 0) (pa_cons (pe_cal C1 hr1 (pa_cons (pe_lst (pa_cons (pv 3) pa_nil)) pa_nil)) pa_nil))))
      (pss_cons (ps_set (i := 4) sc_put.nd rfl (Or.inl rfl) (pe_ix ix_list (pv 1) (pv 2) (fun _ _ => rfl)))
      (pss_cons (ps_asg (pv 3) (pg_sub (pv 1) (pv 2) set_list))
      (pss_one (ps_ret (pe_cal C3 hr (pa_cons (pv 0) (pa_cons (pe_cal C1 hr1 (pa_cons (pe_lst (pa_cons (pv 4) pa_nil)) pa_nil)) pa_nil))))))), ?_⟩
    refine ⟨_, rfl, _, rfl, (by show 1 ≤ sizeLine; decide), fun q hq => ?_⟩
    have s1 : Same H (upd H q (.lst [oV x])) := same_new hq
    refine ⟨q, [x], rfl, SqL.of upd_same, (by show 1 ≤ 1000; decide), fun H1 a ha ha1 s2 => ?_⟩
    rw [opt_filled] at ha1
    have s12 := s1.trans s2
    have R1 := R.same s12
    have nfa : ¬ Foot A m h a := fun fz => by
      obtain ⟨u, e⟩ := (R.same s1).there fz
      rw [ha] at e; cases e
    have hh : HeldAll h (opt x) := fun o ho => by
      cases x with
      | none => simp [opt] at ho
      | some t =>
        have : o = t := by simpa [opt] using ho
        subst this
        exact hx o rfl
    refine ⟨m, a, W, A, h, opt x, rfl, R1, SqL.of ha1, nfa, hh, G.snd, fun H2 R2 f2 => ?_⟩
    rw [moreAll_opt] at R2
    obtain ⟨l, hl1, hl2, R3⟩ := hp.at_ G hx R2
    refine ⟨_, rfl, _, rfl, pl, _, _, oV old, rfl, rfl, SqL.of hl1, atI_nat (by rw [List.getElem?_map, hl2]; rfl), ?_⟩
    refine ⟨_, rfl, _, rfl, _, rfl, pl, _, _, i, rfl, rfl, hl1, ixN_nat (by rw [List.length_map]; exact (List.getElem?_eq_some_iff.mp hl2).1), ?_⟩
    have es : (l.map oV).set i (oV x) = (l.set i x).map oV := by rw [List.map_set]
    rw [es]
    have f3 : Frm (Foot A m h) H2 (Foot A m h) (upd H2 pl (.lst ((l.set i x).map oV))) := Frm.write hp.foot
    have f03 := ((Frm.same (F := Foot A m h) s12).trans f2).trans f3
    generalize upd H2 pl (.lst ((l.set i x).map oV)) = H3 at R3 f03
    refine ⟨_, rfl, _, rfl, (by show 1 ≤ sizeLine; decide), fun q' hq' => ?_⟩
    have s4 : Same H3 (upd H3 q' (.lst [oV old])) := same_new hq'
    refine ⟨q', [old], rfl, SqL.of upd_same, (by show 1 ≤ 1000; decide), fun H4 a' ha' ha1' s5 => ?_⟩
    rw [opt_filled] at ha1'
    have s45 := s4.trans s5
    have ef : Foot A m h2 = Foot A m h := Foot_congr (hp.held hx)
    refine ⟨m, a', W, A, h2, opt old, sz, rfl, R3.same s45, SqL.of ha1', opt_le _, hp.good G hx, hp.size hx hz, fun H5 g R5 f5 g5 hg => ?_⟩
    rw [← dropOld_eq] at R5 f5 g5
    rw [ef] at f5
    have f04 := f03.trans (Frm.same s45)
    exact k H5 g R5 (f04.trans f5) g5 fun b u e n z => by
      have := f04.keep b u e n
      rw [z, hg] at this
      cases this
end
end Hc
set_option Elab.async false
set_option linter.all false
set_option maxRecDepth 100000
set_option maxHeartbeats 4000000
namespace Hc
open PySem PySem.Spec PyProof.Rows L2
theorem fp_len : ∀ (xs l : List Nat), (fp l xs).length ≤ l.length + xs.length
  | [], l => by simp [fp_nil]
  | x :: xs, l => by
    have h1 := fp_len xs (Vasnpa.put l x)
    have h2 : (Vasnpa.put l x).length ≤ l.length + 1 := by
      unfold Vasnpa.put
      split
      · omega
      · simp
    rw [fp_cons, List.length_cons]
    omega
theorem Runs.inv {h : Vasnpe.Heap} {l R : List Nat} {p : Nat} (r : Runs h l p R) (hp : p < l.length) : ∃ o, l[p]? = some o ∧ Runs h (fp l (Vasnpe.inSlots h o)) (p + 1) R := by
  cases r with
  | done hl => omega
  | go e r => exact ⟨_, e, r⟩
theorem Runs.fin {h : Vasnpe.Heap} {l R : List Nat} {p : Nat} (r : Runs h l p R) (hp : ¬ p < l.length) : R = l := by
  cases r with
  | done hl => rfl
  | go e r => exact absurd (List.getElem?_eq_some_iff.mp e).1 hp
section
variable {P : Program} {w : World} {K : PySem.W.Frag} {mg : Str → Option Value} {base : Heap} {CM CT : Addr}
inductive spMissI (K : PySem.W.Frag) (vs : List V) (H : Hp) (Q : VK) : Prop
  | mk : ∀ (q a : Addr) (l xs : List Nat), (vs = [.ref q, .ref a]) → (H q = some (.lst (l.map iV))) → (SqL K H a (xs.map iV)) → (a ≠ q) → (l.length + xs.length ≤ 1000) → (∀ H' : Hp, H' q = some (.lst ((fp l xs).map iV)) → (∀ b u, H b = some u → b ≠ q → H' b = some u) → Q .non H') → spMissI K vs H Q
def spMiss (K : PySem.W.Frag) : Sp := fun vs H Q _ => spMissI K vs H Q
theorem sc_miss : FnScope ["found", "numbers", "number"] ["found", "numbers"] (defScope s_add_missing) := ⟨rfl, rfl, rfl, by decide +kernel, rfl, by decide +kernel, by decide +kernel⟩
theorem seq_but {H H' : Hp} {a q : Addr} {xs : List V} (k : ∀ b u, H b = some u → b ≠ q → H' b = some u) (n : a ≠ q) (h : SqL K H a xs) : SqL K H' a xs := by
  rcases h with (h | ⟨o, h⟩) | h
  · exact .inl (.inl (k _ _ h n))
  · exact .inl (.inr ⟨o, k _ _ h n⟩)
  · exact .inr h
theorem ok_miss {f : Addr} {fd : FuncData} (F : Fun K "add_missing" "add_missing" s_add_missing f fd) : FnOk P w K mg base CX0 1 f fd ["found", "numbers"] (spMiss K) := by
  refine F.ok sc_miss (fun vs H Q E h => ?_) (fun cdv A0 outer s H vs Q E hr h => ?_)
  · obtain ⟨q, a, l, xs, rfl, _⟩ := h
    rfl
  · obtain ⟨q, a, l, xs, rfl, hq, hS, na, hl, k⟩ := h
    refine ⟨_, pss_one (ps_for PassesOwn.never rfl (pi_list (pv 1)) (pg_name (i := 2) sc_miss.nd rfl (Or.inl rfl))
      (pss_one (ps_if (pt_cmpR op_notIn_seq (pv 2) (pv 0) (by rfl)) (pss_one (ps_expr (pe_bm PySem.F.plainAttrs_list PySem.F.slot_list_append PySem.F.type_list_append mt_append (pv 0) (pa_cons (pv 2) pa_nil)))) pss_nil))), ?_⟩
    refine ⟨_, rfl, a, rfl, ⟨_, hS⟩, for_list (K := K) (a := a) (xs := xs.map iV) (fun i σ H' => ∃ v2 : Option V, σ = [some (.ref q), some (.ref a), v2] ∧ H' q = some (.lst ((fp l (xs.take i)).map iV)) ∧ ∀ b u, H b = some u → b ≠ q → H' b = some u)
      ⟨none, rfl, hq, fun b u e _ => e⟩ (fun i σ H' _ ⟨_, _, _, kk⟩ => seq_but kk na hS) ?_ ?_⟩
    · rintro i y σ H' hi ⟨v2, rfl, hq', kk⟩
      obtain ⟨o, ho, rfl⟩ := map_get hi
      refine ⟨_, rfl, _, rfl, q, _, rfl, .inl (SqL.of hq'), rfl, flat_ints _, _, rfl, ?_⟩
      show if (!inV (iV o) ((fp l (xs.take i)).map iV)) = true then _ else _
      rw [inV_nat]
      have e4 : fp l (xs.take (i + 1)) = Vasnpa.put (fp l (xs.take i)) o := foldl_take ho
      refine ite2 (fun hc => ?_) (fun hc => ?_)
      · refine ⟨_, rfl, .inl ⟨rfl, _, SqL.of hq'⟩, _, rfl, q, _, _, rfl, rfl, hq', ?_, _, rfl, ?_, fun b u e n => by rw [upd_ne n]; exact kk b u e n⟩
        · rw [List.length_map]
          have := fp_len (xs.take i) l
          have h2 : (xs.take i).length ≤ xs.length := by rw [List.length_take]; omega
          exact Nat.lt_of_le_of_lt (show _ ≤ 1000 by omega) (by decide)
        · rw [upd_same, e4]
          have : Vasnpa.put (fp l (xs.take i)) o = fp l (xs.take i) ++ [o] := by unfold Vasnpa.put; rw [if_neg (by simpa using hc)]
          rw [this, List.map_append]; rfl
      · have : Vasnpa.put (fp l (xs.take i)) o = fp l (xs.take i) := put_id (List.contains_iff_mem.mp (by simpa using hc))
        refine ⟨_, rfl, ?_, kk⟩
        rw [e4, this]
        exact hq'
    · rintro σ H' ⟨v2, rfl, hq', kk⟩
      rw [List.length_map, List.take_length] at hq'
      exact k H' hq' kk
inductive spReachI (K : PySem.W.Frag) (CM CT : Addr) (vs : List V) (H : Hp) (Q : VK) : Prop
  | mk : ∀ (m a : Addr) (W : Str → Option V) (A : Adr) (h : Vasnpe.Heap) (pend ns : List Nat), (vs = [.ref m, .ref a]) → (Rep CM CT H m W A h) → (Good h pend) → (Rd H a (.lst (ns.map iV))) → (HeldAll h ns) → (ns.length ≤ 500) → (∀ (H' : Hp) (g : Addr), H g = none → H' g = some (.lst ((Vasnpe.reach h ns).map iV)) → Same H H' → Q (.ref g) H') → spReachI K CM CT vs H Q
def spReach (K : PySem.W.Frag) (CM CT : Addr) : Sp := fun vs H Q _ => spReachI K CM CT vs H Q
theorem sc_reach : FnScope ["machine", "numbers", "found", "place", "thing"] ["machine", "numbers"] (defScope s_reached) := ⟨rfl, rfl, rfl, by decide +kernel, rfl, by decide +kernel, by decide +kernel⟩
theorem ok_reach {f : Addr} {fd : FuncData} (F : Fun K "reached" "reached" s_reached f fd) (T : Txt K mg CM CT) (bLen : mg "len" = none) (C1 : Callee P w K mg base 1 "add_missing" ["found", "numbers"] (spMiss K)) (C2 : Callee P w K mg base 1 "filled" ["places"] (spFilled K)) : FnOk P w K mg base CX0 2 f fd ["machine", "numbers"] (spReach K CM CT) := by
  refine F.ok sc_reach (fun vs H Q E h => ?_) (fun cdv A0 outer s H vs Q E hr h => ?_)
  · obtain ⟨m, a, W, A, h, pend, ns, rfl, _⟩ := h
    rfl
  · obtain ⟨m, a, W, A, h, pend, ns, rfl, R, G, hS, hh, hl, k⟩ := h
    have hu := hu_of hr
    refine ⟨_, pss_cons (ps_set (i := 2) sc_reach.nd rfl (Or.inl rfl) (pe_lst pa_nil))
      (pss_cons (ps_expr (pe_cal C1 hr (pa_cons (pv 2) (pa_cons (pv 1) pa_nil))))
      (pss_cons (ps_set (i := 3) sc_reach.nd rfl (Or.inl rfl) pe_int)
      (pss_cons (ps_while PassesOwn.never (pt_cmpR op_lt (pv 3) (pe_callB call_len_seq (by rfl) bLen PySem.boot_len (pa_cons (pv 2) pa_nil)) (nomark _))
        (pss_cons (ps_set (i := 4) sc_reach.nd rfl (Or.inl rfl) (pe_dget hu (pe_fld (pv 0) rfl) (pe_ix ix_list (pv 2) (pv 3) (fun _ _ => rfl)) (fun _ _ => rfl)))
        (pss_cons (ps_expr (pe_cal C1 hr (pa_cons (pv 2) (pa_cons (pe_cal C2 hr (pa_cons (pe_fld (pv 4) rfl) pa_nil)) pa_nil))))
        (pss_one (ps_aug (i := 3) sc_reach.nd rfl (Or.inl rfl) pe_int ip_add)))))
      (pss_one (ps_ret (pv 2)))))), ?_⟩
    refine ⟨Nat.zero_le _, fun g hg => ?_⟩
    have s1 : Same H (upd H g (.lst [])) := same_new hg
    have nag : a ≠ g := fun z => by
      rcases hS with h' | ⟨o, h'⟩
      · rw [z, hg] at h'; cases h'
      · rw [z, hg] at h'; cases h'
    refine ⟨_, rfl, _, rfl, g, a, [], ns, rfl, upd_same, s1.seq (.inl hS), nag, by simp; omega, fun H1 hg1 k1 => ?_⟩
    have s2 : Same H H1 := fun b u e => k1 b u (s1 b u e) (ne_of_none e hg)
    refine ⟨fun j σ H' => ∃ (l : List Nat) (p : Nat) (v4 : Option V), σ = [some (.ref m), some (.ref a), some (.ref g), some (iV p), v4] ∧ H' g = some (.lst (l.map iV)) ∧ Same H H' ∧ Runs h l p (Vasnpe.reach h ns) ∧ HeldAll h l ∧ l.Nodup ∧ p ≤ l.length ∧ j + p = 32,
      ⟨32, fp [] ns, 0, none, rfl, hg1, s2, reach_runs G hh, held_fp held_nil hh, fp_nodup (by simp), Nat.zero_le _, rfl⟩, ?_⟩
    rintro j σ H' ⟨l, p, v4, rfl, hg', s3, hr', hh', nd, hp, hj⟩
    have hl32 := nodup_le nd (hh'.lt G)
    refine ⟨_, rfl, _, rfl, g, _, rfl, .inl (SqL.of hg'), _, _, rfl, rfl, _, rfl, ?_⟩
    refine ite2 (fun hc => ?_) (fun hc => ?_)
    · have hlt : p < l.length := by
        have := of_decide_eq_true hc
        rw [List.length_map] at this
        omega
      obtain ⟨o, ho, hr2⟩ := hr'.inv hlt
      obtain ⟨c, ec⟩ := hh' o (List.mem_of_getElem? ho)
      refine ⟨fun σ' H'' => ∃ (l : List Nat) (v4 : Option V), σ' = [some (.ref m), some (.ref a), some (.ref g), some (iV (p + 1)), v4] ∧ H'' g = some (.lst (l.map iV)) ∧ Same H H'' ∧ Runs h l (p + 1) (Vasnpe.reach h ns) ∧ HeldAll h l ∧ l.Nodup ∧ p + 1 ≤ l.length,
        fun σ' H'' ⟨l', v, e1, e2, e3, e4, e5, e6, e7⟩ => ⟨j - 1, by omega, l', p + 1, v, e1, e2, e3, e4, e5, e6, e7, by omega⟩, ?_⟩
      have R' := R.same s3
      refine Rep.macE (R') fun dx fs hm hlen l1 l2 l3 _ => ?_
      refine HeldAt.exE (R'.held) fun kvs hk _ _ _ ka _ => ?_
      have hg1 : DGet H' A.ha (iV o) (some (.ref (A.tA o))) := by
        have := DGet.k (k := nk o) hk
        rw [ka o c ec] at this
        exact this
      refine ThingAt.exE ((R'.thing o c ec)) fun dt ft t1 t2 t3 t4 t5 t6 t7 => ?_
      refine ⟨_, rfl, m, CM, dx, fs, _, rfl, hm, T.clM, T.nHeld, l2, _, rfl, _, rfl, g, _, _, iV o, rfl, rfl, SqL.of hg', atI_nat (by rw [List.getElem?_map, ho]; rfl), A.ha, _, rfl, hg1, ?_⟩
      refine ⟨_, rfl, _, rfl, A.tA o, CT, dt, ft, _, rfl, t1, T.clT, T.nSlots, t6, A.sA o, c.slots, rfl, SqL.of (R'.thing o c ec).sl, Nat.le_trans (slots_len G ec) (by decide), fun H2 q hq hq2 s4 => ?_⟩
      have e0 : (c.slots.filterMap fun x => x) = Vasnpe.inSlots h o := by rw [inSlots_def, ec]; rfl
      rw [e0] at hq2
      have hsl : (Vasnpe.inSlots h o).length ≤ 5 := by
        rw [← e0]
        exact Nat.le_trans (List.length_filterMap_le ..) (slots_len G ec)
      refine ⟨g, q, l, Vasnpe.inSlots h o, rfl, s4 _ _ hg', SqL.of hq2, fun z => (by rw [z, hg'] at hq; cases hq), by omega, fun H3 hg3 k3 => ?_⟩
      refine ⟨_, rfl, _, _, rfl, rfl, fp l (Vasnpe.inSlots h o), _, rfl, hg3, fun b u e => k3 b u (s4 _ _ (s3 _ _ e)) (ne_of_none e hg), hr2, held_fp hh' (held_slots G o), fp_nodup nd, ?_⟩
      obtain ⟨mm, em⟩ := fp_prefix (Vasnpe.inSlots h o) l
      rw [em, List.length_append]
      omega
    · have hlt : ¬ p < l.length := fun z => hc (decide_eq_true (by rw [List.length_map]; omega))
      refine ⟨_, rfl, ?_⟩
      refine k H' g hg ?_ s3
      rw [hr'.fin hlt]
      exact hg'
end
end Hc
set_option Elab.async false
set_option linter.all false
set_option maxRecDepth 100000
set_option maxHeartbeats 4000000
namespace Hc
open PySem PySem.Spec PyProof.Rows L2
theorem filter_take_pos {p : Nat → Bool} {l : List Nat} {i o : Nat} (ho : l[i]? = some o) (hc : p o = true) : (l.take (i + 1)).filter p = (l.take i).filter p ++ [o] := by
  rw [take_snoc ho, List.filter_append, List.filter_cons_of_pos hc, List.filter_nil]
theorem filter_take_neg {p : Nat → Bool} {l : List Nat} {i o : Nat} (ho : l[i]? = some o) (hc : ¬ p o = true) : (l.take (i + 1)).filter p = (l.take i).filter p := by
  rw [take_snoc ho, List.filter_append, List.filter_cons_of_neg hc, List.filter_nil, List.append_nil]
theorem valV_get : ∀ {kvs : List (Key × V)} {i : Nat} {k : Key} {v : V}, (kvs.map (·.1)).Nodup → kvs[i]? = some (k, v) → valV kvs k = some v
  | [], i, k, v, _, h => by simp at h
  | p :: r, 0, k, v, _, h => by
    have e : p = (k, v) := by simpa using h
    subst e
    exact valV_pos rfl
  | p :: r, i + 1, k, v, nd, h => by
    have h' : r[i]? = some (k, v) := by simpa using h
    have n := List.nodup_cons.mp nd
    have : ¬ p.1 = k := fun z => n.1 (by
      show p.1 ∈ _
      rw [z]
      exact List.mem_map.mpr ⟨(k, v), List.mem_of_getElem? h', rfl⟩)
    rw [valV_neg this]
    exact valV_get n.2 h'
theorem putK_new {kvs : List (Key × V)} {k : Key} {v : V} (h : k ∉ kvs.map (·.1)) : putK kvs k v = kvs ++ [(k, v)] := by
  unfold putK
  rw [if_neg]
  intro z
  obtain ⟨p, hp, e⟩ := List.any_eq_true.mp z
  exact h (List.mem_map.mpr ⟨p, hp, of_decide_eq_true e⟩)
structure Tally (kvs : List (Key × V)) (f : Nat → Nat) : Prop where
  val : ∀ t : Nat, valV kvs (nk t) = if f t = 0 then none else some (iV (f t))
  key : ∀ k v, valV kvs k = some v → ∃ t : Nat, k = nk t
  nd : (kvs.map (·.1)).Nodup
theorem keys_put {kvs : List (Key × V)} {k : Key} {v : V} (nd : (kvs.map (·.1)).Nodup) : ((putK kvs k v).map (·.1)).Nodup := by
  cases h : valV kvs k with
  | none => exact nd_putK v nd h
  | some u =>
    unfold putK
    rw [if_pos (by rw [valV_any, h]; rfl), List.map_map]
    have : (((·.1) : Key × V → Key) ∘ fun kv => if kv.1 = k then (kv.1, v) else kv) = (·.1) := by
      funext kv
      show (if kv.1 = k then (kv.1, v) else kv).1 = kv.1
      split <;> rfl
    rw [this]
    exact nd
theorem Tally.getD {kvs : List (Key × V)} {f : Nat → Nat} (T : Tally kvs f) (t : Nat) : (valV kvs (nk t)).getD (.int 0) = .int (f t : Int) := by
  rw [T.val]
  by_cases e : f t = 0
  · rw [if_pos e, e]; rfl
  · rw [if_neg e]; rfl
theorem Tally.put {kvs : List (Key × V)} {f : Nat → Nat} (T : Tally kvs f) (t : Nat) : Tally (putK kvs (nk t) (.int ((f t : Int) + 1))) (fun x => f x + if t = x then 1 else 0) where
  val := fun x => by
    rw [valV_put]
    by_cases e : x = t
    · subst e
      rw [if_pos rfl, if_pos rfl, if_neg (by omega)]
      rfl
    · have e0 : (if t = x then 1 else 0) = 0 := if_neg fun z => e z.symm
      rw [if_neg (fun z => e (nk_inj z)), T.val, e0]
      rfl
  key := fun k v h => by
    rw [valV_put] at h
    by_cases e : k = nk t
    · exact ⟨t, e⟩
    · rw [if_neg e] at h; exact T.key k v h
  nd := keys_put T.nd
theorem Tally.congr {kvs : List (Key × V)} {f g : Nat → Nat} (T : Tally kvs f) (e : ∀ t, f t = g t) : Tally kvs g := by
  have : f = g := funext e
  rw [← this]; exact T
theorem tally_nil : Tally [] (fun _ => 0) := ⟨fun t => rfl, fun k v h => (nomatch h), List.nodup_nil⟩
theorem count_take {ys : List Nat} {j x : Nat} (e : ys[j]? = some x) (t : Nat) : (ys.take (j + 1)).count t = (ys.take j).count t + if x = t then 1 else 0 := by
  rw [take_snoc e, List.count_append, count_cons']
  simp
theorem rd_same {H H' : Hp} {a : Addr} {u : HO} (h : Rd H a u) (s : Same H H') : Rd H' a u := by
  rcases h with h' | ⟨o, h'⟩
  · exact .inl (s _ _ h')
  · exact .inr ⟨o, s _ _ h'⟩
section
variable {P : Program} {w : World} {K : PySem.W.Frag} {mg : Str → Option Value} {base : Heap} {CM CT : Addr}
inductive spHoldI (CM CT : Addr) (vs : List V) (H : Hp) (Q : VK) : Prop
  | mk : ∀ (m a : Addr) (W : Str → Option V) (A : Adr) (h : Vasnpe.Heap) (pend ns : List Nat), (vs = [.ref m, .ref a]) → (Rep CM CT H m W A h) → (Good h pend) → (Rd H a (.lst (ns.map iV))) → (HeldAll h ns) → (ns.length ≤ 500) → (∀ (H' : Hp) (g : Addr) (kvs : List (Key × V)), H g = none → H' g = some (.dK kvs) → Tally kvs (ins h ns) → kvs.length ≤ 5000 → Same H H' → Q (.ref g) H') → spHoldI CM CT vs H Q
def spHold (CM CT : Addr) : Sp := fun vs H Q _ => spHoldI CM CT vs H Q
theorem sc_hold : FnScope ["machine", "numbers", "holders", "number", "thing", "inner"] ["machine", "numbers"] (defScope s_slot_holders) := ⟨rfl, rfl, rfl, by decide +kernel, rfl, by decide +kernel, by decide +kernel⟩
theorem ok_hold {f : Addr} {fd : FuncData} (F : Fun K "slot_holders" "slot_holders" s_slot_holders f fd) (T : Txt K mg CM CT) (C2 : Callee P w K mg base 1 "filled" ["places"] (spFilled K)) : FnOk P w K mg base CX0 2 f fd ["machine", "numbers"] (spHold CM CT) := by
  refine F.ok sc_hold (fun vs H Q E h => ?_) (fun cdv A0 outer s H vs Q E hr h => ?_)
  · obtain ⟨m, a, W, A, h, pend, ns, rfl, _⟩ := h
    rfl
  · obtain ⟨m, a, W, A, h, pend, ns, rfl, R, G, hS, hh, hl, k⟩ := h
    have hu := hu_of hr
    refine ⟨_, pss_cons (ps_set (i := 2) sc_hold.nd rfl (Or.inl rfl) pe_dnewK)
      (pss_cons (ps_for PassesOwn.never rfl (pi_list (pv 1)) (pg_name (i := 3) sc_hold.nd rfl (Or.inl rfl))
        (pss_cons (ps_set (i := 4) sc_hold.nd rfl (Or.inl rfl) (pe_dget hu (pe_fld (pv 0) rfl) (pv 3) (fun _ _ => rfl)))
        (pss_one (ps_for PassesOwn.never rfl (pi_list (pe_cal C2 hr (pa_cons (pe_fld (pv 4) rfl) pa_nil))) (pg_name (i := 5) sc_hold.nd rfl (Or.inl rfl))
          (pss_one (ps_dput hu (pv 2) (pv 5) (pe_op op_add (pe_dget2 hu (pv 2) (pv 5) pe_int ⟨rfl, rfl, rfl, rfl⟩) pe_int) rfl))))))
      (pss_one (ps_ret (pv 2)))), ?_⟩
    intro g hg
    have s1 : Same H (upd H g (.dK [])) := same_new hg
    refine ⟨_, rfl, a, rfl, ⟨_, .inl (rd_same hS s1)⟩, for_list (K := K) (a := a) (xs := ns.map iV) (fun i σ H' => ∃ (v3 v4 v5 : Option V) (kvs : List (Key × V)), σ = [some (.ref m), some (.ref a), some (.ref g), v3, v4, v5] ∧ H' g = some (.dK kvs) ∧ Tally kvs (ins h (ns.take i)) ∧ kvs.length ≤ 5 * i ∧ Same H H')
      ⟨none, none, none, [], rfl, upd_same, tally_nil, Nat.zero_le _, s1⟩ (fun i σ H' _ ⟨_, _, _, _, _, _, _, _, s⟩ => .inl (rd_same hS s)) ?_ ?_⟩
    · rintro i y σ H' hi ⟨v3, v4, v5, kvs, rfl, hg', tl, hlen', s2⟩
      obtain ⟨o, ho, rfl⟩ := map_get hi
      have hin : i < ns.length := (List.getElem?_eq_some_iff.mp ho).1
      obtain ⟨c, ec⟩ := hh o (List.mem_of_getElem? ho)
      have R' := R.same s2
      refine Rep.macE (R') fun dx fs hm hlen l1 l2 l3 _ => ?_
      refine HeldAt.exE (R'.held) fun hks hk _ _ _ ka _ => ?_
      have hg1 : DGet H' A.ha (iV o) (some (.ref (A.tA o))) := by
        have := DGet.k (k := nk o) hk
        rw [ka o c ec] at this
        exact this
      refine ThingAt.exE ((R'.thing o c ec)) fun dt ft t1 t2 t3 t4 t5 t6 t7 => ?_
      refine ⟨_, rfl, m, CM, dx, fs, _, rfl, hm, T.clM, T.nHeld, l2, _, rfl, A.ha, _, rfl, hg1, ?_⟩
      refine ⟨_, rfl, A.tA o, CT, dt, ft, _, rfl, t1, T.clT, T.nSlots, t6, A.sA o, c.slots, rfl, SqL.of (R'.thing o c ec).sl, Nat.le_trans (slots_len G ec) (by decide), fun H2 q hq hq2 s3 => ?_⟩
      have e0 : (c.slots.filterMap fun x => x) = Vasnpe.inSlots h o := by rw [inSlots_def, ec]; rfl
      rw [e0] at hq2
      have hsl : (Vasnpe.inSlots h o).length ≤ 5 := by
        rw [← e0]
        exact Nat.le_trans (List.length_filterMap_le ..) (slots_len G ec)
      have nqg : q ≠ g := fun z => by rw [z, hg'] at hq; cases hq
      refine ⟨q, rfl, ⟨_, SqL.of hq2⟩, for_list (K := K) (a := q) (xs := (Vasnpe.inSlots h o).map iV) (fun j σ H' => ∃ (v5 : Option V) (kvs : List (Key × V)), σ = [some (.ref m), some (.ref a), some (.ref g), some (iV o), some (.ref (A.tA o)), v5] ∧ H' g = some (.dK kvs) ∧ Tally kvs (fun t => ins h (ns.take i) t + ((Vasnpe.inSlots h o).take j).count t) ∧ kvs.length ≤ 5 * i + j ∧ ∀ b u, H2 b = some u → b ≠ g → H' b = some u)
        ⟨_, kvs, rfl, s3 _ _ hg', tl.congr fun t => by simp, by omega, fun b u e _ => e⟩ (fun j σ H' _ ⟨_, _, _, _, _, _, kk⟩ => SqL.of (kk _ _ hq2 nqg)) ?_ ?_⟩
      · rintro j y σ H3 hj ⟨v5, kvs', rfl, hg3, tl3, hlen3, kk⟩
        obtain ⟨t, ht, rfl⟩ := map_get hj
        have hjn : j < (Vasnpe.inSlots h o).length := (List.getElem?_eq_some_iff.mp ht).1
        refine ⟨_, rfl, g, rfl, .inl ⟨_, .inl hg3⟩, _, rfl, _, DGet.k (k := nk t) hg3, _, _, tl3.getD t, rfl, _, rfl, _, rfl, g, _, rfl, DPut.k (k := nk t) hg3 ?_, ?_⟩
        · exact Nat.lt_of_le_of_lt (show _ ≤ 5000 by omega) (by decide)
        · refine ⟨_, _, rfl, upd_same, (tl3.put t).congr fun x => ?_, ?_, fun b u e n => by rw [upd_ne n]; exact kk b u e n⟩
          · rw [count_take ht]; omega
          · exact Nat.le_trans (length_putK _ _ _) (by omega)
      · rintro σ H3 ⟨v5, kvs', rfl, hg3, tl3, hlen3, kk⟩
        rw [List.length_map, List.take_length] at tl3
        rw [List.length_map] at hlen3
        refine ⟨_, _, _, kvs', rfl, hg3, tl3.congr fun t => (ins_take ho t).symm, by omega, fun b u e => kk b u (s3 _ _ (s2 _ _ e)) (ne_of_none e hg)⟩
    · rintro σ H' ⟨v3, v4, v5, kvs, rfl, hg', tl, hlen', s2⟩
      rw [List.length_map, List.take_length] at tl
      rw [List.length_map] at hlen'
      exact ⟨_, rfl, k H' g kvs hg hg' tl (by omega) s2⟩
def outI (h : Vasnpe.Heap) (ns : List Nat) (o : Nat) : Int := (cntOf h o : Int) - (ins h ns o : Int)
def outK (h : Vasnpe.Heap) (fl ns : List Nat) : List (Key × V) := ns.map fun o => (nk o, V.int (outI h fl o))
theorem outK_keys (h : Vasnpe.Heap) (fl ns : List Nat) : (outK h fl ns).map (·.1) = ns.map nk := by unfold outK; rw [List.map_map]; rfl
theorem nks_nd {ns : List Nat} (nd : ns.Nodup) : (ns.map nk).Nodup := List.Pairwise.map _ (fun a b hab z => hab (nk_inj z)) nd
theorem outK_nd {h : Vasnpe.Heap} {fl ns : List Nat} (nd : ns.Nodup) : ((outK h fl ns).map (·.1)).Nodup := by rw [outK_keys]; exact nks_nd nd
theorem outK_not {h : Vasnpe.Heap} {fl ns : List Nat} {i o : Nat} (nd : ns.Nodup) (ho : ns[i]? = some o) : nk o ∉ (outK h fl (ns.take i)).map (·.1) := fun z => by
  rw [outK_keys] at z
  obtain ⟨x, hx, e⟩ := List.mem_map.mp z
  obtain rfl := nk_inj e
  obtain ⟨j, hj⟩ := List.getElem?_of_mem hx
  have hji : j < i := by
    have := (List.getElem?_eq_some_iff.mp hj).1
    rw [List.length_take] at this
    omega
  rw [List.getElem?_take_of_lt hji] at hj
  have := ix_uniq nd ho hj
  omega
theorem outK_snoc {h : Vasnpe.Heap} {fl ns : List Nat} {i o : Nat} (ho : ns[i]? = some o) : outK h fl (ns.take (i + 1)) = outK h fl (ns.take i) ++ [(nk o, V.int (outI h fl o))] := by
  unfold outK
  rw [take_snoc ho, List.map_append]
  rfl
inductive spOutI (CM CT : Addr) (vs : List V) (H : Hp) (Q : VK) : Prop
  | mk : ∀ (m a : Addr) (W : Str → Option V) (A : Adr) (h : Vasnpe.Heap) (pend ns : List Nat), (vs = [.ref m, .ref a]) → (Rep CM CT H m W A h) → (Good h pend) → (Rd H a (.lst (ns.map iV))) → (HeldAll h ns) → (ns.Nodup) → (ns.length ≤ 500) → (∀ (H' : Hp) (g : Addr), H g = none → H' g = some (.dK (outK h ns ns)) → Same H H' → Q (.ref g) H') → spOutI CM CT vs H Q
def spOut (CM CT : Addr) : Sp := fun vs H Q _ => spOutI CM CT vs H Q
theorem sc_out : FnScope ["machine", "field", "inside", "outside", "number", "thing"] ["machine", "field"] (defScope s_outside_counts) := ⟨rfl, rfl, rfl, by decide +kernel, rfl, by decide +kernel, by decide +kernel⟩
theorem ok_out {f : Addr} {fd : FuncData} (F : Fun K "outside_counts" "outside_counts" s_outside_counts f fd) (T : Txt K mg CM CT) (C1 : Callee P w K mg base 2 "slot_holders" ["machine", "numbers"] (spHold CM CT)) : FnOk P w K mg base CX0 3 f fd ["machine", "field"] (spOut CM CT) := by
  refine F.ok sc_out (fun vs H Q E h => ?_) (fun cdv A0 outer s H vs Q E hr h => ?_)
  · obtain ⟨m, a, W, A, h, pend, ns, rfl, _⟩ := h
    rfl
  · obtain ⟨m, a, W, A, h, pend, ns, rfl, R, G, hS, hh, nd, hl, k⟩ := h
    have hu := hu_of hr
    refine ⟨_, pss_cons (ps_set (i := 2) sc_out.nd rfl (Or.inl rfl) (pe_cal C1 hr (pa_cons (pv 0) (pa_cons (pv 1) pa_nil))))
      (pss_cons (ps_set (i := 3) sc_out.nd rfl (Or.inl rfl) pe_dnewK)
      (pss_cons (ps_for PassesOwn.never rfl (pi_list (pv 1)) (pg_name (i := 4) sc_out.nd rfl (Or.inl rfl))
        (pss_cons (ps_set (i := 5) sc_out.nd rfl (Or.inl rfl) (pe_dget hu (pe_fld (pv 0) rfl) (pv 4) (fun _ _ => rfl)))
        (pss_one (ps_dput hu (pv 3) (pv 4) (pe_op op_sub (pe_fld (pv 5) rfl) (pe_dget2 hu (pv 2) (pv 4) pe_int ⟨rfl, rfl, rfl, rfl⟩)) rfl))))
      (pss_one (ps_ret (pv 3))))), ?_⟩
    refine ⟨_, rfl, _, rfl, m, a, W, A, h, pend, ns, rfl, R, G, hS, hh, hl, fun H1 q ik hq hq1 tl il s1 => ?_⟩
    intro g hg
    have s2 : Same H1 (upd H1 g (.dK [])) := same_new hg
    have s12 := s1.trans s2
    refine ⟨_, rfl, a, rfl, ⟨_, .inl (rd_same hS s12)⟩, for_list (K := K) (a := a) (xs := ns.map iV) (fun i σ H' => ∃ (v4 v5 : Option V), σ = [some (.ref m), some (.ref a), some (.ref q), some (.ref g), v4, v5] ∧ H' g = some (.dK (outK h ns (ns.take i))) ∧ Same H1 H')
      ⟨none, none, rfl, upd_same, s2⟩ (fun i σ H' _ ⟨_, _, _, _, s⟩ => .inl (rd_same hS (s1.trans s))) ?_ ?_⟩
    · rintro i y σ H' hi ⟨v4, v5, rfl, hg', s3⟩
      obtain ⟨o, ho, rfl⟩ := map_get hi
      have hin : i < ns.length := (List.getElem?_eq_some_iff.mp ho).1
      obtain ⟨c, ec⟩ := hh o (List.mem_of_getElem? ho)
      have R' := R.same (s1.trans s3)
      refine Rep.macE (R') fun dx fs hm hlen l1 l2 l3 _ => ?_
      refine HeldAt.exE (R'.held) fun hks hk _ _ _ ka _ => ?_
      have hg1 : DGet H' A.ha (iV o) (some (.ref (A.tA o))) := by
        have := DGet.k (k := nk o) hk
        rw [ka o c ec] at this
        exact this
      refine ThingAt.exE ((R'.thing o c ec)) fun dt ft t1 t2 t3 t4 t5 t6 t7 => ?_
      have hq' := s3 _ _ hq1
      refine ⟨_, rfl, m, CM, dx, fs, _, rfl, hm, T.clM, T.nHeld, l2, _, rfl, A.ha, _, rfl, hg1, ?_⟩
      refine ⟨_, rfl, A.tA o, CT, dt, ft, _, rfl, t1, T.clT, T.nCnt, t7, _, rfl, q, rfl, .inl ⟨_, .inl hq'⟩, _, rfl, _, DGet.k (k := nk o) hq', _, _, rfl, tl.getD o, _, rfl, _, rfl, g, _, rfl, DPut.k (k := nk o) hg' ?_, ?_⟩
      · have : (outK h ns (ns.take i)).length ≤ 500 := by
          unfold outK
          rw [List.length_map, List.length_take]
          omega
        exact Nat.lt_of_le_of_lt this (by decide)
      · have ecnt : cntOf h o = c.count := by unfold cntOf; rw [ec]; rfl
        refine ⟨_, _, rfl, ?_, fun b u e => by rw [upd_ne (ne_of_none e hg)]; exact s3 b u e⟩
        rw [upd_same, putK_new (outK_not nd ho), outK_snoc ho]
        unfold outI
        rw [ecnt]
    · rintro σ H' ⟨v4, v5, rfl, hg', s3⟩
      rw [List.length_map, List.take_length] at hg'
      refine ⟨_, rfl, k H' g ?_ hg' (s1.trans s3)⟩
      exact s1.free hg
theorem out_ne {h : Vasnpe.Heap} (G : Good h []) (o : Nat) : (!decide (V.int (outI h (Vasnpe.field h) o) = V.int 0)) = decide (0 < Vasnpe.outside h (Vasnpe.field h) o) := by
  have h1 := field_ins G o
  rw [outside_eq, Bool.eq_iff_iff]
  simp only [Bool.not_eq_true', decide_eq_false_iff_not, decide_eq_true_eq]
  unfold outI
  constructor
  · intro z
    refine Nat.pos_of_ne_zero fun q => z ?_
    have : (cntOf h o : Int) - (ins h (Vasnpe.field h) o : Int) = 0 := by omega
    rw [this]
  · intro z q
    have := V.int.inj q
    omega
inductive spStayI (CM CT : Addr) (vs : List V) (H : Hp) (Q : VK) : Prop
  | mk : ∀ (m a : Addr) (W : Str → Option V) (A : Adr) (h : Vasnpe.Heap), (vs = [.ref m, .ref a]) → (Rep CM CT H m W A h) → (Good h []) → (H a = some (.dK (outK h (Vasnpe.field h) (Vasnpe.field h)))) → (∀ (H' : Hp) (g : Addr), H g = none → H' g = some (.lst ((Vasnpe.staying h).map iV)) → Same H H' → Q (.ref g) H') → spStayI CM CT vs H Q
def spStay (CM CT : Addr) : Sp := fun vs H Q _ => spStayI CM CT vs H Q
theorem sc_stay : FnScope ["machine", "outside", "number"] ["machine", "outside"] (defScope s_staying) := ⟨rfl, rfl, rfl, by decide +kernel, rfl, by decide +kernel, by decide +kernel⟩
theorem ok_stay {f : Addr} {fd : FuncData} (F : Fun K "staying" "staying" s_staying f fd) (T : Txt K mg CM CT) (C2 : Callee P w K mg base 2 "reached" ["machine", "numbers"] (spReach K CM CT)) : FnOk P w K mg base CX0 3 f fd ["machine", "outside"] (spStay CM CT) := by
  refine F.ok sc_stay (fun vs H Q E h => ?_) (fun cdv A0 outer s H vs Q E hr h => ?_)
  · obtain ⟨m, a, W, A, h, rfl, _⟩ := h
    rfl
  · obtain ⟨m, a, W, A, h, rfl, R, G, ha, k⟩ := h
    have hu := hu_of hr
    refine ⟨_, pss_one (ps_ret (pe_cal C2 hr (pa_cons (pv 0) (pa_cons (pe_lock (pe_lc (own := [("number", 2)]) rfl sc_stay.nd (pi_keys (pv 1)) (blkOk_by (N := ["machine", "outside", "number"]) (sc := defScope s_staying) (by decide +kernel)) (fun s H C cl fp => pg_name (i := 2) sc_stay.nd rfl (Or.inl rfl))
        (fun s H C cl fp => pts_one (pt_cmpR op_ne (pe_dget hu (pv 1) (pv 2) (fun _ _ => rfl)) pe_int (nomark _))) (fun s H C cl fp => pv 2))) pa_nil)))), ?_⟩
    have hf := nodup_le (field_nodup G) (field_lt G)
    have nd := outK_nd (h := h) (fl := Vasnpe.field h) (field_nodup G)
    refine ⟨_, rfl, a, _, ha, trivial, fun od => ⟨_, rfl, a, od, rfl, .inl ⟨_, upd_same, fun D hD => ?_⟩⟩⟩
    have nDa : D ≠ a := fun z => by rw [z, upd_same] at hD; cases hD
    have hD0 : H D = none := by rw [upd_ne nDa] at hD; exact hD
    refine lc_keys (d := a) (od := od) (kvs := outK h (Vasnpe.field h) (Vasnpe.field h)) (fun i H' => H' D = some (.lst ((((Vasnpe.field h).take i).filter fun o => decide (0 < Vasnpe.outside h (Vasnpe.field h) o)).map iV)) ∧ H' a = some (.frz od (.dK (outK h (Vasnpe.field h) (Vasnpe.field h)))) ∧ ∀ b u, H b = some u → b ≠ a → H' b = some u)
      ⟨upd_same, by rw [upd_ne nDa.symm, upd_same], fun b u e n => by rw [upd_ne (ne_of_none e hD0), upd_ne n]; exact e⟩ (fun i H' _ h => h.2.1) ?_ ?_
    · rintro i kk v H' hi ⟨h1, h2, h3⟩
      have hv0 := valV_get nd hi
      obtain ⟨o, ho, e⟩ := map_get hi
      cases e
      have hv : DGet H' a (iV o) (some (.int (outI h (Vasnpe.field h) o))) := by
        have : DGet H' a (kV (nk o)) (valV (outK h (Vasnpe.field h) (Vasnpe.field h)) (nk o)) := .inl ⟨_, nk o, .inr ⟨od, h2⟩, rfl, rfl⟩
        rw [hv0] at this
        exact this
      refine ⟨rfl, _, rfl, _, rfl, a, _, rfl, hv, rfl, _, rfl, ?_⟩
      rw [out_ne G]
      refine ite2 (fun hc => ?_) (fun hc => ?_)
      · refine ⟨_, rfl, _, h1, ?_, ?_, ?_, fun b u e n => by rw [upd_ne (ne_of_none e hD0)]; exact h3 b u e n⟩
        · rw [List.length_map]
          have := List.length_filter_le (fun o => decide (0 < Vasnpe.outside h (Vasnpe.field h) o)) ((Vasnpe.field h).take i)
          have h3 : ((Vasnpe.field h).take i).length ≤ (Vasnpe.field h).length := by rw [List.length_take]; omega
          exact Nat.lt_of_le_of_lt (show _ ≤ 32 by omega) (by decide)
        · rw [upd_same, filter_take_pos (p := fun o => decide (0 < Vasnpe.outside h (Vasnpe.field h) o)) ho hc, List.map_append]; rfl
        · rw [upd_ne nDa.symm]; exact h2
      · refine ⟨?_, h2, h3⟩
        rw [filter_take_neg (p := fun o => decide (0 < Vasnpe.outside h (Vasnpe.field h) o)) ho hc]
        exact h1
    · rintro H' ⟨h1, h2, h3⟩
      unfold outK at h1
      rw [List.length_map, List.take_length] at h1
      have s1 : Same H (upd H' a (.dK (outK h (Vasnpe.field h) (Vasnpe.field h)))) := fun b u e => by
        by_cases n : b = a
        · rw [n, upd_same, ← ha, ← n]; exact e
        · rw [upd_ne n]; exact h3 b u e n
      refine ⟨h2, m, D, W, A, h, [], roots h, rfl, R.same s1, G, .inl (by rw [upd_ne nDa]; exact h1), roots_held G, ?_, fun H2 g hg hg2 s2 => ?_⟩
      · have := List.length_filter_le (fun o => decide (0 < Vasnpe.outside h (Vasnpe.field h) o)) (Vasnpe.field h)
        show (roots h).length ≤ 500
        unfold roots
        omega
      · exact k H2 g (s1.free hg) hg2 (s1.trans s2)
end
end Hc
set_option Elab.async false
set_option linter.all false
set_option maxRecDepth 100000
set_option maxHeartbeats 4000000
namespace Hc
open PySem PySem.Spec PyProof.Rows L2
theorem for_items {d : Addr} {od : Obj} {kvs : List (Key × V)} {g : TG} {tb : TS} {D : Ends} {σ : L2.St} {H : Hp} (Pv : Nat → L2.St → Hp → Prop) (h0 : Pv 0 σ H) (hl : ∀ i σ H, i ≤ kvs.length → Pv i σ H → H d = some (.frz od (.dK kvs)))
    (hs : ∀ i k v σ H T, kvs[i]? = some (k, v) → Pv i σ H → H T = none → g (.ref T) σ (upd H T (.tup [kV k, v])) fun σ2 H2 => tb { D with nx := Pv (i + 1), ct := Pv (i + 1), bk := D.nx } σ2 H2) (hd : ∀ σ H, Pv kvs.length σ H → D.nx σ H) :
    ∃ W : Nat → Nat → L2.St → Hp → Prop, (∃ m, W 0 m σ H) ∧ ∀ i m σ H, W i m σ H →
      ((Iti d od kvs).stop i H ∧ D.nx σ H) ∨ ((Iti d od kvs).go i H ∧ ∃ N : L2.St → Hp → Prop, (∀ σ' H', N σ' H' → ∃ m', m' < m ∧ W (i + 1) m' σ' H') ∧ ∀ x H', (Iti d od kvs).yld i H x H' → g x σ H' fun σ2 H2 => tb { D with nx := N, ct := N, bk := D.nx } σ2 H2) := by
  refine ⟨fun i m σ H => m = kvs.length - i ∧ i ≤ kvs.length ∧ Pv i σ H, ⟨kvs.length, by simp, Nat.zero_le _, h0⟩, ?_⟩
  rintro i m σ H ⟨rfl, hi, p⟩
  have q := hl i σ H hi p
  by_cases hlt : i < kvs.length
  · refine .inr ⟨⟨q, hlt⟩, Pv (i + 1), fun σ' H' p' => ⟨kvs.length - (i + 1), by omega, rfl, hlt, p'⟩, fun x H' y => ?_⟩
    obtain ⟨T, k, v, e1, rfl, e3, rfl⟩ := y
    exact hs i k v σ H T e1 p e3
  · have e : i = kvs.length := by omega
    subst e
    exact .inl ⟨⟨q, Nat.le_refl _⟩, hd σ H p⟩
theorem keys_take_not {kvs : List (Key × V)} {i : Nat} {k : Key} {v : V} (nd : (kvs.map (·.1)).Nodup) (h : kvs[i]? = some (k, v)) : k ∉ (kvs.take i).map (·.1) := fun z => by
  obtain ⟨p, hp, e⟩ := List.mem_map.mp z
  obtain ⟨j, hj⟩ := List.getElem?_of_mem hp
  have hji : j < i := by
    have := (List.getElem?_eq_some_iff.mp hj).1
    rw [List.length_take] at this
    omega
  rw [List.getElem?_take_of_lt hji] at hj
  have e1 : (kvs.map (·.1))[i]? = some k := by rw [List.getElem?_map, h]; rfl
  have e2 : (kvs.map (·.1))[j]? = some k := by rw [List.getElem?_map, hj, ← e]; rfl
  have := nd_ix nd e1 e2
  omega
section
variable {CM CT : Addr} {H H' : Hp} {m : Addr} {W : Str → Option V} {A : Adr} {h h' : Vasnpe.Heap} {o : Nat} {c : Vasnpe.Cell}
theorem Rep.ext (R : Rep CM CT H m W A h) (e : ∀ x, Vasnpe.cellAt h' x = Vasnpe.cellAt h x) (er : h'.regs = h.regs) (es : h'.suspects = h.suspects) : Rep CM CT H m W A h' where
  mac := R.mac
  regs := by rw [er]; exact R.regs
  sus := by rw [es]; exact R.sus
  held := R.held.congr fun o => by rw [e]
  thing := fun o c q => R.thing o c (by rw [← e]; exact q)
  sep := R.sep
  sepS := fun o c q => R.sepS o c (by rw [← e]; exact q)
  sepT := fun o o' c c' q q' n => R.sepT o o' c c' (by rw [← e]; exact q) (by rw [← e]; exact q') n
theorem foot_ext (e : ∀ x, Vasnpe.cellAt h' x = Vasnpe.cellAt h x) : Foot A m h' = Foot A m h := Foot_congr fun o => by rw [e]
theorem Rep.newSus (R : Rep CM CT H m W A h) {dx p : Addr} {fs : List (Str × V)} (hm : H m = some (.ins CM dx fs)) (hC : CM ≠ CT) (hp : H p = some (.lst [])) (np : ¬ Foot A m h p) :
    Rep CM CT (upd H m (.ins CM dx (putF "suspects" (.ref p) fs))) m W { A with sa := p } { h with suspects := [] } := by
  refine Rep.macE (R) fun dx' fs' e1 e2 e3 e4 e5 e6 => ?_
  rw [hm] at e1
  cases e1
  have k : ∀ b u, b ≠ m → H b = some u → upd H m (.ins CM dx (putF "suspects" (.ref p) fs)) b = some u := fun b u n e => by rw [upd_ne n]; exact e
  have npm : p ≠ m := fun z => np (as_eq z .mm)
  refine ⟨⟨dx, _, upd_same, by rw [length_put_in e5]; exact e2, lookup_put (by decide +kernel) e3, lookup_put (by decide +kernel) e4, (lookup_putF _ _ _ _).trans (if_pos rfl), fun x hx => ?_⟩, k _ _ R.m_ne_ra.symm R.regs, k _ _ npm hp, ?_, fun o c e => ?_, fun z => np (as_eq z.symm .ra), fun o c e => ⟨(R.sepS o c e).1, fun z => np (as_eq z.symm (.sA e))⟩, R.sepT⟩
  · refine (lookup_putF _ _ _ _).trans ((if_neg fun z => hx (.inr (.inr z))).trans (e6 x hx))
  · exact (R.held.keep fun u e => k _ _ R.m_ne_ha.symm e).congr fun _ => Iff.rfl
  · exact (R.thing o c e).keep (fun u z => k _ _ (R.t_ne_m hC e) z) (fun u z => k _ _ (R.s_ne_m e) z)
theorem foot_newSus {p b : Addr} (f : Foot { A with sa := p } m { h with suspects := [] } b) : Foot A m h b ∨ b = p := by
  rcases f with z | z | z | z | z
  · exact .inl (.inl z)
  · exact .inl (.inr (.inl z))
  · exact .inr z
  · exact .inl (.inr (.inr (.inr (.inl z))))
  · exact .inl (.inr (.inr (.inr (.inr z))))
end
structure PopI (CM CT : Addr) (m g : Addr) (W : Str → Option V) (A : Adr) (sz : Nat → Nat) (h : Vasnpe.Heap) (H0 H : Hp) (gs : List Nat) (hi : Vasnpe.Heap) : Prop where
  rep : Rep CM CT H m W A hi
  cells : ∀ x, Vasnpe.cellAt hi x = if x ∈ gs then none else Vasnpe.cellAt h x
  regs : hi.regs = h.regs
  sus : hi.suspects = h.suspects
  len : hi.cells.length = 32
  gone : GoneAt CT H (Foot A m hi) g gs sz
  frm : Frm (Foot A m h) H0 (Foot A m hi) H
open Classical in
noncomputable def lessCell (h : Vasnpe.Heap) (gs : List Nat) (ks : List Key) (x : Nat) : Option Vasnpe.Cell := if x ∈ gs then none else (Vasnpe.cellAt h x).map fun c => { c with count := c.count - if nk x ∈ ks then ins h gs x else 0 }
theorem lessCell_congr {h : Vasnpe.Heap} {gs : List Nat} {ks ks' : List Key} {x : Nat} (e : nk x ∈ ks ↔ nk x ∈ ks') : lessCell h gs ks x = lessCell h gs ks' x := by
  unfold lessCell
  rw [propext e]
structure CutI (CM CT : Addr) (m g : Addr) (W : Str → Option V) (A : Adr) (sz : Nat → Nat) (h : Vasnpe.Heap) (H0 H : Hp) (gs : List Nat) (ks : List Key) (hi : Vasnpe.Heap) : Prop where
  rep : Rep CM CT H m W A hi
  cells : ∀ x, Vasnpe.cellAt hi x = lessCell h gs ks x
  regs : hi.regs = h.regs
  sus : hi.suspects = h.suspects
  gone : GoneAt CT H (Foot A m hi) g gs sz
  frm : Frm (Foot A m h) H0 (Foot A m hi) H
section
variable {P : Program} {w : World} {K : PySem.W.Frag} {mg : Str → Option Value} {base : Heap} {CM CT : Addr}
inductive spCollectI (CM CT : Addr) (vs : List V) (H : Hp) (Q : VK) : Prop
  | mk : ∀ (m : Addr) (W : Str → Option V) (F : AS) (h : Vasnpe.Heap) (sz : Nat → Nat), (vs = [.ref m]) → (MachAt CM CT H m W F h) → (Good h []) → ((∀ o c, Vasnpe.cellAt h o = some c → c.size = sz o)) → (∀ (H' : Hp) (F' : AS) (g : Addr), MachAt CM CT H' m W F' (Vasnpe.lessFor h (Vasnpe.going h)) → Frm F H F' H' → GoneAt CT H' F' g (Vasnpe.going h) sz → (∀ b u, H b = some u → ¬ F b → b ≠ g) → Q (.ref g) H') → spCollectI CM CT vs H Q
def spCollect (CM CT : Addr) : Sp := fun vs H Q _ => spCollectI CM CT vs H Q
theorem sc_collect : FnScope ["machine", "field", "stays", "going", "lost", "gone", "number", "less", "thing"] ["machine"] (defScope s_collect) := ⟨rfl, rfl, rfl, by decide +kernel, rfl, by decide +kernel, by decide +kernel⟩
theorem notin_stay (h : Vasnpe.Heap) (o : Nat) : (!inV (iV o) ((Vasnpe.staying h).map iV)) = !(Vasnpe.staying h).contains o := by rw [inV_nat]
theorem ok_collect {f : Addr} {fd : FuncData} (F : Fun K "collect" "collect" s_collect f fd) (T : Txt K mg CM CT) (C1 : Callee P w K mg base 2 "reached" ["machine", "numbers"] (spReach K CM CT)) (C2 : Callee P w K mg base 3 "staying" ["machine", "outside"] (spStay CM CT))
    (C3 : Callee P w K mg base 2 "slot_holders" ["machine", "numbers"] (spHold CM CT)) (C4 : Callee P w K mg base 3 "outside_counts" ["machine", "field"] (spOut CM CT)) : FnOk P w K mg base CX0 5 f fd ["machine"] (spCollect CM CT) := by
  refine F.ok sc_collect (fun vs H Q E h => ?_) (fun cdv A0 outer s H vs Q E hr h => ?_)
  · obtain ⟨m, W, F, h, sz, rfl, _⟩ := h
    rfl
  · obtain ⟨m, W, F, h, sz, rfl, ⟨A, R, rfl⟩, G, hz, k⟩ := h
    have hu := hu_of hr
    have hr2 : Room 2 _ := hr.mono (by decide)
    have hr3 : Room 3 _ := hr.mono (by decide)
    refine ⟨_, pss_cons (ps_set (i := 1) sc_collect.nd rfl (Or.inl rfl) (pe_cal C1 hr2 (pa_cons (pv 0) (pa_cons (pe_fld (pv 0) rfl) pa_nil))))
      (pss_cons (ps_set (i := 2) sc_collect.nd rfl (Or.inr rfl) (pe_cal C2 hr3 (pa_cons (pv 0) (pa_cons (pe_cal C4 hr3 (pa_cons (pv 0) (pa_cons (pv 1) pa_nil))) pa_nil))))
      (pss_cons (ps_setLc (i := 3) (own := [("number", 6)]) rfl sc_collect.nd rfl rfl (sw_true rfl rfl rfl rfl) (pi_list (pv 1)) (blkOk_by (N := ["machine", "field", "stays", "going", "lost", "gone", "number", "less", "thing"]) (sc := defScope s_collect) (by decide +kernel)) (fun s H C cl fp => pg_name (i := 6) sc_collect.nd rfl (Or.inl rfl))
        (fun s H C cl fp => pts_one (pt_cmpR (show OpR _ _ (rIn K true) from op_notIn_seq) (pv 6) (pv 2) (by rfl))) (fun s H C cl fp => pv 6))
      (pss_cons (ps_set (i := 4) sc_collect.nd rfl (Or.inl rfl) (pe_cal C3 hr2 (pa_cons (pv 0) (pa_cons (pv 3) pa_nil))))
      (pss_cons (ps_set (i := 5) sc_collect.nd rfl (Or.inl rfl) (pe_lst pa_nil))
      (pss_cons (ps_for PassesOwn.never rfl (pi_list (pv 3)) (pg_name (i := 6) sc_collect.nd rfl (Or.inl rfl))
        (pss_one (ps_expr (pe_bm PySem.F.plainAttrs_list PySem.F.slot_list_append PySem.F.type_list_append mt_append (pv 5) (pa_cons (pe_dpop1 (pe_fld (pv 0) rfl) (pv 6) ⟨rfl, rfl, rfl, rfl⟩) pa_nil)))))
      (pss_cons (ps_lock (ps_for PassesOwn.never rfl (pi_items (pv 4)) (pg_tup rfl (pgs_cons (pg_name (i := 6) sc_collect.nd rfl (Or.inl rfl)) (pgs_cons (pg_name (i := 7) sc_collect.nd rfl (Or.inl rfl)) pgs_nil)))
        (pss_one (ps_if (pt_cmp (pc_din hu (pv 6) (pe_fld (pv 0) rfl))) (pss_cons (ps_set (i := 8) sc_collect.nd rfl (Or.inl rfl) (pe_dget hu (pe_fld (pv 0) rfl) (pv 6) (fun _ _ => rfl))) (pss_one (ps_fldaug (pv 8) (pv 7) in_sub))) pss_nil))))
      (pss_cons (ps_fld (pv 0) (pe_lst pa_nil) rfl)
      (pss_one (ps_ret (pv 5)))))))))), ?_⟩
    refine Rep.macE (R) fun dx fs hm hlen l1 l2 l3 _ => ?_
    have hsl := sus_len G
    have hs32 := nodup_le G.snd (fun x hx => (sus_held G).lt G x hx)
    have hf32 := nodup_le (field_nodup G) (field_lt G)
    refine ⟨_, rfl, _, rfl, m, CM, dx, fs, _, rfl, hm, T.clM, T.nSus, l3, m, A.sa, W, A, h, [], h.suspects, rfl, R, G, .inl R.sus, sus_held G, by omega, fun H1 fa hfa hfa1 s1 => ?_⟩
    have hfa1 : H1 fa = some (.lst ((Vasnpe.field h).map iV)) := hfa1
    refine ⟨_, rfl, _, rfl, _, rfl, m, fa, W, A, h, [], Vasnpe.field h, rfl, R.same s1, G, .inl hfa1, field_held G, field_nodup G, by omega, fun Ho oa hoa hoa1 so => ?_⟩
    refine ⟨m, oa, W, A, h, rfl, (R.same s1).same so, G, hoa1, fun H2 sa hsa hsa2 s2' => ?_⟩
    have s2 := so.trans s2'
    have hfa2 := s2 _ _ hfa1
    have s02 := s1.trans s2
    refine ⟨_, rfl, fa, rfl, ⟨_, SqL.of hfa2⟩, fun D hD => ?_⟩
    refine lc_list (K := K) (a := fa) (xs := (Vasnpe.field h).map iV) (fun i H' => H' D = some (.lst ((((Vasnpe.field h).take i).filter fun o => !(Vasnpe.staying h).contains o).map iV)) ∧ Same H2 H') ⟨upd_same, same_new hD⟩ (fun i H' _ h => SqL.of (h.2 _ _ hfa2)) ?_ ?_
    · rintro i x H' hi ⟨h1, h2⟩
      obtain ⟨o, ho, rfl⟩ := map_get hi
      refine ⟨rfl, _, rfl, _, rfl, sa, _, rfl, .inl (SqL.of (h2 _ _ hsa2)), rfl, flat_ints _, _, rfl, ?_⟩
      show if (!inV (iV o) ((Vasnpe.staying h).map iV)) = true then _ else _
      rw [notin_stay]
      refine ite2 (fun hc => ?_) (fun hc => ?_)
      · refine ⟨_, rfl, _, h1, ?_, ?_, fun b u e => by rw [upd_ne (ne_of_none e hD)]; exact h2 b u e⟩
        · rw [List.length_map]
          have := List.length_filter_le (fun o => !(Vasnpe.staying h).contains o) ((Vasnpe.field h).take i)
          have h3 : ((Vasnpe.field h).take i).length ≤ (Vasnpe.field h).length := by rw [List.length_take]; omega
          exact Nat.lt_of_le_of_lt (show _ ≤ 32 by omega) (by decide)
        · rw [upd_same, filter_take_pos (p := fun o => !(Vasnpe.staying h).contains o) ho hc, List.map_append]; rfl
      · refine ⟨?_, h2⟩
        rw [filter_take_neg (p := fun o => !(Vasnpe.staying h).contains o) ho hc]
        exact h1
    · rintro H3 ⟨hD3, s3⟩
      rw [List.length_map, List.take_length] at hD3
      have hD3 : H3 D = some (.lst ((Vasnpe.going h).map iV)) := hD3
      have s03 := s02.trans s3
      have hg32 := nodup_le (going_nodup G) (going_lt G)
      refine ⟨_, rfl, _, rfl, m, D, W, A, h, [], Vasnpe.going h, rfl, R.same s03, G, .inl hD3, going_held G, by omega, fun H4 la lk hla hla4 tl ll s4 => ?_⟩
      have hD4 := s4 _ _ hD3
      have s04 := s03.trans s4
      have R4 := R.same s04
      have nD : ¬ Foot A m h D := fun fz => by
        obtain ⟨u, e⟩ := (R.same s02).there fz
        rw [hD] at e; cases e
      have nla : ¬ Foot A m h la := fun fz => by
        obtain ⟨u, e⟩ := (R.same s03).there fz
        rw [hla] at e; cases e
      refine ⟨Nat.zero_le _, fun g hg => ?_⟩
      have s5 : Same H4 (upd H4 g (.lst [])) := same_new hg
      have ng : ¬ Foot A m h g := fun fz => by
        obtain ⟨u, e⟩ := R4.there fz
        rw [hg] at e; cases e
      have nlag : la ≠ g := ne_of_none hla4 hg
      refine ⟨_, rfl, D, rfl, ⟨_, SqL.of (s5 _ _ hD4)⟩, for_list (K := K) (a := D) (xs := (Vasnpe.going h).map iV) (fun i σ H' => ∃ (v6 : Option V) (hi : Vasnpe.Heap), σ = [some (.ref m), some (.ref fa), some (.ref sa), some (.ref D), some (.ref la), some (.ref g), v6, none, none] ∧ PopI CM CT m g W A sz h H4 H' ((Vasnpe.going h).take i) hi)
        ⟨none, h, rfl, R4.same s5, fun x => by simp, rfl, rfl, G.clen, GoneAt.nil upd_same ng, Frm.same s5⟩ (fun i σ H' _ ⟨_, _, _, I⟩ => SqL.of (I.frm.keep _ _ hD4 nD)) ?_ ?_⟩
      · rintro i y σ H' hi ⟨v6, hh, rfl, I⟩
        obtain ⟨o, ho, rfl⟩ := map_get hi
        obtain ⟨c, ec0⟩ := going_held G o (List.mem_of_getElem? ho)
        have hnt : o ∉ (Vasnpe.going h).take i := fun z => by
          obtain ⟨j, hj⟩ := List.getElem?_of_mem z
          have hji : j < i := by
            have := (List.getElem?_eq_some_iff.mp hj).1
            rw [List.length_take] at this
            omega
          rw [List.getElem?_take_of_lt hji] at hj
          have := ix_uniq (going_nodup G) ho hj
          omega
        have ec : Vasnpe.cellAt hh o = some c := by rw [I.cells, if_neg hnt]; exact ec0
        refine Rep.macE (I.rep) fun dx' fs' hm' hlen' l1' l2' l3' _ => ?_
        refine HeldAt.exE (I.rep.held) fun kvs hk _ _ _ ka _ => ?_
        refine ThingAt.exE ((I.rep.thing o c ec)) fun dt ft t1 t2 t3 t4 t5 t6 t7 => ?_
        have R2 := I.rep.setGone I.len ec hk
        have o1 := I.rep.gone_out T.ne ec
        have t1' : upd H' A.ha (.dK (dropK kvs (nk o))) (A.tA o) = some (.ins CT dt ft) := by rw [upd_ne (I.rep.t_ne_ha ec)]; exact t1
        have f2 : Frm (Foot A m hh) H' (Foot A m (Vasnpe.setCell hh o none)) (upd H' A.ha (.dK (dropK kvs (nk o)))) := ⟨fun b u e nb => by rw [upd_ne (fun z => nb (as_eq z .ha))]; exact e, fun b fb => .inl (foot_gone ec fb)⟩
        have gone2 := I.gone.frm f2
        have frm2 := I.frm.trans f2
        obtain ⟨xs0, hgx0, _⟩ := I.gone
        obtain ⟨xs, hgx, hxl, gone3⟩ := gone2.snoc (a := A.tA o) (o := o) ⟨o1, dt, ft, t1', t3, by rw [← hz o c ec0]; exact t5⟩
        refine ⟨_, rfl, .inl ⟨rfl, _, SqL.of hgx0⟩, _, rfl, m, CM, dx', fs', _, rfl, hm', T.clM, T.nHeld, l2', A.ha, rfl, .inl ⟨_, .inl hk⟩, _, rfl, kvs, nk o, _, hk, rfl, ka o c ec, g, _, _, rfl, rfl, hgx, ?_, ?_⟩
        · rw [hxl]
          have : ((Vasnpe.going h).take i).length ≤ (Vasnpe.going h).length := by rw [List.length_take]; omega
          exact Nat.lt_of_le_of_lt (show _ ≤ 32 by omega) (by decide)
        · have ng3 : ¬ Foot A m (Vasnpe.setCell hh o none) g := by
            obtain ⟨_, _, _, n, _⟩ := gone2
            exact n
          refine ⟨_, Vasnpe.setCell hh o none, rfl, R2.keep fun b u fb e => by rw [upd_ne (fun z => ng3 (as_eq z.symm fb))]; exact e, fun x => ?_, I.regs, I.sus, ?_, ?_, ?_⟩
          · rw [cellAt_set _ (cell_lt ec), I.cells, take_snoc ho]
            by_cases ex : x = o
            · rw [if_pos ex, if_pos (List.mem_append_right _ (by simp [ex]))]
            · rw [if_neg ex]
              by_cases e2 : x ∈ (Vasnpe.going h).take i
              · rw [if_pos e2, if_pos (List.mem_append_left _ e2)]
              · rw [if_neg e2, if_neg (fun z => (List.mem_append.mp z).elim e2 fun q => ex (by simpa using q))]
          · show (hh.cells.set o none).length = 32
            rw [List.length_set]; exact I.len
          · rw [take_snoc ho]; exact gone3
          · exact ⟨fun b u e nb => by rw [upd_ne (ne_of_none e hg)]; exact frm2.keep b u e nb, frm2.grow⟩
      · rintro σ H5 ⟨v6, hh, rfl, I⟩
        rw [List.length_map, List.take_length] at I
        have hla5 := I.frm.keep _ _ hla4 nla
        have nla5 := I.frm.out hla4 nla
        have hD5 := I.frm.keep _ _ hD4 nD
        refine ⟨la, .dK lk, hla5, trivial, fun od => ?_⟩
        have kl : ∀ b u, H5 b = some u → b ≠ la → upd H5 la (.frz od (.dK lk)) b = some u := fun b u e n => by rw [upd_ne n]; exact e
        have f04 : Frm (Foot A m h) H (Foot A m hh) H5 := (Frm.same s04).trans I.frm
        have hlaH : H la = none := s03.free hla
        have c0 : CutI CM CT m g W A sz h H (upd H5 la (.frz od (.dK lk))) (Vasnpe.going h) ((lk.take 0).map (·.1)) hh := by
          refine ⟨I.rep.keep fun b u fb e => kl b u e fun z => nla5 (as_eq z.symm fb), fun x => ?_, I.regs, I.sus, ?_, ⟨fun b u e nb => kl b u (f04.keep b u e nb) (ne_of_none e hlaH), f04.grow⟩⟩
          · rw [I.cells]
            unfold lessCell
            by_cases e : x ∈ Vasnpe.going h
            · rw [if_pos e, if_pos e]
            · rw [if_neg e, if_neg e]
              cases Vasnpe.cellAt h x with
              | none => rfl
              | some c => simp
          · obtain ⟨ps, e1, e2, e3, e4⟩ := I.gone
            refine ⟨ps, kl _ _ e1 nlag.symm, e2, e3, fun p hp => ?_⟩
            obtain ⟨n1, dx', fs', e5, e6⟩ := e4 p hp
            exact ⟨n1, dx', fs', kl _ _ e5 (ne_of e5 hla5 (by intro z; cases z)), e6⟩
        refine ⟨_, rfl, la, od, lk, rfl, upd_same, for_items (d := la) (od := od) (kvs := lk) (fun i σ H' => ∃ (v6 v7 v8 : Option V) (hi : Vasnpe.Heap), σ = [some (.ref m), some (.ref fa), some (.ref sa), some (.ref D), some (.ref la), some (.ref g), v6, v7, v8] ∧ H' la = some (.frz od (.dK lk)) ∧ CutI CM CT m g W A sz h H H' (Vasnpe.going h) ((lk.take i).map (·.1)) hi)
          ⟨_, _, _, hh, rfl, upd_same, c0⟩ (fun i σ H' _ ⟨_, _, _, _, _, e, _⟩ => e) ?_ ?_⟩
        · rintro i key v σ H6 TT hi ⟨v6, v7, v8, hj, rfl, hla6, J⟩ hT
          have hv0 := valV_get tl.nd hi
          obtain ⟨t, rfl⟩ := tl.key _ _ hv0
          have hv : v = iV (ins h (Vasnpe.going h) t) := by
            rw [tl.val] at hv0
            by_cases e : ins h (Vasnpe.going h) t = 0
            · rw [if_pos e] at hv0; cases hv0
            · rw [if_neg e] at hv0; exact (Option.some.inj hv0).symm
          subst hv
          have hnot := keys_take_not tl.nd hi
          have s7 : Same H6 (upd H6 TT (.tup [kV (nk t), iV (ins h (Vasnpe.going h) t)])) := same_new hT
          have R7 := J.rep.same s7
          have gone7 := J.gone.frm (Frm.same s7)
          have frm7 := J.frm.trans (Frm.same s7)
          have hla7 := s7 _ _ hla6
          have ekeys : (lk.take (i + 1)).map (·.1) = (lk.take i).map (·.1) ++ [nk t] := by rw [take_snoc hi, List.map_append]; rfl
          refine ⟨TT, _, rfl, SqT.of upd_same, rfl, _, _, rfl, _, _, rfl, rfl, ?_⟩
          generalize upd H6 TT (.tup [kV (nk t), iV (ins h (Vasnpe.going h) t)]) = H7 at R7 gone7 frm7 hla7
          refine Rep.macE (R7) fun dx' fs' hm' hlen' l1' l2' l3' _ => ?_
          refine HeldAt.exE (R7.held) fun kvs hk _ _ _ ka kb => ?_
          refine ⟨_, rfl, _, rfl, m, CM, dx', fs', _, rfl, hm', T.clM, T.nHeld, l2', A.ha, _, rfl, DGet.k (k := nk t) hk, _, rfl, ?_⟩
          cases ec : Vasnpe.cellAt hj t with
          | none =>
            have hvn : valV kvs (nk t) = none := by
              cases q : valV kvs (nk t) with
              | none => rfl
              | some v =>
                obtain ⟨x, d, ex, hx⟩ := kb _ v q
                rw [← nk_inj ex, ec] at hx
                cases hx
            rw [hvn]
            refine iteF ⟨_, _, _, hj, rfl, hla7, R7, fun x => ?_, J.regs, J.sus, gone7, frm7⟩
            rw [J.cells, ekeys]
            by_cases ex : x = t
            · rw [ex, ← J.cells, ec]
              have := J.cells t
              rw [ec] at this
              unfold lessCell at this ⊢
              by_cases e : t ∈ Vasnpe.going h
              · rw [if_pos e]
              · rw [if_neg e] at this ⊢
                cases q : Vasnpe.cellAt h t with
                | none => rfl
                | some c => rw [q] at this; cases this
            · refine lessCell_congr ?_
              rw [List.mem_append]
              exact ⟨.inl, fun z => z.elim id fun q => absurd (nk_inj (List.mem_singleton.mp q)) ex⟩
          | some d =>
            rw [ka t d ec]
            refine iteT ?_
            have hg1 : DGet H7 A.ha (iV t) (some (.ref (A.tA t))) := by
              have := DGet.k (k := nk t) hk
              rw [ka t d ec] at this
              exact this
            refine ThingAt.exE ((R7.thing t d ec)) fun dt ft t1 t2 t3 t4 t5 t6 t7 => ?_
            have hcell := J.cells t
            rw [ec] at hcell
            unfold lessCell at hcell
            have hng : t ∉ Vasnpe.going h := fun z => by rw [if_pos z] at hcell; cases hcell
            rw [if_neg hng] at hcell
            obtain ⟨c, ec0⟩ : ∃ c, Vasnpe.cellAt h t = some c := by
              cases q : Vasnpe.cellAt h t with
              | none => rw [q] at hcell; cases hcell
              | some c => exact ⟨c, rfl⟩
            rw [ec0, Option.map_some, if_neg hnot] at hcell
            have hd := Option.some.inj hcell
            have hcnt : d.count = c.count := by rw [hd]; rfl
            have hle : ins h (Vasnpe.going h) t ≤ d.count := by
              have := ins_le G (going_nodup G) (going_lt G) t
              have e2 : cntOf h t = c.count := by unfold cntOf; rw [ec0]; rfl
              omega
            refine ⟨_, rfl, m, CM, dx', fs', _, rfl, hm', T.clM, T.nHeld, l2', _, rfl, A.ha, _, rfl, hg1, ?_⟩
            refine ⟨_, rfl, A.tA t, CT, dt, ft, _, rfl, t1, T.clT, T.nCnt, t7, _, rfl, _, _, rfl, rfl, dt, ft, t1, Nat.lt_trans t2 (by decide), ?_⟩
            have e1 : V.int ((d.count : Int) - (ins h (Vasnpe.going h) t : Int)) = iV (d.count - ins h (Vasnpe.going h) t) := by
              unfold iV
              congr 1
              omega
            rw [e1]
            have R8 := R7.setCount T.ne ec t1 (d.count - ins h (Vasnpe.going h) t)
            have ef : Foot A m (Vasnpe.setCell hj t (some { d with count := d.count - ins h (Vasnpe.going h) t })) = Foot A m hj := Foot_congr (set_held ec)
            have f8 : Frm (Foot A m hj) H7 (Foot A m hj) (upd H7 (A.tA t) (.ins CT dt (putF "count" (iV (d.count - ins h (Vasnpe.going h) t)) ft))) := Frm.write (.tA ec)
            refine ⟨_, _, _, Vasnpe.setCell hj t (some { d with count := d.count - ins h (Vasnpe.going h) t }), rfl, ?_, R8, fun x => ?_, J.regs, J.sus, ?_, ?_⟩
            · rw [upd_ne (fun z => by rw [z, t1] at hla7; cases hla7)]; exact hla7
            · rw [cellAt_set _ (cell_lt ec), ekeys]
              by_cases ex : x = t
              · rw [if_pos ex, ex]
                unfold lessCell
                rw [if_neg hng, ec0, Option.map_some, if_pos (List.mem_append_right _ (by simp)), hd]
                simp
              · rw [if_neg ex, J.cells]
                refine lessCell_congr ?_
                rw [List.mem_append]
                exact ⟨.inl, fun z => z.elim id fun q => absurd (nk_inj (List.mem_singleton.mp q)) ex⟩
            · rw [ef]; exact gone7.frm f8
            · rw [ef]; exact frm7.trans f8
        · rintro σ H6 ⟨v6, v7, v8, hj, rfl, hla6, J⟩
          rw [List.take_length] at J
          refine ⟨hla6, ?_⟩
          have nlaj : ¬ Foot A m hj la := fun fz => by
            rcases fz with z | z | z | z | ⟨x, c, ex, z | z⟩
            · obtain ⟨_, _, e, _⟩ := J.rep.mac
              rw [← z, hla6] at e; cases e
            · have e := J.rep.regs
              rw [← z, hla6] at e; cases e
            · have e := J.rep.sus
              rw [← z, hla6] at e; cases e
            · obtain ⟨_, e, _⟩ := J.rep.held.ex
              rw [← z, hla6] at e; cases e
            · obtain ⟨_, _, e, _⟩ := (J.rep.thing x c ex).ex
              rw [← z, hla6] at e; cases e
            · have e := (J.rep.thing x c ex).sl
              rw [← z, hla6] at e; cases e
          have kl6 : ∀ b u, H6 b = some u → b ≠ la → upd H6 la (.dK lk) b = some u := fun b u e n => by rw [upd_ne n]; exact e
          have R7 := J.rep.keep (H' := upd H6 la (.dK lk)) fun b u fb e => kl6 b u e fun z => nlaj (as_eq z.symm fb)
          have gone7 : GoneAt CT (upd H6 la (.dK lk)) (Foot A m hj) g (Vasnpe.going h) sz := by
            obtain ⟨ps, e1, e2, e3, e4⟩ := J.gone
            refine ⟨ps, kl6 _ _ e1 nlag.symm, e2, e3, fun p hp => ?_⟩
            obtain ⟨n1, dx', fs', e5, e6⟩ := e4 p hp
            exact ⟨n1, dx', fs', kl6 _ _ e5 (ne_of e5 hla6 (by intro z; cases z)), e6⟩
          have frm7 : Frm (Foot A m h) H (Foot A m hj) (upd H6 la (.dK lk)) := ⟨fun b u e nb => kl6 b u (J.frm.keep b u e nb) (ne_of_none e hlaH), J.frm.grow⟩
          generalize upd H6 la (.dK lk) = H7 at R7 gone7 frm7
          have hcells : ∀ x, Vasnpe.cellAt (Vasnpe.lessFor h (Vasnpe.going h)) x = Vasnpe.cellAt hj x := fun x => by
            rw [cells_lessFor, J.cells]
            unfold lessCell
            by_cases e : x ∈ Vasnpe.going h
            · rw [if_pos e, if_pos e]
            · rw [if_neg e, if_neg e]
              cases Vasnpe.cellAt h x with
              | none => rfl
              | some c =>
                rw [Option.map_some, Option.map_some]
                by_cases e2 : nk x ∈ lk.map (·.1)
                · rw [if_pos e2]
                · rw [if_neg e2]
                  have h0 : valV lk (nk x) = none := by
                    cases q : valV lk (nk x) with
                    | none => rfl
                    | some v => exact absurd (valV_in q) e2
                  rw [tl.val] at h0
                  have : ins h (Vasnpe.going h) x = 0 := Classical.byContradiction fun z => by rw [if_neg z] at h0; cases h0
                  rw [this]
          refine ⟨Nat.zero_le _, fun p hp => ?_⟩
          have s8 : Same H7 (upd H7 p (.lst [])) := same_new hp
          have R8 := R7.same s8
          refine Rep.macE (R8) fun dx' fs' hm' hlen' l1' l2' l3' _ => ?_
          have np : ¬ Foot A m hj p := fun fz => by
            obtain ⟨u, e⟩ := R7.there fz
            rw [hp] at e; cases e
          refine ⟨_, rfl, m, CM, dx', fs', rfl, hm', T.clM, T.nSus, Nat.lt_trans hlen' (by decide), ?_⟩
          have R9 := R8.newSus hm' T.ne upd_same np
          have f9 : Frm (Foot A m hj) (upd H7 p (.lst [])) (Foot A m hj) (upd (upd H7 p (.lst [])) m (.ins CM dx' (putF "suspects" (.ref p) fs'))) := Frm.write .mm
          have f79 := (Frm.same (F := Foot A m hj) s8).trans f9
          have gone9 := gone7.frm f79
          have fx : ∀ b, Foot { A with sa := p } m (Vasnpe.lessFor h (Vasnpe.going h)) b → Foot A m hj b ∨ b = p := fun b fb => by
            rw [foot_ext (h' := Vasnpe.lessFor h (Vasnpe.going h)) (h := { hj with suspects := [] }) hcells] at fb
            exact foot_newSus fb
          refine ⟨_, rfl, k _ (Foot { A with sa := p } m (Vasnpe.lessFor h (Vasnpe.going h))) g ⟨{ A with sa := p }, R9.ext hcells J.regs.symm rfl, rfl⟩ ⟨?_, fun b fb => ?_⟩ ?_ ?_⟩
          · exact fun b u e nb => f79.keep b u (frm7.keep b u e nb) (frm7.out e nb)
          · rcases fx b fb with z | z
            · exact frm7.grow b z
            · subst z
              cases q : H b with
              | none => exact .inr rfl
              | some u =>
                refine .inl (Classical.byContradiction fun nb => ?_)
                rw [frm7.keep b u q nb] at hp
                cases hp
          · obtain ⟨ps, e1, e2, e3, e4⟩ := gone7
            obtain ⟨ps9, e19, e29, e39, e49⟩ := gone9
            refine ⟨ps9, e19, e29, fun fb => ?_, fun q hq => ?_⟩
            · rcases fx _ fb with z | z
              · exact e3 z
              · rw [← z, e1] at hp; cases hp
            · obtain ⟨n1, dx'', fs'', e5, e6⟩ := e49 q hq
              refine ⟨fun fb => ?_, dx'', fs'', e5, e6⟩
              rcases fx _ fb with z | z
              · exact n1 z
              · rw [z, upd_ne (fun y => np (as_eq y .mm)), upd_same] at e5
                cases e5
          · exact fun b u e _ => ne_of_none (s04 _ _ e) hg
end
end Hc
set_option Elab.async false
set_option linter.all false
set_option maxRecDepth 100000
set_option maxHeartbeats 4000000
namespace Hc
open PySem PySem.Spec PyProof.Rows L2
def GI (mg : Str → Option Value) (x : Str) (n : Int) : Prop := ∃ t, mg x = some (.int n t)
theorem pe_gi {X : Cx} {x : Str} {n : Int} {pos : Pos} (g : GI X.mg x n) (hg : Gl X x := by rfl) (hd : (x == ("__debug__" : Str)) = false := by decide) : PE X (.Name x pos) (tC (.int n)) := by
  obtain ⟨t, e⟩ := g
  exact pe_glob hg e ⟨t, rfl⟩ hd
section
variable {P : Program} {w : World} {K : PySem.W.Frag} {mg : Str → Option Value} {base : Heap} {CM CT : Addr}
inductive spThingI (CT : Addr) (vs : List V) (H : Hp) (Q : VK) : Prop
  | mk : ∀ (p dx : Addr) (o : Nat) (k z n : Int), (vs = [.ref p, iV o, .int k, .int z, .int n]) → (H p = some (.ins CT dx [])) → (goodNew k z n = true) → (∀ (H' : Hp) (l : Addr), H l = none → ThingAt CT H' p l o (newCell k z n) → (∀ b u, H b = some u → b ≠ p → H' b = some u) → Q .non H') → spThingI CT vs H Q
def spThing (CT : Addr) : Sp := fun vs H Q _ => spThingI CT vs H Q
theorem sc_thing : FnScope ["self", "number", "kind", "size", "n"] ["self", "number", "kind", "size", "n"] (defScope s_Thing_init) := ⟨rfl, rfl, rfl, by decide +kernel, rfl, by decide +kernel, by decide +kernel⟩
theorem rep_flat (x : V) : ∀ n : Nat, (List.replicate n [x]).flatten = List.replicate n x
  | 0 => rfl
  | n + 1 => by
    rw [List.replicate_succ, List.flatten_cons, rep_flat x n, List.replicate_succ]; rfl
theorem rep_oV (n : Nat) : (List.replicate n (none : Option Nat)).map oV = List.replicate n .non := by rw [List.map_replicate]; rfl
theorem ok_thing {f : Addr} {fd : FuncData} (F : Fun K "__init__" "Thing.__init__" s_Thing_init f fd) (T : Txt K mg CM CT) : FnOk P w K mg base CX0 1 f fd ["self", "number", "kind", "size", "n"] (spThing CT) := by
  refine F.ok sc_thing (fun vs H Q E h => ?_) (fun cdv A0 outer s H vs Q E hr h => ?_)
  · obtain ⟨p, dx, o, k, z, n, rfl, _⟩ := h
    rfl
  · obtain ⟨p, dx, o, kk, z, n, rfl, hp, g, k⟩ := h
    obtain ⟨⟨k0, k1⟩, ⟨z0, z1⟩, n0, n1⟩ := goodNew_iff.mp g
    refine ⟨_, pss_cons (ps_fld (pv 0) (pv 1) rfl) (pss_cons (ps_fld (pv 0) (pv 2) rfl) (pss_cons (ps_fld (pv 0) (pv 3) rfl)
      (pss_cons (ps_fld (pv 0) (pe_op op_rep (pe_lst (pa_cons pe_non pa_nil)) (pv 4)) rfl) (pss_one (ps_fld (pv 0) pe_int rfl))))), ?_⟩
    refine ⟨_, rfl, _, rfl, p, CT, dx, [], rfl, hp, T.clT, T.nNum, by decide, ?_⟩
    refine ⟨_, rfl, _, rfl, p, CT, dx, _, rfl, upd_same, T.clT, T.nKind, (by show 1 < 1000; decide), ?_⟩
    rw [upd_upd]
    refine ⟨_, rfl, _, rfl, p, CT, dx, _, rfl, upd_same, T.clT, T.nSize, (by show 2 < 1000; decide), ?_⟩
    rw [upd_upd]
    refine ⟨(by show 1 ≤ sizeLine; decide), fun q hq => ⟨_, rfl, q, n, _, rfl, rfl, upd_same, by omega, by omega, (by show 1 * n.toNat ≤ 16777216; omega), fun l hl => ?_⟩⟩
    rw [rep_flat]
    have nqp : q ≠ p := fun e => by rw [e, upd_same] at hq; cases hq
    have nlq : l ≠ q := fun e => by rw [e, upd_same] at hl; cases hl
    have nlp : l ≠ p := fun e => by
      rw [e, upd_ne nqp.symm, upd_same] at hl
      cases hl
    refine ⟨_, rfl, p, CT, dx, _, rfl, (by rw [upd_ne nlp.symm, upd_ne nqp.symm]; exact upd_same), T.clT, T.nSlots, (by show 3 < 1000; decide), ?_⟩
    refine ⟨_, rfl, p, CT, dx, _, rfl, upd_same, T.clT, T.nCnt, (by show 4 < 1000; decide), ?_⟩
    rw [upd_upd]
    refine k _ l ?_ ⟨⟨dx, _, upd_same, (by show 5 < 100; decide), ?_, ?_, ?_, ?_, ?_⟩, ?_⟩ fun b u e nb => ?_
    · rw [upd_ne nlq, upd_ne nlp] at hl
      exact hl
    · rfl
    · show some (V.int kk) = some (.int (kk.toNat : Int))
      rw [Int.toNat_of_nonneg k0]
    · show some (V.int z) = some (.int (z.toNat : Int))
      rw [Int.toNat_of_nonneg z0]
    · rfl
    · rfl
    · rw [upd_ne nlp, upd_same]
      show _ = some (HO.lst ((List.replicate n.toNat none).map oV))
      rw [rep_oV]
    · have hqn : H q = none := by
        rw [upd_ne nqp] at hq
        exact hq
      have hln : H l = none := by
        rw [upd_ne nlq, upd_ne nlp] at hl
        exact hl
      rw [upd_ne nb, upd_ne (ne_of_none e hln), upd_ne (ne_of_none e hqn), upd_ne nb]
      exact e
inductive spWithinI (vs : List V) (H : Hp) (Q : VK) : Prop
  | mk : ∀ (a b : Int), (vs = [.int a, .int b]) → (Q (.bl (decide (0 ≤ a) && decide (a ≤ b))) H) → spWithinI vs H Q
def spWithin : Sp := fun vs H Q _ => spWithinI vs H Q
theorem sc_within : FnScope ["number", "most"] ["number", "most"] (defScope s_within) := ⟨rfl, rfl, rfl, by decide +kernel, rfl, by decide +kernel, by decide +kernel⟩
theorem ok_within {f : Addr} {fd : FuncData} (F : Fun K "within" "within" s_within f fd) : FnOk P w K mg base CX0 1 f fd ["number", "most"] spWithin := by
  refine F.ok sc_within (fun vs H Q E h => ?_) (fun cdv A0 outer s H vs Q E hr h => ?_)
  · obtain ⟨a, b, rfl, _⟩ := h
    rfl
  · obtain ⟨a, b, rfl, k⟩ := h
    refine ⟨_, pss_one (ps_ret (pe_chain op_le op_le pe_int (pv 0) (pv 1))), ?_⟩
    refine ⟨_, rfl, 0, a, rfl, rfl, _, rfl, ?_⟩
    by_cases h0 : 0 ≤ a
    · rw [decide_eq_true h0] at k ⊢
      exact iteT ⟨_, rfl, _, _, rfl, rfl, k⟩
    · rw [decide_eq_false h0] at k ⊢
      exact iteF k
inductive spIsRegI (vs : List V) (H : Hp) (Q : VK) : Prop
  | mk : ∀ (a : Int), (vs = [.int a]) → (Q (.bl (isR a)) H) → spIsRegI vs H Q
def spIsReg : Sp := fun vs H Q _ => spIsRegI vs H Q
theorem sc_isreg : FnScope ["number"] ["number"] (defScope s_is_register_number) := ⟨rfl, rfl, rfl, by decide +kernel, rfl, by decide +kernel, by decide +kernel⟩
theorem ok_isreg {f : Addr} {fd : FuncData} (F : Fun K "is_register_number" "is_register_number" s_is_register_number f fd) (gR : GI mg "REGISTERS" 8) (C1 : Callee P w K mg base 1 "within" ["number", "most"] spWithin) : FnOk P w K mg base CX0 2 f fd ["number"] spIsReg := by
  refine F.ok sc_isreg (fun vs H Q E h => ?_) (fun cdv A0 outer s H vs Q E hr h => ?_)
  · obtain ⟨a, rfl, _⟩ := h
    rfl
  · obtain ⟨a, rfl, k⟩ := h
    refine ⟨_, pss_one (ps_ret (pe_cal C1 hr (pa_cons (pv 0) (pa_cons (pe_op op_sub (pe_gi gR) pe_int) pa_nil)))), ?_⟩
    exact ⟨_, rfl, _, _, rfl, rfl, a, _, rfl, k⟩
structure Cst (mg : Str → Option Value) : Prop where
  notRefused : GI mg "NOT_REFUSED" 0
  noReg : GI mg "NO_SUCH_REGISTER" (-3)
  nothing : GI mg "HOLDS_NOTHING" (-4)
  range : GI mg "OUT_OF_RANGE" (-7)
  full : GI mg "FULL" (-9)
  noSlot : GI mg "NO_SUCH_SLOT" (-10)
  mKind : GI mg "MOST_KIND" 99
  mSize : GI mg "MOST_SIZE" 1000000
  mSlots : GI mg "MOST_SLOTS" 5
  mHeld : GI mg "MOST_HELD" 32
  new : GI mg "NEW" 0
  copy : GI mg "COPY" 1
  load : GI mg "LOAD" 2
  store : GI mg "STORE" 3
  clear : GI mg "CLEAR" 4
inductive spNewRefI (CM CT : Addr) (vs : List V) (H : Hp) (Q : VK) : Prop
  | mk : ∀ (m : Addr) (W : Str → Option V) (F : AS) (h : Vasnpe.Heap) (r k z n : Int), (vs = [.ref m, .int r, .int k, .int z, .int n]) → (MachAt CM CT H m W F h) → (Q (.int (refuse h (.new r k z n))) H) → spNewRefI CM CT vs H Q
def spNewRef (CM CT : Addr) : Sp := fun vs H Q _ => spNewRefI CM CT vs H Q
theorem sc_newref : FnScope ["machine", "r", "kind", "size", "n"] ["machine", "r", "kind", "size", "n"] (defScope s_new_refusal) := ⟨rfl, rfl, rfl, by decide +kernel, rfl, by decide +kernel, by decide +kernel⟩
theorem ok_newref {f : Addr} {fd : FuncData} (F : Fun K "new_refusal" "new_refusal" s_new_refusal f fd) (T : Txt K mg CM CT) (Z : Cst mg) (bLen : mg "len" = none) (C1 : Callee P w K mg base 1 "within" ["number", "most"] spWithin) (C2 : Callee P w K mg base 2 "is_register_number" ["number"] spIsReg) :
    FnOk P w K mg base CX0 3 f fd ["machine", "r", "kind", "size", "n"] (spNewRef CM CT) := by
  refine F.ok sc_newref (fun vs H Q E h => ?_) (fun cdv A0 outer s H vs Q E hr h => ?_)
  · obtain ⟨m, W, F, h, r, k, z, n, rfl, _⟩ := h
    rfl
  · obtain ⟨m, W, F, h, r, kk, z, n, rfl, ⟨A, R, rfl⟩, k⟩ := h
    have hr1 : Room 1 _ := hr.mono (by decide)
    refine ⟨_, pss_cons (ps_if (pt_not (pt_val (pe_cal C2 hr (pa_cons (pv 1) pa_nil)))) (pss_one (ps_ret (pe_gi Z.noReg))) pss_nil)
      (pss_cons (ps_if (pt_not (pw_and (pt_val (pe_cal C1 hr1 (pa_cons (pv 2) (pa_cons (pe_gi Z.mKind) pa_nil)))) (pw_and (pt_val (pe_cal C1 hr1 (pa_cons (pv 3) (pa_cons (pe_gi Z.mSize) pa_nil)))) (pw_and1 (pt_val (pe_cal C1 hr1 (pa_cons (pv 4) (pa_cons (pe_gi Z.mSlots) pa_nil))))))).pt) (pss_one (ps_ret (pe_gi Z.range))) pss_nil)
      (pss_cons (ps_if (pt_cmpR op_eq (pe_callB call_lenD (by rfl) bLen PySem.boot_len (pa_cons (pe_fld (pv 0) rfl) pa_nil)) (pe_gi Z.mHeld) (nomark _)) (pss_one (ps_ret (pe_gi Z.full))) pss_nil)
      (pss_one (ps_ret (pe_gi Z.notRefused))))), ?_⟩
    refine ⟨_, rfl, r, rfl, _, rfl, ?_⟩
    have e0 : refuse h (.new r kk z n) = if isR r = false then -3 else if goodNew kk z n = false then -7 else if (Vasnpe.heldIds h).length = 32 then -9 else 0 := rfl
    rw [e0] at k
    cases hR : isR r with
    | false =>
      rw [hR, if_pos rfl] at k
      exact iteT k
    | true =>
      rw [hR, if_neg (by decide)] at k
      refine iteF ?_
      refine ⟨_, rfl, kk, _, rfl, _, rfl, ?_⟩
      have eg : goodNew kk z n = ((decide (0 ≤ kk) && decide (kk ≤ 99)) && ((decide (0 ≤ z) && decide (z ≤ 1000000)) && (decide (0 ≤ n) && decide (n ≤ 5)))) := rfl
      cases hk : (decide (0 ≤ kk) && decide (kk ≤ 99)) with
      | false =>
        rw [eg, hk, Bool.false_and, if_pos rfl] at k
        exact iteF (iteT k)
      | true =>
        refine iteT ⟨_, rfl, z, _, rfl, _, rfl, ?_⟩
        cases hz : (decide (0 ≤ z) && decide (z ≤ 1000000)) with
        | false =>
          rw [eg, hk, hz, Bool.false_and, Bool.and_false, if_pos rfl] at k
          exact iteF (iteT k)
        | true =>
          refine iteT ⟨_, rfl, n, _, rfl, _, rfl, ?_⟩
          cases hn : (decide (0 ≤ n) && decide (n ≤ 5)) with
          | false =>
            rw [eg, hk, hz, hn, Bool.and_false, Bool.and_false, if_pos rfl] at k
            exact iteT k
          | true =>
            rw [eg, hk, hz, hn, Bool.and_true, Bool.and_true, if_neg (by decide)] at k
            refine iteF ?_
            refine Rep.macE (R) fun dx fs hm hlen l1 l2 l3 _ => ?_
            refine HeldAt.exE (R.held) fun kvs hkv _ _ hln _ _ => ?_
            refine ⟨_, rfl, m, CM, dx, fs, _, rfl, hm, T.clM, T.nHeld, l2, A.ha, kvs, rfl, hkv, rfl, _, rfl, ?_⟩
            refine ite2 (fun hc => ?_) (fun hc => ?_)
            · have e : (Vasnpe.heldIds h).length = 32 := by
                have := V.int.inj (of_decide_eq_true hc)
                omega
              rw [if_pos e] at k
              exact k
            · have e : ¬ (Vasnpe.heldIds h).length = 32 := fun q => hc (decide_eq_true (by rw [hln, q]; rfl))
              rw [if_neg e] at k
              exact k
inductive spRegsRefI (K : PySem.W.Frag) (vs : List V) (H : Hp) (Q : VK) : Prop
  | mk : ∀ (a : Addr) (xs : List Int), (vs = [.ref a]) → (SqL K H a (xs.map V.int)) → (Q (.int (if xs.all isR = false then -3 else 0)) H) → spRegsRefI K vs H Q
def spRegsRef (K : PySem.W.Frag) : Sp := fun vs H Q _ => spRegsRefI K vs H Q
theorem sc_regsref : FnScope ["numbers", "number"] ["numbers"] (defScope s_registers_refusal) := ⟨rfl, rfl, rfl, by decide +kernel, rfl, by decide +kernel, by decide +kernel⟩
theorem ok_regsref {f : Addr} {fd : FuncData} (F : Fun K "registers_refusal" "registers_refusal" s_registers_refusal f fd) (Z : Cst mg) (C2 : Callee P w K mg base 2 "is_register_number" ["number"] spIsReg) : FnOk P w K mg base CX0 3 f fd ["numbers"] (spRegsRef K) := by
  refine F.ok sc_regsref (fun vs H Q E h => ?_) (fun cdv A0 outer s H vs Q E hr h => ?_)
  · obtain ⟨a, xs, rfl, _⟩ := h
    rfl
  · obtain ⟨a, xs, rfl, hS, k⟩ := h
    refine ⟨_, pss_cons (ps_for PassesOwn.never rfl (pi_list (pv 0)) (pg_name (i := 1) sc_regsref.nd rfl (Or.inl rfl))
      (pss_one (ps_if (pt_not (pt_val (pe_cal C2 hr (pa_cons (pv 1) pa_nil)))) (pss_one (ps_ret (pe_gi Z.noReg))) pss_nil)))
      (pss_one (ps_ret (pe_gi Z.notRefused))), ?_⟩
    refine ⟨_, rfl, a, rfl, ⟨_, hS⟩, for_list (K := K) (a := a) (xs := xs.map V.int) (fun i σ H' => ∃ v1 : Option V, σ = [some (.ref a), v1] ∧ H' = H ∧ (xs.take i).all isR = true)
      ⟨none, rfl, rfl, rfl⟩ (fun i σ H' _ ⟨_, _, e, _⟩ => by rw [e]; exact hS) ?_ ?_⟩
    · rintro i y σ H' hi ⟨v1, rfl, rfl, hall⟩
      obtain ⟨x, hx, rfl⟩ := map_get hi
      refine ⟨_, rfl, x, rfl, _, rfl, ?_⟩
      cases hR : isR x with
      | false =>
        refine iteT ?_
        have : xs.all isR = false := by
          rw [List.all_eq_false]
          exact ⟨x, List.mem_of_getElem? hx, by rw [hR]; decide⟩
        rw [this, if_pos rfl] at k
        exact k
      | true =>
        refine iteF ⟨_, rfl, rfl, ?_⟩
        rw [take_snoc hx, List.all_append, hall]
        simp [hR]
    · rintro σ H' ⟨v1, rfl, rfl, hall⟩
      rw [List.length_map, List.take_length] at hall
      rw [hall, if_neg (by decide)] at k
      exact k
inductive spSlotsI (CM CT : Addr) (vs : List V) (H : Hp) (Q : VK) : Prop
  | mk : ∀ (m : Addr) (W : Str → Option V) (A : Adr) (h : Vasnpe.Heap) (s : Int) (o : Nat) (c : Vasnpe.Cell), (vs = [.ref m, .int s]) → (Rep CM CT H m W A h) → (Good h []) → (isR s = true) → (Vasnpe.regAt h s.toNat = some o) → (Vasnpe.cellAt h o = some c) → (Q (.ref (A.sA o)) H) → spSlotsI CM CT vs H Q
def spSlots (CM CT : Addr) : Sp := fun vs H Q _ => spSlotsI CM CT vs H Q
theorem sc_slots : FnScope ["machine", "s", "thing"] ["machine", "s"] (defScope s_slots_of) := ⟨rfl, rfl, rfl, by decide +kernel, rfl, by decide +kernel, by decide +kernel⟩
theorem reg_read {h : Vasnpe.Heap} {s : Int} (G : Good h []) (hs : isR s = true) : atI (h.regs.map oV) s = some (oV (Vasnpe.regAt h s.toNat)) := by
  have e : s = (s.toNat : Int) := by have := isR_iff.mp hs; omega
  rw [e]
  refine atI_nat ?_
  rw [List.getElem?_map]
  have := G.regs_get (isR_lt hs)
  rw [← e, this]; rfl
theorem ok_slots {f : Addr} {fd : FuncData} (F : Fun K "slots_of" "slots_of" s_slots_of f fd) (T : Txt K mg CM CT) : FnOk P w K mg base CX0 1 f fd ["machine", "s"] (spSlots CM CT) := by
  refine F.ok sc_slots (fun vs H Q E h => ?_) (fun cdv A0 outer s H vs Q E hr h => ?_)
  · obtain ⟨m, W, A, h, s, o, c, rfl, _⟩ := h
    rfl
  · obtain ⟨m, W, A, h, s, o, c, rfl, R, G, hs, ho, ec, k⟩ := h
    have hu := hu_of hr
    refine ⟨_, pss_cons (ps_set (i := 2) sc_slots.nd rfl (Or.inl rfl) (pe_dget hu (pe_fld (pv 0) rfl) (pe_ix ix_list (pe_fld (pv 0) rfl) (pv 1) (fun _ _ => rfl)) (fun _ _ => rfl))) (pss_one (ps_ret (pe_fld (pv 2) rfl))), ?_⟩
    refine Rep.macE (R) fun dx fs hm hlen l1 l2 l3 _ => ?_
    refine HeldAt.exE (R.held) fun kvs hk _ _ _ ka _ => ?_
    refine ThingAt.exE ((R.thing o c ec)) fun dt ft t1 t2 t3 t4 t5 t6 t7 => ?_
    have hrd := reg_read G hs
    rw [ho] at hrd
    have hg1 : DGet H A.ha (iV o) (some (.ref (A.tA o))) := by
      have := DGet.k (k := nk o) hk
      rw [ka o c ec] at this
      exact this
    refine ⟨_, rfl, m, CM, dx, fs, _, rfl, hm, T.clM, T.nHeld, l2, _, rfl, m, CM, dx, fs, _, rfl, hm, T.clM, T.nReg, l1, _, rfl, A.ra, _, _, _, rfl, rfl, SqL.of R.regs, hrd, A.ha, _, rfl, hg1, ?_⟩
    exact ⟨_, rfl, A.tA o, CT, dt, ft, _, rfl, t1, T.clT, T.nSlots, t6, k⟩
inductive spSlotRefI (CM CT : Addr) (vs : List V) (H : Hp) (Q : VK) : Prop
  | mk : ∀ (m : Addr) (W : Str → Option V) (F : AS) (h : Vasnpe.Heap) (s i r : Int), (vs = [.ref m, .int s, .int i, .int r]) → (MachAt CM CT H m W F h) → (Good h []) → (Q (.int (slotRef h s i r)) H) → spSlotRefI CM CT vs H Q
def spSlotRef (CM CT : Addr) : Sp := fun vs H Q _ => spSlotRefI CM CT vs H Q
theorem sc_slotref : FnScope ["machine", "s", "i", "r"] ["machine", "s", "i", "r"] (defScope s_slot_refusal) := ⟨rfl, rfl, rfl, by decide +kernel, rfl, by decide +kernel, by decide +kernel⟩
theorem ok_slotref {f : Addr} {fd : FuncData} (F : Fun K "slot_refusal" "slot_refusal" s_slot_refusal f fd) (T : Txt K mg CM CT) (Z : Cst mg) (bLen : mg "len" = none) (C1 : Callee P w K mg base 1 "within" ["number", "most"] spWithin) (C2 : Callee P w K mg base 2 "is_register_number" ["number"] spIsReg)
    (C3 : Callee P w K mg base 1 "slots_of" ["machine", "s"] (spSlots CM CT)) : FnOk P w K mg base CX0 3 f fd ["machine", "s", "i", "r"] (spSlotRef CM CT) := by
  refine F.ok sc_slotref (fun vs H Q E h => ?_) (fun cdv A0 outer s H vs Q E hr h => ?_)
  · obtain ⟨m, W, F, h, s, i, r, rfl, _⟩ := h
    rfl
  · obtain ⟨m, W, F, h, s, i, r, rfl, ⟨A, R, rfl⟩, G, k⟩ := h
    have hr1 : Room 1 _ := hr.mono (by decide)
    refine ⟨_, pss_cons (ps_if (pt_not (pw_and (pt_val (pe_cal C2 hr (pa_cons (pv 1) pa_nil))) (pw_and1 (pt_val (pe_cal C2 hr (pa_cons (pv 3) pa_nil))))).pt) (pss_one (ps_ret (pe_gi Z.noReg))) pss_nil)
      (pss_cons (ps_if (pt_cmpR op_isN (pe_ix ix_list (pe_fld (pv 0) rfl) (pv 1) (fun _ _ => rfl)) pe_non (nomark _)) (pss_one (ps_ret (pe_gi Z.nothing))) pss_nil)
      (pss_cons (ps_if (pt_not (pt_val (pe_cal C1 hr1 (pa_cons (pv 2) (pa_cons (pe_op op_sub (pe_callB call_len_seq (by rfl) bLen PySem.boot_len (pa_cons (pe_cal C3 hr1 (pa_cons (pv 0) (pa_cons (pv 1) pa_nil))) pa_nil)) pe_int) pa_nil))))) (pss_one (ps_ret (pe_gi Z.noSlot))) pss_nil)
      (pss_one (ps_ret (pe_gi Z.notRefused))))), ?_⟩
    refine ⟨_, rfl, s, rfl, _, rfl, ?_⟩
    unfold slotRef at k
    cases h1 : isR s with
    | false =>
      rw [h1, Bool.false_and, if_pos rfl] at k
      exact iteF (iteT k)
    | true =>
      refine iteT ⟨_, rfl, r, rfl, _, rfl, ?_⟩
      cases h2 : isR r with
      | false =>
        rw [h2, Bool.and_false, if_pos rfl] at k
        exact iteT k
      | true =>
        rw [h1, h2, Bool.and_true, if_neg (by decide)] at k
        refine iteF ?_
        refine Rep.macE (R) fun dx fs hm hlen l1 l2 l3 _ => ?_
        refine ⟨_, rfl, m, CM, dx, fs, _, rfl, hm, T.clM, T.nReg, l1, _, rfl, A.ra, _, _, _, rfl, rfl, SqL.of R.regs, reg_read G h1, rfl, _, rfl, ?_⟩
        cases ho : Vasnpe.regAt h s.toNat with
        | none =>
          rw [ho] at k
          exact iteT k
        | some o =>
          rw [ho] at k
          refine iteF ?_
          obtain ⟨c, ec⟩ := G.regAt_held ho
          simp only [cslots_of ec] at k
          refine ⟨_, rfl, _, rfl, _, rfl, m, W, A, h, s, o, c, rfl, R, G, h1, ho, ec, A.sA o, _, rfl, .inl (SqL.of (R.thing o c ec).sl), _, _, rfl, rfl, i, _, rfl, _, rfl, ?_⟩
          rw [List.length_map]
          cases hb : (decide (0 ≤ i) && decide (i ≤ (c.slots.length : Int) - 1)) with
          | false =>
            rw [hb, if_pos rfl] at k
            exact iteT k
          | true =>
            rw [hb, if_neg (by decide)] at k
            exact iteF k
end
end Hc
set_option Elab.async false
set_option linter.all false
set_option maxRecDepth 100000
set_option maxHeartbeats 4000000
namespace Hc
open PySem PySem.Spec PyProof.Rows L2
inductive Enc : IOp → Int → List Int → Prop
  | new (r k z n : Int) : Enc (.new r k z n) 0 [r, k, z, n]
  | copy (r s : Int) : Enc (.copy r s) 1 [r, s]
  | load (r s i : Int) : Enc (.load r s i) 2 [r, s, i]
  | store (s i r : Int) : Enc (.store s i r) 3 [s, i, r]
  | clear (r : Int) : Enc (.clear r) 4 [r]
  | collect : Enc .collect 5 []
structure Maker (P : Program) (w : World) (K : PySem.W.Frag) (mg : Str → Option Value) (base : Heap) (k : Nat) (x : Str) (C : Addr) (ps : List Str) (sp : Sp) : Prop where
  ex : ∃ f fd, FnOk P w K mg base CX0 k f fd ps sp ∧ Mk K C f ∧ mg x = some (.ref C) ∧ Binds K fd ps []
section
variable {X : Cx} {k : Nat} {x : Str} {C : Addr} {ps : List Str} {sp : Sp} {p pos : Pos} {e : Expr} {es : List Expr} {t : TA}
theorem pe_mk (M : Maker X.prog X.w X.K X.mg X.base k x C ps sp) (hr : Room (k + 1) X.A) (ha : PA X (e :: es) t) (hg : Gl X x := by rfl) (hdb : (x == ("__debug__" : Str)) = false := by decide)
    (he : starEach (e :: es) X.env = (false, eval e X.env) :: starEach es X.env := by rfl) (hpl : (backTo pos (starEach es X.env)).any (·.1) = false := by rfl) :
    PE X (.Call (.Name x p) (e :: es) [] pos) (tMake C sp [] E0 t) := by
  obtain ⟨f, fd, F, mk, hm, hb⟩ := M
  exact pe_make mk F hr hg hm hb .nil pass0 ha hdb he hpl
theorem pe_mk0 (M : Maker X.prog X.w X.K X.mg X.base k x C ps sp) (hr : Room (k + 1) X.A) (hg : Gl X x := by rfl) (hdb : (x == ("__debug__" : Str)) = false := by decide) :
    PE X (.Call (.Name x p) [] [] pos) (tMake C sp [] E0 tNil) := by
  obtain ⟨f, fd, F, mk, hm, hb⟩ := M
  exact pe_make0 mk F hr hg hm hb .nil pass0 hdb
end
theorem GoneAt.congr {CT : Addr} {H : Hp} {F : AS} {g : Addr} {l : List Nat} {sz sz' : Nat → Nat} (t : GoneAt CT H F g l sz) (e : ∀ x, x ∈ l → sz x = sz' x) : GoneAt CT H F g l sz' := by
  obtain ⟨ps, e1, e2, e3, e4⟩ := t
  refine ⟨ps, e1, e2, e3, fun p hp => ?_⟩
  have : p.2 ∈ l := by rw [← e2]; exact List.mem_map.mpr ⟨p, hp, rfl⟩
  rw [← e p.2 this]
  exact e4 p hp
section
variable {P : Program} {w : World} {K : PySem.W.Frag} {mg : Str → Option Value} {base : Heap} {CM CT : Addr}
inductive spRefusalI (K : PySem.W.Frag) (CM CT : Addr) (vs : List V) (H : Hp) (Q : VK) : Prop
  | mk : ∀ (m a : Addr) (W : Str → Option V) (F : AS) (h : Vasnpe.Heap) (p : IOp) (op : Int) (args : List Int), (vs = [.ref m, .int op, .ref a]) → (Enc p op args) → (SqL K H a (args.map V.int)) → (MachAt CM CT H m W F h) → (Good h []) → (Q (.int (refuse h p)) H) → spRefusalI K CM CT vs H Q
def spRefusal (K : PySem.W.Frag) (CM CT : Addr) : Sp := fun vs H Q _ => spRefusalI K CM CT vs H Q
theorem sc_refusal : FnScope ["machine", "operation", "arguments"] ["machine", "operation", "arguments"] (defScope s_refusal) := ⟨rfl, rfl, rfl, by decide +kernel, rfl, by decide +kernel, by decide +kernel⟩
theorem ok_refusal {f : Addr} {fd : FuncData} (F : Fun K "refusal" "refusal" s_refusal f fd) (Z : Cst mg) (C1 : Callee P w K mg base 3 "new_refusal" ["machine", "r", "kind", "size", "n"] (spNewRef CM CT)) (C2 : Callee P w K mg base 3 "slot_refusal" ["machine", "s", "i", "r"] (spSlotRef CM CT))
    (C3 : Callee P w K mg base 3 "registers_refusal" ["numbers"] (spRegsRef K)) : FnOk P w K mg base CX0 4 f fd ["machine", "operation", "arguments"] (spRefusal K CM CT) := by
  refine F.ok sc_refusal (fun vs H Q E h => ?_) (fun cdv A0 outer s H vs Q E hr h => ?_)
  · obtain ⟨m, a, W, F, h, p, op, args, rfl, _⟩ := h
    rfl
  · obtain ⟨m, a, W, F, h, p, op, args, rfl, en, hS, M, G, k⟩ := h
    refine ⟨_, pss_cons (ps_if (pt_cmpR op_eq (pv 1) (pe_gi Z.new) (nomark _)) (pss_one (ps_ret (pe_cal C1 hr (pa_cons (pv 0) (pa_cons (pe_ix ix_list (pv 2) pe_int (fun _ _ => rfl)) (pa_cons (pe_ix ix_list (pv 2) pe_int (fun _ _ => rfl)) (pa_cons (pe_ix ix_list (pv 2) pe_int (fun _ _ => rfl)) (pa_cons (pe_ix ix_list (pv 2) pe_int (fun _ _ => rfl)) pa_nil)))))))) pss_nil)
      (pss_cons (ps_if (pt_cmpR op_eq (pv 1) (pe_gi Z.load) (nomark _)) (pss_one (ps_ret (pe_cal C2 hr (pa_cons (pv 0) (pa_cons (pe_ix ix_list (pv 2) pe_int (fun _ _ => rfl)) (pa_cons (pe_ix ix_list (pv 2) pe_int (fun _ _ => rfl)) (pa_cons (pe_ix ix_list (pv 2) pe_int (fun _ _ => rfl)) pa_nil))))))) pss_nil)
      (pss_cons (ps_if (pt_cmpR op_eq (pv 1) (pe_gi Z.store) (nomark _)) (pss_one (ps_ret (pe_cal C2 hr (pa_cons (pv 0) (pa_cons (pe_ix ix_list (pv 2) pe_int (fun _ _ => rfl)) (pa_cons (pe_ix ix_list (pv 2) pe_int (fun _ _ => rfl)) (pa_cons (pe_ix ix_list (pv 2) pe_int (fun _ _ => rfl)) pa_nil))))))) pss_nil)
      (pss_one (ps_ret (pe_cal C3 hr (pa_cons (pv 2) pa_nil)))))), ?_⟩
    refine ⟨_, rfl, rfl, _, rfl, ?_⟩
    cases en with
    | new r kk z n =>
      refine iteT ⟨_, rfl, _, rfl, a, _, _, _, rfl, rfl, hS, rfl, _, rfl, a, _, _, _, rfl, rfl, hS, rfl, _, rfl, a, _, _, _, rfl, rfl, hS, rfl, _, rfl, a, _, _, _, rfl, rfl, hS, rfl, ?_⟩
      exact ⟨m, W, F, h, r, kk, z, n, rfl, M, k⟩
    | copy r q =>
      refine iteF ⟨_, rfl, rfl, _, rfl, iteF ⟨_, rfl, rfl, _, rfl, iteF ⟨_, rfl, a, _, rfl, hS, ?_⟩⟩⟩
      have e : [r, q].all isR = (isR r && isR q) := by simp
      rw [e]
      exact k
    | load r q i =>
      refine iteF ⟨_, rfl, rfl, _, rfl, iteT ⟨_, rfl, _, rfl, a, _, _, _, rfl, rfl, hS, rfl, _, rfl, a, _, _, _, rfl, rfl, hS, rfl, _, rfl, a, _, _, _, rfl, rfl, hS, rfl, ?_⟩⟩
      exact ⟨m, W, F, h, q, i, r, rfl, M, G, k⟩
    | store q i r =>
      refine iteF ⟨_, rfl, rfl, _, rfl, iteF ⟨_, rfl, rfl, _, rfl, iteT ⟨_, rfl, _, rfl, a, _, _, _, rfl, rfl, hS, rfl, _, rfl, a, _, _, _, rfl, rfl, hS, rfl, _, rfl, a, _, _, _, rfl, rfl, hS, rfl, ?_⟩⟩⟩
      exact ⟨m, W, F, h, q, i, r, rfl, M, G, k⟩
    | clear r =>
      refine iteF ⟨_, rfl, rfl, _, rfl, iteF ⟨_, rfl, rfl, _, rfl, iteF ⟨_, rfl, a, _, rfl, hS, ?_⟩⟩⟩
      have e : [r].all isR = isR r := by simp
      rw [e]
      exact k
    | collect =>
      exact iteF ⟨_, rfl, rfl, _, rfl, iteF ⟨_, rfl, rfl, _, rfl, iteF ⟨_, rfl, a, _, rfl, hS, k⟩⟩⟩
def WT (W : Str → Option V) (ab : Int × Int) : Prop := W "made" = some (.int ab.1) ∧ W "made_sizes" = some (.int ab.2)
theorem no_made : ¬ isMac "made" := fun z => by
  rcases z with z | z | z
  · exact absurd z (by decide +kernel)
  · exact absurd z (by decide +kernel)
  · exact absurd z (by decide +kernel)
theorem no_mades : ¬ isMac "made_sizes" := fun z => by
  rcases z with z | z | z
  · exact absurd z (by decide +kernel)
  · exact absurd z (by decide +kernel)
  · exact absurd z (by decide +kernel)
theorem Rep.setW {H : Hp} {m : Addr} {W : Str → Option V} {A : Adr} {h : Vasnpe.Heap} (R : Rep CM CT H m W A h) {dx : Addr} {fs : List (Str × V)} {x : Str} {v v0 : V} (hm : H m = some (.ins CM dx fs)) (hC : CM ≠ CT) (hx : ¬ isMac x) (hw : W x = some v0) :
    Rep CM CT (upd H m (.ins CM dx (putF x v fs))) m (fun y => if y = x then some v else W y) A h := by
  refine Rep.macE (R) fun dx' fs' e1 e2 e3 e4 e5 e6 => ?_
  rw [hm] at e1
  cases e1
  have ex : lk fs x = some v0 := (e6 x hx).trans hw
  have k : ∀ b u, b ≠ m → H b = some u → upd H m (.ins CM dx (putF x v fs)) b = some u := fun b u n e => by rw [upd_ne n]; exact e
  have look : ∀ (y : Str) (u : V), isMac y → lk fs y = some u → lk (putF x v fs) y = some u := fun y u hy e => lookup_put (fun z => hx (z ▸ hy)) e
  refine ⟨⟨dx, _, upd_same, by rw [length_put_in ex]; exact e2, look _ _ (.inl rfl) e3, look _ _ (.inr (.inl rfl)) e4, look _ _ (.inr (.inr rfl)) e5, fun y hy => ?_⟩, k _ _ R.m_ne_ra.symm R.regs, k _ _ R.m_ne_sa.symm R.sus, ?_, fun o c e => ?_, R.sep, R.sepS, R.sepT⟩
  · show lk (putF x v fs) y = if y = x then some v else W y
    refine (lookup_putF _ _ _ _).trans ?_
    by_cases q : y = x
    · rw [if_pos q, if_pos q]
    · rw [if_neg q, if_neg q]; exact e6 y hy
  · exact R.held.keep fun u e => k _ _ R.m_ne_ha.symm e
  · exact (R.thing o c e).keep (fun u z => k _ _ (R.t_ne_m hC e) z) (fun u z => k _ _ (R.s_ne_m e) z)
def After (CM CT : Addr) (H : Hp) (m : Addr) (ab : Int × Int) (F : AS) (sz : Nat → Nat) (res : Vasnpe.Heap × List Nat) (Q : VK) : Prop :=
  ∀ (H' : Hp) (F' : AS) (g : Addr) (W' : Str → Option V), WT W' ab → MachAt CM CT H' m W' F' res.1 → Frm F H F' H' → GoneAt CT H' F' g res.2 sz → (∀ b u, H b = some u → ¬ F b → b ≠ g) → Q (.ref g) H'
inductive spDoNewI (CM CT : Addr) (vs : List V) (H : Hp) (Q : VK) : Prop
  | mk : ∀ (m : Addr) (W : Str → Option V) (F : AS) (h : Vasnpe.Heap) (r k z n : Int) (sz : Nat → Nat) (ab : Int × Int), (vs = [.ref m, .int r, .int k, .int z, .int n]) → (MachAt CM CT H m W F h) → (Good h []) → (refuse h (.new r k z n) = 0) → ((∀ o c, Vasnpe.cellAt h o = some c → c.size = sz o)) → (WT W ab) → (After CM CT H m (ab.1 + 1, ab.2 + z) F sz (doI h (.new r k z n)) Q) → spDoNewI CM CT vs H Q
def spDoNew (CM CT : Addr) : Sp := fun vs H Q _ => spDoNewI CM CT vs H Q
theorem sc_donew : FnScope ["machine", "r", "kind", "size", "n", "number"] ["machine", "r", "kind", "size", "n"] (defScope s_do_new) := ⟨rfl, rfl, rfl, by decide +kernel, rfl, by decide +kernel, by decide +kernel⟩
theorem ok_donew {f : Addr} {fd : FuncData} (F : Fun K "do_new" "do_new" s_do_new f fd) (T : Txt K mg CM CT) (C1 : Callee P w K mg base 1 "least_free" ["machine"] (spLeast CM CT)) (C2 : Maker P w K mg base 1 "Thing" CT ["self", "number", "kind", "size", "n"] (spThing CT))
    (C3 : Callee P w K mg base 3 "put" ["machine", "places", "place", "number"] (spPut CM CT)) : FnOk P w K mg base CX0 4 f fd ["machine", "r", "kind", "size", "n"] (spDoNew CM CT) := by
  refine F.ok sc_donew (fun vs H Q E h => ?_) (fun cdv A0 outer s H vs Q E hr h => ?_)
  · obtain ⟨m, W, F, h, r, k, z, n, sz, ab, rfl, _⟩ := h
    rfl
  · obtain ⟨m, W, F, h, r, kk, z, n, sz, ab, rfl, ⟨A, R, rfl⟩, G, hok, hz, hW, k⟩ := h
    have hu := hu_of hr
    have hr1 : Room 1 _ := hr.mono (by decide)
    have hr2 : Room 2 _ := hr.mono (by decide)
    obtain ⟨hR, hg, o, ho⟩ := new_ok hok
    obtain ⟨ho1, ho2, ho3⟩ := free_some.mp ho
    obtain ⟨rn, rfl⟩ : ∃ rn : Nat, r = (rn : Int) := ⟨r.toNat, by have := isR_iff.mp hR; omega⟩
    have hrn : rn < 8 := by have := isR_iff.mp hR; omega
    have ed : doI h (.new rn kk z n) = Vasnpe.giveReg (Vasnpe.setCell h o (some (newCell kk z n))) rn (some o) := by
      show Vasnpe.giveReg (Vasnpe.setCell h ((Vasnpe.freeId h).getD 0) (some (newCell kk z n))) (rn : Int).toNat (some ((Vasnpe.freeId h).getD 0)) = _
      rw [ho]; rfl
    refine ⟨_, pss_cons (ps_set (i := 5) sc_donew.nd rfl (Or.inl rfl) (pe_cal C1 hr1 (pa_cons (pv 0) pa_nil)))
      (pss_cons (ps_dput hu (pe_fld (pv 0) rfl) (pv 5) (pe_mk C2 hr2 (pa_cons (pv 5) (pa_cons (pv 2) (pa_cons (pv 3) (pa_cons (pv 4) pa_nil))))) rfl)
      (pss_cons (ps_fldaug (pv 0) pe_int in_add) (pss_cons (ps_fldaug (pv 0) (pv 3) in_add)
      (pss_one (ps_ret (pe_cal C3 hr (pa_cons (pv 0) (pa_cons (pe_fld (pv 0) rfl) (pa_cons (pv 1) (pa_cons (pv 5) pa_nil)))))))))), ?_⟩
    refine ⟨_, rfl, m, W, _, h, o, rfl, ⟨A, R, rfl⟩, ho, ?_⟩
    refine ⟨_, rfl, _, rfl, _, rfl, _, rfl, ?_⟩
    intro x dx nx ndx nex
    refine ⟨x, dx, o, kk, z, n, rfl, upd_same, hg, fun H2 l hl ht kp => ⟨rfl, ?_⟩⟩
    have s2 : Same H H2 := Same.made nx ndx kp
    have hl0 : H l = none := by
      have nlx : l ≠ x := fun e => by rw [e, upd_same] at hl; cases hl
      have nld : l ≠ dx := fun e => by rw [e, upd_ne nex, upd_same] at hl; cases hl
      rw [upd_ne nlx, upd_ne nld] at hl
      exact hl
    have nt : ¬ Foot A m h x := fun fz => by
      obtain ⟨u, e⟩ := R.there fz
      rw [nx] at e; cases e
    have nl : ¬ Foot A m h l := fun fz => by
      obtain ⟨u, e⟩ := R.there fz
      rw [hl0] at e; cases e
    have R2 := R.same s2
    refine Rep.macE (R2) fun dm fs hm hlen l1 l2 l3 _ => ?_
    refine HeldAt.exE (R2.held) fun kvs hk _ hk32 hkl _ _ => ?_
    have hlt : kvs.length < 32 := by
      have h1 : (Vasnpe.heldIds h).length ≠ 32 := fun e => by rw [free_none.mpr e] at ho; cases ho
      omega
    refine ⟨_, rfl, m, CM, dm, fs, _, rfl, hm, T.clM, T.nHeld, l2, _, rfl, A.ha, _, rfl, DPut.k (k := nk o) hk (Nat.lt_trans hlt (by decide)), ?_⟩
    have R3 := R2.setNew G.clen ho1 ho2 hk ht hlt nt nl
    have f3 : Frm (Foot A m h) H (Foot (A.add o x l) m (Vasnpe.setCell h o (some (newCell kk z n)))) (upd H2 A.ha (.dK (putK kvs (nk o) (.ref x)))) := by
      refine ⟨fun b u e nb => ?_, fun b fb => ?_⟩
      · rw [upd_ne (fun q => nb (as_eq q .ha))]
        exact s2 b u e
      · rcases foot_new G.clen ho1 fb with q | q | q
        · exact .inl q
        · rw [q]; exact .inr nx
        · rw [q]; exact .inr hl0
    generalize upd H2 A.ha (.dK (putK kvs (nk o) (.ref x))) = Ha at R3 f3
    refine Rep.macE (R3) fun dm1 fs1 hm1 hlen1 _ _ _ l61 => ?_
    refine ⟨_, rfl, m, CM, dm1, fs1, _, rfl, hm1, T.clM, T.nMade, (l61 _ no_made).trans hW.1, _, _, rfl, rfl, dm1, fs1, hm1, Nat.lt_trans hlen1 (by decide), ?_⟩
    have R3 := R3.setW hm1 T.ne no_made hW.1 (v := .int (ab.1 + 1))
    have f3 := f3.trans (Frm.write (F := Foot (A.add o x l) m (Vasnpe.setCell h o (some (newCell kk z n)))) (H := Ha) (p := m) (o := .ins CM dm1 (putF "made" (.int (ab.1 + 1)) fs1)) .mm)
    generalize upd Ha m (.ins CM dm1 (putF "made" (.int (ab.1 + 1)) fs1)) = Hb at R3 f3
    have hw2 : (fun y : Str => if y = "made" then some (V.int (ab.1 + 1)) else W y) "made_sizes" = some (.int ab.2) := (if_neg (by decide +kernel)).trans hW.2
    refine Rep.macE (R3) fun dm2 fs2 hm2 hlen2 _ _ _ l62 => ?_
    refine ⟨_, rfl, m, CM, dm2, fs2, _, rfl, hm2, T.clM, T.nMadeS, (l62 _ no_mades).trans hw2, _, rfl, _, _, rfl, rfl, dm2, fs2, hm2, Nat.lt_trans hlen2 (by decide), ?_⟩
    have R3 := R3.setW hm2 T.ne no_mades hw2 (v := .int (ab.2 + z))
    have f3 := f3.trans (Frm.write (F := Foot (A.add o x l) m (Vasnpe.setCell h o (some (newCell kk z n)))) (H := Hb) (p := m) (o := .ins CM dm2 (putF "made_sizes" (.int (ab.2 + z)) fs2)) .mm)
    generalize upd Hb m (.ins CM dm2 (putF "made_sizes" (.int (ab.2 + z)) fs2)) = H3 at R3 f3
    have hWT : WT (fun y : Str => if y = "made_sizes" then some (V.int (ab.2 + z)) else (fun y : Str => if y = "made" then some (V.int (ab.1 + 1)) else W y) y) (ab.1 + 1, ab.2 + z) := ⟨(if_neg (by decide +kernel)).trans (if_pos rfl), if_pos rfl⟩
    refine Rep.macE (R3) fun dm3 fs3 hm3 hlen3 l13 l23 l33 _ => ?_
    have g1 := good_newH G hg ho
    have hc : o < h.cells.length := by rw [G.clen]; exact ho1
    have eo : Vasnpe.cellAt (Vasnpe.setCell h o (some (newCell kk z n))) o = some (newCell kk z n) := by rw [cellAt_set _ hc, if_pos rfl]
    refine ⟨_, rfl, _, rfl, m, CM, dm3, fs3, _, rfl, hm3, T.clM, T.nReg, l13, _, rfl, _, rfl, ?_⟩
    refine ⟨m, A.ra, _, A.add o x l, _, _, some o, _, rn, fun y => if y = o then z.toNat else sz y, rfl, R3, g1, fun t ht => ?_, .inl ⟨rfl, hrn, rfl, rfl⟩, fun y c hy => ?_, fun H4 g R4 f4 g4 fr => ?_⟩
    · obtain rfl := Option.some.inj ht
      exact ⟨_, eo⟩
    · rw [cellAt_set _ hc] at hy
      by_cases ey : y = o
      · rw [if_pos ey] at hy
        obtain rfl := Option.some.inj hy
        show z.toNat = if y = o then z.toNat else sz y
        rw [if_pos ey]
      · rw [if_neg ey] at hy
        show c.size = if y = o then z.toNat else sz y
        rw [if_neg ey]
        exact hz y c hy
    · have er : Vasnpe.dropOld (Vasnpe.setReg (Vasnpe.moreOf (Vasnpe.setCell h o (some (newCell kk z n))) (some o)) rn (some o)) (Vasnpe.regAt (Vasnpe.setCell h o (some (newCell kk z n))) rn) = doI h (.new rn kk z n) := by rw [ed]; rfl
      rw [er] at R4 f4 g4
      refine k H4 _ g _ hWT ⟨_, R4, rfl⟩ (f3.trans f4) (g4.congr fun y hy => ?_) (fun b u e nb => fr b u (f3.keep b u e nb) (f3.out e nb))
      by_cases ey : y = o
      · obtain ⟨d, e1, _⟩ := new_there G hg ho hrn
        have e2 : Vasnpe.cellAt (doI h (.new rn kk z n)).1 y = none := by
          rw [ed, give_eq] at hy ⊢
          exact less_dead _ (fun q hq => by simp at hq) y hy
        rw [ey, ed, e1] at e2
        cases e2
      · show (if y = o then z.toNat else sz y) = sz y
        rw [if_neg ey]
end
end Hc
set_option Elab.async false
set_option linter.all false
set_option maxRecDepth 100000
set_option maxHeartbeats 4000000
namespace Hc
open PySem PySem.Spec PyProof.Rows L2
theorem int_nat {i : Int} (h : 0 ≤ i) : ∃ n : Nat, i = (n : Int) := ⟨i.toNat, by omega⟩
def mkT : IOp → Int × Int → Int × Int
  | .new _ _ z _, ab => (ab.1 + 1, ab.2 + z)
  | _, ab => ab
section
variable {P : Program} {w : World} {K : PySem.W.Frag} {mg : Str → Option Value} {base : Heap} {CM CT : Addr}
inductive spPerformI (K : PySem.W.Frag) (CM CT : Addr) (vs : List V) (H : Hp) (Q : VK) : Prop
  | mk : ∀ (m a : Addr) (W : Str → Option V) (F : AS) (h : Vasnpe.Heap) (p : IOp) (op : Int) (args : List Int) (sz : Nat → Nat) (ab : Int × Int), (vs = [.ref m, .int op, .ref a]) → (Enc p op args) → (SqL K H a (args.map V.int)) → (MachAt CM CT H m W F h) → (Good h []) → (refuse h p = 0) → ((∀ o c, Vasnpe.cellAt h o = some c → c.size = sz o)) → (WT W ab) → (After CM CT H m (mkT p ab) F sz (doI h p) Q) → spPerformI K CM CT vs H Q
def spPerform (K : PySem.W.Frag) (CM CT : Addr) : Sp := fun vs H Q _ => spPerformI K CM CT vs H Q
theorem sc_perform : FnScope ["machine", "operation", "arguments", "registers"] ["machine", "operation", "arguments"] (defScope s_perform) := ⟨rfl, rfl, rfl, by decide +kernel, rfl, by decide +kernel, by decide +kernel⟩
theorem ok_perform {f : Addr} {fd : FuncData} (F : Fun K "perform" "perform" s_perform f fd) (T : Txt K mg CM CT) (Z : Cst mg) (C1 : Callee P w K mg base 4 "do_new" ["machine", "r", "kind", "size", "n"] (spDoNew CM CT)) (C2 : Callee P w K mg base 3 "put" ["machine", "places", "place", "number"] (spPut CM CT))
    (C3 : Callee P w K mg base 1 "slots_of" ["machine", "s"] (spSlots CM CT)) (C4 : Callee P w K mg base 5 "collect" ["machine"] (spCollect CM CT)) : FnOk P w K mg base CX0 6 f fd ["machine", "operation", "arguments"] (spPerform K CM CT) := by
  refine F.ok sc_perform (fun vs H Q E h => ?_) (fun cdv A0 outer s H vs Q E hr h => ?_)
  · obtain ⟨m, a, W, F, h, p, op, args, sz, ab, rfl, _⟩ := h
    rfl
  · obtain ⟨m, a, W, F, h, p, op, args, sz, ab, rfl, en, hS, ⟨A, R, rfl⟩, G, hok, hz, hW, k⟩ := h
    have hr1 : Room 1 _ := hr.mono (by decide)
    have hr3 : Room 3 _ := hr.mono (by decide)
    have hr4 : Room 4 _ := hr.mono (by decide)
    refine ⟨_, pss_cons (ps_set (i := 3) sc_perform.nd rfl (Or.inl rfl) (pe_fld (pv 0) rfl))
      (pss_cons (ps_if (pt_cmpR op_eq (pv 1) (pe_gi Z.new) (nomark _)) (pss_one (ps_ret (pe_cal C1 hr4 (pa_cons (pv 0) (pa_cons (pe_ix ix_list (pv 2) pe_int (fun _ _ => rfl)) (pa_cons (pe_ix ix_list (pv 2) pe_int (fun _ _ => rfl)) (pa_cons (pe_ix ix_list (pv 2) pe_int (fun _ _ => rfl)) (pa_cons (pe_ix ix_list (pv 2) pe_int (fun _ _ => rfl)) pa_nil)))))))) pss_nil)
      (pss_cons (ps_if (pt_cmpR op_eq (pv 1) (pe_gi Z.copy) (nomark _)) (pss_one (ps_ret (pe_cal C2 hr3 (pa_cons (pv 0) (pa_cons (pv 3) (pa_cons (pe_ix ix_list (pv 2) pe_int (fun _ _ => rfl)) (pa_cons (pe_ix ix_list (pv 3) (pe_ix ix_list (pv 2) pe_int (fun _ _ => rfl)) (fun _ _ => rfl)) pa_nil))))))) pss_nil)
      (pss_cons (ps_if (pt_cmpR op_eq (pv 1) (pe_gi Z.load) (nomark _)) (pss_one (ps_ret (pe_cal C2 hr3 (pa_cons (pv 0) (pa_cons (pv 3) (pa_cons (pe_ix ix_list (pv 2) pe_int (fun _ _ => rfl)) (pa_cons (pe_ix ix_list (pe_cal C3 hr1 (pa_cons (pv 0) (pa_cons (pe_ix ix_list (pv 2) pe_int (fun _ _ => rfl)) pa_nil))) (pe_ix ix_list (pv 2) pe_int (fun _ _ => rfl)) (fun _ _ => rfl)) pa_nil))))))) pss_nil)
      (pss_cons (ps_if (pt_cmpR op_eq (pv 1) (pe_gi Z.store) (nomark _)) (pss_one (ps_ret (pe_cal C2 hr3 (pa_cons (pv 0) (pa_cons (pe_cal C3 hr1 (pa_cons (pv 0) (pa_cons (pe_ix ix_list (pv 2) pe_int (fun _ _ => rfl)) pa_nil))) (pa_cons (pe_ix ix_list (pv 2) pe_int (fun _ _ => rfl)) (pa_cons (pe_ix ix_list (pv 3) (pe_ix ix_list (pv 2) pe_int (fun _ _ => rfl)) (fun _ _ => rfl)) pa_nil))))))) pss_nil)
      (pss_cons (ps_if (pt_cmpR op_eq (pv 1) (pe_gi Z.clear) (nomark _)) (pss_one (ps_ret (pe_cal C2 hr3 (pa_cons (pv 0) (pa_cons (pv 3) (pa_cons (pe_ix ix_list (pv 2) pe_int (fun _ _ => rfl)) (pa_cons pe_non pa_nil))))))) pss_nil)
      (pss_one (ps_ret (pe_cal C4 hr (pa_cons (pv 0) pa_nil))))))))), ?_⟩
    refine Rep.macE (R) fun dx fs hm hlen l1 l2 l3 _ => ?_
    refine ⟨_, rfl, m, CM, dx, fs, _, rfl, hm, T.clM, T.nReg, l1, ?_⟩
    refine ⟨_, rfl, rfl, _, rfl, ?_⟩
    cases en with
    | new r kk z n =>
      refine iteT ⟨_, rfl, _, rfl, a, _, _, _, rfl, rfl, hS, rfl, _, rfl, a, _, _, _, rfl, rfl, hS, rfl, _, rfl, a, _, _, _, rfl, rfl, hS, rfl, _, rfl, a, _, _, _, rfl, rfl, hS, rfl, ?_⟩
      exact ⟨m, W, _, h, r, kk, z, n, sz, ab, rfl, ⟨A, R, rfl⟩, G, hok, hz, hW, k⟩
    | copy r q =>
      refine iteF ⟨_, rfl, rfl, _, rfl, iteT ?_⟩
      have h0 : refuse h (.copy r q) = if (isR r && isR q) = false then -3 else 0 := rfl
      rw [h0] at hok
      have hb : isR r = true ∧ isR q = true := by
        cases e : (isR r && isR q) with
        | false => rw [e, if_pos rfl] at hok; exact absurd hok (by decide)
        | true => simpa using e
      obtain ⟨rn, rfl⟩ := int_nat (isR_iff.mp hb.1).1
      have hrd := reg_read G hb.2
      refine ⟨_, rfl, _, rfl, _, rfl, a, _, _, _, rfl, rfl, hS, rfl, _, rfl, _, rfl, a, _, _, _, rfl, rfl, hS, rfl, A.ra, _, _, _, rfl, rfl, SqL.of R.regs, hrd, ?_⟩
      exact ⟨m, A.ra, W, A, h, _, Vasnpe.regAt h q.toNat, _, rn, sz, rfl, R, G, fun t ht => G.regAt_held ht, .inl ⟨rfl, by have := isR_iff.mp hb.1; omega, rfl, rfl⟩, hz, fun H4 g R4 f4 g4 fr => k H4 _ g W hW ⟨A, R4, rfl⟩ f4 g4 fr⟩
    | load r q i =>
      refine iteF ⟨_, rfl, rfl, _, rfl, iteF ⟨_, rfl, rfl, _, rfl, iteT ?_⟩⟩
      obtain ⟨o, c, old, hq, hr', ho, ec, hi, i0, ilt, hin⟩ := slotRef_ok G (show slotRef h q i r = 0 from hok)
      obtain ⟨rn, rfl⟩ := int_nat (isR_iff.mp hr').1
      obtain ⟨i', rfl⟩ := int_nat i0
      refine ⟨_, rfl, _, rfl, _, rfl, a, _, _, _, rfl, rfl, hS, rfl, _, rfl, _, rfl, a, _, _, _, rfl, rfl, hS, rfl, m, W, A, h, q, o, c, rfl, R, G, hq, ho, ec, _, rfl, a, _, _, _, rfl, rfl, hS, rfl, A.sA o, _, _, oV old, rfl, rfl, SqL.of (R.thing o c ec).sl, atI_nat (by rw [List.getElem?_map]; rw [show (i' : Int).toNat = i' from rfl] at hi; rw [hi]; rfl), ?_⟩
      have ek : doI h (.load rn q i') = Vasnpe.giveReg h rn old := by
        show Vasnpe.giveReg h (rn : Int).toNat (slotIn h q i') = _
        rw [hin]; rfl
      refine ⟨m, A.ra, W, A, h, _, old, _, rn, sz, rfl, R, G, fun t ht => slotIn_held G t (by rw [hin]; exact ht), .inl ⟨rfl, by have := isR_iff.mp hr'; omega, rfl, rfl⟩, hz, fun H4 g R4 f4 g4 fr => ?_⟩
      unfold After at k
      rw [ek] at k
      exact k H4 _ g W hW ⟨A, R4, rfl⟩ f4 g4 fr
    | store q i r =>
      refine iteF ⟨_, rfl, rfl, _, rfl, iteF ⟨_, rfl, rfl, _, rfl, iteF ⟨_, rfl, rfl, _, rfl, iteT ?_⟩⟩⟩
      obtain ⟨o, c, old, hq, hr', ho, ec, hi, i0, ilt, hin⟩ := slotRef_ok G (show slotRef h q i r = 0 from hok)
      obtain ⟨i', rfl⟩ := int_nat i0
      have hrd := reg_read G hr'
      refine ⟨_, rfl, _, rfl, _, rfl, a, _, _, _, rfl, rfl, hS, rfl, m, W, A, h, q, o, c, rfl, R, G, hq, ho, ec, _, rfl, a, _, _, _, rfl, rfl, hS, rfl, _, rfl, _, rfl, a, _, _, _, rfl, rfl, hS, rfl, A.ra, _, _, _, rfl, rfl, SqL.of R.regs, hrd, ?_⟩
      have ek : doI h (.store q i' r) = Vasnpe.dropOld (storeHeap h o i' (Vasnpe.regAt h r.toNat)) old := by
        show Vasnpe.dropOld (storeHeap h ((Vasnpe.regAt h q.toNat).getD 0) (i' : Int).toNat (Vasnpe.regAt h r.toNat)) (slotIn h q i') = _
        rw [hin, ho]; rfl
      refine ⟨m, A.sA o, W, A, h, _, Vasnpe.regAt h r.toNat, old, i', sz, rfl, R, G, fun t ht => G.regAt_held ht, .inr ⟨o, c, rfl, ec, hi, rfl⟩, hz, fun H4 g R4 f4 g4 fr => ?_⟩
      unfold After at k
      rw [ek] at k
      exact k H4 _ g W hW ⟨A, R4, rfl⟩ f4 g4 fr
    | clear r =>
      refine iteF ⟨_, rfl, rfl, _, rfl, iteF ⟨_, rfl, rfl, _, rfl, iteF ⟨_, rfl, rfl, _, rfl, iteF ⟨_, rfl, rfl, _, rfl, iteT ?_⟩⟩⟩⟩
      have h0 : refuse h (.clear r) = if isR r = false then -3 else 0 := rfl
      rw [h0] at hok
      have hb : isR r = true := by
        cases e : isR r with
        | false => rw [e, if_pos rfl] at hok; exact absurd hok (by decide)
        | true => rfl
      obtain ⟨rn, rfl⟩ := int_nat (isR_iff.mp hb).1
      refine ⟨_, rfl, _, rfl, _, rfl, a, _, _, _, rfl, rfl, hS, rfl, ?_⟩
      exact ⟨m, A.ra, W, A, h, _, none, _, rn, sz, rfl, R, G, fun t ht => (by cases ht), .inl ⟨rfl, by have := isR_iff.mp hb; omega, rfl, rfl⟩, hz, fun H4 g R4 f4 g4 fr => k H4 _ g W hW ⟨A, R4, rfl⟩ f4 g4 fr⟩
    | collect =>
      refine iteF ⟨_, rfl, rfl, _, rfl, iteF ⟨_, rfl, rfl, _, rfl, iteF ⟨_, rfl, rfl, _, rfl, iteF ⟨_, rfl, rfl, _, rfl, iteF ?_⟩⟩⟩⟩
      exact ⟨_, rfl, m, W, _, h, sz, rfl, ⟨A, R, rfl⟩, G, hz, fun H4 F4 g M4 f4 g4 fr => k H4 F4 g W hW M4 f4 g4 fr⟩
end
end Hc
set_option Elab.async false
set_option linter.all false
set_option maxRecDepth 100000
set_option maxHeartbeats 4000000
namespace Hc
open PySem PySem.Spec PyProof.Rows L2
def dInts : List DictEntry → Option (List (Int × Int))
  | [] => some []
  | ⟨h, .int k _, .int v _⟩ :: r => if h = hashInt k then (dInts r).map fun l => (k, v) :: l else none
  | _ => none
def tabV (l : List (Int × Int)) : List (Key × V) := l.map fun p => (Sum.inl p.1, V.int p.2)
theorem dInts_pairs {P : Program} {w : World} : ∀ {es : List DictEntry} {l : List (Int × Int)}, dInts es = some l → (∀ e, e ∈ es → ∃ k, (mixKind P w).is k e.key = true ∧ e.hash = (mixKind P w).hash k) ∧ ∃ vs, KV (tabV l) vs ∧ Pairs (mixKind P w) es vs ∧ vs.map (·.1) = l.map fun p => (Sum.inl p.1 : Key)
  | [], l, h => by
    cases h
    exact ⟨fun e he => by simp at he, [], .nil, .nil, rfl⟩
  | ⟨hh, key, val⟩ :: r, l, h => by
    cases key with
    | int k t =>
      cases val with
      | int v u =>
        simp only [dInts] at h
        by_cases e : hh = hashInt k
        · rw [if_pos e] at h
          cases q : dInts r with
          | none => rw [q] at h; cases h
          | some l' =>
            rw [q] at h
            cases h
            obtain ⟨h1, vs, h2, h3, h4⟩ := dInts_pairs (P := P) (w := w) q
            refine ⟨fun x hx => ?_, (Sum.inl k, .int v u) :: vs, .cons ⟨rfl, u, rfl⟩ h2, .cons (mixKind_int P w k t) rfl h3, by rw [List.map_cons, List.map_cons, h4]⟩
            rcases List.mem_cons.mp hx with rfl | hx
            · exact ⟨Sum.inl k, mixKind_int P w k t, e⟩
            · exact h1 x hx
        · rw [if_neg e] at h; cases h
      | _ => cases h
    | _ => cases h
theorem mod_dict {P : Program} {w : World} {K : PySem.W.Frag} {a : Addr} {es : Array DictEntry} {ep : Nat} {l : List (Int × Int)} (lk : K.lookup a = some ⟨.type "dict", none, .dict es ep, #[]⟩) (hs : (a == sysModules) = false) (d : dInts es.toList = some l) (nd : (l.map (·.1)).Nodup) : ModD P w K a (tabV l) := by
  refine ⟨hs, fun h X => ?_⟩
  obtain ⟨h1, vs, h2, h3, h4⟩ := dInts_pairs (P := P) (w := w) d
  refine ⟨vs, h2, _, es, ep, X a _ lk, ⟨rfl, rfl, rfl⟩, rfl, fun e he => h1 e (by simpa using he), h3, ?_⟩
  rw [h4]
  have : (l.map fun p => (Sum.inl p.1 : Key)) = (l.map (·.1)).map Sum.inl := by rw [List.map_map]; rfl
  rw [this]
  exact List.Pairwise.map _ (fun a b hab z => hab (Sum.inl.inj z)) nd
end Hc
set_option Elab.async false
set_option linter.all false
set_option maxRecDepth 100000
set_option maxHeartbeats 4000000
namespace Hc
open PySem PySem.Spec PyProof.Rows L2
abbrev opTab : List (Int × Int) := [(0, 4), (1, 2), (2, 3), (3, 3), (4, 1), (5, 0)]
theorem tab_in {p : Nat} (h : p ≤ 5) : valV (tabV opTab) (nk p) = some (.int (ar p : Int)) := by
  match p, h with
  | 0, _ => rfl
  | 1, _ => rfl
  | 2, _ => rfl
  | 3, _ => rfl
  | 4, _ => rfl
  | 5, _ => rfl
theorem tab_out {p : Nat} (h : ¬ p ≤ 5) : valV (tabV opTab) (nk p) = none := by
  have e : ∀ q : Nat, q ≤ 5 → ¬ (Sum.inl (q : Int) : Key) = nk p := fun q hq z => h (by rw [← nk_inj (a := q) z]; exact hq)
  have g : tabV opTab = [(nk 0, .int 4), (nk 1, .int 2), (nk 2, .int 3), (nk 3, .int 3), (nk 4, .int 1), (nk 5, .int 0)] := rfl
  rw [g, valV_neg (e 0 (by decide)), valV_neg (e 1 (by decide)), valV_neg (e 2 (by decide)), valV_neg (e 3 (by decide)), valV_neg (e 4 (by decide)), valV_neg (e 5 (by decide))]
  rfl
theorem cut_nat {xs : List V} {a b : Nat} (h1 : a ≤ b) (h2 : b ≤ xs.length) : cutV xs (some (a : Int)) (some (b : Int)) = (xs.drop a).take (b - a) := by
  unfold cutV
  rw [HT.sIx_nat, HT.sIx_nat, show min a xs.length = a by omega, show min b xs.length = b by omega]
theorem nats_of {xs : List Int} (h : xs.any (fun n => decide (n < 0)) = false) : xs = (Vasnpe.toNats xs).map fun (n : Nat) => (n : Int) := by
  unfold Vasnpe.toNats
  rw [List.map_map]
  symm
  refine (List.map_congr_left fun x hx => ?_).trans (List.map_id xs)
  have := List.any_eq_false.mp h x hx
  have h0 : 0 ≤ x := by simpa using this
  show ((x.toNat : Nat) : Int) = x
  omega
theorem enc_raw {p : Nat} {args : List Nat} {op : Vasnpe.Op} (r : RawOp p args op) : Enc (toI op) (p : Int) (args.map fun (n : Nat) => (n : Int)) := by
  cases r with
  | new r k z n => exact Enc.new r k z n
  | copy r s => exact Enc.copy r s
  | load r s i => exact Enc.load r s i
  | store s i r => exact Enc.store s i r
  | clear r => exact Enc.clear r
  | collect => exact Enc.collect
def OpAt (Z H : Hp) (g t : Addr) (op : Vasnpe.Op) : Prop := ∃ (p : Int) (args : List Int) (b : Addr), H t = some (.tup [.int p, .ref b]) ∧ H b = some (.lst (args.map V.int)) ∧ (b ≠ g ∧ Z b = none ∧ Z t = none) ∧ Enc (toI op) p args
def OpsAt (Z H : Hp) (g : Addr) (ops : List Vasnpe.Op) : Prop := ∃ ts : List Addr, H g = some (.lst (ts.map V.ref)) ∧ ts.length = ops.length ∧ ∀ (i : Nat) t op, ts[i]? = some t → ops[i]? = some op → OpAt Z H g t op
theorem OpsAt.snoc {Z H : Hp} {g t : Addr} {ops : List Vasnpe.Op} {op : Vasnpe.Op} (o : OpsAt Z H g ops) (n : OpAt Z H g t op) : ∃ xs, H g = some (.lst xs) ∧ xs.length = ops.length ∧ OpsAt Z (upd H g (.lst (xs ++ [.ref t]))) g (ops ++ [op]) := by
  obtain ⟨ts, e1, e2, e3⟩ := o
  refine ⟨_, e1, by rw [List.length_map]; exact e2, ts ++ [t], by rw [upd_same, List.map_append]; rfl, by simp [e2], fun i t' op' h1 h2 => ?_⟩
  have q : OpAt Z H g t' op' := by
    by_cases hi : i < ts.length
    · rw [List.getElem?_append_left hi] at h1
      rw [List.getElem?_append_left (by omega)] at h2
      exact e3 i t' op' h1 h2
    · rw [List.getElem?_append_right (by omega)] at h1
      rw [List.getElem?_append_right (by omega)] at h2
      have hi0 : i - ts.length = 0 := by
        have := (List.getElem?_eq_some_iff.mp h1).1
        simp at this
        exact this
      rw [hi0] at h1
      rw [show i - ops.length = 0 by omega] at h2
      have a1 : t = t' := by simpa using h1
      have a2 : op = op' := by simpa using h2
      rw [← a1, ← a2]
      exact n
  obtain ⟨p, args, b, h3, h4, h5, h6⟩ := q
  exact ⟨p, args, b, by rw [upd_ne (ne_of h3 e1 (by intro z; cases z))]; exact h3, by rw [upd_ne h5.1]; exact h4, h5, h6⟩
theorem OpsAt.but {Z H H' : Hp} {g : Addr} {ops : List Vasnpe.Op} (o : OpsAt Z H g ops) (s : Same H H') : OpsAt Z H' g ops := by
  obtain ⟨ts, e1, e2, e3⟩ := o
  refine ⟨ts, s _ _ e1, e2, fun i t op h1 h2 => ?_⟩
  obtain ⟨p, args, b, h3, h4, h5, h6⟩ := e3 i t op h1 h2
  exact ⟨p, args, b, s _ _ h3, s _ _ h4, h5, h6⟩
def readI (xs : List Int) : Option (List Vasnpe.Op) := if xs.any (fun n => decide (n < 0)) then none else Vasnpe.readOps (xs.length + 1) (Vasnpe.toNats xs)
section
variable {P : Program} {w : World} {K : PySem.W.Frag} {mg : Str → Option Value} {base : Heap} {CM CT : Addr}
inductive spToldI (K : PySem.W.Frag) (vs : List V) (H : Hp) (Q : VK) : Prop
  | mk : ∀ (a : Addr) (xs : List Int), (vs = [.ref a]) → (SqL K H a (xs.map V.int)) → (xs.length ≤ 16000) → ((readI xs = none → ∀ H' : Hp, Same H H' → Q .non H')) → (∀ ops, readI xs = some ops → ∀ (H' : Hp) (g : Addr), H g = none → OpsAt H H' g ops → ops.length ≤ 16000 → Same H H' → Q (.ref g) H') → spToldI K vs H Q
def spTold (K : PySem.W.Frag) : Sp := fun vs H Q _ => spToldI K vs H Q
theorem sc_told : FnScope ["numbers", "number", "operations", "place", "operation", "end"] ["numbers"] (defScope s_told_operations) := ⟨rfl, rfl, rfl, by decide +kernel, rfl, by decide +kernel, by decide +kernel⟩
theorem ok_told {f dT : Addr} {fd : FuncData} (F : Fun K "told_operations" "told_operations" s_told_operations f fd) (bAny : mg "any" = none) (bLen : mg "len" = none) (gT : mg "OPERATION_ARGUMENTS" = some (.ref dT)) (hT : ModD P w K dT (tabV opTab)) : FnOk P w K mg base CX0 1 f fd ["numbers"] (spTold K) := by
  refine F.ok sc_told (fun vs H Q E h => ?_) (fun cdv A0 outer s H vs Q E hr h => ?_)
  · obtain ⟨a, xs, rfl, _⟩ := h
    rfl
  · obtain ⟨a, xs, rfl, hS, hl, k0, k1⟩ := h
    refine ⟨_, pss_cons (ps_if (pt_val (pe_callB (cr_any rfl) (by rfl) bAny (by rfl) (pa_cons (pe_lc (own := [("number", 1)]) rfl sc_told.nd (pi_list (pv 0)) (blkOk_by (N := ["numbers", "number", "operations", "place", "operation", "end"]) (sc := defScope s_told_operations) (by decide +kernel)) (fun s H C cl fp => pg_name (i := 1) sc_told.nd rfl (Or.inl rfl)) (fun s H C cl fp => pts_nil) (fun s H C cl fp => pe_cmpR op_lt (pv 1) pe_int (nomark _))) pa_nil))) (pss_one (ps_ret pe_non)) pss_nil)
      (pss_cons (ps_set (i := 2) sc_told.nd rfl (Or.inl rfl) (pe_lst pa_nil))
      (pss_cons (ps_set (i := 3) sc_told.nd rfl (Or.inl rfl) pe_int)
      (pss_cons (ps_while PassesOwn.never (pt_cmpR op_lt (pv 3) (pe_callB call_len_seq (by rfl) bLen PySem.boot_len (pa_cons (pv 0) pa_nil)) (nomark _))
        (pss_cons (ps_set (i := 4) sc_told.nd rfl (Or.inl rfl) (pe_ix ix_list (pv 0) (pv 3) (fun _ _ => rfl)))
        (pss_cons (ps_if (pt_cmp (pc_mnotin hT (pv 4) (pe_glob (v := .ref dT) rfl gT rfl))) (pss_one (ps_ret pe_non)) pss_nil)
        (pss_cons (ps_set (i := 5) sc_told.nd rfl (Or.inl rfl) (pe_op op_add (pe_op op_add (pv 3) pe_int) (pe_mget hT (pe_glob (v := .ref dT) rfl gT rfl) (pv 4) (fun _ _ => rfl))))
        (pss_cons (ps_if (pt_cmpR op_gt (pv 5) (pe_callB call_len_seq (by rfl) bLen PySem.boot_len (pa_cons (pv 0) pa_nil)) (nomark _)) (pss_one (ps_ret pe_non)) pss_nil)
        (pss_cons (ps_expr (pe_bm PySem.F.plainAttrs_list PySem.F.slot_list_append PySem.F.type_list_append mt_append (pv 2) (pa_cons (pe_tup (pa_cons (pv 4) (pa_cons (pe_slice sl_list (pv 0) (po_some (pe_op op_add (pv 3) pe_int)) (po_some (pv 5))) pa_nil))) pa_nil)))
        (pss_one (ps_set (i := 3) sc_told.nd rfl (Or.inl rfl) (pv 5)))))))))
      (pss_one (ps_ret (pv 2)))))), ?_⟩
    refine ⟨_, rfl, a, rfl, ⟨_, hS⟩, fun D hD => ?_⟩
    refine lc_list (K := K) (a := a) (xs := xs.map V.int) (fun i H' => H' D = some (.lst (((xs.take i).map fun n => decide (n < 0)).map V.bl)) ∧ Same H H') ⟨upd_same, same_new hD⟩ (fun i H' _ h => h.2.seq hS) ?_ ?_
    · rintro i x H' hi ⟨h1, h2⟩
      obtain ⟨y, hy, rfl⟩ := map_get hi
      refine ⟨rfl, ?_⟩
      unfold tYes
      refine iteT ?_
      refine ⟨_, rfl, _, _, rfl, rfl, _, h1, ?_, ?_, fun b u e => by rw [upd_ne (ne_of_none e hD)]; exact h2 b u e⟩
      · rw [List.length_map, List.length_map, List.length_take]
        exact Nat.lt_of_le_of_lt (show _ ≤ 16000 by omega) (by decide)
      · rw [upd_same, take_snoc hy, List.map_append, List.map_append]; rfl
    · rintro H1 ⟨hD1, s1⟩
      rw [List.length_map, List.take_length] at hD1
      refine ⟨D, _, rfl, SqL.of hD1, _, rfl, ?_⟩
      have ea : ((xs.map fun n => decide (n < 0)).any id) = xs.any fun n => decide (n < 0) := by rw [List.any_map]; rfl
      rw [ea]
      cases hneg : xs.any (fun n => decide (n < 0)) with
      | true =>
        refine iteT ?_
        exact k0 (by unfold readI; rw [hneg]; rfl) H1 s1
      | false =>
        refine iteF ?_
        have hread : readI xs = Vasnpe.readOps (xs.length + 1) (Vasnpe.toNats xs) := by unfold readI; rw [hneg]; rfl
        have hxs := nats_of hneg
        generalize hns : Vasnpe.toNats xs = ns at hxs hread
        have hlen : ns.length = xs.length := by rw [hxs, List.length_map]
        have hS' : SqL K H a (ns.map iV) := by
          have : ns.map iV = xs.map V.int := by
            conv => rhs; rw [hxs]
            rw [List.map_map]; rfl
          rw [this]; exact hS
        refine ⟨Nat.zero_le _, fun g hg => ?_⟩
        have s2 : Same H1 (upd H1 g (.lst [])) := same_new hg
        have s02 := s1.trans s2
        have hg0 : H g = none := s1.free hg
        refine ⟨fun j σ H' => ∃ (place : Nat) (acc : List Vasnpe.Op) (v4 v5 : Option V) (f : Nat), σ = [some (.ref a), none, some (.ref g), some (iV place), v4, v5] ∧ OpsAt H H' g acc ∧ acc.length ≤ place ∧ Same H H' ∧ Vasnpe.readOps (xs.length + 1) ns = (Vasnpe.readOps f (ns.drop place)).map (acc ++ ·) ∧ (ns.drop place).length < f ∧ place ≤ ns.length ∧ j + place = ns.length,
          ⟨ns.length, 0, [], none, none, xs.length + 1, rfl, ⟨[], upd_same, rfl, fun i t op h1 => by simp at h1⟩, Nat.zero_le _, s02, by simp, by simp; omega, Nat.zero_le _, rfl⟩, ?_⟩
        rintro j σ H' ⟨place, acc, v4, v5, f, rfl, ho, hacc, s3, hrd, hf, hpl, hj⟩
        have hS3 := s3.seq hS'
        refine ⟨_, rfl, _, rfl, a, _, rfl, .inl hS3, _, _, rfl, rfl, _, rfl, ?_⟩
        rw [List.length_map]
        refine ite2 (fun hc => ?_) (fun hc => ?_)
        · have hlt : place < ns.length := by
            have := of_decide_eq_true hc
            omega
          obtain ⟨p, hp⟩ : ∃ p, ns[place]? = some p := ⟨_, List.getElem?_eq_getElem hlt⟩
          have hdrop := drop_cons hp
          obtain ⟨f', rfl⟩ : ∃ f', f = f' + 1 := ⟨f - 1, by omega⟩
          rw [hdrop] at hrd hf
          rw [List.length_cons] at hf
          refine ⟨fun σ' H'' => ∃ (acc : List Vasnpe.Op) (v4 v5 : Option V) (f : Nat), σ' = [some (.ref a), none, some (.ref g), some (iV (place + 1 + ar p)), v4, v5] ∧ OpsAt H H'' g acc ∧ acc.length ≤ place + 1 + ar p ∧ Same H H'' ∧ Vasnpe.readOps (xs.length + 1) ns = (Vasnpe.readOps f (ns.drop (place + 1 + ar p))).map (acc ++ ·) ∧ (ns.drop (place + 1 + ar p)).length < f ∧ place + 1 + ar p ≤ ns.length,
            fun σ' H'' ⟨acc', w4, w5, f2, e1, e2, e3, e4, e5, e6, e7⟩ => ⟨ns.length - (place + 1 + ar p), by omega, place + 1 + ar p, acc', w4, w5, f2, e1, e2, e3, e4, e5, e6, e7, by omega⟩, ?_⟩
          refine ⟨_, rfl, _, rfl, a, _, _, iV p, rfl, rfl, hS3, atI_nat (by rw [List.getElem?_map, hp]; rfl), ?_⟩
          refine ⟨_, rfl, nk p, rfl, rfl, _, rfl, ?_⟩
          by_cases hp5 : p ≤ 5
          · rw [tab_in hp5]
            refine iteF ?_
            refine ⟨_, rfl, _, _, rfl, rfl, _, rfl, nk p, _, rfl, rfl, tab_in hp5, _, _, rfl, rfl, ?_⟩
            refine ⟨_, rfl, _, rfl, a, _, rfl, .inl hS3, _, _, rfl, rfl, _, rfl, ?_⟩
            rw [List.length_map]
            refine ite2 (fun hc2 => ?_) (fun hc2 => ?_)
            · have hsh : (ns.drop (place + 1)).length < ar p := by
                have := of_decide_eq_true hc2
                rw [List.length_drop]
                omega
              rw [rd_short hp5 hsh] at hrd
              exact k0 (by rw [hread, hrd]; rfl) H' s3
            · have hen : place + 1 + ar p ≤ ns.length := Classical.byContradiction fun z => hc2 (decide_eq_true (by omega))
              obtain ⟨op, raw, hstep⟩ := rd_step (f := f') hp5 (l := ns.drop (place + 1)) (by rw [List.length_drop]; omega)
              rw [hstep, List.drop_drop] at hrd
              have ho' := ho
              obtain ⟨ts, hg3, _⟩ := ho
              refine ⟨_, rfl, .inl ⟨rfl, _, SqL.of hg3⟩, ?_⟩
              refine ⟨_, rfl, _, rfl, _, rfl, _, _, rfl, rfl, _, rfl, _, rfl, _, rfl, a, _, rfl, hS3, fun b hb => ?_⟩
              have e1 : ((place : Int) + 1) = ((place + 1 : Nat) : Int) := by omega
              have e2 : ((place : Int) + 1 + (ar p : Int)) = ((place + 1 + ar p : Nat) : Int) := by omega
              have ecut : cutV (ns.map iV) (some ((place : Int) + 1)) (some ((place : Int) + 1 + (ar p : Int))) = (((ns.drop (place + 1)).take (ar p)).map fun (n : Nat) => (n : Int)).map V.int := by
                rw [e2, e1, cut_nat (by omega) (by rw [List.length_map]; exact hen), show place + 1 + ar p - (place + 1) = ar p by omega, ← List.map_drop, ← List.map_take, List.map_map]
                rfl
              rw [ecut]
              have nbg : b ≠ g := fun z => by rw [z, hg3] at hb; cases hb
              have s4 : Same H' (upd H' b (.lst ((((ns.drop (place + 1)).take (ar p)).map fun (n : Nat) => (n : Int)).map V.int))) := same_new hb
              refine ⟨(by show 2 ≤ sizeLine; decide), fun t ht => ?_⟩
              have s5 : Same (upd H' b (.lst ((((ns.drop (place + 1)).take (ar p)).map fun (n : Nat) => (n : Int)).map V.int))) (upd (upd H' b (.lst ((((ns.drop (place + 1)).take (ar p)).map fun (n : Nat) => (n : Int)).map V.int))) t (.tup [iV p, .ref b])) := same_new ht
              have s45 := s4.trans s5
              have hb5 := s5 _ _ (upd_same (H := H') (a := b) (o := .lst ((((ns.drop (place + 1)).take (ar p)).map fun (n : Nat) => (n : Int)).map V.int)))
              have ho5 := ho'.but s45
              obtain ⟨xs', hgx, hxl, ho6⟩ := ho5.snoc (t := t) (op := op) ⟨_, _, b, upd_same, hb5, ⟨nbg, s3.free hb, (s3.trans s4).free ht⟩, enc_raw raw⟩
              refine ⟨g, _, _, rfl, rfl, hgx, ?_, ?_⟩
              · rw [hxl]
                exact Nat.lt_of_le_of_lt (show _ ≤ 16000 by omega) (by decide)
              ·
                refine ⟨_, rfl, acc ++ [op], some (iV p), some (V.int ((place : Int) + 1 + (ar p : Int))), f', rfl, ho6, by rw [List.length_append, List.length_singleton]; omega, fun b' u e => ?_, ?_, ?_, hen⟩
                · rw [upd_ne (ne_of_none e hg0)]
                  exact s45 _ _ (s3 _ _ e)
                · rw [hrd, Option.map_map]
                  congr 1
                  funext q
                  simp
                · rw [List.length_drop] at hf ⊢
                  omega
          · rw [tab_out hp5]
            refine iteT ?_
            rw [rd_bad (by omega)] at hrd
            exact k0 (by rw [hread, hrd]; rfl) H' s3
        · have hpe : place = ns.length := by
            have : ¬ place < ns.length := fun z => hc (decide_eq_true (by omega))
            omega
          rw [hpe, List.drop_length, rd_nil] at hrd
          refine ⟨_, rfl, k1 acc ?_ H' g hg0 ho (by omega) s3⟩
          rw [hread, hrd]
          simp
end
end Hc
set_option Elab.async false
set_option linter.all false
set_option maxRecDepth 100000
set_option maxHeartbeats 4000000
namespace Hc
open PySem PySem.Spec PyProof.Rows L2
def TotOk (W : Str → Option V) (s : Vasnpe.State) : Prop := WT W ((s.totals.made : Int), (s.totals.madeSize : Int)) ∧ TotInv s
def MachS (CM CT : Addr) (H : Hp) (m : Addr) (F : AS) (s : Vasnpe.State) : Prop := ∃ W, MachAt CM CT H m W F s.heap ∧ TotOk W s
def GoneP (CT : Addr) (H : Hp) (F : AS) (g : Addr) (l : List (Nat × Nat)) : Prop :=
  ∃ ps : List (Addr × (Nat × Nat)), H g = some (.lst (ps.map fun p => V.ref p.1)) ∧ ps.map (·.2) = l ∧ ¬ F g ∧ ∀ p, p ∈ ps → GoneTh CT H F p.1 p.2.1 p.2.2
def pairsOf (h : Vasnpe.Heap) (l : List Nat) : List (Nat × Nat) := l.map fun o => (o, zOf h o)
section
variable {CM CT : Addr} {H H' : Hp} {F F' : AS} {a g m : Addr} {o z : Nat} {l : List Nat} {sz : Nat → Nat} {s : Vasnpe.State}
theorem GoneAt.pairs (t : GoneAt CT H F g l sz) : GoneP CT H F g (l.map fun o => (o, sz o)) := by
  obtain ⟨ps, e1, e2, e3, e4⟩ := t
  refine ⟨ps.map fun p => (p.1, (p.2, sz p.2)), by rw [e1, List.map_map]; rfl, ?_, e3, fun p hp => ?_⟩
  · rw [← e2, List.map_map, List.map_map]; rfl
  · obtain ⟨q, hq, rfl⟩ := List.mem_map.mp hp
    exact e4 q hq
theorem GoneP.frm {l : List (Nat × Nat)} (t : GoneP CT H F g l) (f : Frm F H F' H') : GoneP CT H' F' g l := by
  obtain ⟨ps, e, hl, n, r⟩ := t
  exact ⟨ps, f.keep g _ e n, hl, f.out e n, fun p hp => (r p hp).frm f⟩
theorem MachS.same (M : MachS CM CT H m F s) (q : Same H H') : MachS CM CT H' m F s := by
  obtain ⟨W, M, t⟩ := M
  exact ⟨W, M.same q, t⟩
theorem MachS.fresh (M : MachS CM CT H m F s) {b : Addr} (n : H b = none) : ¬ F b := by
  obtain ⟨W, M, t⟩ := M
  exact M.fresh n
theorem MachS.upd_out (M : MachS CM CT H m F s) {b : Addr} {o : HO} (n : ¬ F b) : MachS CM CT (upd H b o) m F s := by
  obtain ⟨W, M, t⟩ := M
  exact ⟨W, M.upd_out n, t⟩
theorem GoneP.join {l l' : List (Nat × Nat)} {g' : Addr} (t : GoneP CT H F g l) (t' : GoneP CT H F g' l') : ∃ xs ys, H g = some (.lst xs) ∧ H g' = some (.lst ys) ∧ xs.length = l.length ∧ ys.length = l'.length ∧ GoneP CT (upd H g (.lst (xs ++ ys))) F g (l ++ l') := by
  obtain ⟨ps, e1, e2, e3, e4⟩ := t
  obtain ⟨ps', e1', e2', e3', e4'⟩ := t'
  refine ⟨_, _, e1, e1', by rw [List.length_map, ← e2, List.length_map], by rw [List.length_map, ← e2', List.length_map], ps ++ ps', by rw [upd_same, List.map_append], by rw [List.map_append, e2, e2'], e3, fun p hp => ?_⟩
  have q : GoneTh CT H F p.1 p.2.1 p.2.2 := (List.mem_append.mp hp).elim (e4 p) (e4' p)
  obtain ⟨n1, dx, fs, h1, h2⟩ := q
  exact ⟨n1, dx, fs, by rw [upd_ne (ne_of h1 e1 (by intro z; cases z))]; exact h1, h2⟩
end
section
variable {P : Program} {w : World} {K : PySem.W.Frag} {mg : Str → Option Value} {base : Heap} {CM CT : Addr}
theorem lc_gone {H : Hp} {F : AS} {g D : Addr} {l : List (Nat × Nat)} {x : Str} {fV : Nat × Nat → Nat} {i1 : Nat} {σ : L2.St} {vs : List Nat} {Qd : Hp → Prop} (T : Cls K CT) (n : NoAttr K CT x) (G : GoneP CT H F g l) (hD : H D = none) (hl : l.length ≤ 1000000)
    (hx : ∀ (a : Addr) (p : Nat × Nat), GoneTh CT H F a p.1 p.2 → ∃ dx fs, H a = some (.ins CT dx fs) ∧ fs.lookup x = some (iV (fV p)))
    (hw : ∀ v : V, ((wipe σ vs).set i1 (some v))[i1]? = some (some v)) (hw2 : ∀ v : V, wipe ((wipe σ vs).set i1 (some v)) vs = wipe σ vs)
    (hd : ∀ H', H' D = some (.lst ((l.map fV).map iV)) → Same H H' → Qd H') :
    ∃ W : Nat → Nat → Hp → Prop, (∃ m, W 0 m (upd H D (.lst []))) ∧ ∀ i m H, W i m H →
      ((Itl K g).stop i H ∧ Qd H) ∨ ((Itl K g).go i H ∧ ∃ Nx : Hp → Prop, (∀ H', Nx H' → ∃ m', m' < m ∧ W (i + 1) m' H') ∧ ∀ v H', (Itl K g).yld i H v H' → gName i1 v (wipe σ vs) H' fun σ2 H2 => wipe σ2 vs = wipe σ vs ∧ tYes σ2 H2 fun b H3 =>
        if b = true then tFld K (tVar i1) x σ2 H3 fun y H4 => ∃ acc, H4 D = some (.lst acc) ∧ acc.length < sizeLine ∧ Nx (upd H4 D (.lst (acc ++ [y]))) else Nx H3) := by
  obtain ⟨ps, e1, e2, e3, e4⟩ := G
  refine lc_list (K := K) (a := g) (xs := ps.map fun p => V.ref p.1) (fun i H' => H' D = some (.lst (((ps.take i).map fun p => iV (fV p.2)))) ∧ Same H H') ⟨upd_same, same_new hD⟩ (fun i H' _ h => SqL.of (h.2 _ _ e1)) ?_ ?_
  · rintro i v H' hi ⟨h1, h2⟩
    obtain ⟨p, hp, rfl⟩ := map_get hi
    obtain ⟨dx, fs, h3, h4⟩ := hx p.1 p.2 (e4 p (List.mem_of_getElem? hp))
    refine ⟨hw2 _, ?_⟩
    unfold tYes
    refine iteT ?_
    refine ⟨_, hw _, p.1, CT, dx, fs, _, rfl, h2 _ _ h3, T, n, h4, _, h1, ?_, ?_, fun b u e => by rw [upd_ne (ne_of_none e hD)]; exact h2 b u e⟩
    · rw [List.length_map, List.length_take]
      have : ps.length = l.length := by rw [← e2, List.length_map]
      exact Nat.lt_of_le_of_lt (show _ ≤ 1000000 by omega) (by decide)
    · rw [upd_same, take_snoc hp, List.map_append]; rfl
  · rintro H' ⟨h1, h2⟩
    rw [List.length_map, List.take_length] at h1
    refine hd H' ?_ h2
    rw [h1, ← e2, List.map_map, List.map_map]; rfl
theorem sum_cast : ∀ l : List Nat, (l.map fun (n : Nat) => (n : Int)).sum = ((l.sum : Nat) : Int)
  | [] => rfl
  | a :: l => by rw [List.map_cons, List.sum_cons, List.sum_cons, sum_cast l]; omega
theorem iV_ints (l : List Nat) : l.map iV = (l.map fun (n : Nat) => (n : Int)).map V.int := by rw [List.map_map]; rfl
theorem gone_size {CT : Addr} {H : Hp} {F : AS} (a : Addr) (p : Nat × Nat) (t : GoneTh CT H F a p.1 p.2) : ∃ dx fs, H a = some (.ins CT dx fs) ∧ fs.lookup ("size" : Str) = some (iV p.2) := by
  obtain ⟨_, dx, fs, h1, _, h3⟩ := t
  exact ⟨dx, fs, h1, h3⟩
theorem gone_num {CT : Addr} {H : Hp} {F : AS} (a : Addr) (p : Nat × Nat) (t : GoneTh CT H F a p.1 p.2) : ∃ dx fs, H a = some (.ins CT dx fs) ∧ fs.lookup ("number" : Str) = some (iV p.1) := by
  obtain ⟨_, dx, fs, h1, h2, _⟩ := t
  exact ⟨dx, fs, h1, h2⟩
inductive spSizesI (K : PySem.W.Frag) (CT : Addr) (vs : List V) (H : Hp) (Q : VK) : Prop
  | mk : ∀ (a : Addr) (ps : List (Addr × Nat)), (vs = [.ref a]) → (SqL K H a (ps.map fun p => V.ref p.1)) → ((∀ p, p ∈ ps → ∃ dx fs, H p.1 = some (.ins CT dx fs) ∧ fs.lookup ("size" : Str) = some (iV p.2))) → (ps.length ≤ 1000000) → (∀ H' : Hp, Same H H' → Q (iV (ps.map (·.2)).sum) H') → spSizesI K CT vs H Q
def spSizes (K : PySem.W.Frag) (CT : Addr) : Sp := fun vs H Q _ => spSizesI K CT vs H Q
theorem sc_sizes : FnScope ["things", "thing"] ["things"] (defScope s_sizes_together) := ⟨rfl, rfl, rfl, by decide +kernel, rfl, by decide +kernel, by decide +kernel⟩
theorem ok_sizes {f : Addr} {fd : FuncData} (F : Fun K "sizes_together" "sizes_together" s_sizes_together f fd) (T : Txt K mg CM CT) (bSum : mg "sum" = none) : FnOk P w K mg base CX0 1 f fd ["things"] (spSizes K CT) := by
  refine F.ok sc_sizes (fun vs H Q E h => ?_) (fun cdv A0 outer s H vs Q E hr h => ?_)
  · obtain ⟨a, ps, rfl, _⟩ := h
    rfl
  · obtain ⟨a, ps, rfl, hS, hp, hl, k⟩ := h
    refine ⟨_, pss_one (ps_ret (pe_callB (cr_sum rfl) (by rfl) bSum (by rfl) (pa_cons (pe_lc (own := [("thing", 1)]) rfl sc_sizes.nd (pi_list (pv 0)) (blkOk_by (N := ["things", "thing"]) (sc := defScope s_sizes_together) (by decide +kernel)) (fun s H C cl fp => pg_name (i := 1) sc_sizes.nd rfl (Or.inl rfl)) (fun s H C cl fp => pts_nil) (fun s H C cl fp => (show PE _ _ (tFld K (tVar 1) "size") from pe_fld (pv 1) rfl))) pa_nil))), ?_⟩
    refine ⟨_, rfl, a, rfl, ⟨_, hS⟩, fun D hD => ?_⟩
    refine lc_list (K := K) (a := a) (xs := ps.map fun p => V.ref p.1) (fun i H' => H' D = some (.lst ((ps.take i).map fun p => iV p.2)) ∧ Same H H') ⟨upd_same, same_new hD⟩ (fun i H' _ h => h.2.seq hS) ?_ ?_
    · rintro i v H' hi ⟨h1, h2⟩
      obtain ⟨p, hpi, rfl⟩ := map_get hi
      obtain ⟨dx, fs, h3, h4⟩ := hp p (List.mem_of_getElem? hpi)
      refine ⟨rfl, ?_⟩
      unfold tYes
      refine iteT ?_
      refine ⟨_, rfl, p.1, CT, dx, fs, _, rfl, h2 _ _ h3, T.clT, T.nSize, h4, _, h1, ?_, ?_, fun b u e => by rw [upd_ne (ne_of_none e hD)]; exact h2 b u e⟩
      · rw [List.length_map, List.length_take]
        exact Nat.lt_of_le_of_lt (show _ ≤ 1000000 by omega) (by decide)
      · rw [upd_same, take_snoc hpi, List.map_append]; rfl
    · rintro H' ⟨h1, h2⟩
      rw [List.length_map, List.take_length] at h1
      have e1 : (ps.map fun p => iV p.2) = (((ps.map (·.2)).map fun (n : Nat) => (n : Int)).map V.int) := by rw [← iV_ints, List.map_map]; rfl
      rw [e1] at h1
      refine ⟨D, _, rfl, SqL.of h1, ?_⟩
      rw [sum_cast]
      exact k H' h2
theorem GoneP.sizes {H : Hp} {F : AS} {g : Addr} {l : List (Nat × Nat)} (G : GoneP CT H F g l) : ∃ ps : List (Addr × Nat), H g = some (.lst (ps.map fun p => V.ref p.1)) ∧ ps.length = l.length ∧ ps.map (·.2) = l.map (·.2) ∧ ∀ p, p ∈ ps → ∃ dx fs, H p.1 = some (.ins CT dx fs) ∧ fs.lookup ("size" : Str) = some (iV p.2) := by
  obtain ⟨ps, e1, e2, e3, e4⟩ := G
  refine ⟨ps.map fun p => (p.1, p.2.2), by rw [e1, List.map_map]; rfl, by rw [List.length_map, ← e2, List.length_map], by rw [← e2, List.map_map, List.map_map]; rfl, fun p hp => ?_⟩
  obtain ⟨q, hq, rfl⟩ := List.mem_map.mp hp
  exact gone_size q.1 q.2 (e4 q hq)
inductive spWentI (CT : Addr) (vs : List V) (H : Hp) (Q : VK) : Prop
  | mk : ∀ (g : Addr) (F : AS) (l : List (Nat × Nat)), (vs = [.ref g]) → (GoneP CT H F g l) → (l.length ≤ 1000) → (∀ (H' : Hp) (r : Addr), H r = none → H' r = some (.lst ((l.length :: (l.map (·.2)).sum :: l.map (·.1)).map iV)) → Same H H' → Q (.ref r) H') → spWentI CT vs H Q
def spWent (CT : Addr) : Sp := fun vs H Q _ => spWentI CT vs H Q
theorem sc_went : FnScope ["gone", "thing"] ["gone"] (defScope s_went) := ⟨rfl, rfl, rfl, by decide +kernel, rfl, by decide +kernel, by decide +kernel⟩
theorem ok_went {f : Addr} {fd : FuncData} (F : Fun K "went" "went" s_went f fd) (T : Txt K mg CM CT) (bLen : mg "len" = none) (C1 : Callee P w K mg base 1 "sizes_together" ["things"] (spSizes K CT)) : FnOk P w K mg base CX0 2 f fd ["gone"] (spWent CT) := by
  refine F.ok sc_went (fun vs H Q E h => ?_) (fun cdv A0 outer s H vs Q E hr h => ?_)
  · obtain ⟨g, F, l, rfl, _⟩ := h
    rfl
  · obtain ⟨g, F, l, rfl, G, hl, k⟩ := h
    refine ⟨_, pss_one (ps_ret (pe_op op_cat
      (pe_lst (pa_cons (pe_callB call_len_seq (by rfl) bLen PySem.boot_len (pa_cons (pv 0) pa_nil)) (pa_cons (pe_cal C1 hr (pa_cons (pv 0) pa_nil)) pa_nil)))
      (pe_lc (own := [("thing", 1)]) rfl sc_went.nd (pi_list (pv 0)) (blkOk_by (N := ["gone", "thing"]) (sc := defScope s_went) (by decide +kernel)) (fun s H C cl fp => pg_name (i := 1) sc_went.nd rfl (Or.inl rfl)) (fun s H C cl fp => pts_nil) (fun s H C cl fp => (show PE _ _ (tFld K (tVar 1) "number") from pe_fld (pv 1) rfl))))), ?_⟩
    obtain ⟨ps, hg, hxl, hps, hsz⟩ := G.sizes
    refine ⟨_, rfl, g, _, rfl, .inl (SqL.of hg), _, rfl, g, ps, rfl, SqL.of hg, hsz, by omega, fun H1 s1 => ?_⟩
    rw [hps, List.length_map, hxl]
    refine ⟨(by show 2 ≤ sizeLine; decide), fun q hq => ?_⟩
    have s2 : Same H1 (upd H1 q (.lst [.int (l.length : Int), iV (l.map (·.2)).sum])) := same_new hq
    have s12 := s1.trans s2
    refine ⟨_, rfl, g, rfl, ⟨_, SqL.of (s12 _ _ hg)⟩, fun D' hD' => ?_⟩
    refine lc_gone (K := K) (CT := CT) (F := F) (l := l) (fV := (·.1)) T.clT T.nNum (G.frm (Frm.same s12)) hD' (by omega) gone_num (fun v => rfl) (fun v => rfl) fun H3 hD3 s3 => ?_
    refine ⟨q, D', _, _, rfl, rfl, s3 _ _ upd_same, hD3, ?_, fun r hr' => ?_⟩
    · rw [List.length_map, List.length_map]
      show 2 + l.length ≤ 16777216
      omega
    · have s123 := s12.trans s3
      refine k _ r (s123.free hr') ?_ (s123.trans (same_new hr'))
      rw [upd_same]
      rfl
end
end Hc
set_option Elab.async false
set_option linter.all false
set_option maxRecDepth 100000
set_option maxHeartbeats 4000000
namespace Hc
open PySem PySem.Spec PyProof.Rows L2
theorem for_fin {K : PySem.W.Frag} {a : Addr} {g : TG} {tb : TS} {D : Ends} {σ : L2.St} {H : Hp} (Pe : L2.St → Hp → Prop) (fin : ∀ σ H, Pe σ H → D.nx σ H)
    (k : (∀ σ H, Pe σ H → D.nx σ H) → ∃ W : Nat → Nat → L2.St → Hp → Prop, (∃ m, W 0 m σ H) ∧ ∀ i m σ H, W i m σ H →
      ((Itl K a).stop i H ∧ D.nx σ H) ∨ ((Itl K a).go i H ∧ ∃ N : L2.St → Hp → Prop, (∀ σ' H', N σ' H' → ∃ m', m' < m ∧ W (i + 1) m' σ' H') ∧ ∀ x H', (Itl K a).yld i H x H' → g x σ H' fun σ2 H2 => tb { D with nx := N, ct := N, bk := D.nx } σ2 H2)) :
    ∃ W : Nat → Nat → L2.St → Hp → Prop, (∃ m, W 0 m σ H) ∧ ∀ i m σ H, W i m σ H →
      ((Itl K a).stop i H ∧ D.nx σ H) ∨ ((Itl K a).go i H ∧ ∃ N : L2.St → Hp → Prop, (∀ σ' H', N σ' H' → ∃ m', m' < m ∧ W (i + 1) m' σ' H') ∧ ∀ x H', (Itl K a).yld i H x H' → g x σ H' fun σ2 H2 => tb { D with nx := N, ct := N, bk := D.nx } σ2 H2) := k fin
theorem runRow_none {s : Vasnpe.State} {xs : List Int} (e : readI xs = none) : Vasnpe.runRow s xs = (s, [-12]) := by
  unfold readI at e
  unfold Vasnpe.runRow
  split
  · rfl
  · rename_i h
    rw [if_neg h] at e
    rw [e]
theorem runRow_some {s : Vasnpe.State} {xs : List Int} {ops : List Vasnpe.Op} (e : readI xs = some ops) : Vasnpe.runRow s xs = ((Vasnpe.running ops s 0).1, [0, ((Vasnpe.running ops s 0).2.1 : Int), (Vasnpe.running ops s 0).2.2, (((Vasnpe.running ops s 0).1.totals.gone - s.totals.gone : Nat) : Int), (((Vasnpe.running ops s 0).1.totals.goneSize - s.totals.goneSize : Nat) : Int)]) := by
  unfold readI at e
  unfold Vasnpe.runRow
  split
  · rename_i h
    rw [if_pos h] at e; cases e
  · rename_i h
    rw [if_neg h] at e
    rw [e]
theorem pairs_len (h : Vasnpe.Heap) (l : List Nat) : (pairsOf h l).length = l.length := by unfold pairsOf; rw [List.length_map]
theorem pairs_size (h : Vasnpe.Heap) (l : List Nat) : ((pairsOf h l).map (·.2)).sum = Vasnpe.sizeOf h l := by
  rw [sizeOf_eq]
  unfold pairsOf
  rw [List.map_map]
  rfl
theorem gone32 {h : Vasnpe.Heap} (G : Good h []) {p : IOp} (e : refuse h p = 0) : (doI h p).2.length ≤ 32 := by
  have gv : ∀ {h2 : Vasnpe.Heap} {r : Nat} {x : Option Nat}, h2.cells.length = 32 → (Vasnpe.giveReg h2 r x).2.length ≤ 32 := fun {h2 r x} hl => by
    rw [give_eq]
    refine less_len _ (fun x hx => by simp at hx) (by simp) (fun x hx => by simp at hx) ?_
    show (Vasnpe.moreOf h2 x).cells.length = 32
    cases x with
    | none => exact hl
    | some o =>
      unfold Vasnpe.moreOf
      cases q : Vasnpe.cellAt h2 o with
      | none => simp only [q]; exact hl
      | some c =>
        simp only [q]
        show (h2.cells.set o _).length = 32
        rw [List.length_set]; exact hl
  cases p with
  | new r k z n =>
    refine gv ?_
    show (h.cells.set _ _).length = 32
    rw [List.length_set]; exact G.clen
  | copy r s => exact gv G.clen
  | load r s i => exact gv G.clen
  | clear r => exact gv G.clen
  | store s i r =>
    obtain ⟨o, c, old, h1, h2, h3, h4, h5, _, _, h6⟩ := slotRef_ok G (show slotRef h s i r = 0 from e)
    show (Vasnpe.dropOld (storeHeap h ((Vasnpe.regAt h s.toNat).getD 0) i.toNat (Vasnpe.regAt h r.toNat)) (slotIn h s i)).2.length ≤ 32
    rw [h3, h6, dropOld_eq]
    have g := good_storeHeap (x := Vasnpe.regAt h r.toNat) G (fun t ht => G.regAt_held ht) h4 h5
    exact less_len _ (fun x hx => by simp at hx) (by simp) (fun x hx => by simp at hx) g.clen
  | collect => exact nodup_le (going_nodup G) (going_lt G)
theorem mkT_step {s : Vasnpe.State} (G : Good s.heap []) {p : IOp} (e : refuse s.heap p = 0) : mkT p ((s.totals.made : Int), (s.totals.madeSize : Int)) = (((stepI s p).totals.made : Int), ((stepI s p).totals.madeSize : Int)) := by
  cases p with
  | new r k z n =>
    obtain ⟨_, hg, _⟩ := new_ok e
    have hz := (goodNew_iff.mp hg).2.1
    show ((s.totals.made : Int) + 1, (s.totals.madeSize : Int) + z) = (((s.totals.made + 1 : Nat) : Int), ((s.totals.madeSize + z.toNat : Nat) : Int))
    congr 1
    omega
  | _ => rfl
section
variable {P : Program} {w : World} {K : PySem.W.Frag} {mg : Str → Option Value} {base : Heap} {CM CT : Addr}
inductive spPerfI (K : PySem.W.Frag) (CM CT : Addr) (vs : List V) (H : Hp) (Q : VK) : Prop
  | mk : ∀ (m a : Addr) (F : AS) (s : Vasnpe.State) (p : IOp) (op : Int) (args : List Int), (vs = [.ref m, .int op, .ref a]) → (Enc p op args) → (SqL K H a (args.map V.int)) → (MachS CM CT H m F s) → (Good s.heap []) → (refuse s.heap p = 0) → (∀ (H' : Hp) (F' : AS) (g : Addr), MachS CM CT H' m F' (stepI s p) → Frm F H F' H' → GoneP CT H' F' g (pairsOf s.heap (doI s.heap p).2) → (∀ b u, H b = some u → ¬ F b → b ≠ g) → Q (.ref g) H') → spPerfI K CM CT vs H Q
def spPerf (K : PySem.W.Frag) (CM CT : Addr) : Sp := fun vs H Q _ => spPerfI K CM CT vs H Q
theorem perf_of {f : Addr} {fd : FuncData} (F : FnOk P w K mg base CX0 6 f fd ["machine", "operation", "arguments"] (spPerform K CM CT)) : FnOk P w K mg base CX0 6 f fd ["machine", "operation", "arguments"] (spPerf K CM CT) := by
  refine F.imp fun vs H Q E h => ?_
  obtain ⟨m, a, F, s, p, op, args, rfl, en, hS, ⟨W, M, tot⟩, G, hok, k⟩ := h
  refine ⟨m, a, W, F, s.heap, p, op, args, zOf s.heap, ((s.totals.made : Int), (s.totals.madeSize : Int)), rfl, en, hS, M, G, hok, fun o c e => ?_, tot.1, fun H' F' g W' hW' M' f g' fr => ?_⟩
  · unfold zOf; rw [e]
  · refine k H' F' g ⟨W', M', ?_, tot_step G hok tot.2⟩ f g'.pairs fr
    have e := mkT_step (s := s) G hok
    rw [e] at hW'
    exact hW'
inductive spRunI (K : PySem.W.Frag) (CM CT : Addr) (vs : List V) (H : Hp) (Q : VK) : Prop
  | mk : ∀ (m a : Addr) (F : AS) (s : Vasnpe.State) (xs : List Int), (vs = [.ref m, .ref a]) → (SqL K H a (xs.map V.int)) → (xs.length ≤ 16000) → (MachS CM CT H m F s) → (Good s.heap []) → (∀ (H' : Hp) (F' : AS) (g : Addr), MachS CM CT H' m F' (Vasnpe.runRow s xs).1 → Good (Vasnpe.runRow s xs).1.heap [] → Frm F H F' H' → H' g = some (.lst ((Vasnpe.runRow s xs).2.map V.int)) → ¬ F' g → (∀ b u, H b = some u → ¬ F b → b ≠ g) → Q (.ref g) H') → spRunI K CM CT vs H Q
def spRun (K : PySem.W.Frag) (CM CT : Addr) : Sp := fun vs H Q _ => spRunI K CM CT vs H Q
theorem sc_run : FnScope ["machine", "numbers", "operations", "done", "ended_by", "gone", "operation", "arguments"] ["machine", "numbers"] (defScope s_run) := ⟨rfl, rfl, rfl, by decide +kernel, rfl, by decide +kernel, by decide +kernel⟩
structure RunI (CM CT : Addr) (m g : Addr) (s0 : Vasnpe.State) (ops : List Vasnpe.Op) (F0 : AS) (H0 : Hp) (i : Nat) (H : Hp) (F : AS) (s : Vasnpe.State) (l : List (Nat × Nat)) : Prop where
  mach : MachS CM CT H m F s
  good : Good s.heap []
  gone : GoneP CT H F g l
  cnt : s0.totals.gone + l.length = s.totals.gone
  size : s0.totals.goneSize + (l.map (·.2)).sum = s.totals.goneSize
  few : l.length ≤ 32 * i
  frm : Frm F0 H0 F H
theorem ok_run {f : Addr} {fd : FuncData} (F : Fun K "run" "run" s_run f fd) (T : Txt K mg CM CT) (Z : Cst mg) (gN : GI mg "NOT_OPERATIONS" (-12)) (bLen : mg "len" = none) (C1 : Callee P w K mg base 1 "told_operations" ["numbers"] (spTold K)) (C2 : Callee P w K mg base 4 "refusal" ["machine", "operation", "arguments"] (spRefusal K CM CT))
    (C3 : Callee P w K mg base 6 "perform" ["machine", "operation", "arguments"] (spPerf K CM CT)) (C4 : Callee P w K mg base 1 "sizes_together" ["things"] (spSizes K CT)) : FnOk P w K mg base CX0 7 f fd ["machine", "numbers"] (spRun K CM CT) := by
  refine F.ok sc_run (fun vs H Q E h => ?_) (fun cdv A0 outer s H vs Q E hr h => ?_)
  · obtain ⟨m, a, F, s, xs, rfl, _⟩ := h
    rfl
  · obtain ⟨m, a, F, s0, xs, rfl, hS, hxl, M, G, k⟩ := h
    have hr1 : Room 1 _ := hr.mono (by decide)
    have hr4 : Room 4 _ := hr.mono (by decide)
    refine ⟨_, pss_cons (ps_set (i := 2) sc_run.nd rfl (Or.inl rfl) (pe_cal C1 hr1 (pa_cons (pv 1) pa_nil)))
      (pss_cons (ps_if (pt_cmpR op_isN (pv 2) pe_non (nomark _)) (pss_one (ps_ret (pe_lst (pa_cons (pe_gi gN) pa_nil)))) pss_nil)
      (pss_cons (ps_set (i := 3) sc_run.nd rfl (Or.inl rfl) pe_int)
      (pss_cons (ps_set (i := 4) sc_run.nd rfl (Or.inl rfl) (pe_gi Z.notRefused))
      (pss_cons (ps_set (i := 5) sc_run.nd rfl (Or.inl rfl) (pe_lst pa_nil))
      (pss_cons (ps_for PassesOwn.never rfl (pi_list (pv 2)) (pg_tup rfl (pgs_cons (pg_name (i := 6) sc_run.nd rfl (Or.inl rfl)) (pgs_cons (pg_name (i := 7) sc_run.nd rfl (Or.inl rfl)) pgs_nil)))
        (pss_cons (ps_set (i := 4) sc_run.nd rfl (Or.inl rfl) (pe_cal C2 hr4 (pa_cons (pv 0) (pa_cons (pv 6) (pa_cons (pv 7) pa_nil)))))
        (pss_cons (ps_if (pt_cmpR op_ne (pv 4) (pe_gi Z.notRefused) (nomark _)) (pss_one ps_break) pss_nil)
        (pss_cons (ps_expr (pe_bm PySem.F.plainAttrs_list PySem.F.slot_list_extend PySem.F.type_list_extend mt_extend (pv 5) (pa_cons (pe_cal C3 hr (pa_cons (pv 0) (pa_cons (pv 6) (pa_cons (pv 7) pa_nil)))) pa_nil)))
        (pss_one (ps_aug (i := 3) sc_run.nd rfl (Or.inl rfl) pe_int ip_add))))))
      (pss_one (ps_ret (pe_lst (pa_cons pe_int (pa_cons (pv 3) (pa_cons (pe_un un_neg (pv 4)) (pa_cons (pe_callB call_len_seq (by rfl) bLen PySem.boot_len (pa_cons (pv 5) pa_nil))
        (pa_cons (pe_cal C4 hr1 (pa_cons (pv 5) pa_nil)) pa_nil))))))))))))), ?_⟩
    refine ⟨_, rfl, a, xs, rfl, hS, hxl, fun hn H1 s1 => ?_, fun ops hops H1 og hog hO hol s1 => ?_⟩
    · refine ⟨_, rfl, rfl, _, rfl, iteT ?_⟩
      refine ⟨(by show 1 ≤ sizeLine; decide), fun p hp => ?_⟩
      have M1 := M.same s1
      have er := runRow_none (s := s0) hn
      refine k _ F p ?_ ?_ ((Frm.same s1).trans (Frm.same (same_new hp))) ?_ (M1.fresh hp) (fun b u e _ => ne_of_none (s1 _ _ e) hp)
      · rw [er]; exact M1.same (same_new hp)
      · rw [er]; exact G
      · rw [er, upd_same]; rfl
    · refine ⟨_, rfl, rfl, _, rfl, iteF ?_⟩
      refine ⟨Nat.zero_le _, fun g hg => ?_⟩
      have s2 : Same H1 (upd H1 g (.lst [])) := same_new hg
      have s12 := s1.trans s2
      have M2 := (M.same s1).same s2
      have ngF : ¬ F g := (M.same s1).fresh hg
      have er := runRow_some (s := s0) hops
      obtain ⟨ts, hts, htl, htop⟩ := hO
      have nog : ¬ F og := M.fresh hog
      refine ⟨_, rfl, og, rfl, ⟨_, SqL.of (s2 _ _ hts)⟩, for_fin (K := K) (a := og) (fun σ H' => ∃ (e : Int) (i : Nat) (v6 v7 : Option V) (F' : AS) (s : Vasnpe.State) (l : List (Nat × Nat)), σ = [some (.ref m), some (.ref a), some (.ref og), some (iV i), some (.int e), some (.ref g), v6, v7] ∧ Vasnpe.running ops s0 0 = (s, i, -e) ∧ i ≤ ops.length ∧ RunI CM CT m g s0 ops F H1 i H' F' s l) ?_ (fun fin => for_list (K := K) (a := og) (xs := ts.map V.ref) (fun i σ H' => ∃ (v6 v7 : Option V) (F' : AS) (s : Vasnpe.State) (l : List (Nat × Nat)), σ = [some (.ref m), some (.ref a), some (.ref og), some (iV i), some (.int 0), some (.ref g), v6, v7] ∧ Vasnpe.running ops s0 0 = Vasnpe.running (ops.drop i) s i ∧ i ≤ ops.length ∧ RunI CM CT m g s0 ops F H1 i H' F' s l)
        ⟨none, none, F, s0, [], rfl, rfl, Nat.zero_le _, M2, G, ⟨[], upd_same, rfl, ngF, fun p hp => by simp at hp⟩, rfl, rfl, Nat.zero_le _, Frm.same s2⟩ (fun i σ H' _ ⟨_, _, _, _, _, _, _, _, I⟩ => SqL.of (I.frm.keep _ _ hts nog)) ?_ ?_)⟩
      ·
        rintro σ H' ⟨e, i, v6, v7, F', s, l, rfl, hrun, hi, I⟩
        obtain ⟨ps, hgx, hgl, hps, hsz⟩ := I.gone.sizes
        have hll : l.length ≤ 1000000 := by
          have := I.few
          omega
        refine ⟨_, rfl, _, rfl, _, rfl, _, rfl, g, _, rfl, .inl (SqL.of hgx), _, rfl, g, ps, rfl, SqL.of hgx, hsz, by omega, fun H3 s3 => ?_⟩
        rw [hps, List.length_map, hgl]
        refine ⟨(by show 5 ≤ sizeLine; decide), fun p hp => ?_⟩
        have M3 := I.mach.same s3
        have f13 : Frm F H F' H3 := ((Frm.same s1).trans I.frm).trans (Frm.same s3)
        refine k _ F' p ?_ ?_ (f13.trans (Frm.same (same_new hp))) ?_ (M3.fresh hp) (fun b u e' nb => ne_of_none (f13.keep b u e' nb) hp)
        · rw [er, hrun]; exact M3.same (same_new hp)
        · rw [er, hrun]; exact I.good
        · rw [er, hrun, upd_same]
          have c1 := I.cnt
          have c2 := I.size
          have e1 : s.totals.gone - s0.totals.gone = l.length := by omega
          have e2 : s.totals.goneSize - s0.totals.goneSize = (l.map (·.2)).sum := by omega
          show _ = some (HO.lst [V.int 0, V.int (i : Int), V.int (-e), V.int ((s.totals.gone - s0.totals.gone : Nat) : Int), V.int ((s.totals.goneSize - s0.totals.goneSize : Nat) : Int)])
          rw [e1, e2]
          rfl
      ·
        rintro i y σ H' hi ⟨v6, v7, F', s, l, rfl, hrun, hin, I⟩
        obtain ⟨t, ht, rfl⟩ := map_get hi
        have hit : i < ts.length := (List.getElem?_eq_some_iff.mp ht).1
        obtain ⟨op, hop⟩ : ∃ op, ops[i]? = some op := ⟨_, List.getElem?_eq_getElem (by omega)⟩
        obtain ⟨pn, args, b, hb1, hb2, ⟨hb3, hb4, hb5⟩, en⟩ := htop i t op ht hop
        have ht' := I.frm.keep _ _ hb1 (M.fresh hb5)
        have hb' := I.frm.keep _ _ hb2 (M.fresh hb4)
        refine ⟨t, _, rfl, SqT.of ht', rfl, _, _, rfl, _, _, rfl, rfl, ?_⟩
        obtain ⟨W, M', tot⟩ := I.mach
        refine ⟨_, rfl, _, rfl, _, rfl, m, b, W, F', s.heap, toI op, pn, args, rfl, en, SqL.of hb', M', I.good, ?_⟩
        rw [drop_cons hop] at hrun
        refine ⟨_, rfl, rfl, _, rfl, ?_⟩
        by_cases hz : refuse s.heap (toI op) = 0
        · rw [hz]
          refine iteF ?_
          rw [running_go I.good hz] at hrun
          obtain ⟨gx, hgx⟩ : ∃ gx, H' g = some (.lst gx) := by obtain ⟨ps, e1, _⟩ := I.gone; exact ⟨_, e1⟩
          refine ⟨_, rfl, .inl ⟨rfl, _, SqL.of hgx⟩, _, rfl, _, rfl, _, rfl, m, b, F', s, toI op, pn, args, rfl, en, SqL.of hb', ⟨W, M', tot⟩, I.good, hz, fun H3 F3 g3 M3 f3 G3 fr => ?_⟩
          have G2 := I.gone.frm f3
          obtain ⟨xs1, ys1, q1, q2, q3, q4, q5⟩ := G2.join G3
          have h32 := gone32 I.good hz
          rw [pairs_len] at q4
          refine ⟨g, g3, _, _, rfl, rfl, q1, q2, ?_, ?_⟩
          · have := I.few
            show _ ≤ 16777216
            omega
          · have ng3 : ¬ F3 g := by obtain ⟨_, _, _, n, _⟩ := G2; exact n
            have f03 := I.frm.trans f3
            refine ⟨_, rfl, _, _, rfl, rfl, _, _, F3, stepI s (toI op), l ++ pairsOf s.heap (doI s.heap (toI op)).2, rfl, hrun, by omega, M3.upd_out ng3, good_doI I.good hz, q5, ?_, ?_, ?_, ⟨fun b' u e nb => ?_, f03.grow⟩⟩
            · rw [List.length_append, pairs_len]
              have := I.cnt
              show _ = s.totals.gone + (doI s.heap (toI op)).2.length
              omega
            · rw [List.map_append, List.sum_append, pairs_size]
              have := I.size
              show _ = s.totals.goneSize + Vasnpe.sizeOf s.heap (doI s.heap (toI op)).2
              omega
            · rw [List.length_append, pairs_len]
              have := I.few
              omega
            · rw [upd_ne (ne_of_none e hg)]
              exact f03.keep b' u e nb
        · have hne : (!decide (V.int (refuse s.heap (toI op)) = V.int 0)) = true := by
            rw [decide_eq_false (fun z => hz (V.int.inj z))]; rfl
          rw [hne]
          refine iteT ?_
          rw [running_no I.good hz] at hrun
          exact fin _ _ ⟨refuse s.heap (toI op), i, _, _, F', s, l, rfl, hrun, hin, I⟩
      ·
        rintro σ H' ⟨v6, v7, F', s, l, rfl, hrun, hin, I⟩
        rw [List.length_map, htl] at *
        rw [List.drop_length, running_nil] at hrun
        exact fin _ _ ⟨0, ops.length, v6, v7, F', s, l, rfl, hrun, Nat.le_refl _, I⟩
end
end Hc
set_option Elab.async false
set_option linter.all false
set_option maxRecDepth 100000
set_option maxHeartbeats 4000000
namespace Hc
open PySem PySem.Spec PyProof.Rows L2
theorem ints_toInts (l : List Nat) : (Vasnpe.toInts l).map V.int = l.map iV := by unfold Vasnpe.toInts; rw [List.map_map]; rfl
theorem new_reg {h : Vasnpe.Heap} {r k z n : Int} (G : Good h []) (e : refuse h (.new r k z n) = 0) : Vasnpe.regAt (doI h (.new r k z n)).1 r.toNat = some ((Vasnpe.freeId h).getD 0) := by
  obtain ⟨hR, hg, o, ho⟩ := new_ok e
  show Vasnpe.regAt (Vasnpe.giveReg (Vasnpe.setCell h ((Vasnpe.freeId h).getD 0) (some (newCell k z n))) r.toNat (some ((Vasnpe.freeId h).getD 0))).1 r.toNat = _
  rw [regAt_def, give_eq, less_regs]
  show (((Vasnpe.moreOf _ _).regs.set r.toNat (some ((Vasnpe.freeId h).getD 0)))[r.toNat]?).getD none = _
  rw [List.getElem?_set_self (by rw [more_regs]; show r.toNat < h.regs.length; rw [G.rlen]; exact isR_lt hR)]
  rfl
section
variable {P : Program} {w : World} {K : PySem.W.Frag} {mg : Str → Option Value} {base : Heap} {CM CT : Addr}
def Tells (CM CT : Addr) (H : Hp) (m : Addr) (F : AS) (res : Vasnpe.State × List Int) (Q : VK) : Prop :=
  ∀ (H' : Hp) (F' : AS) (g : Addr), MachS CM CT H' m F' res.1 → Good res.1.heap [] → Frm F H F' H' → H' g = some (.lst (res.2.map V.int)) → res.2.length ≤ 2000 → ¬ F' g → (∀ b u, H b = some u → ¬ F b → b ≠ g) → Q (.ref g) H'
inductive spOpAnsI (K : PySem.W.Frag) (CM CT : Addr) (vs : List V) (H : Hp) (Q : VK) : Prop
  | mk : ∀ (m a : Addr) (F : AS) (s : Vasnpe.State) (p : IOp) (op : Int) (args : List Int), (vs = [.ref m, .int op, .ref a]) → (Enc p op args) → (SqL K H a (args.map V.int)) → (¬ F a) → (MachS CM CT H m F s) → (Good s.heap []) → (Tells CM CT H m F (Vasnpe.step s (callI p)) Q) → spOpAnsI K CM CT vs H Q
def spOpAns (K : PySem.W.Frag) (CM CT : Addr) : Sp := fun vs H Q _ => spOpAnsI K CM CT vs H Q
theorem sc_opans : FnScope ["machine", "operation", "arguments", "refused", "gone"] ["machine", "operation", "arguments"] (defScope s_operation_answer) := ⟨rfl, rfl, rfl, by decide +kernel, rfl, by decide +kernel, by decide +kernel⟩
theorem ok_opans {f : Addr} {fd : FuncData} (F : Fun K "operation_answer" "operation_answer" s_operation_answer f fd) (T : Txt K mg CM CT) (Z : Cst mg) (C1 : Callee P w K mg base 4 "refusal" ["machine", "operation", "arguments"] (spRefusal K CM CT)) (C2 : Callee P w K mg base 6 "perform" ["machine", "operation", "arguments"] (spPerf K CM CT))
    (C3 : Callee P w K mg base 2 "went" ["gone"] (spWent CT)) : FnOk P w K mg base CX0 7 f fd ["machine", "operation", "arguments"] (spOpAns K CM CT) := by
  refine F.ok sc_opans (fun vs H Q E h => ?_) (fun cdv A0 outer s H vs Q E hr h => ?_)
  · obtain ⟨m, a, F, s, p, op, args, rfl, _⟩ := h
    rfl
  · obtain ⟨m, a, F, s, p, op, args, rfl, en, hS, na, M, G, k⟩ := h
    have hr1 : Room 2 _ := hr.mono (by decide)
    have hr4 : Room 4 _ := hr.mono (by decide)
    refine ⟨_, pss_cons (ps_set (i := 3) sc_opans.nd rfl (Or.inl rfl) (pe_cal C1 hr4 (pa_cons (pv 0) (pa_cons (pv 1) (pa_cons (pv 2) pa_nil)))))
      (pss_cons (ps_if (pt_cmpR op_ne (pv 3) (pe_gi Z.notRefused) (nomark _)) (pss_one (ps_ret (pe_lst (pa_cons (pv 3) pa_nil)))) pss_nil)
      (pss_cons (ps_set (i := 4) sc_opans.nd rfl (Or.inl rfl) (pe_cal C2 hr (pa_cons (pv 0) (pa_cons (pv 1) (pa_cons (pv 2) pa_nil)))))
      (pss_cons (ps_if (pt_cmpR op_eq (pv 1) (pe_gi Z.new) (nomark _)) (pss_one (ps_ret (pe_op op_cat (pe_lst (pa_cons pe_int (pa_cons (pe_ix ix_list (pe_fld (pv 0) rfl) (pe_ix ix_list (pv 2) pe_int (fun _ _ => rfl)) (fun _ _ => rfl)) pa_nil))) (pe_cal C3 hr1 (pa_cons (pv 4) pa_nil))))) pss_nil)
      (pss_one (ps_ret (pe_op op_cat (pe_lst (pa_cons pe_int pa_nil)) (pe_cal C3 hr1 (pa_cons (pv 4) pa_nil)))))))), ?_⟩
    obtain ⟨W, M0, tot⟩ := id M
    refine ⟨_, rfl, _, rfl, _, rfl, m, a, W, F, s.heap, p, op, args, rfl, en, hS, M0, G, ?_⟩
    refine ⟨_, rfl, rfl, _, rfl, ?_⟩
    have es := step_eq G p
    by_cases hz : refuse s.heap p = 0
    · rw [if_pos hz] at es
      rw [hz]
      refine iteF ?_
      refine ⟨_, rfl, _, rfl, _, rfl, m, a, F, s, p, op, args, rfl, en, hS, M, G, hz, fun H1 F1 g1 M1 f1 G1 fr => ?_⟩
      have h32 := gone32 G hz
      have gstep : Good (stepI s p).heap [] := good_doI G hz
      have row : ∀ pre : List Nat, pre = 0 :: madeI s.heap p → (pre ++ ((pairsOf s.heap (doI s.heap p).2).length :: ((pairsOf s.heap (doI s.heap p).2).map (·.2)).sum :: (pairsOf s.heap (doI s.heap p).2).map (·.1))).map iV = (rowI s p).map V.int := fun pre e => by
        rw [e, pairs_len, pairs_size]
        have e1 : (pairsOf s.heap (doI s.heap p).2).map (·.1) = (doI s.heap p).2 := by
          unfold pairsOf
          rw [List.map_map]
          exact List.map_id _
        rw [e1]
        unfold rowI
        rw [List.map_cons, ints_toInts, List.cons_append, List.map_cons]
        rfl
      have short : (rowI s p).length ≤ 2000 := by
        unfold rowI Vasnpe.toInts
        rw [List.length_cons, List.length_map, List.length_append, List.length_cons, List.length_cons]
        have : (madeI s.heap p).length ≤ 1 := by cases p <;> simp [madeI]
        omega
      have ending : ∀ (pre : List Nat) (H2 : Hp) (q : Addr), pre = 0 :: madeI s.heap p → pre.length ≤ 2 → Same H1 H2 → H2 q = some (.lst (pre.map iV)) → H1 q = none → ∀ (H3 : Hp) (r : Addr), H2 r = none → H3 r = some (.lst (((pairsOf s.heap (doI s.heap p).2).length :: ((pairsOf s.heap (doI s.heap p).2).map (·.2)).sum :: (pairsOf s.heap (doI s.heap p).2).map (·.1)).map iV)) → Same H2 H3 →
          rCat (.ref q) (.ref r) H3 Q := fun pre H2 q e hp s2 hq hq1 H3 r hr0 hr3 s3 => by
        refine ⟨q, r, _, _, rfl, rfl, s3 _ _ hq, hr3, ?_, fun t ht => ?_⟩
        · rw [List.length_map, List.length_map, List.length_cons, List.length_cons, List.length_map, pairs_len]
          show _ ≤ 16777216
          omega
        · have s13 := s2.trans s3
          rw [← List.map_append, row pre e]
          have f3 : Frm F H F1 H3 := f1.trans (Frm.same s13)
          unfold Tells at k
          rw [es] at k
          exact k _ F1 t ((M1.same s13).same (same_new ht)) gstep (f3.trans (Frm.same (same_new ht))) upd_same short ((M1.same s13).fresh ht) (fun b u e' nb => ne_of_none (f3.keep b u e' nb) ht)
      have hS1 := f1.seq na hS
      refine ⟨_, rfl, rfl, _, rfl, ?_⟩
      cases en with
      | new r kk z n =>
        refine iteT ?_
        obtain ⟨W1, ⟨A1, R1, _⟩, _⟩ := id M1
        refine Rep.macE (R1) fun dx fs hm hlen l1 l2 l3 _ => ?_
        have hR := (new_ok hz).1
        have hrd := reg_read gstep hR
        rw [show Vasnpe.regAt (stepI s (.new r kk z n)).heap r.toNat = some ((Vasnpe.freeId s.heap).getD 0) from new_reg G hz] at hrd
        refine ⟨_, rfl, m, CM, dx, fs, _, rfl, hm, T.clM, T.nReg, l1, _, rfl, a, _, _, _, rfl, rfl, hS1, rfl, A1.ra, _, _, _, rfl, rfl, SqL.of R1.regs, hrd, (by show 2 ≤ sizeLine; decide), fun q hq => ?_⟩
        have s2 : Same H1 (upd H1 q (.lst [.int 0, oV (some ((Vasnpe.freeId s.heap).getD 0))])) := same_new hq
        refine ⟨_, rfl, g1, F1, _, rfl, G1.frm (Frm.same s2), by rw [pairs_len]; omega, fun H3 r' hr0 hr3 s3 => ?_⟩
        exact ending [0, (Vasnpe.freeId s.heap).getD 0] _ q rfl (Nat.le_refl _) s2 upd_same hq H3 r' hr0 hr3 s3
      | copy r q => exact iteF ⟨(by show 1 ≤ sizeLine; decide), fun q hq => ⟨_, rfl, g1, F1, _, rfl, G1.frm (Frm.same (same_new hq)), by rw [pairs_len]; omega, fun H3 r' hr0 hr3 s3 => ending [0] _ q rfl (by decide) (same_new hq) upd_same hq H3 r' hr0 hr3 s3⟩⟩
      | load r q i => exact iteF ⟨(by show 1 ≤ sizeLine; decide), fun q hq => ⟨_, rfl, g1, F1, _, rfl, G1.frm (Frm.same (same_new hq)), by rw [pairs_len]; omega, fun H3 r' hr0 hr3 s3 => ending [0] _ q rfl (by decide) (same_new hq) upd_same hq H3 r' hr0 hr3 s3⟩⟩
      | store q i r => exact iteF ⟨(by show 1 ≤ sizeLine; decide), fun q hq => ⟨_, rfl, g1, F1, _, rfl, G1.frm (Frm.same (same_new hq)), by rw [pairs_len]; omega, fun H3 r' hr0 hr3 s3 => ending [0] _ q rfl (by decide) (same_new hq) upd_same hq H3 r' hr0 hr3 s3⟩⟩
      | clear r => exact iteF ⟨(by show 1 ≤ sizeLine; decide), fun q hq => ⟨_, rfl, g1, F1, _, rfl, G1.frm (Frm.same (same_new hq)), by rw [pairs_len]; omega, fun H3 r' hr0 hr3 s3 => ending [0] _ q rfl (by decide) (same_new hq) upd_same hq H3 r' hr0 hr3 s3⟩⟩
      | collect => exact iteF ⟨(by show 1 ≤ sizeLine; decide), fun q hq => ⟨_, rfl, g1, F1, _, rfl, G1.frm (Frm.same (same_new hq)), by rw [pairs_len]; omega, fun H3 r' hr0 hr3 s3 => ending [0] _ q rfl (by decide) (same_new hq) upd_same hq H3 r' hr0 hr3 s3⟩⟩
    · rw [if_neg hz] at es
      have hne : (!decide (V.int (refuse s.heap p) = V.int 0)) = true := by
        rw [decide_eq_false (fun z => hz (V.int.inj z))]; rfl
      rw [hne]
      refine iteT ⟨_, rfl, (by show 1 ≤ sizeLine; decide), fun q hq => ?_⟩
      unfold Tells at k
      rw [es] at k
      exact k _ F q (M.same (same_new hq)) G (Frm.same (same_new hq)) upd_same (by show 1 ≤ 2000; decide) (M.fresh hq) (fun b u e _ => ne_of_none e hq)
inductive spUpI (vs : List V) (H : Hp) (Q : VK) : Prop
  | mk : ∀ (x : Option Nat), (vs = [oV x]) → (Q (iV (Vasnpe.optRow x)) H) → spUpI vs H Q
def spUp : Sp := fun vs H Q _ => spUpI vs H Q
theorem sc_up : FnScope ["number"] ["number"] (defScope s_one_up) := ⟨rfl, rfl, rfl, by decide +kernel, rfl, by decide +kernel, by decide +kernel⟩
theorem ok_up {f : Addr} {fd : FuncData} (F : Fun K "one_up" "one_up" s_one_up f fd) : FnOk P w K mg base CX0 1 f fd ["number"] spUp := by
  refine F.ok sc_up (fun vs H Q E h => ?_) (fun cdv A0 outer s H vs Q E hr h => ?_)
  · obtain ⟨x, rfl, _⟩ := h
    rfl
  · obtain ⟨x, rfl, k⟩ := h
    refine ⟨_, pss_one (ps_ret (pe_ifExp (pt_cmpR op_isN (pv 0) pe_non (nomark _)) pe_int (pe_op op_add (pv 0) pe_int))), ?_⟩
    refine ⟨_, rfl, rfl, _, rfl, ?_⟩
    cases x with
    | none => exact iteT k
    | some o => exact iteF ⟨_, rfl, _, _, rfl, rfl, k⟩
inductive spRegsI (CM CT : Addr) (vs : List V) (H : Hp) (Q : VK) : Prop
  | mk : ∀ (m : Addr) (F : AS) (s : Vasnpe.State), (vs = [.ref m]) → (MachS CM CT H m F s) → (Good s.heap []) → (Tells CM CT H m F (Vasnpe.step s .regs) Q) → spRegsI CM CT vs H Q
def spRegs (CM CT : Addr) : Sp := fun vs H Q _ => spRegsI CM CT vs H Q
theorem sc_regs : FnScope ["machine", "number"] ["machine"] (defScope s_regs) := ⟨rfl, rfl, rfl, by decide +kernel, rfl, by decide +kernel, by decide +kernel⟩
theorem ok_regs {f : Addr} {fd : FuncData} (F : Fun K "regs" "regs" s_regs f fd) (T : Txt K mg CM CT) (C1 : Callee P w K mg base 1 "one_up" ["number"] spUp) : FnOk P w K mg base CX0 2 f fd ["machine"] (spRegs CM CT) := by
  refine F.ok sc_regs (fun vs H Q E h => ?_) (fun cdv A0 outer s H vs Q E hr h => ?_)
  · obtain ⟨m, F, s, rfl, _⟩ := h
    rfl
  · obtain ⟨m, F, s, rfl, M, G, k⟩ := h
    refine ⟨_, pss_one (ps_ret (pe_op op_cat (pe_lst (pa_cons pe_int pa_nil)) (pe_lc (own := [("number", 1)]) rfl sc_regs.nd (pi_list (pe_fld (pv 0) rfl)) (blkOk_by (N := ["machine", "number"]) (sc := defScope s_regs) (by decide +kernel)) (fun s H C cl fp => pg_name (i := 1) sc_regs.nd rfl (Or.inl rfl)) (fun s H C cl fp => pts_nil) (fun s H C cl fp => pe_cal C1 hr (pa_cons (pv 1) pa_nil))))), ?_⟩
    refine ⟨(by show 1 ≤ sizeLine; decide), fun q hq => ?_⟩
    have s1 : Same H (upd H q (.lst [.int 0])) := same_new hq
    obtain ⟨W, ⟨A, R, eF⟩, tot⟩ := id (M.same s1)
    refine Rep.macE (R) fun dx fs hm hlen l1 l2 l3 _ => ?_
    refine ⟨_, rfl, m, CM, dx, fs, _, rfl, hm, T.clM, T.nReg, l1, A.ra, rfl, ⟨_, SqL.of R.regs⟩, fun D hD => ?_⟩
    refine lc_list (K := K) (a := A.ra) (xs := s.heap.regs.map oV) (fun i H' => H' D = some (.lst (((s.heap.regs.take i).map Vasnpe.optRow).map iV)) ∧ Same (upd H q (.lst [.int 0])) H') ⟨upd_same, same_new hD⟩ (fun i H' _ h => SqL.of (h.2 _ _ R.regs)) ?_ ?_
    · rintro i x H' hi ⟨h1, h2⟩
      obtain ⟨y, hy, rfl⟩ := map_get hi
      refine ⟨rfl, ?_⟩
      unfold tYes
      refine iteT ?_
      refine ⟨_, rfl, y, rfl, _, h1, ?_, ?_, fun b u e => by rw [upd_ne (ne_of_none e hD)]; exact h2 b u e⟩
      · rw [List.length_map, List.length_map, List.length_take, G.rlen]
        exact Nat.lt_of_le_of_lt (show _ ≤ 8 by omega) (by decide)
      · rw [upd_same, take_snoc hy, List.map_append, List.map_append]; rfl
    · rintro H1 ⟨hD1, s2⟩
      rw [List.length_map, List.take_length] at hD1
      have s12 := s1.trans s2
      refine ⟨q, D, _, _, rfl, rfl, s2 _ _ upd_same, hD1, ?_, fun p hp => ?_⟩
      · rw [List.length_map, List.length_map, G.rlen]
        decide
      · refine k _ F p ((M.same s12).same (same_new hp)) G (Frm.same (s12.trans (same_new hp))) ?_ ?_ ((M.same s12).fresh hp) (fun b u e _ => ne_of_none (s12 _ _ e) hp)
        · rw [upd_same]
          show _ = some (HO.lst ((0 :: Vasnpe.toInts (s.heap.regs.map Vasnpe.optRow)).map V.int))
          rw [List.map_cons, ints_toInts]; rfl
        · show (0 :: Vasnpe.toInts (s.heap.regs.map Vasnpe.optRow)).length ≤ 2000
          unfold Vasnpe.toInts
          rw [List.length_cons, List.length_map, List.length_map, G.rlen]
          decide
end
end Hc
set_option Elab.async false
set_option linter.all false
set_option maxRecDepth 100000
set_option maxHeartbeats 4000000
namespace Hc
open PySem PySem.Spec PyProof.Rows L2
inductive CEnc : Vasnpe.Call → Int → List Int → Prop
  | op {p : IOp} {op : Int} {args : List Int} : Enc p op args → CEnc (callI p) op args
  | run (x : List Int) : CEnc (.run x) 6 ((x.length : Int) :: x)
  | regs : CEnc .regs 7 []
  | objects : CEnc .objects 8 []
  | live : CEnc .live 9 []
  | waste : CEnc .waste 10 []
  | suspects : CEnc .suspects 11 []
  | trial : CEnc .trial 12 []
  | row : CEnc .row 13 []
  | holders (o : Int) : CEnc (.holders o) 14 [o]
  | totals : CEnc .totals 15 []
theorem told_enc {l t : List Int} {k : Vasnpe.Call} (h : Told l k t) : ∃ c args, l = c :: (args ++ t) ∧ CEnc k c args := by
  cases h with
  | op0 r k z n => exact ⟨0, [r, k, z, n], rfl, .op (.new r k z n)⟩
  | op1 r s => exact ⟨1, [r, s], rfl, .op (.copy r s)⟩
  | op2 r s i => exact ⟨2, [r, s, i], rfl, .op (.load r s i)⟩
  | op3 s i r => exact ⟨3, [s, i, r], rfl, .op (.store s i r)⟩
  | op4 r => exact ⟨4, [r], rfl, .op (.clear r)⟩
  | op5 => exact ⟨5, [], rfl, .op .collect⟩
  | op6 x => exact ⟨6, _, rfl, .run x⟩
  | op7 => exact ⟨7, [], rfl, .regs⟩
  | op8 => exact ⟨8, [], rfl, .objects⟩
  | op9 => exact ⟨9, [], rfl, .live⟩
  | op10 => exact ⟨10, [], rfl, .waste⟩
  | op11 => exact ⟨11, [], rfl, .suspects⟩
  | op12 => exact ⟨12, [], rfl, .trial⟩
  | op13 => exact ⟨13, [], rfl, .row⟩
  | op14 o => exact ⟨14, [o], rfl, .holders o⟩
  | op15 => exact ⟨15, [], rfl, .totals⟩
theorem Line.inv {l : List Int} {ks : List Vasnpe.Call} (h : Line l ks) (hl : l ≠ []) : ∃ k t ks', ks = k :: ks' ∧ Told l k t ∧ Line t ks' := by
  cases h with
  | nil => exact absurd rfl hl
  | cons a b => exact ⟨_, _, _, rfl, a, b⟩
theorem Line.fin {ks : List Vasnpe.Call} (h : Line [] ks) : ks = [] := by
  cases h with
  | nil => rfl
  | cons a b => cases a
section
variable {P : Program} {w : World} {K : PySem.W.Frag} {mg : Str → Option Value} {base : Heap} {CM CT : Addr}
inductive spMachI (CM CT : Addr) (vs : List V) (H : Hp) (Q : VK) : Prop
  | mk : ∀ (p dx : Addr), (vs = [.ref p]) → (H p = some (.ins CM dx [])) → (∀ (H' : Hp) (F' : AS), MachS CM CT H' p F' Vasnpe.start → (∀ b u, H b = some u → b ≠ p → H' b = some u) → (∀ b, F' b → b = p ∨ H b = none) → Q .non H') → spMachI CM CT vs H Q
def spMach (CM CT : Addr) : Sp := fun vs H Q _ => spMachI CM CT vs H Q
inductive spEndI (K : PySem.W.Frag) (vs : List V) (H : Hp) (Q : VK) : Prop
  | mk : ∀ (a : Addr) (l t : List Int) (place : Nat) (k : Vasnpe.Call), (vs = [.ref a, iV place]) → (SqL K H a (l.map V.int)) → (Told (l.drop place) k t) → (Q (iV (l.length - t.length)) H) → spEndI K vs H Q
def spEnd (K : PySem.W.Frag) : Sp := fun vs H Q _ => spEndI K vs H Q
inductive spAnswerI (K : PySem.W.Frag) (CM CT : Addr) (vs : List V) (H : Hp) (Q : VK) : Prop
  | mk : ∀ (m a : Addr) (F : AS) (s : Vasnpe.State) (k : Vasnpe.Call) (c : Int) (args : List Int), (vs = [.ref m, .int c, .ref a]) → (CEnc k c args) → (SqL K H a (args.map V.int)) → (args.length ≤ 16000) → (¬ F a) → (MachS CM CT H m F s) → (Good s.heap []) → (Tells CM CT H m F (Vasnpe.step s k) Q) → spAnswerI K CM CT vs H Q
def spAnswer (K : PySem.W.Frag) (CM CT : Addr) : Sp := fun vs H Q _ => spAnswerI K CM CT vs H Q
inductive spAnswersI (K : PySem.W.Frag) (vs : List V) (H : Hp) (Q : VK) : Prop
  | mk : ∀ (a : Addr) (ns : List Int), (vs = [.ref a]) → (SqL K H a (ns.map V.int)) → (ns.length ≤ 16000) → (PyVasnpe.answers_asked ns = true) → (∀ (H' : Hp) (p : Addr), H' p = some (.lst ((PyVasnpe.answers ns).map V.int)) → Q (.ref p) H') → spAnswersI K vs H Q
def spAnswers (K : PySem.W.Frag) : Sp := fun vs H Q _ => spAnswersI K vs H Q
theorem sc_answers : FnScope ["calls", "machine", "told", "place", "end", "numbers"] ["calls"] (defScope s_answers) := ⟨rfl, rfl, rfl, by decide +kernel, rfl, by decide +kernel, by decide +kernel⟩
theorem ok_answers {f : Addr} {fd : FuncData} (F : Fun K "answers" "answers" s_answers f fd) (bLen : mg "len" = none) (C0 : Maker P w K mg base 1 "Machine" CM ["self"] (spMach CM CT)) (C1 : Callee P w K mg base 1 "call_end" ["calls", "place"] (spEnd K)) (C2 : Callee P w K mg base 8 "answer" ["machine", "call", "arguments"] (spAnswer K CM CT)) :
    FnOk P w K mg base CX0 9 f fd ["calls"] (spAnswers K) := by
  refine F.ok sc_answers (fun vs H Q E h => ?_) (fun cdv A0 outer s H vs Q E hr h => ?_)
  · obtain ⟨a, ns, rfl, _⟩ := h
    rfl
  · obtain ⟨a, l, rfl, hS, hl, hask, k⟩ := h
    have hr1 : Room 1 _ := hr.mono (by decide)
    have hr2 : Room 2 _ := hr.mono (by decide)
    obtain ⟨ks0, line0, hk60, hans⟩ := answers_of hask
    refine ⟨_, pss_cons (ps_set (i := 1) sc_answers.nd rfl (Or.inl rfl) (pe_mk0 C0 hr2))
      (pss_cons (ps_set (i := 2) sc_answers.nd rfl (Or.inl rfl) (pe_lst pa_nil))
      (pss_cons (ps_set (i := 3) sc_answers.nd rfl (Or.inl rfl) pe_int)
      (pss_cons (ps_while PassesOwn.never (pt_cmpR op_lt (pv 3) (pe_callB call_len_seq (by rfl) bLen PySem.boot_len (pa_cons (pv 0) pa_nil)) (nomark _))
        (pss_cons (ps_set (i := 4) sc_answers.nd rfl (Or.inl rfl) (pe_cal C1 hr1 (pa_cons (pv 0) (pa_cons (pv 3) pa_nil))))
        (pss_cons (ps_set (i := 5) sc_answers.nd rfl (Or.inl rfl) (pe_cal C2 hr (pa_cons (pv 1) (pa_cons (pe_ix ix_list (pv 0) (pv 3) (fun _ _ => rfl)) (pa_cons (pe_slice sl_list (pv 0) (po_some (pe_op op_add (pv 3) pe_int)) (po_some (pv 4))) pa_nil)))))
        (pss_cons (ps_expr (pe_bm PySem.F.plainAttrs_list PySem.F.slot_list_append PySem.F.type_list_append mt_append (pv 2) (pa_cons (pe_callB call_len_seq (by rfl) bLen PySem.boot_len (pa_cons (pv 5) pa_nil)) pa_nil)))
        (pss_cons (ps_expr (pe_bm PySem.F.plainAttrs_list PySem.F.slot_list_extend PySem.F.type_list_extend mt_extend (pv 2) (pa_cons (pv 5) pa_nil)))
        (pss_one (ps_set (i := 3) sc_answers.nd rfl (Or.inl rfl) (pv 4))))))))
      (pss_one (ps_ret (pv 2)))))), ?_⟩
    intro m dm nm ndm nem
    refine ⟨m, dm, rfl, upd_same, fun H1 F1 M1 k1 g1 => ⟨rfl, ?_⟩⟩
    have s1 : Same H H1 := Same.made nm ndm k1
    have out1 : ∀ b u, H b = some u → ¬ F1 b := fun b u e fb => by
      rcases g1 b fb with z | z
      · rw [z, nm] at e; cases e
      · rw [upd_ne (ne_of_none e nm), upd_ne (ne_of_none e ndm), e] at z
        cases z
    refine ⟨Nat.zero_le _, fun g hg => ?_⟩
    have s2 : Same H1 (upd H1 g (.lst [])) := same_new hg
    refine ⟨fun j σ H' => ∃ (place : Nat) (s : Vasnpe.State) (F' : AS) (told : List Int) (ks : List Vasnpe.Call) (v4 v5 : Option V), σ = [some (.ref a), some (.ref m), some (.ref g), some (iV place), v4, v5] ∧ MachS CM CT H' m F' s ∧ Good s.heap [] ∧ Line (l.drop place) ks ∧ told ++ PyFlat.told (playedC s ks) = PyVasnpe.answers l ∧ H' g = some (.lst (told.map V.int)) ∧ ¬ F' g ∧ told.length + 2001 * ks.length ≤ 120060 ∧ (∀ b u, H b = some u → H' b = some u ∧ ¬ F' b) ∧ place ≤ l.length ∧ ks.length = j,
      ⟨ks0.length, 0, Vasnpe.start, F1, [], ks0, none, none, rfl, M1.same s2, good_start, line0, hans.symm, upd_same, M1.fresh hg, by simp; omega, fun b u e => ⟨s2 _ _ (s1 _ _ e), out1 b u e⟩, Nat.zero_le _, rfl⟩, ?_⟩
    rintro j σ H' ⟨place, s, F', told, ks, v4, v5, rfl, M, G, line, heq, hg', ng, hlen, out, hpl, rfl⟩
    have sH : Same H H' := fun b u e => (out b u e).1
    have hS' := sH.seq hS
    refine ⟨_, rfl, _, rfl, a, _, rfl, .inl hS', _, _, rfl, rfl, _, rfl, ?_⟩
    rw [List.length_map]
    refine ite2 (fun hc => ?_) (fun hc => ?_)
    · have hlt : place < l.length := by
        have := of_decide_eq_true hc
        omega
      obtain ⟨kc, t, ks', rfl, tk, line'⟩ := line.inv (fun z => by
        have := congrArg List.length z
        rw [List.length_drop] at this
        simp at this
        omega)
      obtain ⟨c, args, hdrop, cenc⟩ := told_enc tk
      have hlens : l.length - place = 1 + args.length + t.length := by
        have := congrArg List.length hdrop
        rw [List.length_drop, List.length_cons, List.length_append] at this
        omega
      have he : l.length - t.length = place + 1 + args.length := by omega
      have hc0 : l[place]? = some c := by
        have : (l.drop place)[0]? = some c := by rw [hdrop]; rfl
        rw [List.getElem?_drop] at this
        exact this
      have hd1 : l.drop (place + 1) = args ++ t := by
        rw [← List.drop_drop, hdrop]
        rfl
      have hargs : (l.drop (place + 1)).take args.length = args := by rw [hd1, List.take_left]
      have htail : l.drop (place + 1 + args.length) = t := by rw [← List.drop_drop, hd1, List.drop_left]
      refine ⟨fun σ' H'' => ∃ (s : Vasnpe.State) (F' : AS) (told : List Int) (v4 v5 : Option V), σ' = [some (.ref a), some (.ref m), some (.ref g), some (iV (place + 1 + args.length)), v4, v5] ∧ MachS CM CT H'' m F' s ∧ Good s.heap [] ∧ told ++ PyFlat.told (playedC s ks') = PyVasnpe.answers l ∧ H'' g = some (.lst (told.map V.int)) ∧ ¬ F' g ∧ told.length + 2001 * ks'.length ≤ 120060 ∧ ∀ b u, H b = some u → H'' b = some u ∧ ¬ F' b,
        fun σ' H'' ⟨s', F2, told', w4, w5, e1, e2, e3, e4, e5, e6, e7, e8⟩ => ⟨ks'.length, by rw [List.length_cons]; omega, place + 1 + args.length, s', F2, told', ks', w4, w5, e1, e2, e3, by rw [htail]; exact line', e4, e5, e6, e7, e8, by omega, rfl⟩, ?_⟩
      refine ⟨_, rfl, _, rfl, a, l, t, place, kc, rfl, hS', tk, ?_⟩
      rw [he]
      refine ⟨_, rfl, _, rfl, _, rfl, a, _, _, .int c, rfl, rfl, hS', atI_nat (by rw [List.getElem?_map, hc0]; rfl), _, rfl, _, rfl, _, _, rfl, rfl, _, rfl, _, rfl, _, rfl, a, _, rfl, hS', fun b hb => ?_⟩
      have e1 : ((place : Int) + 1) = ((place + 1 : Nat) : Int) := by omega
      have ecut : cutV (l.map V.int) (some ((place : Int) + 1)) (some ((place + 1 + args.length : Nat) : Int)) = args.map V.int := by
        rw [e1, cut_nat (by omega) (by rw [List.length_map]; omega), show place + 1 + args.length - (place + 1) = args.length by omega, ← List.map_drop, ← List.map_take, hargs]
      rw [ecut]
      have s3 : Same H' (upd H' b (.lst (args.map V.int))) := same_new hb
      refine ⟨m, b, F', s, kc, c, args, rfl, cenc, SqL.of upd_same, by omega, M.fresh hb, M.same s3, G, fun H2 F2 g2 M2 G2 f2 hg2 hl2 ng2 fr2 => ?_⟩
      have f02 := (Frm.same (F := F') s3).trans f2
      have hgH2 := f02.keep _ _ hg' ng
      have ngF2 := f02.out hg' ng
      have ngg2 : g ≠ g2 := fr2 _ _ (s3 _ _ hg') ng
      refine ⟨_, rfl, .inl ⟨rfl, _, SqL.of hgH2⟩, _, rfl, g2, _, rfl, .inl (SqL.of hg2), g, _, _, rfl, rfl, hgH2, ?_, ?_⟩
      · rw [List.length_map]
        exact Nat.lt_of_le_of_lt (show _ ≤ 120060 by omega) (by decide)
      have hg2' : upd H2 g (.lst (told.map V.int ++ [.int (((Vasnpe.step s kc).2.map V.int).length : Int)])) g2 = some (.lst ((Vasnpe.step s kc).2.map V.int)) := by rw [upd_ne ngg2.symm]; exact hg2
      refine ⟨_, rfl, .inl ⟨rfl, _, SqL.of upd_same⟩, _, rfl, g, g2, _, _, rfl, rfl, upd_same, hg2', ?_, ?_⟩
      · rw [List.length_append, List.length_map, List.length_map, List.length_singleton]
        rw [List.length_cons] at hlen
        show _ ≤ 16777216
        omega
      · rw [upd_upd]
        refine ⟨_, rfl, (Vasnpe.step s kc).1, F2, told ++ (((Vasnpe.step s kc).2.length : Int) :: (Vasnpe.step s kc).2), _, _, rfl, M2.upd_out ngF2, G2, ?_, ?_, ngF2, ?_, fun b' u e => ?_⟩
        · rw [← heq, playedC, told_cons]
          simp
        · rw [upd_same, List.length_map, List.map_append, List.map_cons]
          simp
        · rw [List.length_append, List.length_cons]
          rw [List.length_cons] at hlen
          omega
        · have h1 := out b' u e
          refine ⟨?_, f02.out h1.1 h1.2⟩
          have nb' : b' ≠ g := fun z => by
            have := s1.free hg
            rw [z, this] at e
            cases e
          rw [upd_ne nb']
          exact f02.keep _ _ h1.1 h1.2
    · have hpe : place = l.length := by
        have : ¬ place < l.length := fun z => hc (decide_eq_true (by omega))
        omega
      rw [hpe, List.drop_length] at line
      have hks := line.fin
      subst hks
      refine ⟨_, rfl, k H' g ?_⟩
      rw [hg', ← heq]
      show _ = some (HO.lst ((told ++ PyFlat.told (playedC s [])).map V.int))
      show _ = some (HO.lst ((told ++ []).map V.int))
      rw [List.append_nil]
end
end Hc
set_option Elab.async false
set_option linter.all false
set_option maxRecDepth 100000
set_option maxHeartbeats 4000000
namespace Hc
open PySem PySem.Spec PyProof.Rows L2
theorem empty_cell (x : Nat) : Vasnpe.cellAt Vasnpe.emptyHeap x = none := by
  rw [cellAt_def]
  show ((List.replicate 32 (none : Option Vasnpe.Cell))[x]?).getD none = none
  rw [List.getElem?_replicate]; split <;> rfl
theorem empty_held : Vasnpe.heldIds Vasnpe.emptyHeap = [] := by
  unfold Vasnpe.heldIds
  rw [List.filter_eq_nil_iff]
  intro x _
  unfold Vasnpe.isHeld
  rw [empty_cell]
  decide
theorem start_rep {CM CT : Addr} {H : Hp} {m dx ra ha sa : Addr} {fs : List (Str × V)} (hm : H m = some (.ins CM dx fs)) (hl : fs.length < 100) (e1 : lk fs "registers" = some (.ref ra)) (e2 : lk fs "held" = some (.ref ha)) (e3 : lk fs "suspects" = some (.ref sa))
    (hr : H ra = some (.lst (List.replicate 8 .non))) (hh : H ha = some (.dK [])) (hs : H sa = some (.lst [])) (ne : ra ≠ sa) : Rep CM CT H m (fun x => lk fs x) ⟨ra, ha, sa, fun _ => 0, fun _ => 0⟩ Vasnpe.emptyHeap where
  mac := ⟨dx, fs, hm, hl, e1, e2, e3, fun _ _ => rfl⟩
  regs := by rw [hr]; rfl
  sus := hs
  held := ⟨[], hh, List.nodup_nil, Nat.zero_le _, by rw [empty_held]; rfl, fun o c e => (by rw [empty_cell] at e; cases e), fun k v e => (by cases e)⟩
  thing := fun o c e => (by rw [empty_cell] at e; cases e)
  sep := ne
  sepS := fun o c e => (by rw [empty_cell] at e; cases e)
  sepT := fun o o' c c' e => (by rw [empty_cell] at e; cases e)
theorem start_foot {A : Adr} {m b : Addr} (f : Foot A m Vasnpe.emptyHeap b) : b = m ∨ b = A.ra ∨ b = A.sa ∨ b = A.ha := by
  rcases f with z | z | z | z | ⟨o, c, e, _⟩
  · exact .inl z
  · exact .inr (.inl z)
  · exact .inr (.inr (.inl z))
  · exact .inr (.inr (.inr z))
  · rw [empty_cell] at e; cases e
section
variable {P : Program} {w : World} {K : PySem.W.Frag} {mg : Str → Option Value} {base : Heap} {CM CT : Addr}
theorem sc_mach : FnScope ["self"] ["self"] (defScope s_Machine_init) := ⟨rfl, rfl, rfl, by decide +kernel, rfl, by decide +kernel, by decide +kernel⟩
theorem ok_mach {f : Addr} {fd : FuncData} (F : Fun K "__init__" "Machine.__init__" s_Machine_init f fd) (T : Txt K mg CM CT) (gR : GI mg "REGISTERS" 8) : FnOk P w K mg base CX0 1 f fd ["self"] (spMach CM CT) := by
  refine F.ok sc_mach (fun vs H Q E h => ?_) (fun cdv A0 outer s H vs Q E hr h => ?_)
  · obtain ⟨p, dx, rfl, _⟩ := h
    rfl
  · obtain ⟨p, dx, rfl, hp, k⟩ := h
    refine ⟨_, pss_cons (ps_fld (pv 0) (pe_op op_rep (pe_lst (pa_cons pe_non pa_nil)) (pe_gi gR)) rfl) (pss_cons (ps_fld (pv 0) pe_dnewK rfl) (pss_cons (ps_fld (pv 0) (pe_lst pa_nil) rfl) (pss_cons (ps_fld (pv 0) pe_int rfl) (pss_one (ps_fld (pv 0) pe_int rfl))))), ?_⟩
    refine ⟨(by show 1 ≤ sizeLine; decide), fun q hq => ⟨q, 8, _, rfl, rfl, upd_same, by decide, by decide, (by show 1 * 8 ≤ 16777216; decide), fun ra hra => ?_⟩⟩
    have nqp : q ≠ p := fun e => by rw [e, hp] at hq; cases hq
    have nrq : ra ≠ q := fun e => by rw [e, upd_same] at hra; cases hra
    have hra0 : H ra = none := by rw [upd_ne nrq] at hra; exact hra
    have nrp : ra ≠ p := fun e => by rw [e, hp] at hra0; cases hra0
    refine ⟨_, rfl, p, CM, dx, [], rfl, (by rw [upd_ne nrp.symm, upd_ne nqp.symm]; exact hp), T.clM, T.nReg, by decide, ?_⟩
    intro ha hha
    have nhp : ha ≠ p := fun e => by rw [e, upd_same] at hha; cases hha
    have nhr : ha ≠ ra := fun e => by rw [e, upd_ne nrp, upd_same] at hha; cases hha
    have nhq : ha ≠ q := fun e => by rw [e, upd_ne nqp, upd_ne nrq.symm, upd_same] at hha; cases hha
    have hha0 : H ha = none := by rw [upd_ne nhp, upd_ne nhr, upd_ne nhq] at hha; exact hha
    refine ⟨_, rfl, p, CM, dx, _, rfl, (by rw [upd_ne nhp.symm]; exact upd_same), T.clM, T.nHeld, (by show 1 < 1000; decide), ?_⟩
    refine ⟨Nat.zero_le _, fun sa hsa => ?_⟩
    have nsp : sa ≠ p := fun e => by rw [e, upd_same] at hsa; cases hsa
    have nsh : sa ≠ ha := fun e => by rw [e, upd_ne nhp, upd_same] at hsa; cases hsa
    have nsr : sa ≠ ra := fun e => by rw [e, upd_ne nrp, upd_ne nhr.symm, upd_ne nrp, upd_same] at hsa; cases hsa
    have nsq : sa ≠ q := fun e => by rw [e, upd_ne nqp, upd_ne nhq.symm, upd_ne nqp, upd_ne nrq.symm, upd_same] at hsa; cases hsa
    have hsa0 : H sa = none := by rw [upd_ne nsp, upd_ne nsh, upd_ne nsp, upd_ne nsr, upd_ne nsq] at hsa; exact hsa
    refine ⟨_, rfl, p, CM, dx, _, rfl, (by rw [upd_ne nsp.symm]; exact upd_same), T.clM, T.nSus, (by show 2 < 1000; decide), ?_⟩
    refine ⟨_, rfl, p, CM, dx, _, rfl, upd_same, T.clM, T.nMade, (by show 3 < 1000; decide), ?_⟩
    rw [upd_upd]
    refine ⟨_, rfl, p, CM, dx, _, rfl, upd_same, T.clM, T.nMadeS, (by show 4 < 1000; decide), ?_⟩
    rw [upd_upd]
    have R := start_rep (CM := CM) (CT := CT) (m := p) (ra := ra) (ha := ha) (sa := sa) (H := upd (upd (upd (upd (upd (upd (upd H q (.lst [.non])) ra (.lst (List.replicate (8 : Int).toNat [V.non]).flatten)) p (.ins CM dx (putF "registers" (.ref ra) []))) ha (.dK [])) p (.ins CM dx (putF "held" (.ref ha) (putF "registers" (.ref ra) [])))) sa (.lst [])) p (.ins CM dx (putF "made_sizes" (.int 0) (putF "made" (.int 0) (putF "suspects" (.ref sa) (putF "held" (.ref ha) (putF "registers" (.ref ra) [])))))))
      upd_same (by show 5 < 100; decide) rfl rfl rfl
      (by rw [upd_ne nrp, upd_ne nsr.symm, upd_ne nrp, upd_ne nhr.symm, upd_ne nrp, upd_same, rep_flat]; rfl)
      (by rw [upd_ne nhp, upd_ne nsh.symm, upd_ne nhp, upd_same])
      (by rw [upd_ne nsp, upd_same]) nsr.symm
    refine k _ _ ⟨_, ⟨_, R, rfl⟩, ⟨rfl, rfl⟩, tot_start⟩ (fun b u e nb => ?_) (fun b fb => ?_)
    · rw [upd_ne nb, upd_ne (ne_of_none e hsa0), upd_ne nb, upd_ne (ne_of_none e hha0), upd_ne nb, upd_ne (ne_of_none e hra0), upd_ne (ne_of_none e hq)]
      exact e
    · rcases start_foot fb with z | z | z | z
      · exact .inl z
      · exact .inr (by rw [z]; exact hra0)
      · exact .inr (by rw [z]; exact hsa0)
      · exact .inr (by rw [z]; exact hha0)
end
end Hc
set_option Elab.async false
set_option linter.all false
set_option maxRecDepth 100000
set_option maxHeartbeats 4000000
namespace Hc
open PySem PySem.Spec PyProof.Rows L2
theorem tells_of {CM CT : Addr} {H H' : Hp} {m g : Addr} {F : AS} {s : Vasnpe.State} {row : List Int} {Q : VK} (M : MachS CM CT H m F s) (G : Good s.heap []) (k : Tells CM CT H m F (s, row) Q) (sm : Same H H') (hg : H g = none) (h : H' g = some (.lst (row.map V.int))) (hl : row.length ≤ 2000) : Q (.ref g) H' :=
  k H' F g (M.same sm) G (Frm.same sm) h hl (M.fresh hg) (fun b u e _ => ne_of_none e hg)
theorem row_vals (l : List Nat) : (0 :: Vasnpe.toInts l).map V.int = (0 :: l).map iV := by rw [List.map_cons, ints_toInts]; rfl
theorem row_len (l : List Nat) : (0 :: Vasnpe.toInts l).length = l.length + 1 := by unfold Vasnpe.toInts; rw [List.length_cons, List.length_map]
theorem tells_nat {CM CT : Addr} {H H' : Hp} {m g : Addr} {F : AS} {s : Vasnpe.State} {l : List Nat} {Q : VK} (M : MachS CM CT H m F s) (G : Good s.heap []) (k : Tells CM CT H m F (s, 0 :: Vasnpe.toInts l) Q) (sm : Same H H') (hg : H g = none) (h : H' g = some (.lst ((0 :: l).map iV))) (hl : l.length ≤ 1999) : Q (.ref g) H' :=
  tells_of M G k sm hg (by rw [row_vals]; exact h) (by rw [row_len]; omega)
def keyN : Key → Nat
  | Sum.inl i => i.toNat
  | Sum.inr _ => 0
theorem keyN_nk (o : Nat) : keyN (nk o) = o := by
  show ((o : Int)).toNat = o
  omega
theorem HeldAt.keys {H : Hp} {ha : Addr} {tA : Nat → Addr} {h : Vasnpe.Heap} (t : HeldAt H ha tA h) : ∃ ms : List Nat, H ha = some (.dK (ms.map fun o => (nk o, V.ref (tA o)))) ∧ ms.Nodup ∧ ms.length ≤ 32 ∧ ms.length = (Vasnpe.heldIds h).length ∧ ∀ o, o ∈ ms ↔ ∃ c, Vasnpe.cellAt h o = some c := by
  obtain ⟨kvs, e, nd, l1, l2, ka, kb⟩ := t.ex
  have each : ∀ p, p ∈ kvs → ∃ o c, p = (nk o, V.ref (tA o)) ∧ Vasnpe.cellAt h o = some c := fun p hp => by
    obtain ⟨i, hi⟩ := List.getElem?_of_mem hp
    have hv := valV_get (k := p.1) (v := p.2) nd hi
    obtain ⟨o, c, e1, e2⟩ := kb _ _ hv
    refine ⟨o, c, ?_, e2⟩
    have := ka o c e2
    rw [← e1, hv] at this
    have e3 := Option.some.inj this
    exact Prod.ext e1 e3
  have eq : kvs = (kvs.map fun p => keyN p.1).map fun o => (nk o, V.ref (tA o)) := by
    rw [List.map_map]
    conv => lhs; rw [← List.map_id kvs]
    refine List.map_congr_left fun p hp => ?_
    obtain ⟨o, c, e1, _⟩ := each p hp
    rw [e1]
    show (nk o, V.ref (tA o)) = (nk (keyN (nk o)), V.ref (tA (keyN (nk o))))
    rw [keyN_nk]
  refine ⟨kvs.map fun p => keyN p.1, by rw [← eq]; exact e, ?_, by rw [List.length_map]; exact l1, by rw [List.length_map]; exact l2, fun o => ?_⟩
  · have h1 : ((kvs.map fun p => keyN p.1).map nk).Nodup := by
      have : (kvs.map fun p => keyN p.1).map nk = kvs.map (·.1) := by
        conv => rhs; rw [eq]
        rw [List.map_map, List.map_map, List.map_map]
        rfl
      rw [this]
      exact nd
    exact List.Pairwise.of_map nk (fun a b hab z => hab (by rw [z])) h1
  · constructor
    · intro ho
      obtain ⟨p, hp, e1⟩ := List.mem_map.mp ho
      obtain ⟨o', c, e2, e3⟩ := each p hp
      rw [e2] at e1
      have e1 : keyN (nk o') = o := e1
      rw [keyN_nk] at e1
      subst e1
      exact ⟨c, e3⟩
    · rintro ⟨c, ec⟩
      have hm := valV_in (ka o c ec)
      obtain ⟨p, hp, e1⟩ := List.mem_map.mp hm
      exact List.mem_map.mpr ⟨p, hp, by rw [e1]; exact keyN_nk o⟩
theorem HeldAt.sorted {H : Hp} {ha : Addr} {tA : Nat → Addr} {h : Vasnpe.Heap} (t : HeldAt H ha tA h) (hl : h.cells.length = 32) : ∃ (kvs : List (Key × V)) (ns : List Int), H ha = some (.dK kvs) ∧ kvs.map (·.1) = ns.map Sum.inl ∧ ns.length < 64 ∧
    ∀ ns' : List Int, ns'.Perm ns → ns'.Pairwise (· ≤ ·) → ns'.map V.int = (Vasnpe.heldIds h).map iV := by
  obtain ⟨ms, e, nd, l1, _, mem⟩ := t.keys
  refine ⟨_, ms.map fun (n : Nat) => (n : Int), e, by rw [List.map_map, List.map_map]; rfl, by rw [List.length_map]; omega, fun ns' hp hs => ?_⟩
  rw [sorted_held hl hp hs nd mem, iV_ints]
theorem HeldAt.sortedE {H : Hp} {ha : Addr} {tA : Nat → Addr} {h : Vasnpe.Heap} {G : Prop} (t : HeldAt H ha tA h) (hl : h.cells.length = 32) (k : ∀ (kvs : List (Key × V)) (ns : List Int), H ha = some (.dK kvs) → kvs.map (·.1) = ns.map Sum.inl → ns.length < 64 → (∀ ns' : List Int, ns'.Perm ns → ns'.Pairwise (· ≤ ·) → ns'.map V.int = (Vasnpe.heldIds h).map iV) → G) : G := by
  obtain ⟨a, b, c, d, e, f⟩ := t.sorted hl
  exact k a b c d e f
section
variable {P : Program} {w : World} {K : PySem.W.Frag} {mg : Str → Option Value} {base : Heap} {CM CT : Addr}
inductive spViewI (CM CT : Addr) (c : Vasnpe.Call) (vs : List V) (H : Hp) (Q : VK) : Prop
  | mk : ∀ (m : Addr) (F : AS) (s : Vasnpe.State), (vs = [.ref m]) → (MachS CM CT H m F s) → (Good s.heap []) → (Tells CM CT H m F (Vasnpe.step s c) Q) → spViewI CM CT c vs H Q
def spView (CM CT : Addr) (c : Vasnpe.Call) : Sp := fun vs H Q _ => spViewI CM CT c vs H Q
theorem sc_sus : FnScope ["machine"] ["machine"] (defScope s_suspects) := ⟨rfl, rfl, rfl, by decide +kernel, rfl, by decide +kernel, by decide +kernel⟩
theorem ok_sus {f : Addr} {fd : FuncData} (F : Fun K "suspects" "suspects" s_suspects f fd) (T : Txt K mg CM CT) : FnOk P w K mg base CX0 1 f fd ["machine"] (spView CM CT .suspects) := by
  refine F.ok sc_sus (fun vs H Q E h => ?_) (fun cdv A0 outer s H vs Q E hr h => ?_)
  · obtain ⟨m, F, s, rfl, _⟩ := h
    rfl
  · obtain ⟨m, F, s, rfl, M, G, k⟩ := h
    refine ⟨_, pss_one (ps_ret (pe_op op_cat (pe_lst (pa_cons pe_int pa_nil)) (pe_fld (pv 0) rfl))), ?_⟩
    obtain ⟨W, ⟨A, R0, eF⟩, tot⟩ := id M
    have hs32 := nodup_le G.snd (fun x hx => (sus_held G).lt G x hx)
    refine ⟨(by show 1 ≤ sizeLine; decide), fun q hq => ?_⟩
    have s1 : Same H (upd H q (.lst [.int 0])) := same_new hq
    have R := R0.same s1
    refine Rep.macE (R) fun dx fs hm hlen l1 l2 l3 _ => ?_
    refine ⟨_, rfl, m, CM, dx, fs, _, rfl, hm, T.clM, T.nSus, l3, q, A.sa, _, _, rfl, rfl, upd_same, R.sus, ?_, fun p hp => ?_⟩
    · rw [List.length_map]
      show 1 + s.heap.suspects.length ≤ 16777216
      omega
    · refine tells_nat M G k (s1.trans (same_new hp)) (s1.free hp) ?_ (by omega)
      rw [upd_same]
      rfl
inductive spLiveNI (CM CT : Addr) (vs : List V) (H : Hp) (Q : VK) : Prop
  | mk : ∀ (m : Addr) (W : Str → Option V) (A : Adr) (h : Vasnpe.Heap), (vs = [.ref m]) → (Rep CM CT H m W A h) → (Good h []) → (∀ (H' : Hp) (g : Addr), H g = none → H' g = some (.lst ((Vasnpe.liveIds h).map iV)) → Same H H' → Q (.ref g) H') → spLiveNI CM CT vs H Q
def spLiveN (CM CT : Addr) : Sp := fun vs H Q _ => spLiveNI CM CT vs H Q
theorem sc_liveN : FnScope ["machine"] ["machine"] (defScope s_live_numbers) := ⟨rfl, rfl, rfl, by decide +kernel, rfl, by decide +kernel, by decide +kernel⟩
theorem ok_liveN {f : Addr} {fd : FuncData} (F : Fun K "live_numbers" "live_numbers" s_live_numbers f fd) (T : Txt K mg CM CT) (bSorted : mg "sorted" = none) (C1 : Callee P w K mg base 2 "reached" ["machine", "numbers"] (spReach K CM CT)) (C2 : Callee P w K mg base 1 "filled" ["places"] (spFilled K)) : FnOk P w K mg base CX0 3 f fd ["machine"] (spLiveN CM CT) := by
  refine F.ok sc_liveN (fun vs H Q E h => ?_) (fun cdv A0 outer s H vs Q E hr h => ?_)
  · obtain ⟨m, W, A, h, rfl, _⟩ := h
    rfl
  · obtain ⟨m, W, A, h, rfl, R, G, k⟩ := h
    have hr1 : Room 1 _ := hr.mono (by decide)
    refine ⟨_, pss_one (ps_ret (pe_callB cr_sorted (by rfl) bSorted (by rfl) (pa_cons (pe_cal C1 hr (pa_cons (pv 0) (pa_cons (pe_cal C2 hr1 (pa_cons (pe_fld (pv 0) rfl) pa_nil)) pa_nil))) pa_nil))), ?_⟩
    refine Rep.macE (R) fun dx fs hm hlen l1 l2 l3 _ => ?_
    refine ⟨_, rfl, _, rfl, m, CM, dx, fs, _, rfl, hm, T.clM, T.nReg, l1, A.ra, h.regs, rfl, SqL.of R.regs, by rw [G.rlen]; decide, fun H1 q hq hq1 s1 => ?_⟩
    have h8 : (h.regs.filterMap fun x => x).length ≤ 8 := by
      have := List.length_filterMap_le (fun x => x) h.regs
      rw [G.rlen] at this
      exact this
    refine ⟨m, q, W, A, h, [], _, rfl, R.same s1, G, .inl hq1, regsFull_held G, by omega, fun H2 g hg hg2 s2 => ?_⟩
    have hg2 : H2 g = some (.lst ((liveAll h).map iV)) := hg2
    have h32 : (liveAll h).length ≤ 32 := nodup_le (liveAll_nodup G) ((liveAll_held G).lt G)
    rw [iV_ints] at hg2
    refine ⟨g, _, rfl, SqL.of hg2, by rw [List.length_map]; omega, fun ns' p hp hs hpn => ?_⟩
    have s12 := s1.trans s2
    refine k _ p (s12.free hpn) ?_ (s12.trans (same_new hpn))
    rw [upd_same, sorted_live G hp hs, iV_ints]
theorem sc_live : FnScope ["machine"] ["machine"] (defScope s_live) := ⟨rfl, rfl, rfl, by decide +kernel, rfl, by decide +kernel, by decide +kernel⟩
theorem live_len (h : Vasnpe.Heap) : (Vasnpe.liveIds h).length ≤ 32 := by
  rw [liveIds_eq]
  exact Nat.le_trans (List.length_filter_le ..) (heldIds_len h)
theorem ok_live {f : Addr} {fd : FuncData} (F : Fun K "live" "live" s_live f fd) (C1 : Callee P w K mg base 3 "live_numbers" ["machine"] (spLiveN CM CT)) : FnOk P w K mg base CX0 4 f fd ["machine"] (spView CM CT .live) := by
  refine F.ok sc_live (fun vs H Q E h => ?_) (fun cdv A0 outer s H vs Q E hr h => ?_)
  · obtain ⟨m, F, s, rfl, _⟩ := h
    rfl
  · obtain ⟨m, F, s, rfl, M, G, k⟩ := h
    refine ⟨_, pss_one (ps_ret (pe_op op_cat (pe_lst (pa_cons pe_int pa_nil)) (pe_cal C1 hr (pa_cons (pv 0) pa_nil)))), ?_⟩
    obtain ⟨W, ⟨A, R0, eF⟩, tot⟩ := id M
    refine ⟨(by show 1 ≤ sizeLine; decide), fun q hq => ?_⟩
    have s1 : Same H (upd H q (.lst [.int 0])) := same_new hq
    refine ⟨_, rfl, m, W, A, s.heap, rfl, R0.same s1, G, fun H2 g hg hg2 s2 => ?_⟩
    have h32 := live_len s.heap
    have s12 := s1.trans s2
    refine ⟨q, g, _, _, rfl, rfl, s2 _ _ upd_same, hg2, ?_, fun p hp => ?_⟩
    · rw [List.length_map]
      show 1 + (Vasnpe.liveIds s.heap).length ≤ 16777216
      omega
    · refine tells_nat M G k (s12.trans (same_new hp)) (s12.free hp) ?_ (by omega)
      rw [upd_same]
      rfl
theorem sc_waste : FnScope ["machine", "alive", "numbers", "number"] ["machine"] (defScope s_waste) := ⟨rfl, rfl, rfl, by decide +kernel, rfl, by decide +kernel, by decide +kernel⟩
theorem ok_waste {f : Addr} {fd : FuncData} (F : Fun K "waste" "waste" s_waste f fd) (T : Txt K mg CM CT) (bSorted : mg "sorted" = none) (C1 : Callee P w K mg base 3 "live_numbers" ["machine"] (spLiveN CM CT)) (C2 : Callee P w K mg base 1 "sizes_together" ["things"] (spSizes K CT)) : FnOk P w K mg base CX0 4 f fd ["machine"] (spView CM CT .waste) := by
  refine F.ok sc_waste (fun vs H Q E h => ?_) (fun cdv A0 outer s H vs Q E hr h => ?_)
  · obtain ⟨m, F, s, rfl, _⟩ := h
    rfl
  · obtain ⟨m, F, s, rfl, M, G, k⟩ := h
    have hu := hu_of hr
    have hr1 : Room 1 _ := hr.mono (by decide)
    refine ⟨_, pss_cons (ps_set (i := 1) sc_waste.nd rfl (Or.inr rfl) (pe_cal C1 hr (pa_cons (pv 0) pa_nil)))
      (pss_cons (ps_setLc (i := 2) (own := [("number", 3)]) rfl sc_waste.nd rfl rfl (sw_true rfl rfl rfl rfl) (pi_list (pe_callB (cr_sortedD rfl) (by rfl) bSorted (by rfl) (pa_cons (pe_fld (pv 0) rfl) pa_nil))) (blkOk_by (N := ["machine", "alive", "numbers", "number"]) (sc := defScope s_waste) (by decide +kernel)) (fun s H C cl fp => pg_name (i := 3) sc_waste.nd rfl (Or.inl rfl))
        (fun s H C cl fp => pts_one (pt_cmpR (show OpR _ _ (rIn K true) from op_notIn_seq) (pv 3) (pv 1) (by rfl))) (fun s H C cl fp => pv 3))
      (pss_one (ps_ret (pe_op op_cat (pe_lst (pa_cons pe_int (pa_cons (pe_cal C2 hr1 (pa_cons (pe_lc (own := [("number", 3)]) rfl sc_waste.nd (pi_list (pv 2)) (blkOk_by (N := ["machine", "alive", "numbers", "number"]) (sc := defScope s_waste) (by decide +kernel)) (fun s H C cl fp => pg_name (i := 3) sc_waste.nd rfl (Or.inl rfl))
        (fun s H C cl fp => pts_nil) (fun s H C cl fp => (show PE _ _ (tDGet (tFld K (tVar 0) "held") (tVar 3)) from pe_dget hu (pe_fld (pv 0) rfl) (pv 3) (fun _ _ => rfl)))) pa_nil)) pa_nil))) (pv 2))))), ?_⟩
    obtain ⟨W, ⟨A, R, eF⟩, tot⟩ := id M
    refine ⟨_, rfl, m, W, A, s.heap, rfl, R, G, fun H1 al hal hal1 s1 => ?_⟩
    have R1 := R.same s1
    refine Rep.macE (R1) fun dx fs hm hlen l1 l2 l3 _ => ?_
    refine HeldAt.sortedE (R1.held) G.clen fun kvs ns hk hkeys h64 hsort => ?_
    refine ⟨_, rfl, m, CM, dx, fs, _, rfl, hm, T.clM, T.nHeld, l2, A.ha, kvs, ns, rfl, hk, hkeys, h64, fun ns' p hp hs hpn => ?_⟩
    rw [hsort ns' hp hs]
    have s2 : Same H1 (upd H1 p (.lst ((Vasnpe.heldIds s.heap).map iV))) := same_new hpn
    have s12 := s1.trans s2
    have hpl : upd H1 p (.lst ((Vasnpe.heldIds s.heap).map iV)) p = some (.lst ((Vasnpe.heldIds s.heap).map iV)) := upd_same
    have hal2 := s2 _ _ hal1
    generalize upd H1 p (.lst ((Vasnpe.heldIds s.heap).map iV)) = H2 at s2 s12 hpl hal2
    have hh32 := heldIds_len s.heap
    refine ⟨p, rfl, ⟨_, SqL.of hpl⟩, fun D hD => ?_⟩
    refine lc_list (K := K) (a := p) (xs := (Vasnpe.heldIds s.heap).map iV) (fun i H' => H' D = some (.lst ((((Vasnpe.heldIds s.heap).take i).filter fun o => !(Vasnpe.liveIds s.heap).contains o).map iV)) ∧ Same H2 H') ⟨upd_same, same_new hD⟩ (fun i H' _ h => SqL.of (h.2 _ _ hpl)) ?_ ?_
    · rintro i x H' hi ⟨h1, h2⟩
      obtain ⟨o, ho, rfl⟩ := map_get hi
      refine ⟨rfl, _, rfl, _, rfl, al, _, rfl, .inl (SqL.of (h2 _ _ hal2)), rfl, flat_ints _, _, rfl, ?_⟩
      show if (!inV (iV o) ((Vasnpe.liveIds s.heap).map iV)) = true then _ else _
      rw [inV_nat]
      refine ite2 (fun hc => ?_) (fun hc => ?_)
      · refine ⟨_, rfl, _, h1, ?_, ?_, fun b u e => by rw [upd_ne (ne_of_none e hD)]; exact h2 b u e⟩
        · rw [List.length_map]
          have := List.length_filter_le (fun o => !(Vasnpe.liveIds s.heap).contains o) ((Vasnpe.heldIds s.heap).take i)
          have h3 : ((Vasnpe.heldIds s.heap).take i).length ≤ (Vasnpe.heldIds s.heap).length := by rw [List.length_take]; omega
          exact Nat.lt_of_le_of_lt (show _ ≤ 32 by omega) (by decide)
        · rw [upd_same, filter_take_pos (p := fun o => !(Vasnpe.liveIds s.heap).contains o) ho hc, List.map_append]; rfl
      · refine ⟨?_, h2⟩
        rw [filter_take_neg (p := fun o => !(Vasnpe.liveIds s.heap).contains o) ho hc]
        exact h1
    · rintro H3 ⟨hD3, s3⟩
      rw [List.length_map, List.take_length] at hD3
      have hD3 : H3 D = some (.lst ((Vasnpe.wasteIds s.heap).map iV)) := hD3
      have s03 := s12.trans s3
      have hw : (Vasnpe.wasteIds s.heap).length ≤ 32 := by
        rw [waste_eq2]
        exact Nat.le_trans (List.length_filter_le ..) hh32
      have hheld : HeldAll s.heap (Vasnpe.wasteIds s.heap) := fun o ho => by
        rw [waste_eq2] at ho
        exact (heldIds_mem G.clen).mp (List.mem_filter.mp ho).1
      refine ⟨_, rfl, D, rfl, ⟨_, SqL.of hD3⟩, fun E hE => ?_⟩
      refine lc_list (K := K) (a := D) (xs := (Vasnpe.wasteIds s.heap).map iV) (fun i H' => H' E = some (.lst (((Vasnpe.wasteIds s.heap).take i).map fun o => V.ref (A.tA o))) ∧ Same H3 H') ⟨upd_same, same_new hE⟩ (fun i H' _ h => SqL.of (h.2 _ _ hD3)) ?_ ?_
      · rintro i x H' hi ⟨h1, h2⟩
        obtain ⟨o, ho, rfl⟩ := map_get hi
        obtain ⟨c, ec⟩ := hheld o (List.mem_of_getElem? ho)
        have R' := R.same (s03.trans h2)
        refine Rep.macE (R') fun dx' fs' hm' hlen' l1' l2' l3' _ => ?_
        refine HeldAt.exE (R'.held) fun hks hk' _ _ _ ka _ => ?_
        have hg1 : DGet H' A.ha (iV o) (some (.ref (A.tA o))) := by
          have := DGet.k (k := nk o) hk'
          rw [ka o c ec] at this
          exact this
        refine ⟨rfl, ?_⟩
        unfold tYes
        refine iteT ?_
        refine ⟨_, rfl, m, CM, dx', fs', _, rfl, hm', T.clM, T.nHeld, l2', _, rfl, A.ha, _, rfl, hg1, _, h1, ?_, ?_, fun b u e => by rw [upd_ne (ne_of_none e hE)]; exact h2 b u e⟩
        · rw [List.length_map, List.length_take]
          exact Nat.lt_of_le_of_lt (show _ ≤ 32 by omega) (by decide)
        · rw [upd_same, take_snoc ho, List.map_append]; rfl
      · rintro H4 ⟨hE4, s4⟩
        rw [List.length_map, List.take_length] at hE4
        have s04 := s03.trans s4
        have R4 := R.same s04
        refine ⟨E, (Vasnpe.wasteIds s.heap).map fun o => (A.tA o, zOf s.heap o), rfl, SqL.of (by rw [hE4, List.map_map]; rfl), fun q hq => ?_, by rw [List.length_map]; omega, fun H5 s5 => ?_⟩
        · obtain ⟨o, ho, rfl⟩ := List.mem_map.mp hq
          obtain ⟨c, ec⟩ := hheld o ho
          refine ThingAt.exE ((R4.thing o c ec)) fun dt ft t1 t2 t3 t4 t5 t6 t7 => ?_
          refine ⟨dt, ft, t1, ?_⟩
          show ft.lookup ("size" : Str) = some (iV (zOf s.heap o))
          unfold zOf
          rw [ec]
          exact t5
        · have esum : (((Vasnpe.wasteIds s.heap).map fun o => (A.tA o, zOf s.heap o)).map (·.2)).sum = Vasnpe.sizeOf s.heap (Vasnpe.wasteIds s.heap) := by
            rw [sizeOf_eq, List.map_map]; rfl
          rw [esum]
          refine ⟨(by show 2 ≤ sizeLine; decide), fun q hq => ?_⟩
          have s05 := s04.trans s5
          have s6 : Same H5 (upd H5 q (.lst [.int 0, iV (Vasnpe.sizeOf s.heap (Vasnpe.wasteIds s.heap))])) := same_new hq
          refine ⟨_, rfl, q, D, _, _, rfl, rfl, upd_same, s6 _ _ (s5 _ _ (s4 _ _ hD3)), ?_, fun r hr' => ?_⟩
          · rw [List.length_map]
            show 2 + (Vasnpe.wasteIds s.heap).length ≤ 16777216
            omega
          · refine tells_nat M G k ((s05.trans s6).trans (same_new hr')) ((s05.trans s6).free hr') ?_ (by rw [List.length_cons]; omega)
            rw [upd_same]
            rfl
end
end Hc
set_option Elab.async false
set_option linter.all false
set_option maxRecDepth 100000
set_option maxHeartbeats 4000000
namespace Hc
open PySem PySem.Spec PyProof.Rows L2
structure Lp (H : Hp) (g : Addr) (xs : List V) (q : Addr) (ys : List V) (H' : Hp) : Prop where
  hg : H' g = some (.lst xs)
  hq : H' q = some (.lst ys)
  sm : Same H H'
theorem Lp.new {H H' : Hp} {g q p : Addr} {xs ys : List V} {o : HO} (L : Lp H g xs q ys H') (hp : H' p = none) : Lp H g xs q ys (upd H' p o) := ⟨by rw [upd_ne (ne_of_none L.hg hp)]; exact L.hg, by rw [upd_ne (ne_of_none L.hq hp)]; exact L.hq, L.sm.trans (same_new hp)⟩
theorem Lp.same {H H' H'' : Hp} {g q : Addr} {xs ys : List V} (L : Lp H g xs q ys H') (s : Same H' H'') : Lp H g xs q ys H'' := ⟨s _ _ L.hg, s _ _ L.hq, L.sm.trans s⟩
theorem Lp.wr {H H' : Hp} {g q : Addr} {xs xs' ys : List V} (L : Lp H g xs q ys H') (n : q ≠ g) (hg : H g = none) : Lp H g xs' q ys (upd H' g (.lst xs')) := ⟨upd_same, by rw [upd_ne n]; exact L.hq, fun b u e => by rw [upd_ne (ne_of_none e hg)]; exact L.sm b u e⟩
section
variable {P : Program} {w : World} {K : PySem.W.Frag} {mg : Str → Option Value} {base : Heap} {CM CT : Addr}
theorem sc_objects : FnScope ["machine", "told", "number", "thing", "inner"] ["machine"] (defScope s_objects) := ⟨rfl, rfl, rfl, by decide +kernel, rfl, by decide +kernel, by decide +kernel⟩
theorem ok_objects {f : Addr} {fd : FuncData} (F : Fun K "objects" "objects" s_objects f fd) (T : Txt K mg CM CT) (bLen : mg "len" = none) (bSorted : mg "sorted" = none) (C1 : Callee P w K mg base 1 "one_up" ["number"] spUp) : FnOk P w K mg base CX0 2 f fd ["machine"] (spView CM CT .objects) := by
  refine F.ok sc_objects (fun vs H Q E h => ?_) (fun cdv A0 outer s H vs Q E hr h => ?_)
  · obtain ⟨m, F, s, rfl, _⟩ := h
    rfl
  · obtain ⟨m, F, s, rfl, M, G, k⟩ := h
    have hu := hu_of hr
    refine ⟨_, pss_cons (ps_set (i := 1) sc_objects.nd rfl (Or.inl rfl) (pe_lst (pa_cons pe_int pa_nil)))
      (pss_cons (ps_for PassesOwn.never rfl (pi_list (pe_callB (cr_sortedD rfl) (by rfl) bSorted (by rfl) (pa_cons (pe_fld (pv 0) rfl) pa_nil))) (pg_name (i := 2) sc_objects.nd rfl (Or.inl rfl))
        (pss_cons (ps_set (i := 3) sc_objects.nd rfl (Or.inl rfl) (pe_dget hu (pe_fld (pv 0) rfl) (pv 2) (fun _ _ => rfl)))
        (pss_cons (ps_expr (pe_bm PySem.F.plainAttrs_list PySem.F.slot_list_extend PySem.F.type_list_extend mt_extend (pv 1) (pa_cons (pe_lst (pa_cons (pv 2) (pa_cons (pe_fld (pv 3) rfl) (pa_cons (pe_fld (pv 3) rfl) (pa_cons (pe_fld (pv 3) rfl) (pa_cons (pe_callB call_len_seq (by rfl) bLen PySem.boot_len (pa_cons (pe_fld (pv 3) rfl) pa_nil)) pa_nil)))))) pa_nil)))
        (pss_one (ps_expr (pe_bm PySem.F.plainAttrs_list PySem.F.slot_list_extend PySem.F.type_list_extend mt_extend (pv 1) (pa_cons (pe_lc (own := [("inner", 4)]) rfl sc_objects.nd (pi_list (pe_fld (pv 3) rfl)) (blkOk_by (N := ["machine", "told", "number", "thing", "inner"]) (sc := defScope s_objects) (by decide +kernel)) (fun s H C cl fp => pg_name (i := 4) sc_objects.nd rfl (Or.inl rfl)) (fun s H C cl fp => pts_nil) (fun s H C cl fp => pe_cal C1 hr (pa_cons (pv 4) pa_nil))) pa_nil)))))))
      (pss_one (ps_ret (pv 1)))), ?_⟩
    obtain ⟨W, ⟨A, R, eF⟩, tot⟩ := id M
    refine ⟨(by show 1 ≤ sizeLine; decide), fun g hg => ?_⟩
    have s1 : Same H (upd H g (.lst [.int 0])) := same_new hg
    have hg1 : upd H g (.lst [.int 0]) g = some (.lst [.int 0]) := upd_same
    generalize upd H g (.lst [.int 0]) = H1 at s1 hg1
    have R1 := R.same s1
    refine Rep.macE (R1) fun dx fs hm hlen l1 l2 l3 _ => ?_
    refine HeldAt.sortedE (R1.held) G.clen fun kvs ns hk hkeys h64 hsort => ?_
    refine ⟨_, rfl, m, CM, dx, fs, _, rfl, hm, T.clM, T.nHeld, l2, A.ha, kvs, ns, rfl, hk, hkeys, h64, fun ns' q hp hs hq => ?_⟩
    rw [hsort ns' hp hs]
    have nqg : q ≠ g := fun z => by rw [z, hg1] at hq; cases hq
    have hh32 := heldIds_len s.heap
    refine ⟨q, rfl, ⟨_, SqL.of upd_same⟩, for_list (K := K) (a := q) (xs := (Vasnpe.heldIds s.heap).map iV) (fun i σ H' => ∃ v2 v3 : Option V, σ = [some (.ref m), some (.ref g), v2, v3, none] ∧ Lp H g ((0 :: ((Vasnpe.heldIds s.heap).take i).flatMap (Vasnpe.objectRow s.heap)).map iV) q ((Vasnpe.heldIds s.heap).map iV) H')
      ⟨none, none, rfl, by rw [upd_ne nqg.symm]; exact hg1, upd_same, s1.trans (same_new hq)⟩ (fun i σ H' _ ⟨_, _, _, L⟩ => SqL.of L.hq) ?_ ?_⟩
    · rintro i y σ H' hi ⟨v2, v3, rfl, L⟩
      obtain ⟨o, ho, rfl⟩ := map_get hi
      obtain ⟨c, ec⟩ := (heldIds_mem G.clen).mp (List.mem_of_getElem? ho)
      have R' := R.same L.sm
      refine Rep.macE (R') fun dx' fs' hm' hlen' l1' l2' l3' _ => ?_
      refine HeldAt.exE (R'.held) fun hks hk' _ _ _ ka _ => ?_
      have hd1 : DGet H' A.ha (iV o) (some (.ref (A.tA o))) := by
        have := DGet.k (k := nk o) hk'
        rw [ka o c ec] at this
        exact this
      refine ThingAt.exE ((R'.thing o c ec)) fun dt ft t1 t2 t3 t4 t5 t6 t7 => ?_
      have hlen1 : (((0 :: ((Vasnpe.heldIds s.heap).take i).flatMap (Vasnpe.objectRow s.heap)).map iV)).length ≤ 321 := by
        rw [List.length_map, List.length_cons]
        have := objects_len G ((Vasnpe.heldIds s.heap).take i)
        rw [List.length_take] at this
        omega
      have h5 := slots5 G ec
      refine ⟨_, rfl, m, CM, dx', fs', _, rfl, hm', T.clM, T.nHeld, l2', _, rfl, A.ha, _, rfl, hd1, ?_⟩
      refine ⟨_, rfl, .inl ⟨rfl, _, SqL.of L.hg⟩, _, rfl, _, rfl, A.tA o, CT, dt, ft, _, rfl, t1, T.clT, T.nKind, t4, _, rfl, A.tA o, CT, dt, ft, _, rfl, t1, T.clT, T.nSize, t5, _, rfl, A.tA o, CT, dt, ft, _, rfl, t1, T.clT, T.nCnt, t7, _, rfl, A.tA o, CT, dt, ft, _, rfl, t1, T.clT, T.nSlots, t6, A.sA o, _, rfl, .inl (SqL.of (R'.thing o c ec).sl), (by show 5 ≤ sizeLine; decide), fun p hp => ?_⟩
      have L1 := L.new (o := .lst [iV o, iV c.kind, iV c.size, iV c.count, .int ((c.slots.map oV).length : Int)]) hp
      refine ⟨g, p, _, _, rfl, rfl, L1.hg, upd_same, ?_, ?_⟩
      · exact Nat.le_trans (Nat.add_le_add_right hlen1 _) (by show 321 + 5 ≤ 16777216; decide)
      have L2 := L1.wr (xs' := (0 :: ((Vasnpe.heldIds s.heap).take i).flatMap (Vasnpe.objectRow s.heap)).map iV ++ [iV o, iV c.kind, iV c.size, iV c.count, .int ((c.slots.map oV).length : Int)]) nqg hg
      generalize upd (upd H' p (.lst [iV o, iV c.kind, iV c.size, iV c.count, .int ((c.slots.map oV).length : Int)])) g (.lst ((0 :: ((Vasnpe.heldIds s.heap).take i).flatMap (Vasnpe.objectRow s.heap)).map iV ++ [iV o, iV c.kind, iV c.size, iV c.count, .int ((c.slots.map oV).length : Int)])) = H2 at L2
      have R2 := R.same L2.sm
      refine ThingAt.exE ((R2.thing o c ec)) fun dt2 ft2 u1 u2 u3 u4 u5 u6 u7 => ?_
      refine ⟨_, rfl, .inl ⟨rfl, _, SqL.of L2.hg⟩, _, rfl, A.tA o, CT, dt2, ft2, _, rfl, u1, T.clT, T.nSlots, u6, A.sA o, rfl, ⟨_, SqL.of (R2.thing o c ec).sl⟩, fun D hD => ?_⟩
      refine lc_list (K := K) (a := A.sA o) (xs := c.slots.map oV) (fun j H3 => H3 D = some (.lst (((c.slots.take j).map Vasnpe.optRow).map iV)) ∧ Same H2 H3) ⟨upd_same, same_new hD⟩ (fun j H3 _ h => SqL.of (h.2 _ _ (R2.thing o c ec).sl)) ?_ ?_
      · rintro j x H3 hj ⟨h1, h2⟩
        obtain ⟨y, hy, rfl⟩ := map_get hj
        refine ⟨rfl, ?_⟩
        unfold tYes
        refine iteT ?_
        refine ⟨_, rfl, y, rfl, _, h1, ?_, ?_, fun b u e => by rw [upd_ne (ne_of_none e hD)]; exact h2 b u e⟩
        · rw [List.length_map, List.length_map, List.length_take]
          exact Nat.lt_of_le_of_lt (show _ ≤ 5 by omega) (by decide)
        · rw [upd_same, take_snoc hy, List.map_append, List.map_append]; rfl
      · rintro H3 ⟨hD3, s3⟩
        rw [List.length_map, List.take_length] at hD3
        have L3 := L2.same s3
        refine ⟨g, D, _, _, rfl, rfl, L3.hg, hD3, ?_, ?_⟩
        · have hz : ((c.slots.map Vasnpe.optRow).map iV).length ≤ 5 := by rw [List.length_map, List.length_map]; exact h5
          rw [List.length_append]
          exact Nat.le_trans (Nat.add_le_add (Nat.add_le_add hlen1 (Nat.le_refl _)) hz) (by show 321 + 5 + 5 ≤ 16777216; decide)
        · refine ⟨_, _, rfl, ?_⟩
          have L4 := L3.wr (xs' := (0 :: ((Vasnpe.heldIds s.heap).take (i + 1)).flatMap (Vasnpe.objectRow s.heap)).map iV) nqg hg
          have e : ((0 :: ((Vasnpe.heldIds s.heap).take i).flatMap (Vasnpe.objectRow s.heap)).map iV ++ [iV o, iV c.kind, iV c.size, iV c.count, .int ((c.slots.map oV).length : Int)]) ++ (c.slots.map Vasnpe.optRow).map iV = (0 :: ((Vasnpe.heldIds s.heap).take (i + 1)).flatMap (Vasnpe.objectRow s.heap)).map iV := by
            rw [flat_snoc _ ho, objectRow_some ec, List.length_map, List.map_cons, List.map_cons, List.map_append, List.map_append, List.cons_append, List.cons_append, List.append_assoc]
            rfl
          rw [e]
          exact L4
    · rintro σ H' ⟨v2, v3, rfl, L⟩
      have hgL := L.hg
      rw [List.length_map, List.take_length] at hgL
      refine ⟨_, rfl, tells_nat M G k L.sm hg hgL ?_⟩
      have := objects_len G (Vasnpe.heldIds s.heap)
      omega
theorem sc_trial : FnScope ["machine", "outside", "stays", "told", "number", "outside_count"] ["machine"] (defScope s_trial) := ⟨rfl, rfl, rfl, by decide +kernel, rfl, by decide +kernel, by decide +kernel⟩
theorem ok_trial {f : Addr} {fd : FuncData} (F : Fun K "trial" "trial" s_trial f fd) (T : Txt K mg CM CT) (C1 : Callee P w K mg base 2 "reached" ["machine", "numbers"] (spReach K CM CT)) (C2 : Callee P w K mg base 3 "staying" ["machine", "outside"] (spStay CM CT)) (C4 : Callee P w K mg base 3 "outside_counts" ["machine", "field"] (spOut CM CT)) : FnOk P w K mg base CX0 4 f fd ["machine"] (spView CM CT .trial) := by
  refine F.ok sc_trial (fun vs H Q E h => ?_) (fun cdv A0 outer s H vs Q E hr h => ?_)
  · obtain ⟨m, F, s, rfl, _⟩ := h
    rfl
  · obtain ⟨m, F, s, rfl, M, G, k⟩ := h
    have hr2 : Room 2 _ := hr.mono (by decide)
    refine ⟨_, pss_cons (ps_set (i := 1) sc_trial.nd rfl (Or.inl rfl) (pe_cal C4 hr (pa_cons (pv 0) (pa_cons (pe_cal C1 hr2 (pa_cons (pv 0) (pa_cons (pe_fld (pv 0) rfl) pa_nil))) pa_nil))))
      (pss_cons (ps_set (i := 2) sc_trial.nd rfl (Or.inl rfl) (pe_cal C2 hr (pa_cons (pv 0) (pa_cons (pv 1) pa_nil))))
      (pss_cons (ps_set (i := 3) sc_trial.nd rfl (Or.inl rfl) (pe_lst (pa_cons pe_int pa_nil)))
      (pss_cons (ps_lock (ps_for PassesOwn.never rfl (pi_items (pv 1)) (pg_tup rfl (pgs_cons (pg_name (i := 4) sc_trial.nd rfl (Or.inl rfl)) (pgs_cons (pg_name (i := 5) sc_trial.nd rfl (Or.inl rfl)) pgs_nil)))
        (pss_one (ps_expr (pe_bm PySem.F.plainAttrs_list PySem.F.slot_list_extend PySem.F.type_list_extend mt_extend (pv 3) (pa_cons (pe_lst (pa_cons (pv 4) (pa_cons (pv 5) (pa_cons (pe_ifExp (pt_cmpR op_in_seq (pv 4) (pv 2) (by rfl)) pe_int pe_int) pa_nil)))) pa_nil))))))
      (pss_one (ps_ret (pv 3)))))), ?_⟩
    obtain ⟨W, ⟨A, R, eF⟩, tot⟩ := id M
    refine Rep.macE (R) fun dx fs hm hlen l1 l2 l3 _ => ?_
    have hs32 := nodup_le G.snd (fun x hx => (sus_held G).lt G x hx)
    have hf32 := nodup_le (field_nodup G) (field_lt G)
    refine ⟨_, rfl, _, rfl, _, rfl, m, CM, dx, fs, _, rfl, hm, T.clM, T.nSus, l3, m, A.sa, W, A, s.heap, [], s.heap.suspects, rfl, R, G, .inl R.sus, sus_held G, by omega, fun H1 fa hfa hfa1 s1 => ?_⟩
    have hfa1 : H1 fa = some (.lst ((Vasnpe.field s.heap).map iV)) := hfa1
    refine ⟨m, fa, W, A, s.heap, [], Vasnpe.field s.heap, rfl, R.same s1, G, .inl hfa1, field_held G, field_nodup G, by omega, fun H2 oa hoa hoa1 s2 => ?_⟩
    have s02 := s1.trans s2
    refine ⟨_, rfl, _, rfl, m, oa, W, A, s.heap, rfl, R.same s02, G, hoa1, fun H3 sa hsa hsa1 s3 => ?_⟩
    have s03 := s02.trans s3
    have hoa3 := s3 _ _ hoa1
    refine ⟨(by show 1 ≤ sizeLine; decide), fun g hg => ?_⟩
    have hg0 : H g = none := s03.free hg
    have s4 : Same H3 (upd H3 g (.lst [.int 0])) := same_new hg
    have hg4 : upd H3 g (.lst [.int 0]) g = some (.lst [.int 0]) := upd_same
    have hoa4 := s4 _ _ hoa3
    have hsa4 := s4 _ _ hsa1
    have s04 := s03.trans s4
    generalize upd H3 g (.lst [.int 0]) = H4 at s4 hg4 hoa4 hsa4 s04
    have ngo : g ≠ oa := fun z => by rw [z, hoa4] at hg4; cases hg4
    have nso : sa ≠ oa := fun z => by rw [z, hoa4] at hsa4; cases hsa4
    have nsg : sa ≠ g := fun z => by
      rw [z] at hsa1
      rw [hsa1] at hg
      cases hg
    have hoaH : H oa = none := s1.free hoa
    have nd := outK_nd (h := s.heap) (fl := Vasnpe.field s.heap) (field_nodup G)
    refine ⟨oa, _, hoa4, trivial, fun od => ⟨_, rfl, oa, od, _, rfl, upd_same, for_items (d := oa) (od := od) (kvs := outK s.heap (Vasnpe.field s.heap) (Vasnpe.field s.heap)) (fun i σ H' => ∃ v4 v5 : Option V, σ = [some (.ref m), some (.ref oa), some (.ref sa), some (.ref g), v4, v5] ∧ H' oa = some (.frz od (.dK (outK s.heap (Vasnpe.field s.heap) (Vasnpe.field s.heap)))) ∧ Lp H g ((0 :: ((Vasnpe.field s.heap).take i).flatMap (trialPart s.heap)).map iV) sa ((Vasnpe.staying s.heap).map iV) H')
      ⟨none, none, rfl, upd_same, by rw [upd_ne ngo]; exact hg4, by rw [upd_ne nso]; exact hsa4, fun b u e => by rw [upd_ne (ne_of_none e hoaH)]; exact s04 b u e⟩ (fun i σ H' _ ⟨_, _, _, e, _⟩ => e) ?_ ?_⟩⟩
    · rintro i key v σ H' TT hi ⟨v4, v5, rfl, hoa', L⟩ hT
      obtain ⟨o, ho, e⟩ := map_get hi
      cases e
      have L1 := L.new (o := .tup [kV (nk o), .int (outI s.heap (Vasnpe.field s.heap) o)]) hT
      have hoa5 : upd H' TT (.tup [kV (nk o), .int (outI s.heap (Vasnpe.field s.heap) o)]) oa = some (.frz od (.dK (outK s.heap (Vasnpe.field s.heap) (Vasnpe.field s.heap)))) := by rw [upd_ne (ne_of_none hoa' hT)]; exact hoa'
      refine ⟨TT, _, rfl, SqT.of upd_same, rfl, _, _, rfl, _, _, rfl, rfl, ?_⟩
      generalize upd H' TT (.tup [kV (nk o), .int (outI s.heap (Vasnpe.field s.heap) o)]) = H5 at L1 hoa5
      have hlen1 : (((0 :: ((Vasnpe.field s.heap).take i).flatMap (trialPart s.heap)).map iV)).length ≤ 97 := by
        rw [List.length_map, List.length_cons]
        have := trial_len s.heap ((Vasnpe.field s.heap).take i)
        rw [List.length_take] at this
        omega
      refine ⟨_, rfl, .inl ⟨rfl, _, SqL.of L1.hg⟩, _, rfl, _, rfl, _, rfl, _, rfl, sa, _, rfl, .inl (SqL.of L1.hq), rfl, flat_ints _, _, rfl, ?_⟩
      show if (inV (iV o) ((Vasnpe.staying s.heap).map iV)) = true then _ else _
      rw [inV_nat]
      have fin : ∀ (b : Nat), trialPart s.heap o = [o, Vasnpe.outside s.heap (Vasnpe.field s.heap) o, b] → ∀ p, H5 p = none → rExtend (.ref g) [.ref p] (upd H5 p (.lst [iV o, .int (outI s.heap (Vasnpe.field s.heap) o), iV b])) fun _ H6 => ∃ v4 v5 : Option V, [some (V.ref m), some (.ref oa), some (.ref sa), some (.ref g), some (iV o), some (.int (outI s.heap (Vasnpe.field s.heap) o))] = [some (V.ref m), some (.ref oa), some (.ref sa), some (.ref g), v4, v5] ∧ H6 oa = some (.frz od (.dK (outK s.heap (Vasnpe.field s.heap) (Vasnpe.field s.heap)))) ∧ Lp H g ((0 :: ((Vasnpe.field s.heap).take (i + 1)).flatMap (trialPart s.heap)).map iV) sa ((Vasnpe.staying s.heap).map iV) H6 := fun b eb p hp => by
        have L2 := L1.new (o := .lst [iV o, .int (outI s.heap (Vasnpe.field s.heap) o), iV b]) hp
        refine ⟨g, p, _, _, rfl, rfl, L2.hg, upd_same, ?_, ?_⟩
        · exact Nat.le_trans (Nat.add_le_add_right hlen1 _) (by show 97 + 3 ≤ 16777216; decide)
        · refine ⟨_, _, rfl, by rw [upd_ne ngo.symm, upd_ne (ne_of_none hoa5 hp)]; exact hoa5, ?_⟩
          have e : (0 :: ((Vasnpe.field s.heap).take i).flatMap (trialPart s.heap)).map iV ++ [iV o, .int (outI s.heap (Vasnpe.field s.heap) o), iV b] = (0 :: ((Vasnpe.field s.heap).take (i + 1)).flatMap (trialPart s.heap)).map iV := by
            rw [flat_snoc _ ho, eb, List.map_cons, List.map_cons, List.map_append, List.cons_append]
            unfold outI
            rw [← outside_int G o]
            rfl
          rw [e]
          exact L2.wr nsg hg0
      cases hc : (Vasnpe.staying s.heap).contains o with
      | true =>
        refine iteT ⟨(by show 3 ≤ sizeLine; decide), fun p hp => ?_⟩
        exact fin 1 (by unfold trialPart; rw [hc, if_pos rfl]) p hp
      | false =>
        refine iteF ⟨(by show 3 ≤ sizeLine; decide), fun p hp => ?_⟩
        exact fin 0 (by unfold trialPart; rw [hc, if_neg (by decide)]) p hp
    · rintro σ H' ⟨v4, v5, rfl, hoa', L⟩
      have hgL := L.hg
      have el : (outK s.heap (Vasnpe.field s.heap) (Vasnpe.field s.heap)).length = (Vasnpe.field s.heap).length := by unfold outK; rw [List.length_map]
      rw [el, List.take_length] at hgL
      refine ⟨hoa', _, rfl, ?_⟩
      refine tells_nat M G k (fun b u e => by rw [upd_ne (ne_of_none e hoaH)]; exact L.sm b u e) hg0 (by rw [upd_ne ngo]; exact hgL) ?_
      have := trial_len s.heap (Vasnpe.field s.heap)
      rw [trialRow_eq]
      omega
end
end Hc
set_option Elab.async false
set_option linter.all false
set_option maxRecDepth 100000
set_option maxHeartbeats 4000000
namespace Hc
open PySem PySem.Spec PyProof.Rows L2
def anewK (h : Vasnpe.Heap) (ns : List Nat) : List (Key × V) := ns.map fun o => (nk o, iV (placeOf h o))
theorem anewK_keys (h : Vasnpe.Heap) (ns : List Nat) : (anewK h ns).map (·.1) = ns.map nk := by unfold anewK; rw [List.map_map]; rfl
theorem anewK_nd {h : Vasnpe.Heap} : ((anewK h (Vasnpe.heldIds h)).map (·.1)).Nodup := by rw [anewK_keys]; exact nks_nd (heldIds_nodup h)
theorem anewK_not {h : Vasnpe.Heap} {ns : List Nat} {i o : Nat} (nd : ns.Nodup) (ho : ns[i]? = some o) : nk o ∉ (anewK h (ns.take i)).map (·.1) := fun z => by
  rw [anewK_keys] at z
  have := outK_not (h := h) (fl := []) nd ho
  rw [outK_keys] at this
  exact this z
theorem anewK_snoc {h : Vasnpe.Heap} {ns : List Nat} {i o : Nat} (ho : ns[i]? = some o) : anewK h (ns.take (i + 1)) = anewK h (ns.take i) ++ [(nk o, iV (placeOf h o))] := by
  unfold anewK
  rw [take_snoc ho, List.map_append]
  rfl
theorem anewK_val {h : Vasnpe.Heap} {o : Nat} (ho : o ∈ Vasnpe.heldIds h) : valV (anewK h (Vasnpe.heldIds h)) (nk o) = some (iV (placeOf h o)) := by
  obtain ⟨i, hi⟩ := List.getElem?_of_mem ho
  refine valV_get (i := i) anewK_nd ?_
  unfold anewK
  rw [List.getElem?_map, hi]
  rfl
theorem anew_get {H : Hp} {d : Addr} {h : Vasnpe.Heap} {o : Nat} (hd : Rd H d (.dK (anewK h (Vasnpe.heldIds h)))) (ho : o ∈ Vasnpe.heldIds h) : DGet H d (iV o) (some (iV (placeOf h o))) := by
  have : DGet H d (kV (nk o)) (valV (anewK h (Vasnpe.heldIds h)) (nk o)) := .inl ⟨_, nk o, hd, rfl, rfl⟩
  rw [anewK_val ho] at this
  exact this
section
variable {P : Program} {w : World} {K : PySem.W.Frag} {mg : Str → Option Value} {base : Heap} {CM CT : Addr}
inductive spAnewI (CM CT : Addr) (vs : List V) (H : Hp) (Q : VK) : Prop
  | mk : ∀ (m : Addr) (W : Str → Option V) (A : Adr) (h : Vasnpe.Heap), (vs = [.ref m]) → (Rep CM CT H m W A h) → (Good h []) → (∀ (H' : Hp) (g : Addr), H g = none → H' g = some (.dK (anewK h (Vasnpe.heldIds h))) → Same H H' → Q (.ref g) H') → spAnewI CM CT vs H Q
def spAnew (CM CT : Addr) : Sp := fun vs H Q _ => spAnewI CM CT vs H Q
theorem sc_anew : FnScope ["machine", "anew", "place", "number"] ["machine"] (defScope s_numbered_anew) := ⟨rfl, rfl, rfl, by decide +kernel, rfl, by decide +kernel, by decide +kernel⟩
theorem ok_anew {f : Addr} {fd : FuncData} (F : Fun K "numbered_anew" "numbered_anew" s_numbered_anew f fd) (T : Txt K mg CM CT) (bSorted : mg "sorted" = none) (bEnum : mg "enumerate" = none) : FnOk P w K mg base CX0 1 f fd ["machine"] (spAnew CM CT) := by
  refine F.ok sc_anew (fun vs H Q E h => ?_) (fun cdv A0 outer s H vs Q E hr h => ?_)
  · obtain ⟨m, W, A, h, rfl, _⟩ := h
    rfl
  · obtain ⟨m, W, A, h, rfl, R, G, k⟩ := h
    have hu := hu_of hr
    refine ⟨_, pss_cons (ps_set (i := 1) sc_anew.nd rfl (Or.inl rfl) pe_dnewK)
      (pss_cons (ps_for PassesOwn.never rfl (pi_enum (by rfl) bEnum (pa_cons (pe_callB (cr_sortedD rfl) (by rfl) bSorted (by rfl) (pa_cons (pe_fld (pv 0) rfl) pa_nil)) pa_nil)) (pg_tup rfl (pgs_cons (pg_name (i := 2) sc_anew.nd rfl (Or.inl rfl)) (pgs_cons (pg_name (i := 3) sc_anew.nd rfl (Or.inl rfl)) pgs_nil)))
        (pss_one (ps_dput hu (pv 1) (pv 3) (pv 2) rfl)))
      (pss_one (ps_ret (pv 1)))), ?_⟩
    intro g hg
    have s1 : Same H (upd H g (.dK [])) := same_new hg
    have hg1 : upd H g (.dK []) g = some (.dK []) := upd_same
    generalize upd H g (.dK []) = H1 at s1 hg1
    have R1 := R.same s1
    refine Rep.macE (R1) fun dx fs hm hlen l1 l2 l3 _ => ?_
    refine HeldAt.sortedE (R1.held) G.clen fun kvs ns hk hkeys h64 hsort => ?_
    refine ⟨_, rfl, m, CM, dx, fs, _, rfl, hm, T.clM, T.nHeld, l2, A.ha, kvs, ns, rfl, hk, hkeys, h64, fun ns' q hp hs hq => ?_⟩
    rw [hsort ns' hp hs]
    have nqg : q ≠ g := fun z => by rw [z, hg1] at hq; cases hq
    have hh32 := heldIds_len h
    refine ⟨q, _, rfl, SqL.of upd_same, for_enum (K := K) (a := q) (xs := (Vasnpe.heldIds h).map iV) (fun i σ H' => ∃ v2 v3 : Option V, σ = [some (.ref m), some (.ref g), v2, v3] ∧ H' g = some (.dK (anewK h ((Vasnpe.heldIds h).take i))) ∧ H' q = some (.lst ((Vasnpe.heldIds h).map iV)) ∧ Same H H')
      ⟨none, none, rfl, by rw [upd_ne nqg.symm]; exact hg1, upd_same, s1.trans (same_new hq)⟩ (fun i σ H' _ ⟨_, _, _, _, e, _⟩ => SqL.of e) ?_ ?_⟩
    · rintro i y σ H' TT hi ⟨v2, v3, rfl, hg', hq', sm⟩ hT
      obtain ⟨o, ho, rfl⟩ := map_get hi
      refine ⟨TT, _, rfl, SqT.of upd_same, rfl, _, _, rfl, _, _, rfl, rfl, ?_⟩
      have hg2 : upd H' TT (.tup [.int (i : Nat), iV o]) g = some (.dK (anewK h ((Vasnpe.heldIds h).take i))) := by rw [upd_ne (ne_of_none hg' hT)]; exact hg'
      have hq2 : upd H' TT (.tup [.int (i : Nat), iV o]) q = some (.lst ((Vasnpe.heldIds h).map iV)) := by rw [upd_ne (ne_of_none hq' hT)]; exact hq'
      have sm2 : Same H (upd H' TT (.tup [.int (i : Nat), iV o])) := sm.trans (same_new hT)
      generalize upd H' TT (.tup [.int (i : Nat), iV o]) = H2 at hg2 hq2 sm2
      refine ⟨_, rfl, _, rfl, _, rfl, g, _, rfl, DPut.k (k := nk o) hg2 ?_, ?_⟩
      · have : (anewK h ((Vasnpe.heldIds h).take i)).length ≤ 32 := by
          unfold anewK
          rw [List.length_map, List.length_take]
          omega
        exact Nat.lt_of_le_of_lt this (by decide)
      · refine ⟨_, _, rfl, ?_, by rw [upd_ne nqg]; exact hq2, fun b u e => by rw [upd_ne (ne_of_none e hg)]; exact sm2 b u e⟩
        rw [upd_same, putK_new (anewK_not (heldIds_nodup h) ho), anewK_snoc ho, placeOf_ix ho]
        rfl
    · rintro σ H' ⟨v2, v3, rfl, hg', hq', sm⟩
      rw [List.length_map, List.take_length] at hg'
      exact ⟨_, rfl, k H' g hg hg' sm⟩
inductive spPartI (CM CT : Addr) (vs : List V) (H : Hp) (Q : VK) : Prop
  | mk : ∀ (m d : Addr) (W : Str → Option V) (A : Adr) (h : Vasnpe.Heap) (o : Nat) (c : Vasnpe.Cell), (vs = [.ref (A.tA o), .ref d]) → (Rep CM CT H m W A h) → (Good h []) → (Vasnpe.cellAt h o = some c) → (Rd H d (.dK (anewK h (Vasnpe.heldIds h)))) → (∀ (H' : Hp) (g : Addr), H g = none → H' g = some (.lst ((cellRow h c).map iV)) → Same H H' → Q (.ref g) H') → spPartI CM CT vs H Q
def spPart (CM CT : Addr) : Sp := fun vs H Q _ => spPartI CM CT vs H Q
theorem sc_part : FnScope ["thing", "anew", "told", "place", "inner"] ["thing", "anew"] (defScope s_row_part) := ⟨rfl, rfl, rfl, by decide +kernel, rfl, by decide +kernel, by decide +kernel⟩
theorem ok_part {f : Addr} {fd : FuncData} (F : Fun K "row_part" "row_part" s_row_part f fd) (T : Txt K mg CM CT) (bLen : mg "len" = none) (bEnum : mg "enumerate" = none) (C1 : Callee P w K mg base 1 "filled" ["places"] (spFilled K)) : FnOk P w K mg base CX0 2 f fd ["thing", "anew"] (spPart CM CT) := by
  refine F.ok sc_part (fun vs H Q E h => ?_) (fun cdv A0 outer s H vs Q E hr h => ?_)
  · obtain ⟨m, d, W, A, h, o, c, rfl, _⟩ := h
    rfl
  · obtain ⟨m, d, W, A, h, o, c, rfl, R, G, ec, hd, k⟩ := h
    have hu := hu_of hr
    refine ⟨_, pss_cons (ps_set (i := 2) sc_part.nd rfl (Or.inl rfl) (pe_lst (pa_cons (pe_fld (pv 0) rfl) (pa_cons (pe_fld (pv 0) rfl) (pa_cons (pe_callB call_len_seq (by rfl) bLen PySem.boot_len (pa_cons (pe_cal C1 hr (pa_cons (pe_fld (pv 0) rfl) pa_nil)) pa_nil)) pa_nil)))))
      (pss_cons (ps_for PassesOwn.never rfl (pi_enum (by rfl) bEnum (pa_cons (pe_fld (pv 0) rfl) pa_nil)) (pg_tup rfl (pgs_cons (pg_name (i := 3) sc_part.nd rfl (Or.inl rfl)) (pgs_cons (pg_name (i := 4) sc_part.nd rfl (Or.inl rfl)) pgs_nil)))
        (pss_one (ps_if (pt_cmpR op_notN (pv 4) pe_non (nomark _)) (pss_one (ps_expr (pe_bm PySem.F.plainAttrs_list PySem.F.slot_list_extend PySem.F.type_list_extend mt_extend (pv 2) (pa_cons (pe_lst (pa_cons (pv 3) (pa_cons pe_int (pa_cons (pe_dget hu (pv 1) (pv 4) (fun _ _ => rfl)) pa_nil)))) pa_nil)))) pss_nil)))
      (pss_one (ps_ret (pv 2)))), ?_⟩
    refine ThingAt.exE ((R.thing o c ec)) fun dt ft t1 t2 t3 t4 t5 t6 t7 => ?_
    have h5 := slots5 G ec
    refine ⟨_, rfl, A.tA o, CT, dt, ft, _, rfl, t1, T.clT, T.nKind, t4, _, rfl, A.tA o, CT, dt, ft, _, rfl, t1, T.clT, T.nSize, t5, _, rfl, A.tA o, CT, dt, ft, _, rfl, t1, T.clT, T.nSlots, t6, A.sA o, c.slots, rfl, SqL.of (R.thing o c ec).sl, by omega, fun H1 q hq hq1 s1 => ?_⟩
    refine ⟨q, _, rfl, .inl (SqL.of hq1), (by show 3 ≤ sizeLine; decide), fun g hg => ?_⟩
    rw [List.length_map]
    have hg0 : H g = none := s1.free hg
    have s2 : Same H1 (upd H1 g (.lst [iV c.kind, iV c.size, .int ((c.slots.filterMap fun x => x).length : Int)])) := same_new hg
    have hg2 : upd H1 g (.lst [iV c.kind, iV c.size, .int ((c.slots.filterMap fun x => x).length : Int)]) g = some (.lst [iV c.kind, iV c.size, .int ((c.slots.filterMap fun x => x).length : Int)]) := upd_same
    have s02 := s1.trans s2
    generalize upd H1 g (.lst [iV c.kind, iV c.size, .int ((c.slots.filterMap fun x => x).length : Int)]) = H2 at s2 hg2 s02
    have R2 := R.same s02
    refine ThingAt.exE ((R2.thing o c ec)) fun du fu u1 u2 u3 u4 u5 u6 u7 => ?_
    refine ⟨_, rfl, A.tA o, CT, du, fu, _, rfl, u1, T.clT, T.nSlots, u6, A.sA o, _, rfl, SqL.of (R2.thing o c ec).sl, for_enum (K := K) (a := A.sA o) (xs := c.slots.map oV) (fun i σ H' => ∃ v3 v4 : Option V, σ = [some (.ref (A.tA o)), some (.ref d), some (.ref g), v3, v4] ∧ H' g = some (.lst ((c.kind :: c.size :: (c.slots.filterMap fun x => x).length :: (c.slots.take i).zipIdx.flatMap (slotRow h)).map iV)) ∧ Same H H')
      ⟨none, none, rfl, hg2, s02⟩ (fun i σ H' _ ⟨_, _, _, _, sm⟩ => SqL.of (sm _ _ (R.thing o c ec).sl)) ?_ ?_⟩
    · rintro i y σ H' TT hi ⟨v3, v4, rfl, hg', sm⟩ hT
      obtain ⟨x, hx, rfl⟩ := map_get hi
      refine ⟨TT, _, rfl, SqT.of upd_same, rfl, _, _, rfl, _, _, rfl, rfl, ?_⟩
      have hg3 : upd H' TT (.tup [.int (i : Nat), oV x]) g = some (.lst ((c.kind :: c.size :: (c.slots.filterMap fun x => x).length :: (c.slots.take i).zipIdx.flatMap (slotRow h)).map iV)) := by rw [upd_ne (ne_of_none hg' hT)]; exact hg'
      have sm3 : Same H (upd H' TT (.tup [.int (i : Nat), oV x])) := sm.trans (same_new hT)
      generalize upd H' TT (.tup [.int (i : Nat), oV x]) = H3 at hg3 sm3
      refine ⟨_, rfl, rfl, _, rfl, ?_⟩
      have ez := zip_snoc hx
      cases x with
      | none =>
        refine iteF ⟨_, _, rfl, ?_, sm3⟩
        rw [ez, List.flatMap_append]
        have : [((none : Option Nat), i)].flatMap (slotRow h) = [] := rfl
        rw [this, List.append_nil]
        exact hg3
      | some t =>
        have hth : t ∈ Vasnpe.heldIds h := (heldIds_mem G.clen).mpr (G.slot (x := o) (by rw [inSlots_def, ec]; exact slots_mem hx))
        refine iteT ⟨_, rfl, .inl ⟨rfl, _, SqL.of hg3⟩, _, rfl, _, rfl, _, rfl, d, _, rfl, anew_get (rd_same hd sm3) hth, (by show 3 ≤ sizeLine; decide), fun p hp => ?_⟩
        refine ⟨g, p, _, _, rfl, rfl, by rw [upd_ne (ne_of_none hg3 hp)]; exact hg3, upd_same, ?_, ?_⟩
        · rw [List.length_map, List.length_cons, List.length_cons, List.length_cons]
          have := slotRows_len h (c.slots.take i)
          rw [List.length_take] at this
          show _ + 3 ≤ 16777216
          omega
        · refine ⟨_, _, rfl, ?_, fun b u e => by rw [upd_ne (ne_of_none e hg0), upd_ne (ne_of_none (sm3 _ _ e) hp)]; exact sm3 b u e⟩
          rw [upd_same, ez, List.flatMap_append]
          have : [(some t, i)].flatMap (slotRow h) = [i, 0, placeOf h t] := rfl
          rw [this, List.map_cons, List.map_cons, List.map_cons, List.map_cons, List.map_cons, List.map_cons, List.map_append]
          rfl
    · rintro σ H' ⟨v3, v4, rfl, hg', sm⟩
      rw [List.length_map, List.take_length] at hg'
      exact ⟨_, rfl, k H' g hg0 hg' sm⟩
theorem sc_row : FnScope ["machine", "anew", "told", "number", "in_registers"] ["machine"] (defScope s_row) := ⟨rfl, rfl, rfl, by decide +kernel, rfl, by decide +kernel, by decide +kernel⟩
theorem ok_row {f : Addr} {fd : FuncData} (F : Fun K "row" "row" s_row f fd) (T : Txt K mg CM CT) (bLen : mg "len" = none) (C1 : Callee P w K mg base 1 "numbered_anew" ["machine"] (spAnew CM CT)) (C2 : Callee P w K mg base 2 "row_part" ["thing", "anew"] (spPart CM CT)) (C3 : Callee P w K mg base 1 "filled" ["places"] (spFilled K)) : FnOk P w K mg base CX0 3 f fd ["machine"] (spView CM CT .row) := by
  refine F.ok sc_row (fun vs H Q E h => ?_) (fun cdv A0 outer s H vs Q E hr h => ?_)
  · obtain ⟨m, F, s, rfl, _⟩ := h
    rfl
  · obtain ⟨m, F, s, rfl, M, G, k⟩ := h
    have hu := hu_of hr
    have hr1 : Room 1 _ := hr.mono (by decide)
    refine ⟨_, pss_cons (ps_set (i := 1) sc_row.nd rfl (Or.inr rfl) (pe_cal C1 hr1 (pa_cons (pv 0) pa_nil)))
      (pss_cons (ps_set (i := 2) sc_row.nd rfl (Or.inl rfl) (pe_lst (pa_cons pe_int (pa_cons (pe_callB call_lenD (by rfl) bLen PySem.boot_len (pa_cons (pv 1) pa_nil)) pa_nil))))
      (pss_cons (ps_lock (ps_for PassesOwn.never rfl (pi_keys (pv 1)) (pg_name (i := 3) sc_row.nd rfl (Or.inl rfl))
        (pss_one (ps_expr (pe_bm PySem.F.plainAttrs_list PySem.F.slot_list_extend PySem.F.type_list_extend mt_extend (pv 2) (pa_cons (pe_cal C2 hr (pa_cons (pe_dget hu (pe_fld (pv 0) rfl) (pv 3) (fun _ _ => rfl)) (pa_cons (pv 1) pa_nil))) pa_nil))))))
      (pss_cons (ps_set (i := 4) sc_row.nd rfl (Or.inl rfl) (pe_cal C3 hr1 (pa_cons (pe_fld (pv 0) rfl) pa_nil)))
      (pss_one (ps_ret (pe_op op_cat (pe_op op_cat (pv 2) (pe_lst (pa_cons (pe_callB call_len_seq (by rfl) bLen PySem.boot_len (pa_cons (pv 4) pa_nil)) pa_nil)))
        (pe_lc (own := [("number", 3)]) rfl sc_row.nd (pi_list (pv 4)) (blkOk_by (N := ["machine", "anew", "told", "number", "in_registers"]) (sc := defScope s_row) (by decide +kernel)) (fun s H C cl fp => pg_name (i := 3) sc_row.nd rfl (Or.inl rfl)) (fun s H C cl fp => pts_nil) (fun s H C cl fp => pe_dget hu (pv 1) (pv 3) (fun _ _ => rfl))))))))), ?_⟩
    obtain ⟨W, ⟨A, R, eF⟩, tot⟩ := id M
    have hh32 := heldIds_len s.heap
    have elen : (anewK s.heap (Vasnpe.heldIds s.heap)).length = (Vasnpe.heldIds s.heap).length := by unfold anewK; rw [List.length_map]
    refine ⟨_, rfl, m, W, A, s.heap, rfl, R, G, fun H1 d hd0 hd1 s1 => ?_⟩
    refine ⟨_, rfl, d, _, rfl, hd1, (by show 2 ≤ sizeLine; decide), fun g hg => ?_⟩
    rw [elen]
    have hg0 : H g = none := s1.free hg
    have s2 : Same H1 (upd H1 g (.lst [.int 0, .int ((Vasnpe.heldIds s.heap).length : Int)])) := same_new hg
    have hg2 : upd H1 g (.lst [.int 0, .int ((Vasnpe.heldIds s.heap).length : Int)]) g = some (.lst [.int 0, .int ((Vasnpe.heldIds s.heap).length : Int)]) := upd_same
    have hd2 := s2 _ _ hd1
    have s02 := s1.trans s2
    generalize upd H1 g (.lst [.int 0, .int ((Vasnpe.heldIds s.heap).length : Int)]) = H2 at s2 hg2 hd2 s02
    have ngd : g ≠ d := fun z => by rw [z, hd2] at hg2; cases hg2
    refine ⟨d, _, hd2, trivial, fun od => ⟨_, rfl, d, od, rfl, .inl ⟨_, upd_same, for_keys (d := d) (od := od) (kvs := anewK s.heap (Vasnpe.heldIds s.heap)) (fun i σ H' => ∃ v3 : Option V, σ = [some (.ref m), some (.ref d), some (.ref g), v3, none] ∧ H' d = some (.frz od (.dK (anewK s.heap (Vasnpe.heldIds s.heap)))) ∧ H' g = some (.lst ((0 :: (Vasnpe.heldIds s.heap).length :: ((Vasnpe.heldIds s.heap).take i).flatMap (objRow s.heap)).map iV)) ∧ Same H H')
      ⟨none, rfl, upd_same, by rw [upd_ne ngd]; exact hg2, fun b u e => by rw [upd_ne (ne_of_none e hd0)]; exact s02 b u e⟩ (fun i σ H' _ ⟨_, _, e, _⟩ => e) ?_ ?_⟩⟩⟩
    · rintro i key v σ H' hi ⟨v3, rfl, hd', hg', sm⟩
      obtain ⟨o, ho, e⟩ := map_get hi
      cases e
      have hom := List.mem_of_getElem? ho
      obtain ⟨c, ec⟩ := (heldIds_mem G.clen).mp hom
      have R' := R.same sm
      refine Rep.macE (R') fun dx' fs' hm' hlen' l1' l2' l3' _ => ?_
      refine HeldAt.exE (R'.held) fun hks hk' _ _ _ ka _ => ?_
      have hdg : DGet H' A.ha (iV o) (some (.ref (A.tA o))) := by
        have := DGet.k (k := nk o) hk'
        rw [ka o c ec] at this
        exact this
      refine ⟨_, rfl, .inl ⟨rfl, _, SqL.of hg'⟩, _, rfl, m, CM, dx', fs', _, rfl, hm', T.clM, T.nHeld, l2', _, rfl, A.ha, _, rfl, hdg, _, rfl, m, d, W, A, s.heap, o, c, rfl, R', G, ec, .inr ⟨od, hd'⟩, fun H3 p hp hp3 s3 => ?_⟩
      refine ⟨g, p, _, _, rfl, rfl, s3 _ _ hg', hp3, ?_, ?_⟩
      · rw [List.length_map, List.length_map, List.length_cons, List.length_cons]
        have h1 := objRows_len G ((Vasnpe.heldIds s.heap).take i)
        have h2 := objRow_len G o
        rw [List.length_take] at h1
        rw [objRow_some ec] at h2
        show _ ≤ 16777216
        omega
      · refine ⟨_, rfl, by rw [upd_ne ngd.symm]; exact s3 _ _ hd', ?_, fun b u e => by rw [upd_ne (ne_of_none e hg0)]; exact s3 _ _ (sm b u e)⟩
        rw [upd_same, flat_snoc _ ho, objRow_some ec, List.map_cons, List.map_cons, List.map_cons, List.map_cons, List.map_append]
        rfl
    · rintro σ H' ⟨v3, rfl, hd', hg', sm⟩
      rw [elen, List.take_length] at hg'
      refine ⟨hd', ?_⟩
      have sm4 : Same H (upd H' d (.dK (anewK s.heap (Vasnpe.heldIds s.heap)))) := fun b u e => by rw [upd_ne (ne_of_none e hd0)]; exact sm b u e
      have hg4 : upd H' d (.dK (anewK s.heap (Vasnpe.heldIds s.heap))) g = some (.lst ((0 :: (Vasnpe.heldIds s.heap).length :: (Vasnpe.heldIds s.heap).flatMap (objRow s.heap)).map iV)) := by rw [upd_ne ngd]; exact hg'
      have hd4 : upd H' d (.dK (anewK s.heap (Vasnpe.heldIds s.heap))) d = some (.dK (anewK s.heap (Vasnpe.heldIds s.heap))) := upd_same
      generalize upd H' d (.dK (anewK s.heap (Vasnpe.heldIds s.heap))) = H4 at sm4 hg4 hd4
      have R4 := R.same sm4
      refine Rep.macE (R4) fun dx4 fs4 hm4 hlen4 l14 l24 l34 _ => ?_
      refine ⟨_, rfl, m, CM, dx4, fs4, _, rfl, hm4, T.clM, T.nReg, l14, A.ra, s.heap.regs, rfl, SqL.of R4.regs, by rw [G.rlen]; decide, fun H5 q hq hq5 s5 => ?_⟩
      have h8 : (s.heap.regs.filterMap fun x => x).length ≤ 8 := by
        have := List.length_filterMap_le (fun x => x) s.heap.regs
        rw [G.rlen] at this
        exact this
      have sm5 := sm4.trans s5
      have hob := objRows_len G (Vasnpe.heldIds s.heap)
      refine ⟨_, rfl, _, rfl, q, _, rfl, .inl (SqL.of hq5), (by show 1 ≤ sizeLine; decide), fun p1 hp1 => ?_⟩
      have s6 : Same H5 (upd H5 p1 (.lst [.int (((s.heap.regs.filterMap fun x => x).map iV).length : Int)])) := same_new hp1
      refine ⟨g, p1, _, _, rfl, rfl, s6 _ _ (s5 _ _ hg4), upd_same, ?_, fun p2 hp2 => ?_⟩
      · rw [List.length_map, List.length_cons, List.length_cons]
        show _ + 1 ≤ 16777216
        omega
      have s7 := s6.trans (same_new (o := .lst ((0 :: (Vasnpe.heldIds s.heap).length :: (Vasnpe.heldIds s.heap).flatMap (objRow s.heap)).map iV ++ [.int (((s.heap.regs.filterMap fun x => x).map iV).length : Int)])) hp2)
      have hp2' : upd (upd H5 p1 (.lst [.int (((s.heap.regs.filterMap fun x => x).map iV).length : Int)])) p2 (.lst ((0 :: (Vasnpe.heldIds s.heap).length :: (Vasnpe.heldIds s.heap).flatMap (objRow s.heap)).map iV ++ [.int (((s.heap.regs.filterMap fun x => x).map iV).length : Int)])) p2 = some (.lst ((0 :: (Vasnpe.heldIds s.heap).length :: (Vasnpe.heldIds s.heap).flatMap (objRow s.heap)).map iV ++ [.int (((s.heap.regs.filterMap fun x => x).map iV).length : Int)])) := upd_same
      generalize upd (upd H5 p1 (.lst [.int (((s.heap.regs.filterMap fun x => x).map iV).length : Int)])) p2 (.lst ((0 :: (Vasnpe.heldIds s.heap).length :: (Vasnpe.heldIds s.heap).flatMap (objRow s.heap)).map iV ++ [.int (((s.heap.regs.filterMap fun x => x).map iV).length : Int)])) = H7 at s7 hp2'
      have hq7 := s7 _ _ hq5
      have hd7 := s7 _ _ (s5 _ _ hd4)
      have sm7 := sm5.trans s7
      refine ⟨_, rfl, q, rfl, ⟨_, SqL.of hq7⟩, fun D hD => ?_⟩
      refine lc_list (K := K) (a := q) (xs := (s.heap.regs.filterMap fun x => x).map iV) (fun i H8 => H8 D = some (.lst ((((s.heap.regs.filterMap fun x => x).take i).map (placeOf s.heap)).map iV)) ∧ Same H7 H8) ⟨upd_same, same_new hD⟩ (fun i H8 _ h => SqL.of (h.2 _ _ hq7)) ?_ ?_
      · rintro i x H8 hi ⟨h1, h2⟩
        obtain ⟨o, ho, rfl⟩ := map_get hi
        have hoh : o ∈ Vasnpe.heldIds s.heap := (heldIds_mem G.clen).mpr (regsFull_held G o (List.mem_of_getElem? ho))
        refine ⟨rfl, ?_⟩
        unfold tYes
        refine iteT ?_
        refine ⟨_, rfl, _, rfl, d, _, rfl, anew_get (.inl (h2 _ _ hd7)) hoh, _, h1, ?_, ?_, fun b u e => by rw [upd_ne (ne_of_none e hD)]; exact h2 b u e⟩
        · rw [List.length_map, List.length_map, List.length_take]
          exact Nat.lt_of_le_of_lt (show _ ≤ 8 by omega) (by decide)
        · rw [upd_same, take_snoc ho, List.map_append, List.map_append]; rfl
      · rintro H8 ⟨hD8, s8⟩
        rw [List.length_map, List.take_length] at hD8
        refine ⟨p2, D, _, _, rfl, rfl, s8 _ _ hp2', hD8, ?_, fun r hr' => ?_⟩
        · have hz : (((s.heap.regs.filterMap fun x => x).map (placeOf s.heap)).map iV).length ≤ 8 := by rw [List.length_map, List.length_map]; exact h8
          rw [List.length_append, List.length_map, List.length_cons, List.length_cons]
          show _ + 1 + _ ≤ 16777216
          omega
        · have sm8 := sm7.trans s8
          refine tells_nat M G k (sm8.trans (same_new hr')) (sm8.free hr') ?_ ?_
          · rw [upd_same, row_flat G.clen, List.length_map, List.map_cons, List.map_cons, List.map_cons, List.map_cons, List.map_append, List.map_cons, List.cons_append, List.cons_append, List.cons_append, List.cons_append, List.append_assoc]
            rfl
          · rw [row_flat G.clen, List.length_cons, List.length_append, List.length_cons, List.length_map]
            omega
end
end Hc
set_option Elab.async false
set_option linter.all false
set_option maxRecDepth 100000
set_option maxHeartbeats 4000000
namespace Hc
open PySem PySem.Spec PyProof.Rows L2
theorem oV_eq (x : Option Nat) (o : Nat) : decide (oV x = V.int (o : Int)) = decide (x = some o) := by
  rw [Bool.eq_iff_iff, decide_eq_true_eq, decide_eq_true_eq]
  cases x with
  | none => exact ⟨fun z => (by cases z), fun z => (by cases z)⟩
  | some t =>
    constructor
    · intro z
      have : (t : Int) = (o : Int) := V.int.inj z
      have : t = o := by omega
      rw [this]
    · intro z
      rw [Option.some.inj z]
      rfl
def PrsAt (H : Hp) (a : Addr) (l : List (Nat × Nat)) : Prop := ∃ ps : List (Addr × (Nat × Nat)), H a = some (.lst (ps.map fun p => V.ref p.1)) ∧ ps.map (·.2) = l ∧ ∀ p, p ∈ ps → H p.1 = some (.tup [iV p.2.1, iV p.2.2])
theorem PrsAt.same {H H' : Hp} {a : Addr} {l : List (Nat × Nat)} (x : PrsAt H a l) (s : Same H H') : PrsAt H' a l := by
  obtain ⟨ps, e1, e2, e3⟩ := x
  exact ⟨ps, s _ _ e1, e2, fun p hp => s _ _ (e3 p hp)⟩
theorem PrsAt.len {H : Hp} {a : Addr} {l : List (Nat × Nat)} (x : PrsAt H a l) : ∃ xs, H a = some (.lst xs) ∧ xs.length = l.length := by
  obtain ⟨ps, e1, e2, e3⟩ := x
  exact ⟨_, e1, by rw [List.length_map, ← e2, List.length_map]⟩
section
variable {P : Program} {w : World} {K : PySem.W.Frag} {mg : Str → Option Value} {base : Heap} {CM CT : Addr}
inductive spPlacesI (K : PySem.W.Frag) (vs : List V) (H : Hp) (Q : VK) : Prop
  | mk : ∀ (a : Addr) (l : List (Option Nat)) (o : Nat), (vs = [.ref a, .int (o : Int)]) → (SqL K H a (l.map oV)) → (l.length ≤ 1000) → (∀ (H' : Hp) (g : Addr), H g = none → H' g = some (.lst ((placesOf l o).map iV)) → Same H H' → Q (.ref g) H') → spPlacesI K vs H Q
def spPlaces (K : PySem.W.Frag) : Sp := fun vs H Q _ => spPlacesI K vs H Q
theorem sc_places : FnScope ["places", "o", "place", "number"] ["places", "o"] (defScope s_places_of) := ⟨rfl, rfl, rfl, by decide +kernel, rfl, by decide +kernel, by decide +kernel⟩
theorem ok_places {f : Addr} {fd : FuncData} (F : Fun K "places_of" "places_of" s_places_of f fd) (bEnum : mg "enumerate" = none) : FnOk P w K mg base CX0 1 f fd ["places", "o"] (spPlaces K) := by
  refine F.ok sc_places (fun vs H Q E h => ?_) (fun cdv A0 outer s H vs Q E hr h => ?_)
  · obtain ⟨a, l, o, rfl, _⟩ := h
    rfl
  · obtain ⟨a, l, o, rfl, hS, hl, k⟩ := h
    refine ⟨_, pss_one (ps_ret (pe_lc (own := [("place", 2), ("number", 3)]) rfl sc_places.nd (pi_enum (by rfl) bEnum (pa_cons (pv 0) pa_nil)) (blkOk_by (N := ["places", "o", "place", "number"]) (sc := defScope s_places_of) (by decide +kernel))
      (fun s H C cl fp => (show PG _ _ (gTup K 2 (gCons (gName 2) (gCons (gName 3) gNil))) from pg_tup rfl (pgs_cons (pg_name (i := 2) sc_places.nd rfl (Or.inl rfl)) (pgs_cons (pg_name (i := 3) sc_places.nd rfl (Or.inl rfl)) pgs_nil)))) (fun s H C cl fp => pts_one (pt_cmpR op_eq (pv 3) (pv 1) (nomark _))) (fun s H C cl fp => pv 2))), ?_⟩
    refine ⟨_, rfl, a, _, rfl, hS, fun D hD => ?_⟩
    refine lc_enum (K := K) (a := a) (xs := l.map oV) (fun i H' => H' D = some (.lst ((placesOf (l.take i) o).map iV)) ∧ Same H H') ⟨upd_same, same_new hD⟩ (fun i H' _ h => h.2.seq hS) ?_ ?_
    · rintro i y H' TT hi ⟨h1, h2⟩ hT
      obtain ⟨x, hx, rfl⟩ := map_get hi
      have h1' : upd H' TT (.tup [.int (i : Nat), oV x]) D = some (.lst ((placesOf (l.take i) o).map iV)) := by rw [upd_ne (ne_of_none h1 hT)]; exact h1
      have h2' : Same H (upd H' TT (.tup [.int (i : Nat), oV x])) := h2.trans (same_new hT)
      refine ⟨TT, _, rfl, SqT.of upd_same, rfl, _, _, rfl, _, _, rfl, rfl, rfl, _, rfl, _, rfl, ?_⟩
      generalize upd H' TT (.tup [.int (i : Nat), oV x]) = H2 at h1' h2'
      refine ⟨by cases x <;> rfl, _, rfl, ?_⟩
      rw [oV_eq]
      refine ite2 (fun hc => ?_) (fun hc => ?_)
      · refine ⟨_, rfl, _, h1', ?_, ?_, fun b u e => by rw [upd_ne (ne_of_none e hD)]; exact h2' b u e⟩
        · rw [List.length_map]
          have := placesOf_len (l.take i) o
          rw [List.length_take] at this
          exact Nat.lt_of_le_of_lt (show _ ≤ 1000 by omega) (by decide)
        · rw [upd_same, placesOf_pos hx (of_decide_eq_true hc), List.map_append]; rfl
      · refine ⟨?_, h2'⟩
        rw [placesOf_neg hx (fun z => hc (decide_eq_true z))]
        exact h1'
    · rintro H' ⟨h1, h2⟩
      rw [List.length_map, List.take_length] at h1
      exact k H' D hD h1 h2
inductive spHoldersI (CM CT : Addr) (vs : List V) (H : Hp) (Q : VK) : Prop
  | mk : ∀ (m : Addr) (F : AS) (s : Vasnpe.State) (o : Int), (vs = [.ref m, .int o]) → (MachS CM CT H m F s) → (Good s.heap []) → (Tells CM CT H m F (Vasnpe.step s (.holders o)) Q) → spHoldersI CM CT vs H Q
def spHolders (CM CT : Addr) : Sp := fun vs H Q _ => spHoldersI CM CT vs H Q
theorem sc_holders : FnScope ["machine", "o", "in_registers", "in_slots", "number", "thing", "place", "told"] ["machine", "o"] (defScope s_holders) := ⟨rfl, rfl, rfl, by decide +kernel, rfl, by decide +kernel, by decide +kernel⟩
theorem holders_no {s : Vasnpe.State} {o : Int} (h : ∀ n : Nat, o = (n : Int) → Vasnpe.cellAt s.heap n = none) : Vasnpe.step s (.holders o) = (s, [-3]) := by
  show (s, if o < 0 then [-3] else if Vasnpe.isHeld s.heap o.toNat then 0 :: Vasnpe.toInts (Vasnpe.holdersRow s.heap o.toNat) else [-3]) = _
  by_cases h0 : o < 0
  · rw [if_pos h0]
  · rw [if_neg h0]
    have e := h o.toNat (by omega)
    have : Vasnpe.isHeld s.heap o.toNat = false := by unfold Vasnpe.isHeld; rw [e]; rfl
    rw [this, if_neg (by decide)]
theorem holders_yes {s : Vasnpe.State} {n : Nat} {c : Vasnpe.Cell} (e : Vasnpe.cellAt s.heap n = some c) : Vasnpe.step s (.holders (n : Int)) = (s, 0 :: Vasnpe.toInts (Vasnpe.holdersRow s.heap n)) := by
  show (s, if (n : Int) < 0 then [-3] else if Vasnpe.isHeld s.heap (n : Int).toNat then 0 :: Vasnpe.toInts (Vasnpe.holdersRow s.heap (n : Int).toNat) else [-3]) = _
  rw [if_neg (by omega), show (n : Int).toNat = n from rfl, isHeld_iff.mpr ⟨c, e⟩, if_pos rfl]
theorem ok_holders {f : Addr} {fd : FuncData} (F : Fun K "holders" "holders" s_holders f fd) (T : Txt K mg CM CT) (gN : GI mg "NO_SUCH_OBJECT" (-3)) (bLen : mg "len" = none) (bSorted : mg "sorted" = none) (C1 : Callee P w K mg base 1 "places_of" ["places", "o"] (spPlaces K)) : FnOk P w K mg base CX0 2 f fd ["machine", "o"] (spHolders CM CT) := by
  refine F.ok sc_holders (fun vs H Q E h => ?_) (fun cdv A0 outer s H vs Q E hr h => ?_)
  · obtain ⟨m, F, s, o, rfl, _⟩ := h
    rfl
  · obtain ⟨m, F, s, o, rfl, M, G, k⟩ := h
    have hu := hu_of hr
    refine ⟨_, pss_cons (ps_if (pt_cmp (pc_dnotin hu (pv 1) (pe_fld (pv 0) rfl))) (pss_one (ps_ret (pe_lst (pa_cons (pe_gi gN) pa_nil)))) pss_nil)
      (pss_cons (ps_set (i := 2) sc_holders.nd rfl (Or.inl rfl) (pe_cal C1 hr (pa_cons (pe_fld (pv 0) rfl) (pa_cons (pv 1) pa_nil))))
      (pss_cons (ps_set (i := 3) sc_holders.nd rfl (Or.inl rfl) (pe_lst pa_nil))
      (pss_cons (ps_for PassesOwn.never rfl (pi_list (pe_callB (cr_sortedD rfl) (by rfl) bSorted (by rfl) (pa_cons (pe_fld (pv 0) rfl) pa_nil))) (pg_name (i := 4) sc_holders.nd rfl (Or.inr rfl))
        (pss_cons (ps_set (i := 5) sc_holders.nd rfl (Or.inl rfl) (pe_dget hu (pe_fld (pv 0) rfl) (pv 4) (fun _ _ => rfl)))
        (pss_one (ps_expr (pe_bm PySem.F.plainAttrs_list PySem.F.slot_list_extend PySem.F.type_list_extend mt_extend (pv 3) (pa_cons (pe_lc (own := [("place", 6)]) rfl sc_holders.nd (pi_list (pe_cal C1 hr (pa_cons (pe_fld (pv 5) rfl) (pa_cons (pv 1) pa_nil)))) (blkOk_by (N := ["machine", "o", "in_registers", "in_slots", "number", "thing", "place", "told"]) (sc := defScope s_holders) (by decide +kernel))
          (fun s H C cl fp => pg_name (i := 6) sc_holders.nd rfl (Or.inl rfl)) (fun s H C cl fp => pts_nil) (fun s H C cl fp => pe_tup (pa_cons (pv 4) (pa_cons (pv 6) pa_nil)))) pa_nil))))))
      (pss_cons (ps_set (i := 7) sc_holders.nd rfl (Or.inl rfl) (pe_op op_cat (pe_op op_cat (pe_lst (pa_cons pe_int (pa_cons (pe_callB call_len_seq (by rfl) bLen PySem.boot_len (pa_cons (pv 2) pa_nil)) pa_nil))) (pv 2)) (pe_lst (pa_cons (pe_callB call_len_seq (by rfl) bLen PySem.boot_len (pa_cons (pv 3) pa_nil)) pa_nil))))
      (pss_cons (ps_for PassesOwn.never rfl (pi_list (pv 3)) (pg_tup rfl (pgs_cons (pg_name (i := 4) sc_holders.nd rfl (Or.inr rfl)) (pgs_cons (pg_name (i := 6) sc_holders.nd rfl (Or.inl rfl)) pgs_nil)))
        (pss_one (ps_expr (pe_bm PySem.F.plainAttrs_list PySem.F.slot_list_extend PySem.F.type_list_extend mt_extend (pv 7) (pa_cons (pe_lst (pa_cons (pv 4) (pa_cons (pv 6) pa_nil))) pa_nil)))))
      (pss_one (ps_ret (pv 7)))))))), ?_⟩
    obtain ⟨W, ⟨A, R, eF⟩, tot⟩ := id M
    refine Rep.macE (R) fun dx fs hm hlen l1 l2 l3 _ => ?_
    refine HeldAt.exE (R.held) fun hks hk _ _ _ ka kb => ?_
    refine ⟨_, rfl, _, rfl, m, CM, dx, fs, _, rfl, hm, T.clM, T.nHeld, l2, A.ha, _, rfl, DGet.k (k := Sum.inl o) hk, _, rfl, ?_⟩
    cases hv : valV hks (Sum.inl o) with
    | none =>
      refine iteT ⟨(by show 1 ≤ sizeLine; decide), fun q hq => ?_⟩
      rw [holders_no (fun n e => by
        cases ec : Vasnpe.cellAt s.heap n with
        | none => rfl
        | some c =>
          have := ka n c ec
          rw [show nk n = (Sum.inl o : Key) by rw [e], hv] at this
          cases this)] at k
      exact tells_of M G k (same_new hq) hq (by rw [upd_same]; rfl) (by show 1 ≤ 2000; decide)
    | some v =>
      obtain ⟨n, cn, e1, ecn⟩ := kb _ _ hv
      have e1' : o = (n : Int) := Sum.inl.inj e1
      subst e1'
      rw [holders_yes ecn] at k
      refine iteF ?_
      refine ⟨_, rfl, m, CM, dx, fs, _, rfl, hm, T.clM, T.nReg, l1, _, rfl, A.ra, s.heap.regs, n, rfl, SqL.of R.regs, by rw [G.rlen]; decide, fun H1 ir hir hir1 s1 => ?_⟩
      refine ⟨Nat.zero_le _, fun is his => ?_⟩
      have his0 : H is = none := s1.free his
      have s2 : Same H1 (upd H1 is (.lst [])) := same_new his
      have his2 : upd H1 is (.lst []) is = some (.lst []) := upd_same
      have hir2 := s2 _ _ hir1
      have s02 := s1.trans s2
      have nri : ir ≠ is := ne_of_none hir1 his
      generalize upd H1 is (.lst []) = H2 at s2 his2 hir2 s02
      have R2 := R.same s02
      refine Rep.macE (R2) fun dx2 fs2 hm2 hlen2 l12 l22 l32 _ => ?_
      refine HeldAt.sortedE (R2.held) G.clen fun kvs ns hk2 hkeys h64 hsort => ?_
      refine ⟨_, rfl, m, CM, dx2, fs2, _, rfl, hm2, T.clM, T.nHeld, l22, A.ha, kvs, ns, rfl, hk2, hkeys, h64, fun ns' q hp hs hq => ?_⟩
      rw [hsort ns' hp hs]
      have nqi : q ≠ is := fun z => by rw [z, his2] at hq; cases hq
      have hh32 := heldIds_len s.heap
      refine ⟨q, rfl, ⟨_, SqL.of upd_same⟩, for_list (K := K) (a := q) (xs := (Vasnpe.heldIds s.heap).map iV) (fun i σ H' => ∃ v4 v5 : Option V, σ = [some (.ref m), some (.int (n : Int)), some (.ref ir), some (.ref is), v4, v5, none, none] ∧ PrsAt H' is (((Vasnpe.heldIds s.heap).take i).flatMap (slotPairs s.heap n)) ∧ H' ir = some (.lst ((placesOf s.heap.regs n).map iV)) ∧ H' q = some (.lst ((Vasnpe.heldIds s.heap).map iV)) ∧ Same H H')
        ⟨none, none, rfl, ⟨[], by rw [upd_ne nqi.symm]; exact his2, rfl, fun p hp => by simp at hp⟩, by rw [upd_ne (ne_of_none hir2 hq)]; exact hir2, upd_same, s02.trans (same_new hq)⟩ (fun i σ H' _ ⟨_, _, _, _, _, e, _⟩ => SqL.of e) ?_ ?_⟩
      · rintro i y σ H' hi ⟨v4, v5, rfl, PR, hir', hq', sm⟩
        obtain ⟨o', ho, rfl⟩ := map_get hi
        obtain ⟨c, ec⟩ := (heldIds_mem G.clen).mp (List.mem_of_getElem? ho)
        have R' := R.same sm
        refine Rep.macE (R') fun dx' fs' hm' hlen' l1' l2' l3' _ => ?_
        refine HeldAt.exE (R'.held) fun hks' hk' _ _ _ ka' _ => ?_
        have hdg : DGet H' A.ha (iV o') (some (.ref (A.tA o'))) := by
          have := DGet.k (k := nk o') hk'
          rw [ka' o' c ec] at this
          exact this
        refine ThingAt.exE ((R'.thing o' c ec)) fun dt ft t1 t2 t3 t4 t5 t6 t7 => ?_
        have h5 := slots5 G ec
        obtain ⟨ps, p1, p2, p3⟩ := PR
        have hpl : ps.length = (((Vasnpe.heldIds s.heap).take i).flatMap (slotPairs s.heap n)).length := by rw [← p2, List.length_map]
        have hpl2 : ps.length ≤ 160 := by
          have := pairs_flat_len G n ((Vasnpe.heldIds s.heap).take i)
          rw [List.length_take] at this
          omega
        refine ⟨_, rfl, m, CM, dx', fs', _, rfl, hm', T.clM, T.nHeld, l2', _, rfl, A.ha, _, rfl, hdg, ?_⟩
        refine ⟨_, rfl, .inl ⟨rfl, _, SqL.of p1⟩, _, rfl, A.tA o', CT, dt, ft, _, rfl, t1, T.clT, T.nSlots, t6, _, rfl, A.sA o', c.slots, n, rfl, SqL.of (R'.thing o' c ec).sl, by omega, fun H3 pl hpl0 hpl3 s3 => ?_⟩
        refine ⟨pl, rfl, ⟨_, SqL.of hpl3⟩, fun D hD => ?_⟩
        have hplen := placesOf_len c.slots n
        refine lc_list (K := K) (a := pl) (xs := (placesOf c.slots n).map iV) (fun j H4 => PrsAt H4 D (((placesOf c.slots n).take j).map fun p => (o', p)) ∧ Same H3 H4) ⟨⟨[], upd_same, rfl, fun p hp => by simp at hp⟩, same_new hD⟩ (fun j H4 _ h => SqL.of (h.2 _ _ hpl3)) ?_ ?_
        · rintro j x H4 hj ⟨⟨qs, q1, q2, q3⟩, h2⟩
          obtain ⟨pc, hpc, rfl⟩ := map_get hj
          have hql : qs.length ≤ 5 := by
            have := congrArg List.length q2
            rw [List.length_map, List.length_map, List.length_take] at this
            omega
          refine ⟨rfl, ?_⟩
          unfold tYes
          refine iteT ?_
          refine ⟨_, rfl, _, rfl, (by show 2 ≤ sizeLine; decide), fun t ht => ?_⟩
          have hDt := ne_of_none q1 ht
          refine ⟨_, by rw [upd_ne hDt]; exact q1, ?_, ⟨qs ++ [(t, (o', pc))], ?_, ?_, fun p hp => ?_⟩, fun b u e => ?_⟩
          · rw [List.length_map]
            exact Nat.lt_of_le_of_lt hql (by decide)
          · rw [upd_same, List.map_append]; rfl
          · rw [List.map_append, q2, take_snoc hpc, List.map_append]; rfl
          · rcases List.mem_append.mp hp with z | z
            · have := q3 p z
              rw [upd_ne (ne_of this q1 (by intro z; cases z)), upd_ne (ne_of_none this ht)]
              exact this
            · obtain rfl := List.mem_singleton.mp z
              rw [upd_ne hDt.symm, upd_same]
          · rw [upd_ne (ne_of_none e hD), upd_ne (ne_of_none (h2 _ _ e) ht)]
            exact h2 b u e
        · rintro H4 ⟨PD, s4⟩
          rw [List.length_map, List.take_length] at PD
          obtain ⟨qs, q1, q2, q3⟩ := PD
          have hql : qs.length ≤ 5 := by
            have := congrArg List.length q2
            rw [List.length_map, List.length_map] at this
            omega
          have s34 := s3.trans s4
          refine ⟨is, D, _, _, rfl, rfl, s34 _ _ p1, q1, ?_, ?_⟩
          · rw [List.length_map, List.length_map]
            show _ ≤ 16777216
            omega
          · have nqi' : q ≠ is := nqi
            refine ⟨_, _, rfl, ⟨ps ++ qs, ?_, ?_, fun p hp => ?_⟩, ?_, ?_, fun b u e => ?_⟩
            · rw [upd_same, List.map_append]
            · rw [List.map_append, p2, q2, flat_snoc _ ho, slotPairs_some ec]
            · have hx : H4 p.1 = some (.tup [iV p.2.1, iV p.2.2]) := (List.mem_append.mp hp).elim (fun z => s34 _ _ (p3 p z)) (q3 p)
              rw [upd_ne (ne_of hx (s34 _ _ p1) (by intro z; cases z))]
              exact hx
            · rw [upd_ne nri]; exact s34 _ _ hir'
            · rw [upd_ne nqi]; exact s34 _ _ hq'
            · rw [upd_ne (ne_of_none e his0)]; exact s34 _ _ (sm b u e)
      · rintro σ H' ⟨v4, v5, rfl, PR, hir', hq', sm⟩
        rw [List.length_map, List.take_length] at PR
        obtain ⟨ixs, hix, hixl⟩ := PR.len
        have hpf := pairs_flat_len G n (Vasnpe.heldIds s.heap)
        have hrl := placesOf_len s.heap.regs n
        rw [G.rlen] at hrl
        refine ⟨_, rfl, ir, _, rfl, .inl (SqL.of hir'), (by show 2 ≤ sizeLine; decide), fun a1 ha1 => ?_⟩
        rw [List.length_map]
        have s1' : Same H' (upd H' a1 (.lst [.int 0, .int ((placesOf s.heap.regs n).length : Int)])) := same_new ha1
        refine ⟨_, rfl, a1, ir, _, _, rfl, rfl, upd_same, s1' _ _ hir', ?_, fun a2 ha2 => ?_⟩
        · rw [List.length_map]
          show 2 + _ ≤ 16777216
          omega
        have s2' : Same H' (upd (upd H' a1 (.lst [.int 0, .int ((placesOf s.heap.regs n).length : Int)])) a2 (.lst ([.int 0, .int ((placesOf s.heap.regs n).length : Int)] ++ (placesOf s.heap.regs n).map iV))) := s1'.trans (same_new ha2)
        refine ⟨_, rfl, is, _, rfl, .inl (SqL.of (s2' _ _ hix)), (by show 1 ≤ sizeLine; decide), fun a3 ha3 => ?_⟩
        rw [hixl]
        have s3' := s2'.trans (same_new (o := .lst [.int ((((Vasnpe.heldIds s.heap).flatMap (slotPairs s.heap n)).length : Nat) : Int)]) ha3)
        refine ⟨a2, a3, _, _, rfl, rfl, by rw [upd_ne (ne_of_none upd_same ha3)]; exact upd_same, upd_same, ?_, fun g hg => ?_⟩
        · rw [List.length_append, List.length_map]
          show 2 + _ + 1 ≤ 16777216
          omega
        have s4' := s3'.trans (same_new (o := .lst (([V.int 0, .int ((placesOf s.heap.regs n).length : Int)] ++ (placesOf s.heap.regs n).map iV) ++ [.int ((((Vasnpe.heldIds s.heap).flatMap (slotPairs s.heap n)).length : Nat) : Int)])) hg)
        have hg0 : H g = none := sm.free (s3'.free hg)
        have eg : ([V.int 0, .int ((placesOf s.heap.regs n).length : Int)] ++ (placesOf s.heap.regs n).map iV) ++ [.int ((((Vasnpe.heldIds s.heap).flatMap (slotPairs s.heap n)).length : Nat) : Int)] = (0 :: (placesOf s.heap.regs n).length :: (placesOf s.heap.regs n ++ ((Vasnpe.heldIds s.heap).flatMap (slotPairs s.heap n)).length :: ([] : List (Nat × Nat)).flatMap fun s => [s.1, s.2])).map iV := by
          rw [List.map_cons, List.map_cons, List.map_append]
          rfl
        rw [eg] at s4' ⊢
        have PR4 := PR.same s4'
        have sm4 := sm.trans s4'
        generalize eH : upd (upd (upd (upd H' a1 _) a2 _) a3 _) g _ = H4 at s4' PR4 sm4
        have hg4 : H4 g = some (.lst ((0 :: (placesOf s.heap.regs n).length :: (placesOf s.heap.regs n ++ ((Vasnpe.heldIds s.heap).flatMap (slotPairs s.heap n)).length :: ([] : List (Nat × Nat)).flatMap fun s => [s.1, s.2])).map iV)) := by rw [← eH, upd_same]
        clear eH
        obtain ⟨ps, p1, p2, p3⟩ := PR4
        have hisg : is ≠ g := fun z => by
          have := s3' _ _ hix
          rw [z, hg] at this
          cases this
        refine ⟨_, rfl, is, rfl, ⟨_, SqL.of p1⟩, for_list (K := K) (a := is) (xs := ps.map fun p => V.ref p.1) (fun i σ H5 => ∃ v4 v5 v6 : Option V, σ = [some (.ref m), some (.int (n : Int)), some (.ref ir), some (.ref is), v4, v5, v6, some (.ref g)] ∧ H5 g = some (.lst ((0 :: (placesOf s.heap.regs n).length :: (placesOf s.heap.regs n ++ ((Vasnpe.heldIds s.heap).flatMap (slotPairs s.heap n)).length :: (((Vasnpe.heldIds s.heap).flatMap (slotPairs s.heap n)).take i).flatMap fun s => [s.1, s.2])).map iV)) ∧ (∀ b u, H4 b = some u → b ≠ g → H5 b = some u) ∧ Same H H5)
          ⟨_, _, _, rfl, hg4, fun b u e _ => e, sm4⟩ (fun i σ H5 _ ⟨_, _, _, _, _, kp, _⟩ => SqL.of (kp _ _ p1 hisg)) ?_ ?_⟩
        · rintro i y σ H5 hi ⟨v4, v5, v6, rfl, hg5, kp, sm5⟩
          obtain ⟨p, hp, rfl⟩ := map_get hi
          have hpt := p3 p (List.mem_of_getElem? hp)
          have hpt5 := kp _ _ hpt (ne_of hpt hg4 (by intro z; cases z))
          have hs2 : ((Vasnpe.heldIds s.heap).flatMap (slotPairs s.heap n))[i]? = some p.2 := by rw [← p2, List.getElem?_map, hp]; rfl
          refine ⟨p.1, _, rfl, SqT.of hpt5, rfl, _, _, rfl, _, _, rfl, rfl, ?_⟩
          refine ⟨_, rfl, .inl ⟨rfl, _, SqL.of hg5⟩, _, rfl, _, rfl, (by show 2 ≤ sizeLine; decide), fun r hr' => ?_⟩
          refine ⟨g, r, _, _, rfl, rfl, by rw [upd_ne (ne_of_none hg5 hr')]; exact hg5, upd_same, ?_, ?_⟩
          · rw [List.length_map, List.length_cons, List.length_cons, List.length_append, List.length_cons]
            have := two_len (((Vasnpe.heldIds s.heap).flatMap (slotPairs s.heap n)).take i)
            rw [List.length_take] at this
            show _ + 2 ≤ 16777216
            omega
          · refine ⟨_, _, _, rfl, ?_, fun b u e nb => by rw [upd_ne nb, upd_ne (ne_of_none (kp b u e nb) hr')]; exact kp b u e nb, fun b u e => by rw [upd_ne (ne_of_none e hg0), upd_ne (ne_of_none (sm5 _ _ e) hr')]; exact sm5 b u e⟩
            rw [upd_same, flat_snoc _ hs2, List.map_cons, List.map_cons, List.map_append, List.map_cons, List.map_cons, List.map_cons, List.map_append, List.map_cons, List.map_append, List.cons_append, List.cons_append, List.append_assoc]
            rfl
        · rintro σ H5 ⟨v4, v5, v6, rfl, hg5, kp, sm5⟩
          have el : ps.length = ((Vasnpe.heldIds s.heap).flatMap (slotPairs s.heap n)).length := by rw [← p2, List.length_map]
          rw [List.length_map, el, List.take_length] at hg5
          refine ⟨_, rfl, tells_nat M G k sm5 hg0 (by rw [holdersRow_eq]; exact hg5) ?_⟩
          rw [holdersRow_eq, List.length_cons, List.length_append, List.length_cons]
          have := two_len ((Vasnpe.heldIds s.heap).flatMap (slotPairs s.heap n))
          omega
end
end Hc
set_option Elab.async false
set_option linter.all false
set_option maxRecDepth 100000
set_option maxHeartbeats 4000000
namespace Hc
open PySem PySem.Spec PyProof.Rows L2
section
variable {P : Program} {w : World} {K : PySem.W.Frag} {mg : Str → Option Value} {base : Heap} {CM CT : Addr}
theorem sc_totals : FnScope ["machine", "held", "held_sizes"] ["machine"] (defScope s_totals) := ⟨rfl, rfl, rfl, by decide +kernel, rfl, by decide +kernel, by decide +kernel⟩
theorem ok_totals {f : Addr} {fd : FuncData} (F : Fun K "totals" "totals" s_totals f fd) (T : Txt K mg CM CT) (bLen : mg "len" = none) (bList : mg "list" = none) (C1 : Callee P w K mg base 1 "sizes_together" ["things"] (spSizes K CT)) : FnOk P w K mg base CX0 2 f fd ["machine"] (spView CM CT .totals) := by
  refine F.ok sc_totals (fun vs H Q E h => ?_) (fun cdv A0 outer s H vs Q E hr h => ?_)
  · obtain ⟨m, F, s, rfl, _⟩ := h
    rfl
  · obtain ⟨m, F, s, rfl, M, G, k⟩ := h
    refine ⟨_, pss_cons (ps_set (i := 1) sc_totals.nd rfl (Or.inl rfl) (pe_callB call_lenD (by rfl) bLen PySem.boot_len (pa_cons (pe_fld (pv 0) rfl) pa_nil)))
      (pss_cons (ps_set (i := 2) sc_totals.nd rfl (Or.inl rfl) (pe_cal C1 hr (pa_cons (pe_callTy (cr_listVals rfl) (by rfl) bList (by rfl) (pa_cons (pe_bm0 PySem.F.plainAttrs_dict PySem.F.slot_dict_values PySem.F.type_dict_values mt_values (pe_fld (pv 0) rfl)) pa_nil)) pa_nil)))
      (pss_one (ps_ret (pe_lst (pa_cons pe_int (pa_cons (pe_fld (pv 0) rfl) (pa_cons (pe_fld (pv 0) rfl) (pa_cons (pe_op op_sub (pe_fld (pv 0) rfl) (pv 1)) (pa_cons (pe_op op_sub (pe_fld (pv 0) rfl) (pv 2)) (pa_cons (pv 1) (pa_cons (pv 2) pa_nil))))))))))), ?_⟩
    obtain ⟨W, ⟨A, R, eF⟩, ⟨hW, inv⟩⟩ := id M
    refine Rep.macE (R) fun dx fs hm hlen l1 l2 l3 l6 => ?_
    obtain ⟨ms, hk, nd, m32, mlen, mem⟩ := R.held.keys
    refine ⟨_, rfl, m, CM, dx, fs, _, rfl, hm, T.clM, T.nHeld, l2, A.ha, _, rfl, hk, ?_⟩
    rw [List.length_map, mlen]
    refine ⟨_, rfl, m, CM, dx, fs, _, rfl, hm, T.clM, T.nHeld, l2, .inr (.inr (.inl ⟨rfl, .inl ⟨_, hk⟩⟩)), A.ha, _, rfl, rfl, hk, fun p hp => ?_⟩
    have s1 : Same H (upd H p (.ext fun h => h.IsValuesView p A.ha)) := same_new hp
    refine ⟨p, A.ha, _, rfl, upd_same, s1 _ _ hk, fun l hl => ?_⟩
    have s2 := s1.trans (same_new (o := .lst ((ms.map fun o => (nk o, V.ref (A.tA o))).map (·.2))) hl)
    have R2 := R.same s2
    refine ⟨l, ms.map fun o => (A.tA o, zOf s.heap o), rfl, SqL.of (by rw [upd_same, List.map_map, List.map_map]; rfl), fun q hq => ?_, by rw [List.length_map]; omega, fun H3 s3 => ?_⟩
    · obtain ⟨o, ho, rfl⟩ := List.mem_map.mp hq
      obtain ⟨c, ec⟩ := (mem o).mp ho
      refine ThingAt.exE ((R2.thing o c ec)) fun dt ft t1 t2 t3 t4 t5 t6 t7 => ?_
      refine ⟨dt, ft, t1, ?_⟩
      show ft.lookup ("size" : Str) = some (iV (zOf s.heap o))
      unfold zOf
      rw [ec]
      exact t5
    · have hperm : ms.Perm (Vasnpe.heldIds s.heap) := (List.perm_ext_iff_of_nodup nd (heldIds_nodup _)).mpr fun o => by rw [mem, heldIds_mem G.clen]
      have esum : ((ms.map fun o => (A.tA o, zOf s.heap o)).map (·.2)).sum = Vasnpe.sizeOf s.heap (Vasnpe.heldIds s.heap) := by
        rw [sizeOf_S, ← S_perm hperm, List.map_map]
        rfl
      rw [esum]
      have s03 := s2.trans s3
      have R3 := R.same s03
      refine Rep.macE (R3) fun dx3 fs3 hm3 hlen3 l13 l23 l33 l63 => ?_
      have hmade : lk fs3 "made" = some (.int (s.totals.made : Int)) := (l63 _ no_made).trans hW.1
      have hmades : lk fs3 "made_sizes" = some (.int (s.totals.madeSize : Int)) := (l63 _ no_mades).trans hW.2
      refine ⟨_, rfl, m, CM, dx3, fs3, _, rfl, hm3, T.clM, T.nMade, hmade, _, rfl, m, CM, dx3, fs3, _, rfl, hm3, T.clM, T.nMadeS, hmades, _, rfl, m, CM, dx3, fs3, _, rfl, hm3, T.clM, T.nMade, hmade, _, rfl, _, _, rfl, rfl, _, rfl, m, CM, dx3, fs3, _, rfl, hm3, T.clM, T.nMadeS, hmades, _, rfl, _, _, rfl, rfl, _, rfl, _, rfl, (by show 7 ≤ sizeLine; decide), fun g hg => ?_⟩
      refine tells_nat M G k (s03.trans (same_new hg)) (s03.free hg) ?_ (by show 6 ≤ 1999; decide)
      rw [upd_same]
      have e1 : (s.totals.made : Int) - ((Vasnpe.heldIds s.heap).length : Int) = ((s.totals.gone : Nat) : Int) := by
        have := inv.num
        omega
      have e2 : (s.totals.madeSize : Int) - ((Vasnpe.sizeOf s.heap (Vasnpe.heldIds s.heap) : Nat) : Int) = ((s.totals.goneSize : Nat) : Int) := by
        have := inv.siz
        rw [sizeOf_S]
        omega
      try dsimp only
      rw [e1, e2]
      rfl
inductive VEnc : Vasnpe.Call → Int → List Int → Prop
  | regs : VEnc .regs 7 []
  | objects : VEnc .objects 8 []
  | live : VEnc .live 9 []
  | waste : VEnc .waste 10 []
  | suspects : VEnc .suspects 11 []
  | trial : VEnc .trial 12 []
  | row : VEnc .row 13 []
  | holders (o : Int) : VEnc (.holders o) 14 [o]
  | totals : VEnc .totals 15 []
structure VCst (mg : Str → Option Value) : Prop where
  regs : GI mg "REGS" 7
  objects : GI mg "OBJECTS" 8
  live : GI mg "LIVE" 9
  waste : GI mg "WASTE" 10
  suspects : GI mg "SUSPECTS" 11
  trial : GI mg "TRIAL" 12
  row : GI mg "ROW" 13
  holders : GI mg "HOLDERS" 14
inductive spLookI (K : PySem.W.Frag) (CM CT : Addr) (vs : List V) (H : Hp) (Q : VK) : Prop
  | mk : ∀ (m a : Addr) (F : AS) (s : Vasnpe.State) (k : Vasnpe.Call) (c : Int) (args : List Int), (vs = [.ref m, .int c, .ref a]) → (VEnc k c args) → (SqL K H a (args.map V.int)) → (MachS CM CT H m F s) → (Good s.heap []) → (Tells CM CT H m F (Vasnpe.step s k) Q) → spLookI K CM CT vs H Q
def spLook (K : PySem.W.Frag) (CM CT : Addr) : Sp := fun vs H Q _ => spLookI K CM CT vs H Q
theorem sc_view : FnScope ["machine", "call", "arguments"] ["machine", "call", "arguments"] (defScope s_view) := ⟨rfl, rfl, rfl, by decide +kernel, rfl, by decide +kernel, by decide +kernel⟩
theorem ok_view {f : Addr} {fd : FuncData} (F : Fun K "view" "view" s_view f fd) (Y : VCst mg) (C7 : Callee P w K mg base 2 "regs" ["machine"] (spRegs CM CT)) (C8 : Callee P w K mg base 2 "objects" ["machine"] (spView CM CT .objects)) (C9 : Callee P w K mg base 4 "live" ["machine"] (spView CM CT .live)) (C10 : Callee P w K mg base 4 "waste" ["machine"] (spView CM CT .waste)) (C11 : Callee P w K mg base 1 "suspects" ["machine"] (spView CM CT .suspects))
    (C12 : Callee P w K mg base 4 "trial" ["machine"] (spView CM CT .trial)) (C13 : Callee P w K mg base 3 "row" ["machine"] (spView CM CT .row)) (C14 : Callee P w K mg base 2 "holders" ["machine", "o"] (spHolders CM CT)) (C15 : Callee P w K mg base 2 "totals" ["machine"] (spView CM CT .totals)) : FnOk P w K mg base CX0 5 f fd ["machine", "call", "arguments"] (spLook K CM CT) := by
  refine F.ok sc_view (fun vs H Q E h => ?_) (fun cdv A0 outer s H vs Q E hr h => ?_)
  · obtain ⟨m, a, F, s, k, c, args, rfl, _⟩ := h
    rfl
  · obtain ⟨m, a, F, s, kc, c, args, rfl, en, hS, M, G, k⟩ := h
    have hr1 : Room 1 _ := hr.mono (by decide)
    have hr2 : Room 2 _ := hr.mono (by decide)
    have hr3 : Room 3 _ := hr.mono (by decide)
    refine ⟨_, pss_cons (ps_if (pt_cmpR op_eq (pv 1) (pe_gi Y.regs) (nomark _)) (pss_one (ps_ret (pe_cal C7 hr2 (pa_cons (pv 0) pa_nil)))) pss_nil)
      (pss_cons (ps_if (pt_cmpR op_eq (pv 1) (pe_gi Y.objects) (nomark _)) (pss_one (ps_ret (pe_cal C8 hr2 (pa_cons (pv 0) pa_nil)))) pss_nil)
      (pss_cons (ps_if (pt_cmpR op_eq (pv 1) (pe_gi Y.live) (nomark _)) (pss_one (ps_ret (pe_cal C9 hr (pa_cons (pv 0) pa_nil)))) pss_nil)
      (pss_cons (ps_if (pt_cmpR op_eq (pv 1) (pe_gi Y.waste) (nomark _)) (pss_one (ps_ret (pe_cal C10 hr (pa_cons (pv 0) pa_nil)))) pss_nil)
      (pss_cons (ps_if (pt_cmpR op_eq (pv 1) (pe_gi Y.suspects) (nomark _)) (pss_one (ps_ret (pe_cal C11 hr1 (pa_cons (pv 0) pa_nil)))) pss_nil)
      (pss_cons (ps_if (pt_cmpR op_eq (pv 1) (pe_gi Y.trial) (nomark _)) (pss_one (ps_ret (pe_cal C12 hr (pa_cons (pv 0) pa_nil)))) pss_nil)
      (pss_cons (ps_if (pt_cmpR op_eq (pv 1) (pe_gi Y.row) (nomark _)) (pss_one (ps_ret (pe_cal C13 hr3 (pa_cons (pv 0) pa_nil)))) pss_nil)
      (pss_cons (ps_if (pt_cmpR op_eq (pv 1) (pe_gi Y.holders) (nomark _)) (pss_one (ps_ret (pe_cal C14 hr2 (pa_cons (pv 0) (pa_cons (pe_ix ix_list (pv 2) pe_int (fun _ _ => rfl)) pa_nil))))) pss_nil)
      (pss_one (ps_ret (pe_cal C15 hr2 (pa_cons (pv 0) pa_nil))))))))))), ?_⟩
    refine ⟨_, rfl, rfl, _, rfl, ?_⟩
    cases en with
    | regs => exact iteT ⟨_, rfl, m, F, s, rfl, M, G, k⟩
    | objects => exact iteF ⟨_, rfl, rfl, _, rfl, iteT ⟨_, rfl, m, F, s, rfl, M, G, k⟩⟩
    | live => exact iteF ⟨_, rfl, rfl, _, rfl, iteF ⟨_, rfl, rfl, _, rfl, iteT ⟨_, rfl, m, F, s, rfl, M, G, k⟩⟩⟩
    | waste => exact iteF ⟨_, rfl, rfl, _, rfl, iteF ⟨_, rfl, rfl, _, rfl, iteF ⟨_, rfl, rfl, _, rfl, iteT ⟨_, rfl, m, F, s, rfl, M, G, k⟩⟩⟩⟩
    | suspects => exact iteF ⟨_, rfl, rfl, _, rfl, iteF ⟨_, rfl, rfl, _, rfl, iteF ⟨_, rfl, rfl, _, rfl, iteF ⟨_, rfl, rfl, _, rfl, iteT ⟨_, rfl, m, F, s, rfl, M, G, k⟩⟩⟩⟩⟩
    | trial => exact iteF ⟨_, rfl, rfl, _, rfl, iteF ⟨_, rfl, rfl, _, rfl, iteF ⟨_, rfl, rfl, _, rfl, iteF ⟨_, rfl, rfl, _, rfl, iteF ⟨_, rfl, rfl, _, rfl, iteT ⟨_, rfl, m, F, s, rfl, M, G, k⟩⟩⟩⟩⟩⟩
    | row => exact iteF ⟨_, rfl, rfl, _, rfl, iteF ⟨_, rfl, rfl, _, rfl, iteF ⟨_, rfl, rfl, _, rfl, iteF ⟨_, rfl, rfl, _, rfl, iteF ⟨_, rfl, rfl, _, rfl, iteF ⟨_, rfl, rfl, _, rfl, iteT ⟨_, rfl, m, F, s, rfl, M, G, k⟩⟩⟩⟩⟩⟩⟩
    | holders o => exact iteF ⟨_, rfl, rfl, _, rfl, iteF ⟨_, rfl, rfl, _, rfl, iteF ⟨_, rfl, rfl, _, rfl, iteF ⟨_, rfl, rfl, _, rfl, iteF ⟨_, rfl, rfl, _, rfl, iteF ⟨_, rfl, rfl, _, rfl, iteF ⟨_, rfl, rfl, _, rfl, iteT ⟨_, rfl, _, rfl, a, _, _, _, rfl, rfl, hS, rfl, m, F, s, o, rfl, M, G, k⟩⟩⟩⟩⟩⟩⟩⟩
    | totals => exact iteF ⟨_, rfl, rfl, _, rfl, iteF ⟨_, rfl, rfl, _, rfl, iteF ⟨_, rfl, rfl, _, rfl, iteF ⟨_, rfl, rfl, _, rfl, iteF ⟨_, rfl, rfl, _, rfl, iteF ⟨_, rfl, rfl, _, rfl, iteF ⟨_, rfl, rfl, _, rfl, iteF ⟨_, rfl, m, F, s, rfl, M, G, k⟩⟩⟩⟩⟩⟩⟩⟩
end
end Hc
set_option Elab.async false
set_option linter.all false
set_option maxRecDepth 100000
set_option maxHeartbeats 4000000
namespace Hc
open PySem PySem.Spec PyProof.Rows L2
abbrev viewTab : List (Int × Int) := [(7, 0), (8, 0), (9, 0), (10, 0), (11, 0), (12, 0), (13, 0), (14, 1), (15, 0)]
theorem cenc_cases {k : Vasnpe.Call} {c : Int} {args : List Int} (e : CEnc k c args) : (∃ p, k = callI p ∧ Enc p c args) ∨ (∃ x, k = .run x ∧ c = 6 ∧ args = (x.length : Int) :: x) ∨ VEnc k c args := by
  cases e with
  | op e => exact .inl ⟨_, rfl, e⟩
  | run x => exact .inr (.inl ⟨x, rfl, rfl, rfl⟩)
  | regs => exact .inr (.inr .regs)
  | objects => exact .inr (.inr .objects)
  | live => exact .inr (.inr .live)
  | waste => exact .inr (.inr .waste)
  | suspects => exact .inr (.inr .suspects)
  | trial => exact .inr (.inr .trial)
  | row => exact .inr (.inr .row)
  | holders o => exact .inr (.inr (.holders o))
  | totals => exact .inr (.inr .totals)
theorem enc_tab {p : IOp} {c : Int} {args : List Int} (e : Enc p c args) : valV (tabV opTab) (Sum.inl c) = some (.int (args.length : Int)) ∧ decide (V.int c = V.int 6) = false := by
  cases e with
  | new r k z n => exact ⟨rfl, by decide⟩
  | copy r s => exact ⟨rfl, by decide⟩
  | load r s i => exact ⟨rfl, by decide⟩
  | store s i r => exact ⟨rfl, by decide⟩
  | clear r => exact ⟨rfl, by decide⟩
  | collect => exact ⟨rfl, by decide⟩
theorem venc_tab {k : Vasnpe.Call} {c : Int} {args : List Int} (e : VEnc k c args) : valV (tabV opTab) (Sum.inl c) = none ∧ valV (tabV viewTab) (Sum.inl c) = some (.int (args.length : Int)) ∧ decide (V.int c = V.int 6) = false := by
  cases e with
  | regs => exact ⟨rfl, rfl, by decide⟩
  | objects => exact ⟨rfl, rfl, by decide⟩
  | live => exact ⟨rfl, rfl, by decide⟩
  | waste => exact ⟨rfl, rfl, by decide⟩
  | suspects => exact ⟨rfl, rfl, by decide⟩
  | trial => exact ⟨rfl, rfl, by decide⟩
  | row => exact ⟨rfl, rfl, by decide⟩
  | holders o => exact ⟨rfl, rfl, by decide⟩
  | totals => exact ⟨rfl, rfl, by decide⟩
section
variable {P : Program} {w : World} {K : PySem.W.Frag} {mg : Str → Option Value} {base : Heap} {CM CT : Addr}
theorem sc_end : FnScope ["calls", "place", "call"] ["calls", "place"] (defScope s_call_end) := ⟨rfl, rfl, rfl, by decide +kernel, rfl, by decide +kernel, by decide +kernel⟩
theorem ok_end {f dT dV : Addr} {fd : FuncData} (F : Fun K "call_end" "call_end" s_call_end f fd) (gR : GI mg "RUN" 6) (gT : mg "OPERATION_ARGUMENTS" = some (.ref dT)) (hT : ModD P w K dT (tabV opTab)) (gV : mg "VIEW_ARGUMENTS" = some (.ref dV)) (hV : ModD P w K dV (tabV viewTab)) : FnOk P w K mg base CX0 1 f fd ["calls", "place"] (spEnd K) := by
  refine F.ok sc_end (fun vs H Q E h => ?_) (fun cdv A0 outer s H vs Q E hr h => ?_)
  · obtain ⟨a, l, t, place, k, rfl, _⟩ := h
    rfl
  · obtain ⟨a, l, t, place, kc, rfl, hS, tk, k⟩ := h
    refine ⟨_, pss_cons (ps_set (i := 2) sc_end.nd rfl (Or.inl rfl) (pe_ix ix_list (pv 0) (pv 1) (fun _ _ => rfl)))
      (pss_cons (ps_if (pt_cmpR op_eq (pv 2) (pe_gi gR) (nomark _)) (pss_one (ps_ret (pe_op op_add (pe_op op_add (pv 1) pe_int) (pe_ix ix_list (pv 0) (pe_op op_add (pv 1) pe_int) (fun _ _ => rfl))))) pss_nil)
      (pss_cons (ps_if (pt_cmp (pc_min hT (pv 2) (pe_glob (v := .ref dT) rfl gT rfl))) (pss_one (ps_ret (pe_op op_add (pe_op op_add (pv 1) pe_int) (pe_mget hT (pe_glob (v := .ref dT) rfl gT rfl) (pv 2) (fun _ _ => rfl))))) pss_nil)
      (pss_one (ps_ret (pe_op op_add (pe_op op_add (pv 1) pe_int) (pe_mget hV (pe_glob (v := .ref dV) rfl gV rfl) (pv 2) (fun _ _ => rfl))))))), ?_⟩
    obtain ⟨c, args, hdrop, cenc⟩ := told_enc tk
    have hlens : l.length - place = 1 + args.length + t.length := by
      have := congrArg List.length hdrop
      rw [List.length_drop, List.length_cons, List.length_append] at this
      omega
    have he : l.length - t.length = place + 1 + args.length := by omega
    rw [he] at k
    have hc0 : l[place]? = some c := by
      have : (l.drop place)[0]? = some c := by rw [hdrop]; rfl
      rw [List.getElem?_drop] at this
      exact this
    refine ⟨_, rfl, _, rfl, a, _, _, .int c, rfl, rfl, hS, atI_nat (by rw [List.getElem?_map, hc0]; rfl), ?_⟩
    refine ⟨_, rfl, rfl, _, rfl, ?_⟩
    have fin : (V.int (((place : Int) + 1) + (args.length : Int))) = iV (place + 1 + args.length) := by
      unfold iV
      congr 1
    rcases cenc_cases cenc with ⟨p, rfl, en⟩ | ⟨x, rfl, rfl, rfl⟩ | en
    · obtain ⟨e1, e2⟩ := enc_tab en
      rw [e2]
      refine iteF ⟨_, rfl, Sum.inl c, rfl, rfl, _, rfl, ?_⟩
      rw [e1]
      refine iteT ⟨_, rfl, _, _, rfl, rfl, _, rfl, Sum.inl c, _, rfl, rfl, e1, _, _, rfl, rfl, ?_⟩
      show Q (V.int (((place : Int) + 1) + (args.length : Int))) H
      rw [fin]
      exact k
    · refine iteT ?_
      have hc1 : l[place + 1]? = some (x.length : Int) := by
        have : (l.drop place)[1]? = some (x.length : Int) := by rw [hdrop]; rfl
        rw [List.getElem?_drop] at this
        exact this
      refine ⟨_, rfl, _, _, rfl, rfl, _, rfl, _, rfl, _, _, rfl, rfl, a, _, _, .int (x.length : Int), rfl, rfl, hS, ?_, _, _, rfl, rfl, ?_⟩
      · have e1 : (place : Int) + 1 = ((place + 1 : Nat) : Int) := by omega
        rw [e1]
        exact atI_nat (by rw [List.getElem?_map, hc1]; rfl)
      · have e2 : V.int ((place : Int) + 2 + (x.length : Int)) = iV (place + 1 + ((x.length : Int) :: x).length) := by
          unfold iV
          congr 1
          rw [List.length_cons]
          omega
        show Q (V.int ((place : Int) + 2 + (x.length : Int))) H
        rw [e2]
        exact k
    · obtain ⟨e1, e2, e3⟩ := venc_tab en
      rw [e3]
      refine iteF ⟨_, rfl, Sum.inl c, rfl, rfl, _, rfl, ?_⟩
      rw [e1]
      refine iteF ⟨_, rfl, _, _, rfl, rfl, _, rfl, Sum.inl c, _, rfl, rfl, e2, _, _, rfl, rfl, ?_⟩
      show Q (V.int (((place : Int) + 1) + (args.length : Int))) H
      rw [fin]
      exact k
theorem sc_answer : FnScope ["machine", "call", "arguments"] ["machine", "call", "arguments"] (defScope s_answer) := ⟨rfl, rfl, rfl, by decide +kernel, rfl, by decide +kernel, by decide +kernel⟩
theorem ok_answer {f dT : Addr} {fd : FuncData} (F : Fun K "answer" "answer" s_answer f fd) (gR : GI mg "RUN" 6) (gT : mg "OPERATION_ARGUMENTS" = some (.ref dT)) (hT : ModD P w K dT (tabV opTab)) (C1 : Callee P w K mg base 7 "run" ["machine", "numbers"] (spRun K CM CT)) (C2 : Callee P w K mg base 7 "operation_answer" ["machine", "operation", "arguments"] (spOpAns K CM CT)) (C3 : Callee P w K mg base 5 "view" ["machine", "call", "arguments"] (spLook K CM CT)) :
    FnOk P w K mg base CX0 8 f fd ["machine", "call", "arguments"] (spAnswer K CM CT) := by
  refine F.ok sc_answer (fun vs H Q E h => ?_) (fun cdv A0 outer s H vs Q E hr h => ?_)
  · obtain ⟨m, a, F, s, k, c, args, rfl, _⟩ := h
    rfl
  · obtain ⟨m, a, F, s, kc, c, args, rfl, cenc, hS, hl, na, M, G, k⟩ := h
    have hr5 : Room 5 _ := hr.mono (by decide)
    refine ⟨_, pss_cons (ps_if (pt_cmpR op_eq (pv 1) (pe_gi gR) (nomark _)) (pss_one (ps_ret (pe_cal C1 hr (pa_cons (pv 0) (pa_cons (pe_slice sl_list (pv 2) (po_some pe_int) po_none) pa_nil))))) pss_nil)
      (pss_cons (ps_if (pt_cmp (pc_min hT (pv 1) (pe_glob (v := .ref dT) rfl gT rfl))) (pss_one (ps_ret (pe_cal C2 hr (pa_cons (pv 0) (pa_cons (pv 1) (pa_cons (pv 2) pa_nil)))))) pss_nil)
      (pss_one (ps_ret (pe_cal C3 hr5 (pa_cons (pv 0) (pa_cons (pv 1) (pa_cons (pv 2) pa_nil))))))), ?_⟩
    refine ⟨_, rfl, rfl, _, rfl, ?_⟩
    rcases cenc_cases cenc with ⟨p, rfl, en⟩ | ⟨x, rfl, rfl, rfl⟩ | en
    · obtain ⟨e1, e2⟩ := enc_tab en
      rw [e2]
      refine iteF ⟨_, rfl, Sum.inl c, rfl, rfl, _, rfl, ?_⟩
      rw [e1]
      exact iteT ⟨_, rfl, _, rfl, _, rfl, m, a, F, s, p, c, args, rfl, en, hS, na, M, G, k⟩
    · refine iteT ⟨_, rfl, _, rfl, _, rfl, a, _, rfl, hS, fun b hb => ?_⟩
      have ecut : cutV ((((x.length : Int) :: x)).map V.int) (some 1) none = x.map V.int := by
        unfold cutV
        rw [show (some (1 : Int)) = some ((1 : Nat) : Int) from rfl, HT.sIx_nat, List.map_cons, List.length_cons, show min 1 ((x.map V.int).length + 1) = 1 by omega]
        show (x.map V.int).take ((x.map V.int).length + 1 - 1) = x.map V.int
        rw [Nat.add_sub_cancel, List.take_length]
      rw [ecut]
      have s1 : Same H (upd H b (.lst (x.map V.int))) := same_new hb
      rw [List.length_cons] at hl
      refine ⟨m, b, F, s, x, rfl, SqL.of upd_same, by omega, M.same s1, G, fun H' F' g M' G' f' hg ng fr => ?_⟩
      have hlen : (Vasnpe.runRow s x).2.length ≤ 2000 := by
        cases e : readI x with
        | none => rw [runRow_none e]; show 1 ≤ 2000; decide
        | some ops => rw [runRow_some e]; show 5 ≤ 2000; decide
      exact k H' F' g M' G' ((Frm.same s1).trans f') hg hlen ng (fun b' u e nb => fr b' u (s1 _ _ e) nb)
    · obtain ⟨e1, e2, e3⟩ := venc_tab en
      rw [e3]
      refine iteF ⟨_, rfl, Sum.inl c, rfl, rfl, _, rfl, ?_⟩
      rw [e1]
      exact iteF ⟨_, rfl, _, rfl, _, rfl, m, a, F, s, kc, c, args, rfl, en, hS, M, G, k⟩
end
end Hc
set_option Elab.async false
set_option linter.all false
set_option maxRecDepth 100000
set_option maxHeartbeats 8000000
namespace Hc
open PySem PySem.Spec PyProof.Rows L2
theorem all_mk {P : Program} {w : World} {K : PySem.W.Frag} {h : Heap} {mg : Str → Option Value} {fa : Addr} (X : K.In h) (G : h.Ns mainGlobals mg) (hfa : mg "answers" = some (.ref fa))
    {C_Thing : Addr}
    {f0 : Addr} {od0 an0 : Option Addr} {sl0 : Array (Option Value)} {oc0 kV0 dc0 pm0 cd0 ct0 : Value}
    {C_Machine : Addr}
    {f1 : Addr} {od1 an1 : Option Addr} {sl1 : Array (Option Value)} {oc1 kV1 dc1 pm1 cd1 ct1 : Value}
    {f2 : Addr} {od2 an2 : Option Addr} {sl2 : Array (Option Value)} {oc2 kV2 dc2 pm2 cd2 ct2 : Value}
    {f3 : Addr} {od3 an3 : Option Addr} {sl3 : Array (Option Value)} {oc3 kV3 dc3 pm3 cd3 ct3 : Value}
    {f4 : Addr} {od4 an4 : Option Addr} {sl4 : Array (Option Value)} {oc4 kV4 dc4 pm4 cd4 ct4 : Value}
    {f5 : Addr} {od5 an5 : Option Addr} {sl5 : Array (Option Value)} {oc5 kV5 dc5 pm5 cd5 ct5 : Value}
    {f6 : Addr} {od6 an6 : Option Addr} {sl6 : Array (Option Value)} {oc6 kV6 dc6 pm6 cd6 ct6 : Value}
    {f7 : Addr} {od7 an7 : Option Addr} {sl7 : Array (Option Value)} {oc7 kV7 dc7 pm7 cd7 ct7 : Value}
    {f8 : Addr} {od8 an8 : Option Addr} {sl8 : Array (Option Value)} {oc8 kV8 dc8 pm8 cd8 ct8 : Value}
    {f9 : Addr} {od9 an9 : Option Addr} {sl9 : Array (Option Value)} {oc9 kV9 dc9 pm9 cd9 ct9 : Value}
    {f10 : Addr} {od10 an10 : Option Addr} {sl10 : Array (Option Value)} {oc10 kV10 dc10 pm10 cd10 ct10 : Value}
    {f11 : Addr} {od11 an11 : Option Addr} {sl11 : Array (Option Value)} {oc11 kV11 dc11 pm11 cd11 ct11 : Value}
    {f12 : Addr} {od12 an12 : Option Addr} {sl12 : Array (Option Value)} {oc12 kV12 dc12 pm12 cd12 ct12 : Value}
    {f13 : Addr} {od13 an13 : Option Addr} {sl13 : Array (Option Value)} {oc13 kV13 dc13 pm13 cd13 ct13 : Value}
    {f14 : Addr} {od14 an14 : Option Addr} {sl14 : Array (Option Value)} {oc14 kV14 dc14 pm14 cd14 ct14 : Value}
    {f15 : Addr} {od15 an15 : Option Addr} {sl15 : Array (Option Value)} {oc15 kV15 dc15 pm15 cd15 ct15 : Value}
    {f16 : Addr} {od16 an16 : Option Addr} {sl16 : Array (Option Value)} {oc16 kV16 dc16 pm16 cd16 ct16 : Value}
    {f17 : Addr} {od17 an17 : Option Addr} {sl17 : Array (Option Value)} {oc17 kV17 dc17 pm17 cd17 ct17 : Value}
    {f18 : Addr} {od18 an18 : Option Addr} {sl18 : Array (Option Value)} {oc18 kV18 dc18 pm18 cd18 ct18 : Value}
    {f19 : Addr} {od19 an19 : Option Addr} {sl19 : Array (Option Value)} {oc19 kV19 dc19 pm19 cd19 ct19 : Value}
    {f20 : Addr} {od20 an20 : Option Addr} {sl20 : Array (Option Value)} {oc20 kV20 dc20 pm20 cd20 ct20 : Value}
    {f21 : Addr} {od21 an21 : Option Addr} {sl21 : Array (Option Value)} {oc21 kV21 dc21 pm21 cd21 ct21 : Value}
    {f22 : Addr} {od22 an22 : Option Addr} {sl22 : Array (Option Value)} {oc22 kV22 dc22 pm22 cd22 ct22 : Value}
    {f23 : Addr} {od23 an23 : Option Addr} {sl23 : Array (Option Value)} {oc23 kV23 dc23 pm23 cd23 ct23 : Value}
    {f24 : Addr} {od24 an24 : Option Addr} {sl24 : Array (Option Value)} {oc24 kV24 dc24 pm24 cd24 ct24 : Value}
    {f25 : Addr} {od25 an25 : Option Addr} {sl25 : Array (Option Value)} {oc25 kV25 dc25 pm25 cd25 ct25 : Value}
    {f26 : Addr} {od26 an26 : Option Addr} {sl26 : Array (Option Value)} {oc26 kV26 dc26 pm26 cd26 ct26 : Value}
    {f27 : Addr} {od27 an27 : Option Addr} {sl27 : Array (Option Value)} {oc27 kV27 dc27 pm27 cd27 ct27 : Value}
    {f28 : Addr} {od28 an28 : Option Addr} {sl28 : Array (Option Value)} {oc28 kV28 dc28 pm28 cd28 ct28 : Value}
    {f29 : Addr} {od29 an29 : Option Addr} {sl29 : Array (Option Value)} {oc29 kV29 dc29 pm29 cd29 ct29 : Value}
    {f30 : Addr} {od30 an30 : Option Addr} {sl30 : Array (Option Value)} {oc30 kV30 dc30 pm30 cd30 ct30 : Value}
    {f31 : Addr} {od31 an31 : Option Addr} {sl31 : Array (Option Value)} {oc31 kV31 dc31 pm31 cd31 ct31 : Value}
    {f32 : Addr} {od32 an32 : Option Addr} {sl32 : Array (Option Value)} {oc32 kV32 dc32 pm32 cd32 ct32 : Value}
    {f33 : Addr} {od33 an33 : Option Addr} {sl33 : Array (Option Value)} {oc33 kV33 dc33 pm33 cd33 ct33 : Value}
    {f34 : Addr} {od34 an34 : Option Addr} {sl34 : Array (Option Value)} {oc34 kV34 dc34 pm34 cd34 ct34 : Value}
    {f35 : Addr} {od35 an35 : Option Addr} {sl35 : Array (Option Value)} {oc35 kV35 dc35 pm35 cd35 ct35 : Value}
    {f36 : Addr} {od36 an36 : Option Addr} {sl36 : Array (Option Value)} {oc36 kV36 dc36 pm36 cd36 ct36 : Value}
    {f37 : Addr} {od37 an37 : Option Addr} {sl37 : Array (Option Value)} {oc37 kV37 dc37 pm37 cd37 ct37 : Value}
    {f38 : Addr} {od38 an38 : Option Addr} {sl38 : Array (Option Value)} {oc38 kV38 dc38 pm38 cd38 ct38 : Value}
    {f39 : Addr} {od39 an39 : Option Addr} {sl39 : Array (Option Value)} {oc39 kV39 dc39 pm39 cd39 ct39 : Value}
    {f40 : Addr} {od40 an40 : Option Addr} {sl40 : Array (Option Value)} {oc40 kV40 dc40 pm40 cd40 ct40 : Value}
    {f41 : Addr} {od41 an41 : Option Addr} {sl41 : Array (Option Value)} {oc41 kV41 dc41 pm41 cd41 ct41 : Value}
    {f42 : Addr} {od42 an42 : Option Addr} {sl42 : Array (Option Value)} {oc42 kV42 dc42 pm42 cd42 ct42 : Value}
    {f43 : Addr} {od43 an43 : Option Addr} {sl43 : Array (Option Value)} {oc43 kV43 dc43 pm43 cd43 ct43 : Value}
    {f44 : Addr} {od44 an44 : Option Addr} {sl44 : Array (Option Value)} {oc44 kV44 dc44 pm44 cd44 ct44 : Value}
    {f45 : Addr} {od45 an45 : Option Addr} {sl45 : Array (Option Value)} {oc45 kV45 dc45 pm45 cd45 ct45 : Value}
    {f46 : Addr} {od46 an46 : Option Addr} {sl46 : Array (Option Value)} {oc46 kV46 dc46 pm46 cd46 ct46 : Value}
    {tk_NOT_REFUSED : Tok}
    {tk_NO_SUCH_REGISTER : Tok}
    {tk_HOLDS_NOTHING : Tok}
    {tk_OUT_OF_RANGE : Tok}
    {tk_FULL : Tok}
    {tk_NO_SUCH_SLOT : Tok}
    {tk_MOST_KIND : Tok}
    {tk_MOST_SIZE : Tok}
    {tk_MOST_SLOTS : Tok}
    {tk_MOST_HELD : Tok}
    {tk_NEW : Tok}
    {tk_COPY : Tok}
    {tk_LOAD : Tok}
    {tk_STORE : Tok}
    {tk_CLEAR : Tok}
    {tk_REGISTERS : Tok}
    {tk_NOT_OPERATIONS : Tok}
    {tk_RUN : Tok}
    {tk_NO_SUCH_OBJECT : Tok}
    {tk_REGS : Tok}
    {tk_OBJECTS : Tok}
    {tk_LIVE : Tok}
    {tk_WASTE : Tok}
    {tk_SUSPECTS : Tok}
    {tk_TRIAL : Tok}
    {tk_ROW : Tok}
    {tk_HOLDERS : Tok}
    {d_OPERATION_ARGUMENTS : Addr} {es_OPERATION_ARGUMENTS : Array DictEntry} {ep_OPERATION_ARGUMENTS : Nat}
    {d_VIEW_ARGUMENTS : Addr} {es_VIEW_ARGUMENTS : Array DictEntry} {ep_VIEW_ARGUMENTS : Nat}
    (a_Thing : PySem.W.nsIn K mainGlobals "Thing" = some (some (.ref C_Thing)))
    (a0 : PySem.W.findIn K (.ref C_Thing) "__init__" = some (some (.ref f0)))
    (i0 : PySem.W.isFn K (.ref f0) = true)
    (l0 : K.lookup f0 = some ⟨oc0, od0, .func (PySem.W.fnOf "__init__" "Thing.__init__" (defArgs s_Thing_init) (defBody s_Thing_init) (defScope s_Thing_init) .none kV0 dc0 pm0 an0 cd0 ct0), sl0⟩)
    (c0 : PySem.W.codeIn K cd0 "Thing.__init__" = true)
    (k0 : PySem.W.keepIn K (.ref f0) = true)
    (pg_Thing : PySem.W.plainGet K C_Thing Str.empty = true)
    (hd_Thing : PySem.W.hasDictIn K C_Thing = true)
    (po_Thing : PySem.W.plainOver K C_Thing = true)
    (sa_Thing : PySem.W.findIn K (.ref C_Thing) "__setattr__" = some (some (.builtin "object.__setattr__")))
    (mk_Thing : PySem.W.makesIn K C_Thing = true)
    (kc_Thing : PySem.W.keepIn K (.ref C_Thing) = true)
    (n_Thing_number : PySem.W.findIn K (.ref C_Thing) "number" = some none)
    (n_Thing_kind : PySem.W.findIn K (.ref C_Thing) "kind" = some none)
    (n_Thing_size : PySem.W.findIn K (.ref C_Thing) "size" = some none)
    (n_Thing_slots : PySem.W.findIn K (.ref C_Thing) "slots" = some none)
    (n_Thing_count : PySem.W.findIn K (.ref C_Thing) "count" = some none)
    (a_Machine : PySem.W.nsIn K mainGlobals "Machine" = some (some (.ref C_Machine)))
    (a1 : PySem.W.findIn K (.ref C_Machine) "__init__" = some (some (.ref f1)))
    (i1 : PySem.W.isFn K (.ref f1) = true)
    (l1 : K.lookup f1 = some ⟨oc1, od1, .func (PySem.W.fnOf "__init__" "Machine.__init__" (defArgs s_Machine_init) (defBody s_Machine_init) (defScope s_Machine_init) .none kV1 dc1 pm1 an1 cd1 ct1), sl1⟩)
    (c1 : PySem.W.codeIn K cd1 "Machine.__init__" = true)
    (k1 : PySem.W.keepIn K (.ref f1) = true)
    (pg_Machine : PySem.W.plainGet K C_Machine Str.empty = true)
    (hd_Machine : PySem.W.hasDictIn K C_Machine = true)
    (po_Machine : PySem.W.plainOver K C_Machine = true)
    (sa_Machine : PySem.W.findIn K (.ref C_Machine) "__setattr__" = some (some (.builtin "object.__setattr__")))
    (mk_Machine : PySem.W.makesIn K C_Machine = true)
    (kc_Machine : PySem.W.keepIn K (.ref C_Machine) = true)
    (n_Machine_registers : PySem.W.findIn K (.ref C_Machine) "registers" = some none)
    (n_Machine_held : PySem.W.findIn K (.ref C_Machine) "held" = some none)
    (n_Machine_suspects : PySem.W.findIn K (.ref C_Machine) "suspects" = some none)
    (n_Machine_made : PySem.W.findIn K (.ref C_Machine) "made" = some none)
    (n_Machine_made_sizes : PySem.W.findIn K (.ref C_Machine) "made_sizes" = some none)
    (a2 : PySem.W.nsIn K mainGlobals "filled" = some (some (.ref f2)))
    (l2 : K.lookup f2 = some ⟨oc2, od2, .func (PySem.W.fnOf "filled" "filled" (defArgs s_filled) (defBody s_filled) (defScope s_filled) .none kV2 dc2 pm2 an2 cd2 ct2), sl2⟩)
    (c2 : PySem.W.codeIn K cd2 "filled" = true)
    (k2 : PySem.W.keepIn K (.ref f2) = true)
    (a3 : PySem.W.nsIn K mainGlobals "least_free" = some (some (.ref f3)))
    (l3 : K.lookup f3 = some ⟨oc3, od3, .func (PySem.W.fnOf "least_free" "least_free" (defArgs s_least_free) (defBody s_least_free) (defScope s_least_free) .none kV3 dc3 pm3 an3 cd3 ct3), sl3⟩)
    (c3 : PySem.W.codeIn K cd3 "least_free" = true)
    (k3 : PySem.W.keepIn K (.ref f3) = true)
    (a4 : PySem.W.nsIn K mainGlobals "drop_suspect" = some (some (.ref f4)))
    (l4 : K.lookup f4 = some ⟨oc4, od4, .func (PySem.W.fnOf "drop_suspect" "drop_suspect" (defArgs s_drop_suspect) (defBody s_drop_suspect) (defScope s_drop_suspect) .none kV4 dc4 pm4 an4 cd4 ct4), sl4⟩)
    (c4 : PySem.W.codeIn K cd4 "drop_suspect" = true)
    (k4 : PySem.W.keepIn K (.ref f4) = true)
    (a5 : PySem.W.nsIn K mainGlobals "add_suspect" = some (some (.ref f5)))
    (l5 : K.lookup f5 = some ⟨oc5, od5, .func (PySem.W.fnOf "add_suspect" "add_suspect" (defArgs s_add_suspect) (defBody s_add_suspect) (defScope s_add_suspect) .none kV5 dc5 pm5 an5 cd5 ct5), sl5⟩)
    (c5 : PySem.W.codeIn K cd5 "add_suspect" = true)
    (k5 : PySem.W.keepIn K (.ref f5) = true)
    (a6 : PySem.W.nsIn K mainGlobals "one_more" = some (some (.ref f6)))
    (l6 : K.lookup f6 = some ⟨oc6, od6, .func (PySem.W.fnOf "one_more" "one_more" (defArgs s_one_more) (defBody s_one_more) (defScope s_one_more) .none kV6 dc6 pm6 an6 cd6 ct6), sl6⟩)
    (c6 : PySem.W.codeIn K cd6 "one_more" = true)
    (k6 : PySem.W.keepIn K (.ref f6) = true)
    (a7 : PySem.W.nsIn K mainGlobals "one_less" = some (some (.ref f7)))
    (l7 : K.lookup f7 = some ⟨oc7, od7, .func (PySem.W.fnOf "one_less" "one_less" (defArgs s_one_less) (defBody s_one_less) (defScope s_one_less) .none kV7 dc7 pm7 an7 cd7 ct7), sl7⟩)
    (c7 : PySem.W.codeIn K cd7 "one_less" = true)
    (k7 : PySem.W.keepIn K (.ref f7) = true)
    (a8 : PySem.W.nsIn K mainGlobals "put" = some (some (.ref f8)))
    (l8 : K.lookup f8 = some ⟨oc8, od8, .func (PySem.W.fnOf "put" "put" (defArgs s_put) (defBody s_put) (defScope s_put) .none kV8 dc8 pm8 an8 cd8 ct8), sl8⟩)
    (c8 : PySem.W.codeIn K cd8 "put" = true)
    (k8 : PySem.W.keepIn K (.ref f8) = true)
    (a9 : PySem.W.nsIn K mainGlobals "add_missing" = some (some (.ref f9)))
    (l9 : K.lookup f9 = some ⟨oc9, od9, .func (PySem.W.fnOf "add_missing" "add_missing" (defArgs s_add_missing) (defBody s_add_missing) (defScope s_add_missing) .none kV9 dc9 pm9 an9 cd9 ct9), sl9⟩)
    (c9 : PySem.W.codeIn K cd9 "add_missing" = true)
    (k9 : PySem.W.keepIn K (.ref f9) = true)
    (a10 : PySem.W.nsIn K mainGlobals "reached" = some (some (.ref f10)))
    (l10 : K.lookup f10 = some ⟨oc10, od10, .func (PySem.W.fnOf "reached" "reached" (defArgs s_reached) (defBody s_reached) (defScope s_reached) .none kV10 dc10 pm10 an10 cd10 ct10), sl10⟩)
    (c10 : PySem.W.codeIn K cd10 "reached" = true)
    (k10 : PySem.W.keepIn K (.ref f10) = true)
    (a11 : PySem.W.nsIn K mainGlobals "slot_holders" = some (some (.ref f11)))
    (l11 : K.lookup f11 = some ⟨oc11, od11, .func (PySem.W.fnOf "slot_holders" "slot_holders" (defArgs s_slot_holders) (defBody s_slot_holders) (defScope s_slot_holders) .none kV11 dc11 pm11 an11 cd11 ct11), sl11⟩)
    (c11 : PySem.W.codeIn K cd11 "slot_holders" = true)
    (k11 : PySem.W.keepIn K (.ref f11) = true)
    (a12 : PySem.W.nsIn K mainGlobals "outside_counts" = some (some (.ref f12)))
    (l12 : K.lookup f12 = some ⟨oc12, od12, .func (PySem.W.fnOf "outside_counts" "outside_counts" (defArgs s_outside_counts) (defBody s_outside_counts) (defScope s_outside_counts) .none kV12 dc12 pm12 an12 cd12 ct12), sl12⟩)
    (c12 : PySem.W.codeIn K cd12 "outside_counts" = true)
    (k12 : PySem.W.keepIn K (.ref f12) = true)
    (a13 : PySem.W.nsIn K mainGlobals "staying" = some (some (.ref f13)))
    (l13 : K.lookup f13 = some ⟨oc13, od13, .func (PySem.W.fnOf "staying" "staying" (defArgs s_staying) (defBody s_staying) (defScope s_staying) .none kV13 dc13 pm13 an13 cd13 ct13), sl13⟩)
    (c13 : PySem.W.codeIn K cd13 "staying" = true)
    (k13 : PySem.W.keepIn K (.ref f13) = true)
    (a14 : PySem.W.nsIn K mainGlobals "collect" = some (some (.ref f14)))
    (l14 : K.lookup f14 = some ⟨oc14, od14, .func (PySem.W.fnOf "collect" "collect" (defArgs s_collect) (defBody s_collect) (defScope s_collect) .none kV14 dc14 pm14 an14 cd14 ct14), sl14⟩)
    (c14 : PySem.W.codeIn K cd14 "collect" = true)
    (k14 : PySem.W.keepIn K (.ref f14) = true)
    (a15 : PySem.W.nsIn K mainGlobals "within" = some (some (.ref f15)))
    (l15 : K.lookup f15 = some ⟨oc15, od15, .func (PySem.W.fnOf "within" "within" (defArgs s_within) (defBody s_within) (defScope s_within) .none kV15 dc15 pm15 an15 cd15 ct15), sl15⟩)
    (c15 : PySem.W.codeIn K cd15 "within" = true)
    (k15 : PySem.W.keepIn K (.ref f15) = true)
    (a16 : PySem.W.nsIn K mainGlobals "is_register_number" = some (some (.ref f16)))
    (l16 : K.lookup f16 = some ⟨oc16, od16, .func (PySem.W.fnOf "is_register_number" "is_register_number" (defArgs s_is_register_number) (defBody s_is_register_number) (defScope s_is_register_number) .none kV16 dc16 pm16 an16 cd16 ct16), sl16⟩)
    (c16 : PySem.W.codeIn K cd16 "is_register_number" = true)
    (k16 : PySem.W.keepIn K (.ref f16) = true)
    (a17 : PySem.W.nsIn K mainGlobals "new_refusal" = some (some (.ref f17)))
    (l17 : K.lookup f17 = some ⟨oc17, od17, .func (PySem.W.fnOf "new_refusal" "new_refusal" (defArgs s_new_refusal) (defBody s_new_refusal) (defScope s_new_refusal) .none kV17 dc17 pm17 an17 cd17 ct17), sl17⟩)
    (c17 : PySem.W.codeIn K cd17 "new_refusal" = true)
    (k17 : PySem.W.keepIn K (.ref f17) = true)
    (a18 : PySem.W.nsIn K mainGlobals "registers_refusal" = some (some (.ref f18)))
    (l18 : K.lookup f18 = some ⟨oc18, od18, .func (PySem.W.fnOf "registers_refusal" "registers_refusal" (defArgs s_registers_refusal) (defBody s_registers_refusal) (defScope s_registers_refusal) .none kV18 dc18 pm18 an18 cd18 ct18), sl18⟩)
    (c18 : PySem.W.codeIn K cd18 "registers_refusal" = true)
    (k18 : PySem.W.keepIn K (.ref f18) = true)
    (a19 : PySem.W.nsIn K mainGlobals "slots_of" = some (some (.ref f19)))
    (l19 : K.lookup f19 = some ⟨oc19, od19, .func (PySem.W.fnOf "slots_of" "slots_of" (defArgs s_slots_of) (defBody s_slots_of) (defScope s_slots_of) .none kV19 dc19 pm19 an19 cd19 ct19), sl19⟩)
    (c19 : PySem.W.codeIn K cd19 "slots_of" = true)
    (k19 : PySem.W.keepIn K (.ref f19) = true)
    (a20 : PySem.W.nsIn K mainGlobals "slot_refusal" = some (some (.ref f20)))
    (l20 : K.lookup f20 = some ⟨oc20, od20, .func (PySem.W.fnOf "slot_refusal" "slot_refusal" (defArgs s_slot_refusal) (defBody s_slot_refusal) (defScope s_slot_refusal) .none kV20 dc20 pm20 an20 cd20 ct20), sl20⟩)
    (c20 : PySem.W.codeIn K cd20 "slot_refusal" = true)
    (k20 : PySem.W.keepIn K (.ref f20) = true)
    (a21 : PySem.W.nsIn K mainGlobals "refusal" = some (some (.ref f21)))
    (l21 : K.lookup f21 = some ⟨oc21, od21, .func (PySem.W.fnOf "refusal" "refusal" (defArgs s_refusal) (defBody s_refusal) (defScope s_refusal) .none kV21 dc21 pm21 an21 cd21 ct21), sl21⟩)
    (c21 : PySem.W.codeIn K cd21 "refusal" = true)
    (k21 : PySem.W.keepIn K (.ref f21) = true)
    (a22 : PySem.W.nsIn K mainGlobals "do_new" = some (some (.ref f22)))
    (l22 : K.lookup f22 = some ⟨oc22, od22, .func (PySem.W.fnOf "do_new" "do_new" (defArgs s_do_new) (defBody s_do_new) (defScope s_do_new) .none kV22 dc22 pm22 an22 cd22 ct22), sl22⟩)
    (c22 : PySem.W.codeIn K cd22 "do_new" = true)
    (k22 : PySem.W.keepIn K (.ref f22) = true)
    (a23 : PySem.W.nsIn K mainGlobals "perform" = some (some (.ref f23)))
    (l23 : K.lookup f23 = some ⟨oc23, od23, .func (PySem.W.fnOf "perform" "perform" (defArgs s_perform) (defBody s_perform) (defScope s_perform) .none kV23 dc23 pm23 an23 cd23 ct23), sl23⟩)
    (c23 : PySem.W.codeIn K cd23 "perform" = true)
    (k23 : PySem.W.keepIn K (.ref f23) = true)
    (a24 : PySem.W.nsIn K mainGlobals "sizes_together" = some (some (.ref f24)))
    (l24 : K.lookup f24 = some ⟨oc24, od24, .func (PySem.W.fnOf "sizes_together" "sizes_together" (defArgs s_sizes_together) (defBody s_sizes_together) (defScope s_sizes_together) .none kV24 dc24 pm24 an24 cd24 ct24), sl24⟩)
    (c24 : PySem.W.codeIn K cd24 "sizes_together" = true)
    (k24 : PySem.W.keepIn K (.ref f24) = true)
    (a25 : PySem.W.nsIn K mainGlobals "told_operations" = some (some (.ref f25)))
    (l25 : K.lookup f25 = some ⟨oc25, od25, .func (PySem.W.fnOf "told_operations" "told_operations" (defArgs s_told_operations) (defBody s_told_operations) (defScope s_told_operations) .none kV25 dc25 pm25 an25 cd25 ct25), sl25⟩)
    (c25 : PySem.W.codeIn K cd25 "told_operations" = true)
    (k25 : PySem.W.keepIn K (.ref f25) = true)
    (a26 : PySem.W.nsIn K mainGlobals "run" = some (some (.ref f26)))
    (l26 : K.lookup f26 = some ⟨oc26, od26, .func (PySem.W.fnOf "run" "run" (defArgs s_run) (defBody s_run) (defScope s_run) .none kV26 dc26 pm26 an26 cd26 ct26), sl26⟩)
    (c26 : PySem.W.codeIn K cd26 "run" = true)
    (k26 : PySem.W.keepIn K (.ref f26) = true)
    (a27 : PySem.W.nsIn K mainGlobals "went" = some (some (.ref f27)))
    (l27 : K.lookup f27 = some ⟨oc27, od27, .func (PySem.W.fnOf "went" "went" (defArgs s_went) (defBody s_went) (defScope s_went) .none kV27 dc27 pm27 an27 cd27 ct27), sl27⟩)
    (c27 : PySem.W.codeIn K cd27 "went" = true)
    (k27 : PySem.W.keepIn K (.ref f27) = true)
    (a28 : PySem.W.nsIn K mainGlobals "operation_answer" = some (some (.ref f28)))
    (l28 : K.lookup f28 = some ⟨oc28, od28, .func (PySem.W.fnOf "operation_answer" "operation_answer" (defArgs s_operation_answer) (defBody s_operation_answer) (defScope s_operation_answer) .none kV28 dc28 pm28 an28 cd28 ct28), sl28⟩)
    (c28 : PySem.W.codeIn K cd28 "operation_answer" = true)
    (k28 : PySem.W.keepIn K (.ref f28) = true)
    (a29 : PySem.W.nsIn K mainGlobals "one_up" = some (some (.ref f29)))
    (l29 : K.lookup f29 = some ⟨oc29, od29, .func (PySem.W.fnOf "one_up" "one_up" (defArgs s_one_up) (defBody s_one_up) (defScope s_one_up) .none kV29 dc29 pm29 an29 cd29 ct29), sl29⟩)
    (c29 : PySem.W.codeIn K cd29 "one_up" = true)
    (k29 : PySem.W.keepIn K (.ref f29) = true)
    (a30 : PySem.W.nsIn K mainGlobals "regs" = some (some (.ref f30)))
    (l30 : K.lookup f30 = some ⟨oc30, od30, .func (PySem.W.fnOf "regs" "regs" (defArgs s_regs) (defBody s_regs) (defScope s_regs) .none kV30 dc30 pm30 an30 cd30 ct30), sl30⟩)
    (c30 : PySem.W.codeIn K cd30 "regs" = true)
    (k30 : PySem.W.keepIn K (.ref f30) = true)
    (a31 : PySem.W.nsIn K mainGlobals "objects" = some (some (.ref f31)))
    (l31 : K.lookup f31 = some ⟨oc31, od31, .func (PySem.W.fnOf "objects" "objects" (defArgs s_objects) (defBody s_objects) (defScope s_objects) .none kV31 dc31 pm31 an31 cd31 ct31), sl31⟩)
    (c31 : PySem.W.codeIn K cd31 "objects" = true)
    (k31 : PySem.W.keepIn K (.ref f31) = true)
    (a32 : PySem.W.nsIn K mainGlobals "live_numbers" = some (some (.ref f32)))
    (l32 : K.lookup f32 = some ⟨oc32, od32, .func (PySem.W.fnOf "live_numbers" "live_numbers" (defArgs s_live_numbers) (defBody s_live_numbers) (defScope s_live_numbers) .none kV32 dc32 pm32 an32 cd32 ct32), sl32⟩)
    (c32 : PySem.W.codeIn K cd32 "live_numbers" = true)
    (k32 : PySem.W.keepIn K (.ref f32) = true)
    (a33 : PySem.W.nsIn K mainGlobals "live" = some (some (.ref f33)))
    (l33 : K.lookup f33 = some ⟨oc33, od33, .func (PySem.W.fnOf "live" "live" (defArgs s_live) (defBody s_live) (defScope s_live) .none kV33 dc33 pm33 an33 cd33 ct33), sl33⟩)
    (c33 : PySem.W.codeIn K cd33 "live" = true)
    (k33 : PySem.W.keepIn K (.ref f33) = true)
    (a34 : PySem.W.nsIn K mainGlobals "waste" = some (some (.ref f34)))
    (l34 : K.lookup f34 = some ⟨oc34, od34, .func (PySem.W.fnOf "waste" "waste" (defArgs s_waste) (defBody s_waste) (defScope s_waste) .none kV34 dc34 pm34 an34 cd34 ct34), sl34⟩)
    (c34 : PySem.W.codeIn K cd34 "waste" = true)
    (k34 : PySem.W.keepIn K (.ref f34) = true)
    (a35 : PySem.W.nsIn K mainGlobals "suspects" = some (some (.ref f35)))
    (l35 : K.lookup f35 = some ⟨oc35, od35, .func (PySem.W.fnOf "suspects" "suspects" (defArgs s_suspects) (defBody s_suspects) (defScope s_suspects) .none kV35 dc35 pm35 an35 cd35 ct35), sl35⟩)
    (c35 : PySem.W.codeIn K cd35 "suspects" = true)
    (k35 : PySem.W.keepIn K (.ref f35) = true)
    (a36 : PySem.W.nsIn K mainGlobals "trial" = some (some (.ref f36)))
    (l36 : K.lookup f36 = some ⟨oc36, od36, .func (PySem.W.fnOf "trial" "trial" (defArgs s_trial) (defBody s_trial) (defScope s_trial) .none kV36 dc36 pm36 an36 cd36 ct36), sl36⟩)
    (c36 : PySem.W.codeIn K cd36 "trial" = true)
    (k36 : PySem.W.keepIn K (.ref f36) = true)
    (a37 : PySem.W.nsIn K mainGlobals "numbered_anew" = some (some (.ref f37)))
    (l37 : K.lookup f37 = some ⟨oc37, od37, .func (PySem.W.fnOf "numbered_anew" "numbered_anew" (defArgs s_numbered_anew) (defBody s_numbered_anew) (defScope s_numbered_anew) .none kV37 dc37 pm37 an37 cd37 ct37), sl37⟩)
    (c37 : PySem.W.codeIn K cd37 "numbered_anew" = true)
    (k37 : PySem.W.keepIn K (.ref f37) = true)
    (a38 : PySem.W.nsIn K mainGlobals "row_part" = some (some (.ref f38)))
    (l38 : K.lookup f38 = some ⟨oc38, od38, .func (PySem.W.fnOf "row_part" "row_part" (defArgs s_row_part) (defBody s_row_part) (defScope s_row_part) .none kV38 dc38 pm38 an38 cd38 ct38), sl38⟩)
    (c38 : PySem.W.codeIn K cd38 "row_part" = true)
    (k38 : PySem.W.keepIn K (.ref f38) = true)
    (a39 : PySem.W.nsIn K mainGlobals "row" = some (some (.ref f39)))
    (l39 : K.lookup f39 = some ⟨oc39, od39, .func (PySem.W.fnOf "row" "row" (defArgs s_row) (defBody s_row) (defScope s_row) .none kV39 dc39 pm39 an39 cd39 ct39), sl39⟩)
    (c39 : PySem.W.codeIn K cd39 "row" = true)
    (k39 : PySem.W.keepIn K (.ref f39) = true)
    (a40 : PySem.W.nsIn K mainGlobals "places_of" = some (some (.ref f40)))
    (l40 : K.lookup f40 = some ⟨oc40, od40, .func (PySem.W.fnOf "places_of" "places_of" (defArgs s_places_of) (defBody s_places_of) (defScope s_places_of) .none kV40 dc40 pm40 an40 cd40 ct40), sl40⟩)
    (c40 : PySem.W.codeIn K cd40 "places_of" = true)
    (k40 : PySem.W.keepIn K (.ref f40) = true)
    (a41 : PySem.W.nsIn K mainGlobals "holders" = some (some (.ref f41)))
    (l41 : K.lookup f41 = some ⟨oc41, od41, .func (PySem.W.fnOf "holders" "holders" (defArgs s_holders) (defBody s_holders) (defScope s_holders) .none kV41 dc41 pm41 an41 cd41 ct41), sl41⟩)
    (c41 : PySem.W.codeIn K cd41 "holders" = true)
    (k41 : PySem.W.keepIn K (.ref f41) = true)
    (a42 : PySem.W.nsIn K mainGlobals "totals" = some (some (.ref f42)))
    (l42 : K.lookup f42 = some ⟨oc42, od42, .func (PySem.W.fnOf "totals" "totals" (defArgs s_totals) (defBody s_totals) (defScope s_totals) .none kV42 dc42 pm42 an42 cd42 ct42), sl42⟩)
    (c42 : PySem.W.codeIn K cd42 "totals" = true)
    (k42 : PySem.W.keepIn K (.ref f42) = true)
    (a43 : PySem.W.nsIn K mainGlobals "view" = some (some (.ref f43)))
    (l43 : K.lookup f43 = some ⟨oc43, od43, .func (PySem.W.fnOf "view" "view" (defArgs s_view) (defBody s_view) (defScope s_view) .none kV43 dc43 pm43 an43 cd43 ct43), sl43⟩)
    (c43 : PySem.W.codeIn K cd43 "view" = true)
    (k43 : PySem.W.keepIn K (.ref f43) = true)
    (a44 : PySem.W.nsIn K mainGlobals "call_end" = some (some (.ref f44)))
    (l44 : K.lookup f44 = some ⟨oc44, od44, .func (PySem.W.fnOf "call_end" "call_end" (defArgs s_call_end) (defBody s_call_end) (defScope s_call_end) .none kV44 dc44 pm44 an44 cd44 ct44), sl44⟩)
    (c44 : PySem.W.codeIn K cd44 "call_end" = true)
    (k44 : PySem.W.keepIn K (.ref f44) = true)
    (a45 : PySem.W.nsIn K mainGlobals "answer" = some (some (.ref f45)))
    (l45 : K.lookup f45 = some ⟨oc45, od45, .func (PySem.W.fnOf "answer" "answer" (defArgs s_answer) (defBody s_answer) (defScope s_answer) .none kV45 dc45 pm45 an45 cd45 ct45), sl45⟩)
    (c45 : PySem.W.codeIn K cd45 "answer" = true)
    (k45 : PySem.W.keepIn K (.ref f45) = true)
    (a46 : PySem.W.nsIn K mainGlobals "answers" = some (some (.ref f46)))
    (l46 : K.lookup f46 = some ⟨oc46, od46, .func (PySem.W.fnOf "answers" "answers" (defArgs s_answers) (defBody s_answers) (defScope s_answers) .none kV46 dc46 pm46 an46 cd46 ct46), sl46⟩)
    (c46 : PySem.W.codeIn K cd46 "answers" = true)
    (k46 : PySem.W.keepIn K (.ref f46) = true)
    (v_NOT_REFUSED : PySem.W.nsIn K mainGlobals "NOT_REFUSED" = some (some (.int (0) tk_NOT_REFUSED)))
    (v_NO_SUCH_REGISTER : PySem.W.nsIn K mainGlobals "NO_SUCH_REGISTER" = some (some (.int (-3) tk_NO_SUCH_REGISTER)))
    (v_HOLDS_NOTHING : PySem.W.nsIn K mainGlobals "HOLDS_NOTHING" = some (some (.int (-4) tk_HOLDS_NOTHING)))
    (v_OUT_OF_RANGE : PySem.W.nsIn K mainGlobals "OUT_OF_RANGE" = some (some (.int (-7) tk_OUT_OF_RANGE)))
    (v_FULL : PySem.W.nsIn K mainGlobals "FULL" = some (some (.int (-9) tk_FULL)))
    (v_NO_SUCH_SLOT : PySem.W.nsIn K mainGlobals "NO_SUCH_SLOT" = some (some (.int (-10) tk_NO_SUCH_SLOT)))
    (v_MOST_KIND : PySem.W.nsIn K mainGlobals "MOST_KIND" = some (some (.int (99) tk_MOST_KIND)))
    (v_MOST_SIZE : PySem.W.nsIn K mainGlobals "MOST_SIZE" = some (some (.int (1000000) tk_MOST_SIZE)))
    (v_MOST_SLOTS : PySem.W.nsIn K mainGlobals "MOST_SLOTS" = some (some (.int (5) tk_MOST_SLOTS)))
    (v_MOST_HELD : PySem.W.nsIn K mainGlobals "MOST_HELD" = some (some (.int (32) tk_MOST_HELD)))
    (v_NEW : PySem.W.nsIn K mainGlobals "NEW" = some (some (.int (0) tk_NEW)))
    (v_COPY : PySem.W.nsIn K mainGlobals "COPY" = some (some (.int (1) tk_COPY)))
    (v_LOAD : PySem.W.nsIn K mainGlobals "LOAD" = some (some (.int (2) tk_LOAD)))
    (v_STORE : PySem.W.nsIn K mainGlobals "STORE" = some (some (.int (3) tk_STORE)))
    (v_CLEAR : PySem.W.nsIn K mainGlobals "CLEAR" = some (some (.int (4) tk_CLEAR)))
    (v_REGISTERS : PySem.W.nsIn K mainGlobals "REGISTERS" = some (some (.int (8) tk_REGISTERS)))
    (v_NOT_OPERATIONS : PySem.W.nsIn K mainGlobals "NOT_OPERATIONS" = some (some (.int (-12) tk_NOT_OPERATIONS)))
    (v_RUN : PySem.W.nsIn K mainGlobals "RUN" = some (some (.int (6) tk_RUN)))
    (v_NO_SUCH_OBJECT : PySem.W.nsIn K mainGlobals "NO_SUCH_OBJECT" = some (some (.int (-3) tk_NO_SUCH_OBJECT)))
    (v_REGS : PySem.W.nsIn K mainGlobals "REGS" = some (some (.int (7) tk_REGS)))
    (v_OBJECTS : PySem.W.nsIn K mainGlobals "OBJECTS" = some (some (.int (8) tk_OBJECTS)))
    (v_LIVE : PySem.W.nsIn K mainGlobals "LIVE" = some (some (.int (9) tk_LIVE)))
    (v_WASTE : PySem.W.nsIn K mainGlobals "WASTE" = some (some (.int (10) tk_WASTE)))
    (v_SUSPECTS : PySem.W.nsIn K mainGlobals "SUSPECTS" = some (some (.int (11) tk_SUSPECTS)))
    (v_TRIAL : PySem.W.nsIn K mainGlobals "TRIAL" = some (some (.int (12) tk_TRIAL)))
    (v_ROW : PySem.W.nsIn K mainGlobals "ROW" = some (some (.int (13) tk_ROW)))
    (v_HOLDERS : PySem.W.nsIn K mainGlobals "HOLDERS" = some (some (.int (14) tk_HOLDERS)))
    (b_len : PySem.W.nsIn K mainGlobals "len" = some none)
    (b_list : PySem.W.nsIn K mainGlobals "list" = some none)
    (b_sum : PySem.W.nsIn K mainGlobals "sum" = some none)
    (b_any : PySem.W.nsIn K mainGlobals "any" = some none)
    (b_sorted : PySem.W.nsIn K mainGlobals "sorted" = some none)
    (b_enumerate : PySem.W.nsIn K mainGlobals "enumerate" = some none)
    (v_OPERATION_ARGUMENTS : PySem.W.nsIn K mainGlobals "OPERATION_ARGUMENTS" = some (some (.ref d_OPERATION_ARGUMENTS)))
    (l_OPERATION_ARGUMENTS : K.lookup d_OPERATION_ARGUMENTS = some ⟨.type "dict", none, .dict es_OPERATION_ARGUMENTS ep_OPERATION_ARGUMENTS, #[]⟩)
    (e_OPERATION_ARGUMENTS : dInts es_OPERATION_ARGUMENTS.toList = some [(0, 4), (1, 2), (2, 3), (3, 3), (4, 1), (5, 0)])
    (s_OPERATION_ARGUMENTS : (d_OPERATION_ARGUMENTS == sysModules) = false)
    (v_VIEW_ARGUMENTS : PySem.W.nsIn K mainGlobals "VIEW_ARGUMENTS" = some (some (.ref d_VIEW_ARGUMENTS)))
    (l_VIEW_ARGUMENTS : K.lookup d_VIEW_ARGUMENTS = some ⟨.type "dict", none, .dict es_VIEW_ARGUMENTS ep_VIEW_ARGUMENTS, #[]⟩)
    (e_VIEW_ARGUMENTS : dInts es_VIEW_ARGUMENTS.toList = some [(7, 0), (8, 0), (9, 0), (10, 0), (11, 0), (12, 0), (13, 0), (14, 1), (15, 0)])
    (s_VIEW_ARGUMENTS : (d_VIEW_ARGUMENTS == sysModules) = false)
    (ne_CC : C_Machine ≠ C_Thing) :
    ∃ fd : FuncData, (∀ (s : Shared) (us : List Value), us.length = (["calls"] : List Str).length → BindsTo s fd ⟨us, []⟩ ((["calls"] : List Str).zip us)) ∧ ∀ base : Heap, K.In base → base.Ns mainGlobals mg → FnOk P w K mg base CX0 9 fa fd ["calls"] (spAnswers K) := by
  have e := hfa.symm.trans (PySem.W.mg_of X G a46)
  cases e
  have T : Txt K mg C_Machine C_Thing := ⟨⟨pg_Machine, hd_Machine, po_Machine, sa_Machine⟩, ⟨pg_Thing, hd_Thing, po_Thing, sa_Thing⟩, ne_CC, n_Machine_registers, n_Machine_held, n_Machine_suspects, n_Machine_made, n_Machine_made_sizes, n_Thing_number, n_Thing_kind, n_Thing_size, n_Thing_slots, n_Thing_count⟩
  have Z : Cst mg := ⟨⟨_, PySem.W.mg_of X G v_NOT_REFUSED⟩, ⟨_, PySem.W.mg_of X G v_NO_SUCH_REGISTER⟩, ⟨_, PySem.W.mg_of X G v_HOLDS_NOTHING⟩, ⟨_, PySem.W.mg_of X G v_OUT_OF_RANGE⟩, ⟨_, PySem.W.mg_of X G v_FULL⟩, ⟨_, PySem.W.mg_of X G v_NO_SUCH_SLOT⟩, ⟨_, PySem.W.mg_of X G v_MOST_KIND⟩, ⟨_, PySem.W.mg_of X G v_MOST_SIZE⟩, ⟨_, PySem.W.mg_of X G v_MOST_SLOTS⟩, ⟨_, PySem.W.mg_of X G v_MOST_HELD⟩, ⟨_, PySem.W.mg_of X G v_NEW⟩, ⟨_, PySem.W.mg_of X G v_COPY⟩, ⟨_, PySem.W.mg_of X G v_LOAD⟩, ⟨_, PySem.W.mg_of X G v_STORE⟩, ⟨_, PySem.W.mg_of X G v_CLEAR⟩⟩
  have Y : VCst mg := ⟨⟨_, PySem.W.mg_of X G v_REGS⟩, ⟨_, PySem.W.mg_of X G v_OBJECTS⟩, ⟨_, PySem.W.mg_of X G v_LIVE⟩, ⟨_, PySem.W.mg_of X G v_WASTE⟩, ⟨_, PySem.W.mg_of X G v_SUSPECTS⟩, ⟨_, PySem.W.mg_of X G v_TRIAL⟩, ⟨_, PySem.W.mg_of X G v_ROW⟩, ⟨_, PySem.W.mg_of X G v_HOLDERS⟩⟩
  have bLen := PySem.W.mg_none_of X G b_len
  have bList := PySem.W.mg_none_of X G b_list
  have bSum := PySem.W.mg_none_of X G b_sum
  have bAny := PySem.W.mg_none_of X G b_any
  have bSorted := PySem.W.mg_none_of X G b_sorted
  have bEnum := PySem.W.mg_none_of X G b_enumerate
  have gT := PySem.W.mg_of X G v_OPERATION_ARGUMENTS
  have hT : ModD P w K d_OPERATION_ARGUMENTS (tabV opTab) := mod_dict l_OPERATION_ARGUMENTS s_OPERATION_ARGUMENTS e_OPERATION_ARGUMENTS (by decide)
  have gV := PySem.W.mg_of X G v_VIEW_ARGUMENTS
  have hV : ModD P w K d_VIEW_ARGUMENTS (tabV viewTab) := mod_dict l_VIEW_ARGUMENTS s_VIEW_ARGUMENTS e_VIEW_ARGUMENTS (by decide)
  have F0 := fun_mk (st := s_Thing_init) l0 c0 k0
  have B0 := F0.binds (ps := ["self", "number", "kind", "size", "n"]) fun _ _ _ _ _ _ us hl => match us, hl with | [_, _, _, _, _], _ => rfl
  have F1 := fun_mk (st := s_Machine_init) l1 c1 k1
  have B1 := F1.binds (ps := ["self"]) fun _ _ _ _ _ _ us hl => match us, hl with | [_], _ => rfl
  have F2 := fun_mk (st := s_filled) l2 c2 k2
  have B2 := F2.binds (ps := ["places"]) fun _ _ _ _ _ _ us hl => match us, hl with | [_], _ => rfl
  have F3 := fun_mk (st := s_least_free) l3 c3 k3
  have B3 := F3.binds (ps := ["machine"]) fun _ _ _ _ _ _ us hl => match us, hl with | [_], _ => rfl
  have F4 := fun_mk (st := s_drop_suspect) l4 c4 k4
  have B4 := F4.binds (ps := ["machine", "number"]) fun _ _ _ _ _ _ us hl => match us, hl with | [_, _], _ => rfl
  have F5 := fun_mk (st := s_add_suspect) l5 c5 k5
  have B5 := F5.binds (ps := ["machine", "number"]) fun _ _ _ _ _ _ us hl => match us, hl with | [_, _], _ => rfl
  have F6 := fun_mk (st := s_one_more) l6 c6 k6
  have B6 := F6.binds (ps := ["machine", "numbers"]) fun _ _ _ _ _ _ us hl => match us, hl with | [_, _], _ => rfl
  have F7 := fun_mk (st := s_one_less) l7 c7 k7
  have B7 := F7.binds (ps := ["machine", "numbers"]) fun _ _ _ _ _ _ us hl => match us, hl with | [_, _], _ => rfl
  have F8 := fun_mk (st := s_put) l8 c8 k8
  have B8 := F8.binds (ps := ["machine", "places", "place", "number"]) fun _ _ _ _ _ _ us hl => match us, hl with | [_, _, _, _], _ => rfl
  have F9 := fun_mk (st := s_add_missing) l9 c9 k9
  have B9 := F9.binds (ps := ["found", "numbers"]) fun _ _ _ _ _ _ us hl => match us, hl with | [_, _], _ => rfl
  have F10 := fun_mk (st := s_reached) l10 c10 k10
  have B10 := F10.binds (ps := ["machine", "numbers"]) fun _ _ _ _ _ _ us hl => match us, hl with | [_, _], _ => rfl
  have F11 := fun_mk (st := s_slot_holders) l11 c11 k11
  have B11 := F11.binds (ps := ["machine", "numbers"]) fun _ _ _ _ _ _ us hl => match us, hl with | [_, _], _ => rfl
  have F12 := fun_mk (st := s_outside_counts) l12 c12 k12
  have B12 := F12.binds (ps := ["machine", "field"]) fun _ _ _ _ _ _ us hl => match us, hl with | [_, _], _ => rfl
  have F13 := fun_mk (st := s_staying) l13 c13 k13
  have B13 := F13.binds (ps := ["machine", "outside"]) fun _ _ _ _ _ _ us hl => match us, hl with | [_, _], _ => rfl
  have F14 := fun_mk (st := s_collect) l14 c14 k14
  have B14 := F14.binds (ps := ["machine"]) fun _ _ _ _ _ _ us hl => match us, hl with | [_], _ => rfl
  have F15 := fun_mk (st := s_within) l15 c15 k15
  have B15 := F15.binds (ps := ["number", "most"]) fun _ _ _ _ _ _ us hl => match us, hl with | [_, _], _ => rfl
  have F16 := fun_mk (st := s_is_register_number) l16 c16 k16
  have B16 := F16.binds (ps := ["number"]) fun _ _ _ _ _ _ us hl => match us, hl with | [_], _ => rfl
  have F17 := fun_mk (st := s_new_refusal) l17 c17 k17
  have B17 := F17.binds (ps := ["machine", "r", "kind", "size", "n"]) fun _ _ _ _ _ _ us hl => match us, hl with | [_, _, _, _, _], _ => rfl
  have F18 := fun_mk (st := s_registers_refusal) l18 c18 k18
  have B18 := F18.binds (ps := ["numbers"]) fun _ _ _ _ _ _ us hl => match us, hl with | [_], _ => rfl
  have F19 := fun_mk (st := s_slots_of) l19 c19 k19
  have B19 := F19.binds (ps := ["machine", "s"]) fun _ _ _ _ _ _ us hl => match us, hl with | [_, _], _ => rfl
  have F20 := fun_mk (st := s_slot_refusal) l20 c20 k20
  have B20 := F20.binds (ps := ["machine", "s", "i", "r"]) fun _ _ _ _ _ _ us hl => match us, hl with | [_, _, _, _], _ => rfl
  have F21 := fun_mk (st := s_refusal) l21 c21 k21
  have B21 := F21.binds (ps := ["machine", "operation", "arguments"]) fun _ _ _ _ _ _ us hl => match us, hl with | [_, _, _], _ => rfl
  have F22 := fun_mk (st := s_do_new) l22 c22 k22
  have B22 := F22.binds (ps := ["machine", "r", "kind", "size", "n"]) fun _ _ _ _ _ _ us hl => match us, hl with | [_, _, _, _, _], _ => rfl
  have F23 := fun_mk (st := s_perform) l23 c23 k23
  have B23 := F23.binds (ps := ["machine", "operation", "arguments"]) fun _ _ _ _ _ _ us hl => match us, hl with | [_, _, _], _ => rfl
  have F24 := fun_mk (st := s_sizes_together) l24 c24 k24
  have B24 := F24.binds (ps := ["things"]) fun _ _ _ _ _ _ us hl => match us, hl with | [_], _ => rfl
  have F25 := fun_mk (st := s_told_operations) l25 c25 k25
  have B25 := F25.binds (ps := ["numbers"]) fun _ _ _ _ _ _ us hl => match us, hl with | [_], _ => rfl
  have F26 := fun_mk (st := s_run) l26 c26 k26
  have B26 := F26.binds (ps := ["machine", "numbers"]) fun _ _ _ _ _ _ us hl => match us, hl with | [_, _], _ => rfl
  have F27 := fun_mk (st := s_went) l27 c27 k27
  have B27 := F27.binds (ps := ["gone"]) fun _ _ _ _ _ _ us hl => match us, hl with | [_], _ => rfl
  have F28 := fun_mk (st := s_operation_answer) l28 c28 k28
  have B28 := F28.binds (ps := ["machine", "operation", "arguments"]) fun _ _ _ _ _ _ us hl => match us, hl with | [_, _, _], _ => rfl
  have F29 := fun_mk (st := s_one_up) l29 c29 k29
  have B29 := F29.binds (ps := ["number"]) fun _ _ _ _ _ _ us hl => match us, hl with | [_], _ => rfl
  have F30 := fun_mk (st := s_regs) l30 c30 k30
  have B30 := F30.binds (ps := ["machine"]) fun _ _ _ _ _ _ us hl => match us, hl with | [_], _ => rfl
  have F31 := fun_mk (st := s_objects) l31 c31 k31
  have B31 := F31.binds (ps := ["machine"]) fun _ _ _ _ _ _ us hl => match us, hl with | [_], _ => rfl
  have F32 := fun_mk (st := s_live_numbers) l32 c32 k32
  have B32 := F32.binds (ps := ["machine"]) fun _ _ _ _ _ _ us hl => match us, hl with | [_], _ => rfl
  have F33 := fun_mk (st := s_live) l33 c33 k33
  have B33 := F33.binds (ps := ["machine"]) fun _ _ _ _ _ _ us hl => match us, hl with | [_], _ => rfl
  have F34 := fun_mk (st := s_waste) l34 c34 k34
  have B34 := F34.binds (ps := ["machine"]) fun _ _ _ _ _ _ us hl => match us, hl with | [_], _ => rfl
  have F35 := fun_mk (st := s_suspects) l35 c35 k35
  have B35 := F35.binds (ps := ["machine"]) fun _ _ _ _ _ _ us hl => match us, hl with | [_], _ => rfl
  have F36 := fun_mk (st := s_trial) l36 c36 k36
  have B36 := F36.binds (ps := ["machine"]) fun _ _ _ _ _ _ us hl => match us, hl with | [_], _ => rfl
  have F37 := fun_mk (st := s_numbered_anew) l37 c37 k37
  have B37 := F37.binds (ps := ["machine"]) fun _ _ _ _ _ _ us hl => match us, hl with | [_], _ => rfl
  have F38 := fun_mk (st := s_row_part) l38 c38 k38
  have B38 := F38.binds (ps := ["thing", "anew"]) fun _ _ _ _ _ _ us hl => match us, hl with | [_, _], _ => rfl
  have F39 := fun_mk (st := s_row) l39 c39 k39
  have B39 := F39.binds (ps := ["machine"]) fun _ _ _ _ _ _ us hl => match us, hl with | [_], _ => rfl
  have F40 := fun_mk (st := s_places_of) l40 c40 k40
  have B40 := F40.binds (ps := ["places", "o"]) fun _ _ _ _ _ _ us hl => match us, hl with | [_, _], _ => rfl
  have F41 := fun_mk (st := s_holders) l41 c41 k41
  have B41 := F41.binds (ps := ["machine", "o"]) fun _ _ _ _ _ _ us hl => match us, hl with | [_, _], _ => rfl
  have F42 := fun_mk (st := s_totals) l42 c42 k42
  have B42 := F42.binds (ps := ["machine"]) fun _ _ _ _ _ _ us hl => match us, hl with | [_], _ => rfl
  have F43 := fun_mk (st := s_view) l43 c43 k43
  have B43 := F43.binds (ps := ["machine", "call", "arguments"]) fun _ _ _ _ _ _ us hl => match us, hl with | [_, _, _], _ => rfl
  have F44 := fun_mk (st := s_call_end) l44 c44 k44
  have B44 := F44.binds (ps := ["calls", "place"]) fun _ _ _ _ _ _ us hl => match us, hl with | [_, _], _ => rfl
  have F45 := fun_mk (st := s_answer) l45 c45 k45
  have B45 := F45.binds (ps := ["machine", "call", "arguments"]) fun _ _ _ _ _ _ us hl => match us, hl with | [_, _, _], _ => rfl
  have F46 := fun_mk (st := s_answers) l46 c46 k46
  refine ⟨PySem.W.fnOf "answers" "answers" (defArgs s_answers) (defBody s_answers) (defScope s_answers) .none kV46 dc46 pm46 an46 cd46 ct46, fun s us hu => match us, hu with | [_], _ => .of_eq rfl, fun base X' G' => ?_⟩
  have Q_Thing : Maker P w K mg base 1 "Thing" C_Thing ["self", "number", "kind", "size", "n"] (spThing C_Thing) := ⟨_, _, ok_thing F0 T, ⟨mk_Thing, a0, i0, kc_Thing⟩, PySem.W.mg_of X G a_Thing, B0⟩
  have Q_Machine : Maker P w K mg base 1 "Machine" C_Machine ["self"] (spMach C_Machine C_Thing) := ⟨_, _, ok_mach F1 T ⟨_, PySem.W.mg_of X G v_REGISTERS⟩, ⟨mk_Machine, a1, i1, kc_Machine⟩, PySem.W.mg_of X G a_Machine, B1⟩
  have Q2 : Callee P w K mg base 1 "filled" ["places"] (spFilled K) := ⟨_, _, ok_filled F2, PySem.W.mg_of X G a2, k2, B2⟩
  have Q3 : Callee P w K mg base 1 "least_free" ["machine"] (spLeast C_Machine C_Thing) := ⟨_, _, ok_least F3 T, PySem.W.mg_of X G a3, k3, B3⟩
  have Q4 : Callee P w K mg base 1 "drop_suspect" ["machine", "number"] (spDrop C_Machine C_Thing) := ⟨_, _, ok_drop F4 T, PySem.W.mg_of X G a4, k4, B4⟩
  have Q5 : Callee P w K mg base 1 "add_suspect" ["machine", "number"] (spAddS C_Machine C_Thing) := ⟨_, _, ok_addS F5 T, PySem.W.mg_of X G a5, k5, B5⟩
  have Q6 : Callee P w K mg base 2 "one_more" ["machine", "numbers"] (spMore K C_Machine C_Thing) := ⟨_, _, ok_more F6 T Q4, PySem.W.mg_of X G a6, k6, B6⟩
  have Q7 : Callee P w K mg base 2 "one_less" ["machine", "numbers"] (spLess K C_Machine C_Thing) := ⟨_, _, ok_less F7 T bList Q4 Q5 Q2, PySem.W.mg_of X G a7, k7, B7⟩
  have Q8 : Callee P w K mg base 3 "put" ["machine", "places", "place", "number"] (spPut C_Machine C_Thing) := ⟨_, _, ok_put F8 T Q2 Q6 Q7, PySem.W.mg_of X G a8, k8, B8⟩
  have Q9 : Callee P w K mg base 1 "add_missing" ["found", "numbers"] (spMiss K) := ⟨_, _, ok_miss F9, PySem.W.mg_of X G a9, k9, B9⟩
  have Q10 : Callee P w K mg base 2 "reached" ["machine", "numbers"] (spReach K C_Machine C_Thing) := ⟨_, _, ok_reach F10 T bLen Q9 Q2, PySem.W.mg_of X G a10, k10, B10⟩
  have Q11 : Callee P w K mg base 2 "slot_holders" ["machine", "numbers"] (spHold C_Machine C_Thing) := ⟨_, _, ok_hold F11 T Q2, PySem.W.mg_of X G a11, k11, B11⟩
  have Q12 : Callee P w K mg base 3 "outside_counts" ["machine", "field"] (spOut C_Machine C_Thing) := ⟨_, _, ok_out F12 T Q11, PySem.W.mg_of X G a12, k12, B12⟩
  have Q13 : Callee P w K mg base 3 "staying" ["machine", "outside"] (spStay C_Machine C_Thing) := ⟨_, _, ok_stay F13 T Q10, PySem.W.mg_of X G a13, k13, B13⟩
  have Q14 : Callee P w K mg base 5 "collect" ["machine"] (spCollect C_Machine C_Thing) := ⟨_, _, ok_collect F14 T Q10 Q13 Q11 Q12, PySem.W.mg_of X G a14, k14, B14⟩
  have Q15 : Callee P w K mg base 1 "within" ["number", "most"] (spWithin) := ⟨_, _, ok_within F15, PySem.W.mg_of X G a15, k15, B15⟩
  have Q16 : Callee P w K mg base 2 "is_register_number" ["number"] (spIsReg) := ⟨_, _, ok_isreg F16 ⟨_, PySem.W.mg_of X G v_REGISTERS⟩ Q15, PySem.W.mg_of X G a16, k16, B16⟩
  have Q17 : Callee P w K mg base 3 "new_refusal" ["machine", "r", "kind", "size", "n"] (spNewRef C_Machine C_Thing) := ⟨_, _, ok_newref F17 T Z bLen Q15 Q16, PySem.W.mg_of X G a17, k17, B17⟩
  have Q18 : Callee P w K mg base 3 "registers_refusal" ["numbers"] (spRegsRef K) := ⟨_, _, ok_regsref F18 Z Q16, PySem.W.mg_of X G a18, k18, B18⟩
  have Q19 : Callee P w K mg base 1 "slots_of" ["machine", "s"] (spSlots C_Machine C_Thing) := ⟨_, _, ok_slots F19 T, PySem.W.mg_of X G a19, k19, B19⟩
  have Q20 : Callee P w K mg base 3 "slot_refusal" ["machine", "s", "i", "r"] (spSlotRef C_Machine C_Thing) := ⟨_, _, ok_slotref F20 T Z bLen Q15 Q16 Q19, PySem.W.mg_of X G a20, k20, B20⟩
  have Q21 : Callee P w K mg base 4 "refusal" ["machine", "operation", "arguments"] (spRefusal K C_Machine C_Thing) := ⟨_, _, ok_refusal F21 Z Q17 Q20 Q18, PySem.W.mg_of X G a21, k21, B21⟩
  have Q22 : Callee P w K mg base 4 "do_new" ["machine", "r", "kind", "size", "n"] (spDoNew C_Machine C_Thing) := ⟨_, _, ok_donew F22 T Q3 Q_Thing Q8, PySem.W.mg_of X G a22, k22, B22⟩
  have Q23 : Callee P w K mg base 6 "perform" ["machine", "operation", "arguments"] (spPerf K C_Machine C_Thing) := ⟨_, _, perf_of (ok_perform F23 T Z Q22 Q8 Q19 Q14), PySem.W.mg_of X G a23, k23, B23⟩
  have Q24 : Callee P w K mg base 1 "sizes_together" ["things"] (spSizes K C_Thing) := ⟨_, _, ok_sizes F24 T bSum, PySem.W.mg_of X G a24, k24, B24⟩
  have Q25 : Callee P w K mg base 1 "told_operations" ["numbers"] (spTold K) := ⟨_, _, ok_told F25 bAny bLen gT hT, PySem.W.mg_of X G a25, k25, B25⟩
  have Q26 : Callee P w K mg base 7 "run" ["machine", "numbers"] (spRun K C_Machine C_Thing) := ⟨_, _, ok_run F26 T Z ⟨_, PySem.W.mg_of X G v_NOT_OPERATIONS⟩ bLen Q25 Q21 Q23 Q24, PySem.W.mg_of X G a26, k26, B26⟩
  have Q27 : Callee P w K mg base 2 "went" ["gone"] (spWent C_Thing) := ⟨_, _, ok_went F27 T bLen Q24, PySem.W.mg_of X G a27, k27, B27⟩
  have Q28 : Callee P w K mg base 7 "operation_answer" ["machine", "operation", "arguments"] (spOpAns K C_Machine C_Thing) := ⟨_, _, ok_opans F28 T Z Q21 Q23 Q27, PySem.W.mg_of X G a28, k28, B28⟩
  have Q29 : Callee P w K mg base 1 "one_up" ["number"] (spUp) := ⟨_, _, ok_up F29, PySem.W.mg_of X G a29, k29, B29⟩
  have Q30 : Callee P w K mg base 2 "regs" ["machine"] (spRegs C_Machine C_Thing) := ⟨_, _, ok_regs F30 T Q29, PySem.W.mg_of X G a30, k30, B30⟩
  have Q31 : Callee P w K mg base 2 "objects" ["machine"] (spView C_Machine C_Thing .objects) := ⟨_, _, ok_objects F31 T bLen bSorted Q29, PySem.W.mg_of X G a31, k31, B31⟩
  have Q32 : Callee P w K mg base 3 "live_numbers" ["machine"] (spLiveN C_Machine C_Thing) := ⟨_, _, ok_liveN F32 T bSorted Q10 Q2, PySem.W.mg_of X G a32, k32, B32⟩
  have Q33 : Callee P w K mg base 4 "live" ["machine"] (spView C_Machine C_Thing .live) := ⟨_, _, ok_live F33 Q32, PySem.W.mg_of X G a33, k33, B33⟩
  have Q34 : Callee P w K mg base 4 "waste" ["machine"] (spView C_Machine C_Thing .waste) := ⟨_, _, ok_waste F34 T bSorted Q32 Q24, PySem.W.mg_of X G a34, k34, B34⟩
  have Q35 : Callee P w K mg base 1 "suspects" ["machine"] (spView C_Machine C_Thing .suspects) := ⟨_, _, ok_sus F35 T, PySem.W.mg_of X G a35, k35, B35⟩
  have Q36 : Callee P w K mg base 4 "trial" ["machine"] (spView C_Machine C_Thing .trial) := ⟨_, _, ok_trial F36 T Q10 Q13 Q12, PySem.W.mg_of X G a36, k36, B36⟩
  have Q37 : Callee P w K mg base 1 "numbered_anew" ["machine"] (spAnew C_Machine C_Thing) := ⟨_, _, ok_anew F37 T bSorted bEnum, PySem.W.mg_of X G a37, k37, B37⟩
  have Q38 : Callee P w K mg base 2 "row_part" ["thing", "anew"] (spPart C_Machine C_Thing) := ⟨_, _, ok_part F38 T bLen bEnum Q2, PySem.W.mg_of X G a38, k38, B38⟩
  have Q39 : Callee P w K mg base 3 "row" ["machine"] (spView C_Machine C_Thing .row) := ⟨_, _, ok_row F39 T bLen Q37 Q38 Q2, PySem.W.mg_of X G a39, k39, B39⟩
  have Q40 : Callee P w K mg base 1 "places_of" ["places", "o"] (spPlaces K) := ⟨_, _, ok_places F40 bEnum, PySem.W.mg_of X G a40, k40, B40⟩
  have Q41 : Callee P w K mg base 2 "holders" ["machine", "o"] (spHolders C_Machine C_Thing) := ⟨_, _, ok_holders F41 T ⟨_, PySem.W.mg_of X G v_NO_SUCH_OBJECT⟩ bLen bSorted Q40, PySem.W.mg_of X G a41, k41, B41⟩
  have Q42 : Callee P w K mg base 2 "totals" ["machine"] (spView C_Machine C_Thing .totals) := ⟨_, _, ok_totals F42 T bLen bList Q24, PySem.W.mg_of X G a42, k42, B42⟩
  have Q43 : Callee P w K mg base 5 "view" ["machine", "call", "arguments"] (spLook K C_Machine C_Thing) := ⟨_, _, ok_view F43 Y Q30 Q31 Q33 Q34 Q35 Q36 Q39 Q41 Q42, PySem.W.mg_of X G a43, k43, B43⟩
  have Q44 : Callee P w K mg base 1 "call_end" ["calls", "place"] (spEnd K) := ⟨_, _, ok_end F44 ⟨_, PySem.W.mg_of X G v_RUN⟩ gT hT gV hV, PySem.W.mg_of X G a44, k44, B44⟩
  have Q45 : Callee P w K mg base 8 "answer" ["machine", "call", "arguments"] (spAnswer K C_Machine C_Thing) := ⟨_, _, ok_answer F45 ⟨_, PySem.W.mg_of X G v_RUN⟩ gT hT Q26 Q28 Q43, PySem.W.mg_of X G a45, k45, B45⟩
  exact ok_answers F46 bLen Q_Machine Q44 Q45
end Hc
def PySem.W.Fast.tw11884571860404347058 : Unit := ()
def PySem.W.Fast.tw7840481094354261650 : Unit := ()
def PySem.W.Fast.tw11659359301804748285 : Unit := ()
def PySem.W.Fast.tw15860443936027381733 : Unit := ()
def PySem.W.Fast.tw4234018941005625640 : Unit := ()
def PySem.W.Fast.tw5811176714775533505 : Unit := ()
open PySem PySem.W PyProof.Rows
set_option maxRecDepth 100000 in
set_option maxHeartbeats 0 in
theorem PySem.Challenge.cw_holdercounts_s01_answers_holds : PySem.Challenge.rw_holdercounts_s01_answers.Holds := by
  w_on; k_headS; (case hw => exact ⟨[.list [.int 7]], by decide +kernel, by decide +kernel⟩)
  k_fillS
  refine L2.walk_specK (r := PySem.Challenge.rw_holdercounts_s01_answers) (k := 9) (CX := L2.CX0) (ps := ["calls"]) (sp := Hc.spAnswers) (by decide +kernel) rfl rfl ⟨rfl, by decide, by decide⟩ (fun w h Y => PySem.W.kIn_of Y) ?F ?S (fun _ _ _ _ z => z)
  case F =>
    intro w mg fa h Y KX G hmg
    refine' Hc.all_mk KX G hmg ?a_Thing ?a0 ?i0 ?l0 ?c0 ?k0 ?pg_Thing ?hd_Thing ?po_Thing ?sa_Thing ?mk_Thing ?kc_Thing ?n_Thing_number ?n_Thing_kind ?n_Thing_size ?n_Thing_slots ?n_Thing_count ?a_Machine ?a1 ?i1 ?l1 ?c1 ?k1 ?pg_Machine ?hd_Machine ?po_Machine ?sa_Machine ?mk_Machine ?kc_Machine ?n_Machine_registers ?n_Machine_held ?n_Machine_suspects ?n_Machine_made ?n_Machine_made_sizes ?a2 ?l2 ?c2 ?k2 ?a3 ?l3 ?c3 ?k3 ?a4 ?l4 ?c4 ?k4 ?a5 ?l5 ?c5 ?k5 ?a6 ?l6 ?c6 ?k6 ?a7 ?l7 ?c7 ?k7 ?a8 ?l8 ?c8 ?k8 ?a9 ?l9 ?c9 ?k9 ?a10 ?l10 ?c10 ?k10 ?a11 ?l11 ?c11 ?k11 ?a12 ?l12 ?c12 ?k12 ?a13 ?l13 ?c13 ?k13 ?a14 ?l14 ?c14 ?k14 ?a15 ?l15 ?c15 ?k15 ?a16 ?l16 ?c16 ?k16 ?a17 ?l17 ?c17 ?k17 ?a18 ?l18 ?c18 ?k18 ?a19 ?l19 ?c19 ?k19 ?a20 ?l20 ?c20 ?k20 ?a21 ?l21 ?c21 ?k21 ?a22 ?l22 ?c22 ?k22 ?a23 ?l23 ?c23 ?k23 ?a24 ?l24 ?c24 ?k24 ?a25 ?l25 ?c25 ?k25 ?a26 ?l26 ?c26 ?k26 ?a27 ?l27 ?c27 ?k27 ?a28 ?l28 ?c28 ?k28 ?a29 ?l29 ?c29 ?k29 ?a30 ?l30 ?c30 ?k30 ?a31 ?l31 ?c31 ?k31 ?a32 ?l32 ?c32 ?k32 ?a33 ?l33 ?c33 ?k33 ?a34 ?l34 ?c34 ?k34 ?a35 ?l35 ?c35 ?k35 ?a36 ?l36 ?c36 ?k36 ?a37 ?l37 ?c37 ?k37 ?a38 ?l38 ?c38 ?k38 ?a39 ?l39 ?c39 ?k39 ?a40 ?l40 ?c40 ?k40 ?a41 ?l41 ?c41 ?k41 ?a42 ?l42 ?c42 ?k42 ?a43 ?l43 ?c43 ?k43 ?a44 ?l44 ?c44 ?k44 ?a45 ?l45 ?c45 ?k45 ?a46 ?l46 ?c46 ?k46 ?v_NOT_REFUSED ?v_NO_SUCH_REGISTER ?v_HOLDS_NOTHING ?v_OUT_OF_RANGE ?v_FULL ?v_NO_SUCH_SLOT ?v_MOST_KIND ?v_MOST_SIZE ?v_MOST_SLOTS ?v_MOST_HELD ?v_NEW ?v_COPY ?v_LOAD ?v_STORE ?v_CLEAR ?v_REGISTERS ?v_NOT_OPERATIONS ?v_RUN ?v_NO_SUCH_OBJECT ?v_REGS ?v_OBJECTS ?v_LIVE ?v_WASTE ?v_SUSPECTS ?v_TRIAL ?v_ROW ?v_HOLDERS ?b_len ?b_list ?b_sum ?b_any ?b_sorted ?b_enumerate ?v_OPERATION_ARGUMENTS ?l_OPERATION_ARGUMENTS ?e_OPERATION_ARGUMENTS ?s_OPERATION_ARGUMENTS ?v_VIEW_ARGUMENTS ?l_VIEW_ARGUMENTS ?e_VIEW_ARGUMENTS ?s_VIEW_ARGUMENTS ?ne_CC
    (case a_Thing => k_is)
    (case a0 => k_is)
    (case i0 => k_is)
    (case l0 => k_is)
    (case c0 => k_is)
    (case k0 => k_is)
    (case pg_Thing => k_is)
    (case hd_Thing => k_is)
    (case po_Thing => k_is)
    (case sa_Thing => k_is)
    (case mk_Thing => k_is)
    (case kc_Thing => k_is)
    (case n_Thing_number => k_is)
    (case n_Thing_kind => k_is)
    (case n_Thing_size => k_is)
    (case n_Thing_slots => k_is)
    (case n_Thing_count => k_is)
    (case a_Machine => k_is)
    (case a1 => k_is)
    (case i1 => k_is)
    (case l1 => k_is)
    (case c1 => k_is)
    (case k1 => k_is)
    (case pg_Machine => k_is)
    (case hd_Machine => k_is)
    (case po_Machine => k_is)
    (case sa_Machine => k_is)
    (case mk_Machine => k_is)
    (case kc_Machine => k_is)
    (case n_Machine_registers => k_is)
    (case n_Machine_held => k_is)
    (case n_Machine_suspects => k_is)
    (case n_Machine_made => k_is)
    (case n_Machine_made_sizes => k_is)
    (case a2 => k_is)
    (case l2 => k_is)
    (case c2 => k_is)
    (case k2 => k_is)
    (case a3 => k_is)
    (case l3 => k_is)
    (case c3 => k_is)
    (case k3 => k_is)
    (case a4 => k_is)
    (case l4 => k_is)
    (case c4 => k_is)
    (case k4 => k_is)
    (case a5 => k_is)
    (case l5 => k_is)
    (case c5 => k_is)
    (case k5 => k_is)
    (case a6 => k_is)
    (case l6 => k_is)
    (case c6 => k_is)
    (case k6 => k_is)
    (case a7 => k_is)
    (case l7 => k_is)
    (case c7 => k_is)
    (case k7 => k_is)
    (case a8 => k_is)
    (case l8 => k_is)
    (case c8 => k_is)
    (case k8 => k_is)
    (case a9 => k_is)
    (case l9 => k_is)
    (case c9 => k_is)
    (case k9 => k_is)
    (case a10 => k_is)
    (case l10 => k_is)
    (case c10 => k_is)
    (case k10 => k_is)
    (case a11 => k_is)
    (case l11 => k_is)
    (case c11 => k_is)
    (case k11 => k_is)
    (case a12 => k_is)
    (case l12 => k_is)
    (case c12 => k_is)
    (case k12 => k_is)
    (case a13 => k_is)
    (case l13 => k_is)
    (case c13 => k_is)
    (case k13 => k_is)
    (case a14 => k_is)
    (case l14 => k_is)
    (case c14 => k_is)
    (case k14 => k_is)
    (case a15 => k_is)
    (case l15 => k_is)
    (case c15 => k_is)
    (case k15 => k_is)
    (case a16 => k_is)
    (case l16 => k_is)
    (case c16 => k_is)
    (case k16 => k_is)
    (case a17 => k_is)
    (case l17 => k_is)
    (case c17 => k_is)
    (case k17 => k_is)
    (case a18 => k_is)
    (case l18 => k_is)
    (case c18 => k_is)
    (case k18 => k_is)
    (case a19 => k_is)
    (case l19 => k_is)
    (case c19 => k_is)
    (case k19 => k_is)
    (case a20 => k_is)
    (case l20 => k_is)
    (case c20 => k_is)
    (case k20 => k_is)
    (case a21 => k_is)
    (case l21 => k_is)
    (case c21 => k_is)
    (case k21 => k_is)
    (case a22 => k_is)
    (case l22 => k_is)
    (case c22 => k_is)
    (case k22 => k_is)
    (case a23 => k_is)
    (case l23 => k_is)
    (case c23 => k_is)
    (case k23 => k_is)
    (case a24 => k_is)
    (case l24 => k_is)
    (case c24 => k_is)
    (case k24 => k_is)
    (case a25 => k_is)
    (case l25 => k_is)
    (case c25 => k_is)
    (case k25 => k_is)
    (case a26 => k_is)
    (case l26 => k_is)
    (case c26 => k_is)
    (case k26 => k_is)
    (case a27 => k_is)
    (case l27 => k_is)
    (case c27 => k_is)
    (case k27 => k_is)
    (case a28 => k_is)
    (case l28 => k_is)
    (case c28 => k_is)
    (case k28 => k_is)
    (case a29 => k_is)
    (case l29 => k_is)
    (case c29 => k_is)
    (case k29 => k_is)
    (case a30 => k_is)
    (case l30 => k_is)
    (case c30 => k_is)
    (case k30 => k_is)
    (case a31 => k_is)
    (case l31 => k_is)
    (case c31 => k_is)
    (case k31 => k_is)
    (case a32 => k_is)
    (case l32 => k_is)
    (case c32 => k_is)
    (case k32 => k_is)
    (case a33 => k_is)
    (case l33 => k_is)
    (case c33 => k_is)
    (case k33 => k_is)
    (case a34 => k_is)
    (case l34 => k_is)
    (case c34 => k_is)
    (case k34 => k_is)
    (case a35 => k_is)
    (case l35 => k_is)
    (case c35 => k_is)
    (case k35 => k_is)
    (case a36 => k_is)
    (case l36 => k_is)
    (case c36 => k_is)
    (case k36 => k_is)
    (case a37 => k_is)
    (case l37 => k_is)
    (case c37 => k_is)
    (case k37 => k_is)
    (case a38 => k_is)
    (case l38 => k_is)
    (case c38 => k_is)
    (case k38 => k_is)
    (case a39 => k_is)
    (case l39 => k_is)
    (case c39 => k_is)
    (case k39 => k_is)
    (case a40 => k_is)
    (case l40 => k_is)
    (case c40 => k_is)
    (case k40 => k_is)
    (case a41 => k_is)
    (case l41 => k_is)
    (case c41 => k_is)
    (case k41 => k_is)
    (case a42 => k_is)
    (case l42 => k_is)
    (case c42 => k_is)
    (case k42 => k_is)
    (case a43 => k_is)
    (case l43 => k_is)
    (case c43 => k_is)
    (case k43 => k_is)
    (case a44 => k_is)
    (case l44 => k_is)
    (case c44 => k_is)
    (case k44 => k_is)
    (case a45 => k_is)
    (case l45 => k_is)
    (case c45 => k_is)
    (case k45 => k_is)
    (case a46 => k_is)
    (case l46 => k_is)
    (case c46 => k_is)
    (case k46 => k_is)
    (case v_NOT_REFUSED => k_is)
    (case v_NO_SUCH_REGISTER => k_is)
    (case v_HOLDS_NOTHING => k_is)
    (case v_OUT_OF_RANGE => k_is)
    (case v_FULL => k_is)
    (case v_NO_SUCH_SLOT => k_is)
    (case v_MOST_KIND => k_is)
    (case v_MOST_SIZE => k_is)
    (case v_MOST_SLOTS => k_is)
    (case v_MOST_HELD => k_is)
    (case v_NEW => k_is)
    (case v_COPY => k_is)
    (case v_LOAD => k_is)
    (case v_STORE => k_is)
    (case v_CLEAR => k_is)
    (case v_REGISTERS => k_is)
    (case v_NOT_OPERATIONS => k_is)
    (case v_RUN => k_is)
    (case v_NO_SUCH_OBJECT => k_is)
    (case v_REGS => k_is)
    (case v_OBJECTS => k_is)
    (case v_LIVE => k_is)
    (case v_WASTE => k_is)
    (case v_SUSPECTS => k_is)
    (case v_TRIAL => k_is)
    (case v_ROW => k_is)
    (case v_HOLDERS => k_is)
    (case b_len => k_is)
    (case b_list => k_is)
    (case b_sum => k_is)
    (case b_any => k_is)
    (case b_sorted => k_is)
    (case b_enumerate => k_is)
    (case v_OPERATION_ARGUMENTS => k_is)
    (case l_OPERATION_ARGUMENTS => k_is)
    (case e_OPERATION_ARGUMENTS => rfl)
    (case s_OPERATION_ARGUMENTS => rfl)
    (case v_VIEW_ARGUMENTS => k_is)
    (case l_VIEW_ARGUMENTS => k_is)
    (case e_VIEW_ARGUMENTS => rfl)
    (case s_VIEW_ARGUMENTS => rfl)
    (case ne_CC => decide)
  case S =>
    intro K H xs a hO hwi hask hx
    cases hx with
    | cons h1 h2 =>
      cases h2
      cases h1 with
      | lst hs ha =>
        have e := L2.ints_dw a.1 _ ha
        subst e
        have q : ((Codec.inLen 0 16000 a.1 && a.1.all (Codec.inInt (-1000000000000000000) 1000000000000000000)) && true) = true := hwi
        rw [Bool.and_eq_true, Bool.and_eq_true] at q
        exact ⟨_, a.1, rfl, hs, (Codec.inNat_iff.mp q.1.1).2, hask, fun H' p hp => .lst (L2.SqL.of hp) (L2.dw_ints _)⟩
