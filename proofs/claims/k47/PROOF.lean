import PyProof.Rows.All
import Wide.All
import OpenK.AllK
import Wide.FinOn
import PyProof.EqAt
import PyProof.EqKinds
import PyProof.TupleCall
import KE.BitLaws
import KE.KLam
import KE.KNestM
import PyProof.IsiPairs
import PyProof.IsiNone
import PyProof.IsiHeapPairs
import PyProof.NeKinds
import PyProof.Claim2Refuses
import PyProof.MinMaxWalk
import PyProof.WalkInts
import PyProof.ReprRoads
import PyProof.Rows.NestShow
import PyProof.Rows.CallKwBuiltin
import PyProof.Rows.RegFStrParts
import PyProof.DictFindH
import PyProof.DictRoadsH
import PyProof.TupleKey
import PyProof.ListRange
import KE.KEqDict
import KE.KDictOf
import PyProof.DictDisplay
import PyProof.DictRoads
import PyProof.DictKinds
import PySem.Challenge.RW_lesssay_k47_true_at_settings
set_option Elab.async false
set_option linter.all false
set_option maxRecDepth 100000
namespace L2
open PySem PySem.Spec PyProof.Rows
abbrev Key := Sum Int Str
def keyIs : Key → Value → Bool
  | .inl k, v => Value.isInt k v
  | .inr x, v => Value.isStrOf x v
def keyH (w : World) : Key → Int
  | .inl k => hashInt k
  | .inr x => hashStr w x
theorem keyIs_shape : ∀ {k : Key} {v : Value}, keyIs k v = true → (∃ i t, k = Sum.inl i ∧ v = Value.int i t) ∨ (∃ x t, k = Sum.inr x ∧ v = Value.str x t)
  | .inl i, v, h => by
    obtain ⟨t, e⟩ := Value.isInt_shape (k := i) (v := v) h
    exact .inl ⟨i, t, rfl, e⟩
  | .inr x, v, h => by
    obtain ⟨t, e⟩ := Value.isStrOf_shape (x := x) (v := v) h
    exact .inr ⟨x, t, rfl, e⟩
theorem keyIs_int (i : Int) (t : Tok) : keyIs (.inl i) (.int i t) = true := by simp [keyIs, Value.isInt]
theorem keyIs_str (x : Str) (t : Tok) : keyIs (.inr x) (.str x t) = true := by simp [keyIs, Value.isStrOf]
theorem key_ll (a b : Int) : decide ((Sum.inl a : Key) = Sum.inl b) = (a == b) := by
  by_cases e : a = b
  · subst e; simp
  · have h : ¬ (Sum.inl a : Key) = Sum.inl b := fun q => e (Sum.inl.inj q)
    rw [decide_eq_false h]
    exact (beq_eq_false_iff_ne.mpr e).symm
theorem key_rr (a b : Str) : decide ((Sum.inr a : Key) = Sum.inr b) = decide (a = b) := by
  by_cases e : a = b
  · subst e; simp
  · have h : ¬ (Sum.inr a : Key) = Sum.inr b := fun q => e (Sum.inr.inj q)
    rw [decide_eq_false h, decide_eq_false e]
theorem key_lr (a : Int) (b : Str) : decide ((Sum.inl a : Key) = Sum.inr b) = false := decide_eq_false (fun q => nomatch q)
theorem key_rl (a : Str) (b : Int) : decide ((Sum.inr a : Key) = Sum.inl b) = false := decide_eq_false (fun q => nomatch q)
def mixKind (prog : Program) (w : World) : PySem.KeyKind prog w Key where
  is := keyIs
  hash := keyH w
  inj := fun v a b ha hb => by
    rcases keyIs_shape ha with ⟨i, t, rfl, rfl⟩ | ⟨x, t, rfl, rfl⟩
    · rcases keyIs_shape hb with ⟨j, u, rfl, e⟩ | ⟨y, u, rfl, e⟩
      · injection e with e1 _; rw [e1]
      · exact nomatch e
    · rcases keyIs_shape hb with ⟨j, u, rfl, e⟩ | ⟨y, u, rfl, e⟩
      · exact nomatch e
      · injection e with e1 _; rw [e1]
  byValue := fun k v h => by
    rcases keyIs_shape h with ⟨i, t, rfl, rfl⟩ | ⟨x, t, rfl, rfl⟩ <;> rfl
  pyHash := fun hv h => by
    rcases keyIs_shape hv with ⟨i, t, rfl, rfl⟩ | ⟨x, t, rfl, rfl⟩
    · exact wpAny_pyHash_int h
    · exact wpAny_pyHash_str h
  eqBool := fun hu hv h => by
    rcases keyIs_shape hu with ⟨i, t, rfl, rfl⟩ | ⟨x, t, rfl, rfl⟩
    · rcases keyIs_shape hv with ⟨j, u, rfl, rfl⟩ | ⟨y, u, rfl, rfl⟩
      · rw [key_ll] at h; exact wpAny_eqBool_int h
      · rw [key_lr] at h; exact SeqAt.EqAt.int_str i t y u _ _ _ _ h
    · rcases keyIs_shape hv with ⟨j, u, rfl, rfl⟩ | ⟨y, u, rfl, rfl⟩
      · rw [key_rl] at h; exact SeqAt.EqAt.str_int x t j u _ _ _ _ h
      · rw [key_rr] at h; exact wpAny_eqBool_str h
  «strs» := fun k x t v h => by
    rcases keyIs_shape h with ⟨i, u, rfl, e⟩ | ⟨y, u, rfl, e⟩
    · exact nomatch e
    · injection e with e1 _
      subst e1
      cases v <;> rfl
theorem mixKind_int (prog : Program) (w : World) (i : Int) (t : Tok) : (mixKind prog w).is (.inl i) (.int i t) = true := keyIs_int i t
theorem mixKind_str (prog : Program) (w : World) (x : Str) (t : Tok) : (mixKind prog w).is (.inr x) (.str x t) = true := keyIs_str x t
end L2
namespace L2
open PySem PySem.Spec PyProof.Rows
inductive V where
  | non | bl (b : Bool) | int (i : Int) | str (x : Str) | byt (b : Array UInt8) | flt (b : UInt64) | ref (a : Addr) | ty (n : String)
  deriving DecidableEq
def RelV : V → Value → Prop
  | .non, u => u = Value.none
  | .bl b, u => u = Value.bool b
  | .int i, u => ∃ t, u = Value.int i t
  | .str x, u => ∃ t, u = Value.str x t
  | .byt b, u => ∃ t, u = Value.bytes b t
  | .flt b, u => ∃ t, u = Value.float b t
  | .ref a, u => u = Value.ref a
  | .ty n, u => u = Value.type n
abbrev Vals : List V → List Value → Prop := Paired RelV
theorem Vals.length {xs : List V} {us : List Value} (r : Vals xs us) : xs.length = us.length := Paired.length r
theorem Vals.get : ∀ {xs : List V} {us : List Value} {i : Nat} {x : V}, Vals xs us → xs[i]? = some x → ∃ u, us[i]? = some u ∧ RelV x u
  | _, _, _, _, .nil, e => by simp at e
  | _, _, 0, _, .cons r _, e => by simp at e; subst e; exact ⟨_, rfl, r⟩
  | _, _, i + 1, x, .cons _ t, e => by
    obtain ⟨u, h1, h2⟩ := Vals.get (i := i) (x := x) t (by simpa using e)
    exact ⟨u, by simpa using h1, h2⟩
theorem Vals.set {x : V} {u : Value} (r : RelV x u) : ∀ {xs : List V} {us : List Value} (i : Nat), Vals xs us → Vals (xs.set i x) (us.set i u)
  | _, _, _, .nil => .nil
  | _, _, 0, .cons _ t => .cons r t
  | _, _, i + 1, .cons q t => .cons q (Vals.set r i t)
theorem Vals.append : ∀ {xs ys : List V} {us ws : List Value}, Vals xs us → Vals ys ws → Vals (xs ++ ys) (us ++ ws)
  | _, _, _, _, .nil, s => s
  | _, _, _, _, .cons r t, s => .cons r (Vals.append t s)
theorem Vals.take : ∀ {xs : List V} {us : List Value} (n : Nat), Vals xs us → Vals (xs.take n) (us.take n)
  | _, _, 0, _ => .nil
  | _, _, _ + 1, .nil => .nil
  | _, _, n + 1, .cons r t => .cons r (Vals.take n t)
theorem Vals.drop : ∀ {xs : List V} {us : List Value} (n : Nat), Vals xs us → Vals (xs.drop n) (us.drop n)
  | _, _, 0, r => r
  | _, _, _ + 1, .nil => .nil
  | _, _, n + 1, .cons _ t => Vals.drop n t
def RelO : Option V → Option Value → Prop
  | some v, some u => RelV v u
  | none, none => True
  | _, _ => False
def KV {κ : Type} : List (κ × V) → List (κ × Value) → Prop := Paired fun (p : κ × V) (q : κ × Value) => p.1 = q.1 ∧ RelV p.2 q.2
def kV : Key → V
  | .inl i => .int i
  | .inr x => .str x
inductive HO where
  | lst (xs : List V)
  | tup (xs : List V)
  | dK (kvs : List (Key × V)) | dT (kvs : List (List Key × V))
  | set (S : Int → Bool) (n : Nat)
  | ins (C dx : Addr) (fs : List (Str × V))
  | own (x : Addr)
  | xd (fs : List (Str × V))
  | met (f x : Addr)
  | rng (lo hi : Int)
  | frz (o : Obj) (u : HO)
  | tbl (ps : Array Value)
  | ext (φ : Heap → Prop)
abbrev Hp := Addr → Option HO
def upd (H : Hp) (a : Addr) (o : HO) : Hp := fun b => if b = a then some o else H b
theorem upd_same {H : Hp} {a : Addr} {o : HO} : upd H a o a = some o := by unfold upd; rw [if_pos rfl]
theorem upd_ne {H : Hp} {a b : Addr} {o : HO} (h : b ≠ a) : upd H a o b = H b := by unfold upd; rw [if_neg h]
theorem ne_of_none {H : Hp} {a b : Addr} {o : HO} (h : H a = some o) (h' : H b = none) : a ≠ b := by
  intro e; subst e; rw [h] at h'; cases h'
section
variable (P : Program) (w : World)
def ObjOk (H : Hp) (h : Heap) (a : Addr) : HO → Prop
  | .lst xs => xs.length ≤ sizeLine ∧ ∃ (its : List Value) (n : Nat), Vals xs its ∧ h.get? a = some { cls := .type "list", data := .seq its.toArray n }
  | .tup xs => xs.length ≤ sizeLine ∧ ∃ its : List Value, Vals xs its ∧ IsTup h a its.toArray
  | .dK kvs => kvs.length ≤ sizeLine ∧ (a == sysModules) = false ∧ ∃ vs, KV kvs vs ∧ h.DictOf (mixKind P w) a vs
  | .dT kvs => kvs.length ≤ sizeLine ∧ (a == sysModules) = false ∧ ∃ xs : List (List Key × Addr × Value),
      Paired (fun (p : List Key × V) (q : List Key × Addr × Value) => p.1 = q.1 ∧ H q.2.1 = some (.tup (p.1.map kV)) ∧ RelV p.2 q.2.2) kvs xs ∧
      ∃ o es ep, h.get? a = some o ∧ o.ExactDict ∧ o.data = .dict es ep ∧ es.toList = xs.map (entryOfKey (tupleKind (mixKind P w))) ∧ (xs.map (·.1)).Nodup
  | .set S n => h.SetOf (intKind P w) a S n
  | .ins C dx fs => H dx = some (.own a) ∧ fs.length ≤ 1000 ∧ dx ≠ a ∧ h.get? a = some (PySem.W.instObj C dx) ∧
      ∃ mA, h.Ns1 dx mA ∧ (∀ f, RelO (fs.lookup f) (mA f)) ∧ PySem.Within mA (fs.map (·.1))
  | .own _ => ∃ o, h.get? a = some o
  | .xd fs => ∃ mA, h.Ns1 a mA ∧ ∀ f, RelO (fs.lookup f) (mA f)
  | .rng lo hi => ∃ t u v, h.get? a = some { cls := .type "range", data := .fields #[.int lo t, .int hi u, .int 1 v] }
  | .frz o u => h.get? a = some o ∧ ObjOk H h a u
  | .tbl ps => h.get? a = some { cls := .none, data := .fields ps }
  | .met f x => h.get? a = some (PySem.W.methodObj (.ref f) (.ref x))
  | .ext φ => φ h ∧ (∃ o, h.get? a = some o) ∧ ∀ h1 h2 : Heap, φ h1 → (∀ o, h1.get? a = some o → h2.get? a = some o) → φ h2
def HOk (H : Hp) (h : Heap) : Prop := ∀ a o, H a = some o → ObjOk P w H h a o
end
section
variable {P : Program} {w : World} {H H' : Hp} {h h' : Heap} {a : Addr} {o : HO}
theorem ObjOk.lt (x : ObjOk P w H h a o) : a < h.objs.size := by
  cases o with
  | lst xs => obtain ⟨_, _, _, _, e⟩ := x; exact Heap.lt_size e
  | tup xs => obtain ⟨_, _, _, p⟩ := x; exact p.lt
  | dK kvs => obtain ⟨_, _, _, _, o, _, _, e, _⟩ := x; exact Heap.lt_size e
  | dT kvs => obtain ⟨_, _, _, _, o, _, _, e, _⟩ := x; exact Heap.lt_size e
  | set S n => obtain ⟨o, _, _, _, e, _⟩ := x; exact Heap.lt_size e
  | ins C dx fs => obtain ⟨_, _, _, e, _⟩ := x; exact Heap.lt_size e
  | own y => obtain ⟨_, e⟩ := x; exact Heap.lt_size e
  | xd fs => obtain ⟨_, ⟨_, _, _, e, _⟩, _⟩ := x; exact Heap.lt_size e
  | rng lo hi => obtain ⟨_, _, _, e⟩ := x; exact Heap.lt_size e
  | frz ob u => obtain ⟨e, _⟩ := x; exact Heap.lt_size e
  | tbl ps => exact Heap.lt_size (show h.get? a = some _ from x)
  | met f y => exact Heap.lt_size (show h.get? a = some _ from x)
  | ext φ => obtain ⟨_, ⟨_, e⟩, _⟩ := x; exact Heap.lt_size e
theorem Paired.mapP {α β : Type} {F G : α → β → Prop} : ∀ {l₁ : List α} {l₂ : List β}, Paired F l₁ l₂ → (∀ a b, F a b → G a b) → Paired G l₁ l₂
  | _, _, .nil, _ => .nil
  | _, _, .cons r t, f => .cons (f _ _ r) (Paired.mapP t f)
theorem ObjOk.stay (x : ObjOk P w H h a o) (k : ∀ b u, (b = a ∨ H b = some (.own a)) → h.get? b = some u → h'.get? b = some u)
    (ho : ∀ b, H b = some (.own a) → H' b = some (.own a)) (ht : ∀ b xs, H b = some (.tup xs) → H' b = some (.tup xs)) : ObjOk P w H' h' a o := by
  induction o with
  | lst xs => obtain ⟨z, its, n, r, e⟩ := x; exact ⟨z, its, n, r, k _ _ (.inl rfl) e⟩
  | tup xs => obtain ⟨z, its, r, ob, e, c⟩ := x; exact ⟨z, its, r, ob, k _ _ (.inl rfl) e, c⟩
  | dK kvs => obtain ⟨z, y, vs, r, ob, es, ep, e, c⟩ := x; exact ⟨z, y, vs, r, ob, es, ep, k _ _ (.inl rfl) e, c⟩
  | dT kvs =>
    obtain ⟨z, y, xs, r, ob, es, ep, e, c⟩ := x
    exact ⟨z, y, xs, Paired.mapP r fun p q z => ⟨z.1, ht _ _ z.2.1, z.2.2⟩, ob, es, ep, k _ _ (.inl rfl) e, c⟩
  | set S n => obtain ⟨ob, es, ep, t, e, c⟩ := x; exact ⟨ob, es, ep, t, k _ _ (.inl rfl) e, c⟩
  | ins C dx fs =>
    obtain ⟨d, z, ne, e, mA, ⟨od, es, ep, e2, c⟩, r⟩ := x
    exact ⟨ho _ d, z, ne, k _ _ (.inl rfl) e, mA, ⟨od, es, ep, k _ _ (.inr d) e2, c⟩, r⟩
  | own y => obtain ⟨ob, e⟩ := x; exact ⟨ob, k _ _ (.inl rfl) e⟩
  | xd fs => obtain ⟨mA, ⟨od, es, ep, e, c⟩, r⟩ := x; exact ⟨mA, ⟨od, es, ep, k _ _ (.inl rfl) e, c⟩, r⟩
  | rng lo hi => obtain ⟨t, u, v, e⟩ := x; exact ⟨t, u, v, k _ _ (.inl rfl) e⟩
  | frz ob u ih => obtain ⟨e, q⟩ := x; exact ⟨k _ _ (.inl rfl) e, ih q⟩
  | tbl ps =>
    have e : h.get? a = some { cls := .none, data := .fields ps } := x
    show h'.get? a = some { cls := .none, data := .fields ps }
    exact k a _ (.inl rfl) e
  | met f y =>
    have e : h.get? a = some (PySem.W.methodObj (.ref f) (.ref y)) := x
    show h'.get? a = some (PySem.W.methodObj (.ref f) (.ref y))
    exact k a _ (.inl rfl) e
  | ext φ => obtain ⟨p, ⟨o, e⟩, st⟩ := x; exact ⟨st _ _ p fun o q => k _ _ (.inl rfl) q, ⟨o, k _ _ (.inl rfl) e⟩, st⟩
theorem HOk.lt (x : HOk P w H h) (e : H a = some o) : a < h.objs.size := (x a o e).lt
theorem HOk.fresh (x : HOk P w H h) (e : h.objs.size ≤ a) : H a = none := by
  cases q : H a with
  | none => rfl
  | some u => exact absurd (Nat.lt_of_lt_of_le (x.lt q) e) (Nat.lt_irrefl _)
theorem HOk.kept (x : HOk P w H h) (k : ∀ b u, h.get? b = some u → h'.get? b = some u) : HOk P w H h' := fun a o e =>
  (x a o e).stay (fun b u _ q => k b u q) (fun _ q => q) fun _ _ q => q
theorem HOk.laid (x : HOk P w H h) (k : ∀ b u, h.get? b = some u → h'.get? b = some u) (hp : h.objs.size ≤ a) (new : ObjOk P w (upd H a o) h' a o) : HOk P w (upd H a o) h' := fun b u e => by
  have hn := x.fresh hp
  by_cases hb : b = a
  · subst hb; rw [upd_same] at e; cases e; exact new
  · rw [upd_ne hb] at e
    exact (x b u e).stay (fun c v _ q => k c v q) (fun c q => by rw [upd_ne (ne_of_none q hn)]; exact q) fun c xs q => by rw [upd_ne (ne_of_none q hn)]; exact q
end
def Rd (H : Hp) (a : Addr) (u : HO) : Prop := H a = some u ∨ ∃ o, H a = some (.frz o u)
theorem Rd.of {H : Hp} {a : Addr} {u : HO} (h : H a = some u) : Rd H a u := .inl h
theorem Rd.ok {P : Program} {w : World} {H : Hp} {h : Heap} {a : Addr} {u : HO} (r : Rd H a u) (x : HOk P w H h) : ObjOk P w H h a u := by
  rcases r with r | ⟨o, r⟩
  · exact x a u r
  · obtain ⟨_, q⟩ := x a _ r
    exact q
def Mut : Option HO → Prop
  | some (.lst _) => True
  | some (.dK _) => True
  | some (.dT _) => True
  | some (.set _ _) => True
  | some (.ins _ _ _) => True
  | some (.ext _) => True
  | _ => False
section
variable {P : Program} {w : World} {H : Hp} {h h' : Heap} {x e : Addr} {o' : HO}
theorem HOk.write (ok : HOk P w H h) (mu : Mut (H x)) (he : e = x ∨ H e = some (.own x)) (k : ∀ b u, b ≠ e → h.get? b = some u → h'.get? b = some u) (heo : ∃ u, h'.get? e = some u)
    (new : ObjOk P w (upd H x o') h' x o') : HOk P w (upd H x o') h' := fun b u q => by
  have nown : ∀ c y, H c = some (.own y) → c ≠ x := fun c y r z => by subst z; rw [r] at mu; exact mu
  have ntup : ∀ c xs, H c = some (.tup xs) → c ≠ x := fun c xs r z => by subst z; rw [r] at mu; exact mu
  by_cases hb : b = x
  · subst hb; rw [upd_same] at q; cases q; exact new
  · rw [upd_ne hb] at q
    by_cases hbe : b = e
    · have q' : H b = some (.own x) := by
        rcases he with z | z
        · exact absurd (hbe.trans z) hb
        · rw [hbe]; exact z
      rw [q] at q'; cases q'
      obtain ⟨v, hv⟩ := heo
      exact ⟨v, by rw [hbe]; exact hv⟩
    · refine (ok b u q).stay (fun c v hc r => k c v ?_ r) (fun c r => by rw [upd_ne (nown c b r)]; exact r) fun c xs r => by rw [upd_ne (ntup c xs r)]; exact r
      rcases hc with rfl | hc
      · exact hbe
      · rintro rfl
        rcases he with z | z
        · exact nown c b hc z
        · rw [hc] at z; cases z; exact hb rfl
end
structure Un (fs ex : List Addr) (H H' : Hp) (h h' : Heap) : Prop where
  keep : ∀ b o, h.get? b = some o → H b = none → b ∉ fs → b ∉ ex → h'.get? b = some o
  slot : ∀ b o, h.get? b = some o → H b = none → b ∈ fs → b ∉ ex → ∃ sl, h'.get? b = some { o with slots := sl }
  free : ∀ b o, h.get? b = some o → H b = none → b ∉ ex → H' b = none
  there : ∀ b o, h.get? b = some o → b ∉ ex → ∃ o', h'.get? b = some o'
  tups : ∀ b xs, H b = some (.tup xs) → H' b = some (.tup xs)
  frzs : ∀ b o u, H b = some (.frz o u) → H' b = some (.frz o u)
  tbls : ∀ b ps, H b = some (.tbl ps) → ∃ more, H' b = some (.tbl (ps ++ more))
section
variable {fs fs' ex ex' : List Addr} {H H1 H2 : Hp} {h h1 h2 h' : Heap} {a x e : Addr} {o : HO}
theorem Un.any (u : Un fs ex H H1 h h1) {b : Addr} {ob : Obj} (q : h.get? b = some ob) (n : H b = none) (hx : b ∉ ex) : ∃ sl, h1.get? b = some { ob with slots := sl } := by
  by_cases hb : b ∈ fs
  · exact u.slot b ob q n hb hx
  · exact ⟨ob.slots, u.keep b ob q n hb hx⟩
theorem Un.trans (a : Un fs ex H H1 h h1) (b : Un fs ex H1 H2 h1 h2) : Un fs ex H H2 h h2 where
  keep := fun c ob q n hc hx => b.keep c ob (a.keep c ob q n hc hx) (a.free c ob q n hx) hc hx
  slot := fun c ob q n hc hx => by
    obtain ⟨sl, e1⟩ := a.slot c ob q n hc hx
    obtain ⟨sl', e2⟩ := b.slot c _ e1 (a.free c ob q n hx) hc hx
    exact ⟨sl', e2⟩
  free := fun c ob q n hx => by
    obtain ⟨o', e1⟩ := a.there c ob q hx
    exact b.free c o' e1 (a.free c ob q n hx) hx
  there := fun c ob q hx => by
    obtain ⟨o', e1⟩ := a.there c ob q hx
    exact b.there c o' e1 hx
  tups := fun c xs q => b.tups c xs (a.tups c xs q)
  frzs := fun c ob xs q => b.frzs c ob xs (a.frzs c ob xs q)
  tbls := fun c ps q => by
    obtain ⟨m1, e1⟩ := a.tbls c ps q
    obtain ⟨m2, e2⟩ := b.tbls c _ e1
    exact ⟨m1 ++ m2, by rw [e2, Array.append_assoc]⟩
theorem Un.kept (k : ∀ b u, h.get? b = some u → h'.get? b = some u) : Un fs ex H H h h' :=
  ⟨fun b ob q _ _ _ => k b ob q, fun b ob q _ _ _ => ⟨ob.slots, k b ob q⟩, fun _ _ _ n _ => n, fun b ob q _ => ⟨ob, k b ob q⟩, fun _ _ q => q, fun _ _ _ q => q, fun _ ps q => ⟨#[], by rw [q]; simp⟩⟩
theorem Un.refl : Un fs ex H H h h := Un.kept fun _ _ q => q
theorem Un.laid (k : ∀ b u, h.get? b = some u → h'.get? b = some u) (hp : h.objs.size ≤ a) (hn : H a = none) : Un fs ex H (upd H a o) h h' where
  keep := fun b u q _ _ _ => k b u q
  slot := fun b u q _ _ _ => ⟨u.slots, k b u q⟩
  free := fun b u q n _ => by rw [upd_ne (Nat.ne_of_lt (Nat.lt_of_lt_of_le (Heap.lt_size q) hp))]; exact n
  there := fun b u q _ => ⟨u, k b u q⟩
  tups := fun b xs q => by rw [upd_ne (ne_of_none q hn)]; exact q
  frzs := fun b u xs q => by rw [upd_ne (ne_of_none q hn)]; exact q
  tbls := fun b ps q => ⟨#[], by rw [upd_ne (ne_of_none q hn), q]; simp⟩
theorem Un.write (mu : Mut (H x)) (he : e = x ∨ H e = some (.own x)) (k : ∀ b u, b ≠ e → h.get? b = some u → h'.get? b = some u) (heo : ∃ u, h'.get? e = some u) : Un fs ex H (upd H x o) h h' := by
  have hx : ∀ b, H b = none → b ≠ x := fun b n z => by subst z; rw [n] at mu; exact mu
  have hb : ∀ b, H b = none → b ≠ e := fun b n z => by
    subst z
    rcases he with r | r
    · exact hx b n r
    · rw [n] at r; cases r
  have hm : ∀ b u, H b = some u → ¬ Mut (some u) → b ≠ x := fun b u q nm z => by subst z; rw [q] at mu; exact nm mu
  refine ⟨fun b u q n _ _ => k b u (hb b n) q, fun b u q n _ _ => ⟨u.slots, k b u (hb b n) q⟩, fun b u q n _ => by rw [upd_ne (hx b n)]; exact n, fun b u q _ => ?_,
    fun b xs q => by rw [upd_ne (hm b _ q fun z => z)]; exact q, fun b u xs q => by rw [upd_ne (hm b _ q fun z => z)]; exact q, fun b ps q => ⟨#[], by rw [upd_ne (hm b _ q fun z => z), q]; simp⟩⟩
  by_cases hbe : b = e
  · subst hbe; exact heo
  · exact ⟨u, k b u hbe q⟩
theorem Un.mono (u : Un fs ex H H1 h h1) (hs : ∀ b ∈ fs, b ∈ fs') (hx : ∀ b ∈ ex, b ∈ ex') : Un fs' ex' H H1 h h1 :=
  ⟨fun b ob q n hb he => u.keep b ob q n (fun z => hb (hs b z)) fun z => he (hx b z), fun _ _ q n _ he => u.any q n fun z => he (hx _ z), fun b ob q n he => u.free b ob q n fun z => he (hx b z), fun b ob q he => u.there b ob q fun z => he (hx b z), u.tups, u.frzs, u.tbls⟩
end
def trk (h : Heap) (H : Hp) : List Addr := (List.range h.objs.size).filter fun a => (H a).isSome
def hidT (h : Heap) (H : Hp) : Heap := PySem.W.hideAll h (trk h H)
theorem hidT_size (h : Heap) (H : Hp) : (hidT h H).objs.size = h.objs.size := PySem.W.hideAll_size _ _
theorem hidT_get {h : Heap} {H : Hp} {b : Addr} {o : Obj} (e : h.get? b = some o) (n : H b = none) : (hidT h H).get? b = some o :=
  PySem.W.hideAll_get _ e fun hm => by
    have q : (H b).isSome = true := (List.mem_filter.mp hm).2
    rw [n] at q; simp at q
theorem of_hidT {h : Heap} {H : Hp} {b : Addr} {o : Obj} (e : (hidT h H).get? b = some o) : h.get? b = some o ∧ H b = none := by
  have e' : h.get? b = some o := PySem.W.of_hideAll (trk h H) e
  refine ⟨e', ?_⟩
  cases q : H b with
  | none => rfl
  | some x =>
    have hm : b ∈ trk h H := List.mem_filter.mpr ⟨List.mem_range.mpr (Heap.lt_size e'), by simp [q]⟩
    have z : (hidT h H).get? b = none := PySem.W.hideAll_none (trk h H) hm
    rw [z] at e; cases e
def allNews (g h : Heap) (L : Addr) : List (Addr × Obj) := (List.range h.objs.size).filterMap fun a => if a = L ∨ (g.get? a).isSome = true then none else (h.get? a).map fun o => (a, o)
def rest (g h : Heap) (L d : Addr) : List (Addr × Obj) := (allNews g h L).filter fun p => decide (p.1 ≠ d)
end L2
namespace L2
open PySem PySem.Spec PyProof.Rows
structure Mod (K : PySem.W.Frag) (mg : Str → Option Value) (base : Heap) : Prop where
  kin : K.In base
  glob : base.Ns mainGlobals mg
  blt : ∃ mb, base.Ns builtinsNs mb ∧ ∀ x : Str, x ≠ "__name__" → mb x = bootBuiltins x
  nolimit : base.NoLimit
structure Cx where
  prog : Program
  w : World
  K : PySem.W.Frag
  mg : Str → Option Value
  base : Heap
  A : Around
  N : List Str
  s_0 : Shared
  H_0 : Hp
  env : Env
  outer : List Env
  stack : List Env
  ex : List Addr
  fn : Str → Bool
  calm : Bool
  pn : List (Addr × Obj)
  xe : Value → Shared → Prop
def frs (l : List Env) : List Addr := l.filterMap (·.frame)
abbrev Cx.fs (X : Cx) : List Addr := frs X.outer
def Vis (sc : Scope) (x : Str) : Prop := sc.names.lookup x = some .local ∨ sc.names.lookup x = some .cell ∨ sc.names.lookup x = some .free
def Loc (sc : Scope) (x : Str) : Prop := sc.names.lookup x = some .local ∨ sc.names.lookup x = some .cell
def Look (env : Env) (h : Heap) (m : Str → Option Value) (x : Str) (u : Value) : Prop :=
  (env.kindOf x = some .local ∧ m x = some u) ∨ ((env.kindOf x = some .cell ∨ env.kindOf x = some .free) ∧ ∃ c, env.cells.lookup x = some c ∧ h.IsCell c (some u))
structure Cx.Ok (X : Cx) : Prop where
  mod : Mod X.K X.mg X.base
  kind : X.env.scope.kind = .function
  glob : X.env.globals = mainGlobals
  blt : X.env.builtins = builtinsNs
  above : X.s_0.heap.objs.size ≤ X.env.locals
  inj : ∀ x y c, X.env.cells.lookup x = some c → X.env.cells.lookup y = some c → x = y
  has : ∀ x, (X.env.kindOf x = some .cell ∨ X.env.kindOf x = some .free) → ∃ c, X.env.cells.lookup x = some c
  cab : ∀ x c, X.fn x = true → X.env.cells.lookup x = some c → X.s_0.heap.objs.size ≤ c
  hd : X.calm = true → X.A.handled = none
  frames : X.A.frames = some X.stack
  stk : X.stack = X.outer ∨ (X.stack = X.env :: X.outer ∧ X.env.frame = some X.env.locals)
  exf : ∀ b ∈ X.ex, b ≠ X.env.locals ∧ ∀ x c, X.env.cells.lookup x = some c → c ≠ b
  bs : ∀ b o, X.base.get? b = some o → X.s_0.heap.get? b = some o ∧ X.H_0 b = none
  bsz : X.base.objs.size ≤ X.s_0.heap.objs.size
  noex : ∀ b o, X.base.get? b = some o → b ∉ X.ex
  exfs : ∀ b ∈ X.ex, b ∉ X.fs
  funs : X.s_0.heap.FunFrames X.base X.outer
  frf : ∀ b ∈ X.fs, X.H_0 b = none
structure Inv (X : Cx) (pins : List (Addr × Obj)) (σ : List (Option V)) (H : Hp) (s : Shared) : Prop where
  ok : X.Ok
  os : s.os = X.s_0.os
  bare : AllBare s.gens
  base : Un X.fs X.ex X.H_0 H X.s_0.heap s.heap
  loc : ∃ m, s.heap.Ns X.env.locals m ∧ ∀ (i : Nat) (x : Str) (v : V), X.N[i]? = some x → σ[i]? = some (some v) → Vis X.env.scope x → ∃ u, RelV v u ∧ Look X.env s.heap m x u
  cell : ∀ x c, X.env.cells.lookup x = some c → ∃ v, s.heap.IsCell c v
  free : H X.env.locals = none
  freeC : ∀ x c, X.env.cells.lookup x = some c → H c = none ∨ (X.fn x = false ∧ ∃ o y, H c = some (.frz o (.own y)))
  pin : ∀ p ∈ X.pn ++ pins, s.heap.get? p.1 = some p.2 ∧ H p.1 = none ∧ p.1 ≠ X.env.locals ∧ p.1 ∉ X.fs ∧ ∀ v, p.2.data ≠ .cell v
  hok : HOk X.prog X.w H s.heap
  len : σ.length = X.N.length
section
variable {X : Cx} {pins : List (Addr × Obj)} {σ : List (Option V)} {H H' : Hp} {s : Shared} {h' : Heap}
theorem Cx.Ok.nofr (ok : X.Ok) {b : Addr} {o : Obj} (e : X.base.get? b = some o) : b ∉ X.fs := fun hb => by
  have := (ok.funs.mem hb).1
  rw [e] at this; cases this
theorem Inv.bs (I : Inv X pins σ H s) : ∀ b o, X.base.get? b = some o → s.heap.get? b = some o ∧ H b = none := fun b o e =>
  ⟨I.base.keep b o (I.ok.bs b o e).1 (I.ok.bs b o e).2 (I.ok.nofr e) (I.ok.noex b o e), I.base.free b o (I.ok.bs b o e).1 (I.ok.bs b o e).2 (I.ok.noex b o e)⟩
theorem Inv.bk (I : Inv X pins σ H s) : ∀ b o, X.base.get? b = some o → s.heap.get? b = some o := fun b o e => (I.bs b o e).1
theorem Inv.mod (I : Inv X pins σ H s) : Mod X.K X.mg X.base := I.ok.mod
theorem Inv.kIn (I : Inv X pins σ H s) : X.K.In s.heap := I.ok.mod.kin.keeps I.bk
theorem Inv.nolimit (I : Inv X pins σ H s) : s.heap.NoLimit := I.ok.mod.nolimit.keeps I.bk
theorem Inv.fr (I : Inv X pins σ H s) : ∃ m, Fr X.base X.env.locals s.heap m :=
  let ⟨m, hn, _⟩ := I.loc
  ⟨m, hn, I.bk, Nat.le_trans I.ok.bsz I.ok.above⟩
theorem Inv.lt (I : Inv X pins σ H s) : X.env.locals < s.heap.objs.size := let ⟨_, hn, _⟩ := I.loc; hn.lt
theorem Inv.sz (I : Inv X pins σ H s) : X.s_0.heap.objs.size ≤ s.heap.objs.size := Nat.le_trans I.ok.above (Nat.le_of_lt I.lt)
theorem Inv.nofs (I : Inv X pins σ H s) {a : Addr} (h : s.heap.objs.size ≤ a) : a ∉ X.fs := fun hb => by
  obtain ⟨_, o, ho, _⟩ := I.ok.funs.mem hb
  exact absurd (Nat.lt_of_lt_of_le (Heap.lt_size ho) (Nat.le_trans I.sz h)) (Nat.lt_irrefl _)
theorem Inv.cne (I : Inv X pins σ H s) : ∀ x c, X.env.cells.lookup x = some c → c ≠ X.env.locals := fun x c e z => by
  obtain ⟨v, o, ho, hd⟩ := I.cell x c e
  obtain ⟨m, ⟨o', es, ep, ho', hd', _⟩, _⟩ := I.loc
  rw [z, ho'] at ho; cases ho; rw [hd'] at hd; cases hd
theorem Inv.funs (I : Inv X pins σ H s) : s.heap.FunFrames X.base X.outer := by
  have all : ∀ (l : List Env), (∀ b ∈ frs l, b ∈ X.fs) → X.s_0.heap.FunFrames X.base l → s.heap.FunFrames X.base l := by
    intro l
    induction l with
    | nil => intro _ _; trivial
    | cons env r ih =>
      intro hs hl
      obtain ⟨hk, ⟨L, o, hf, hn, ho, hd⟩, hr⟩ := hl
      have hL : L ∈ X.fs := hs L (by unfold frs; rw [List.filterMap_cons, hf]; exact List.mem_cons_self)
      obtain ⟨sl, e⟩ := I.base.slot L o ho (I.ok.frf L hL) hL fun z => I.ok.exfs L z hL
      exact ⟨hk, ⟨L, _, hf, hn, e, hd⟩, ih (fun b hb => hs b (by unfold frs; rw [List.filterMap_cons, hf]; exact List.mem_cons_of_mem _ hb)) hr⟩
  exact all X.outer (fun _ hb => hb) I.ok.funs
theorem Inv.stack (I : Inv X pins σ H s) : s.heap.FunFrames X.base X.stack := by
  rcases I.ok.stk with e | ⟨e, hf⟩
  · rw [e]; exact I.funs
  · rw [e]
    obtain ⟨m, hn, _⟩ := I.loc
    refine .cons (by rw [I.ok.kind]; decide) hf hn ?_ I.funs
    exact Heap.get?_none_of_le (Nat.le_trans I.ok.bsz I.ok.above)
theorem Inv.stkSub (I : Inv X pins σ H s) : ∀ b ∈ frs X.stack, b ∈ X.env.locals :: X.fs := fun b hb => by
  rcases I.ok.stk with e | ⟨e, hf⟩
  · rw [e] at hb; exact List.mem_cons_of_mem _ hb
  · rw [e] at hb
    unfold frs at hb
    rw [List.filterMap_cons, hf] at hb
    exact hb
theorem Inv.stkFree (I : Inv X pins σ H s) : ∀ b ∈ frs X.stack, H b = none := fun b hb => by
  rcases List.mem_cons.mp (I.stkSub b hb) with e | hb
  · rw [e]; exact I.free
  · obtain ⟨_, o, ho, _⟩ := I.ok.funs.mem hb
    exact I.base.free b o ho (I.ok.frf b hb) fun z => I.ok.exfs b z hb
theorem Inv.step {g' : Array GenState} {t' : Nat} {d' : Drawn} {ch : List Addr} (I : Inv X pins σ H s)
    (hch : ∀ b ∈ ch, (b ∈ X.ex ∨ X.s_0.heap.objs.size ≤ b) ∧ b ≠ X.env.locals ∧ (∀ x c, X.env.cells.lookup x = some c → c ≠ b) ∧ ∀ p ∈ X.pn ++ pins, p.1 ≠ b)
    (keep : ∀ b o, b ≠ X.env.locals → b ∉ X.fs → b ∉ ch → s.heap.get? b = some o → H b = none → h'.get? b = some o)
    (slot : ∀ b o, b ≠ X.env.locals → b ∈ X.fs → b ∉ ch → s.heap.get? b = some o → H b = none → ∃ sl, h'.get? b = some { o with slots := sl }) (free : ∀ b o, b ∉ ch → s.heap.get? b = some o → H b = none → H' b = none)
    (there : ∀ b o, b ∉ ch → s.heap.get? b = some o → ∃ o', h'.get? b = some o')
    (tups : ∀ b xs, H b = some (.tup xs) → H' b = some (.tup xs)) (frzs : ∀ b o u, H b = some (.frz o u) → H' b = some (.frz o u)) (tbls : ∀ b ps, H b = some (.tbl ps) → ∃ more, H' b = some (.tbl (ps ++ more)))
    (ns : ∀ m, s.heap.Ns X.env.locals m → h'.Ns X.env.locals m) (hok : HOk X.prog X.w H' h') (hg : AllBare g') :
    Inv X pins σ H' { s with heap := h', gens := g', drawn := d', toks := t' } := by
  have neL : ∀ b o, X.s_0.heap.get? b = some o → b ≠ X.env.locals := fun b o e => Nat.ne_of_lt (Nat.lt_of_lt_of_le (Heap.lt_size e) I.ok.above)
  have neC : ∀ b o, X.s_0.heap.get? b = some o → b ∉ X.ex → b ∉ ch := fun b o e hx hb => by
    rcases (hch b hb).1 with z | z
    · exact hx z
    · exact absurd (Nat.lt_of_lt_of_le (Heap.lt_size e) z) (Nat.lt_irrefl _)
  have cellK : ∀ x c, X.env.cells.lookup x = some c → ∀ v, s.heap.IsCell c v → h'.IsCell c v := fun x c e v ⟨o, ho, hd⟩ => by
    have nch : c ∉ ch := fun z => (hch c z).2.2.1 x c e rfl
    rcases I.freeC x c e with hn | ⟨_, o', y', hn⟩
    · by_cases hc : c ∈ X.fs
      · obtain ⟨sl, q⟩ := slot c o (I.cne x c e) hc nch ho hn
        exact ⟨_, q, hd⟩
      · exact ⟨o, keep c o (I.cne x c e) hc nch ho hn, hd⟩
    · obtain ⟨e1, _⟩ := I.hok c _ hn
      obtain ⟨e2, _⟩ := hok c _ (frzs c o' _ hn)
      rw [ho] at e1; cases e1
      exact ⟨o, e2, hd⟩
  refine ⟨I.ok, I.os, hg, ⟨fun b o e n hb hx => ?_, fun b o e n hb hx => ?_, fun b o e n hx => ?_, fun b o e hx => ?_, fun b xs e => tups b xs (I.base.tups b xs e), fun b o xs e => frzs b o xs (I.base.frzs b o xs e), fun b ps e => ?_⟩, ?_, fun x c e => ?_, ?_, fun x c e => ?_, fun p hp => ?_, hok, I.len⟩
  · exact keep b o (neL b o e) hb (neC b o e hx) (I.base.keep b o e n hb hx) (I.base.free b o e n hx)
  · obtain ⟨sl, e1⟩ := I.base.slot b o e n hb hx
    obtain ⟨sl', e2⟩ := slot b _ (neL b o e) hb (neC b o e hx) e1 (I.base.free b o e n hx)
    exact ⟨sl', e2⟩
  · obtain ⟨o', e1⟩ := I.base.there b o e hx
    exact free b o' (neC b o e hx) e1 (I.base.free b o e n hx)
  · obtain ⟨o', e1⟩ := I.base.there b o e hx
    exact there b o' (neC b o e hx) e1
  · obtain ⟨m1, e1⟩ := I.base.tbls b ps e
    obtain ⟨m2, e2⟩ := tbls b _ e1
    exact ⟨m1 ++ m2, by rw [e2, Array.append_assoc]⟩
  · obtain ⟨m, hn, hl⟩ := I.loc
    refine ⟨m, ns m hn, fun i x v e1 e2 e3 => ?_⟩
    obtain ⟨u, r, l⟩ := hl i x v e1 e2 e3
    refine ⟨u, r, ?_⟩
    rcases l with l | ⟨k, c, e, z⟩
    · exact .inl l
    · exact .inr ⟨k, c, e, cellK x c e _ z⟩
  · obtain ⟨v, z⟩ := I.cell x c e
    exact ⟨v, cellK x c e v z⟩
  · obtain ⟨m, ⟨o, _, _, ho, _⟩, _⟩ := I.loc
    exact free _ o (fun z => (hch _ z).2.1 rfl) ho I.free
  · rcases I.freeC x c e with hn | ⟨hf, o', y', hn⟩
    · obtain ⟨v, o, ho, hd⟩ := I.cell x c e
      exact .inl (free c o (fun z => (hch c z).2.2.1 x c e rfl) ho hn)
    · exact .inr ⟨hf, o', y', frzs c o' _ hn⟩
  · obtain ⟨e, n, ne, nf, d⟩ := I.pin p hp
    have nch : p.1 ∉ ch := fun z => (hch p.1 z).2.2.2 p hp rfl
    exact ⟨keep p.1 p.2 ne nf nch e n, free p.1 p.2 nch e n, ne, nf, d⟩
theorem Inv.un {t' : Nat} (I : Inv X pins σ H s) (u : Un X.fs [] H H' s.heap h') (hok : HOk X.prog X.w H' h') : Inv X pins σ H' { s with heap := h', toks := t' } := by
  obtain ⟨m, ⟨o, es, ep, ho, r⟩, _⟩ := id I.loc
  obtain ⟨sl, hL⟩ := u.any ho I.free (by simp)
  exact I.step (g' := s.gens) (d' := s.drawn) (ch := []) (fun _ z => nomatch z) (fun b o _ hb _ e n => u.keep b o e n hb (by simp)) (fun b o _ hb _ e n => u.slot b o e n hb (by simp)) (fun b o _ e n => u.free b o e n (by simp)) (fun b o _ e => u.there b o e (by simp)) u.tups u.frzs u.tbls (fun m' hm => by
    obtain ⟨o', es', ep', ho', r'⟩ := hm
    rw [ho] at ho'; cases ho'
    exact ⟨_, es', ep', hL, r'⟩) hok I.bare
theorem Inv.call {g' : Array GenState} {t' : Nat} {d' : Drawn} {ch : List Addr} (I : Inv X pins σ H s) (u : Un (frs X.stack) ch H H' s.heap h') (hok : HOk X.prog X.w H' h') (hg : AllBare g')
    (hch : ∀ b ∈ ch, (b ∈ X.ex ∨ X.s_0.heap.objs.size ≤ b) ∧ b ≠ X.env.locals ∧ (∀ x c, X.env.cells.lookup x = some c → c ≠ b) ∧ ∀ p ∈ X.pn ++ pins, p.1 ≠ b) :
    Inv X pins σ H' { s with heap := h', gens := g', drawn := d', toks := t' } := by
  obtain ⟨m, ⟨o, es, ep, ho, r⟩, _⟩ := id I.loc
  obtain ⟨sl, hL⟩ := u.any ho I.free fun z => (hch _ z).2.1 rfl
  exact I.step (ch := ch) hch (fun b o hL hb hc e n => u.keep b o e n (fun z => (List.mem_cons.mp (I.stkSub b z)).elim hL hb) hc) (fun b o _ _ hc e n => u.any e n hc) (fun b o hc e n => u.free b o e n hc) (fun b o hc e => u.there b o e hc) u.tups u.frzs u.tbls (fun m' hm => by
    obtain ⟨o', es', ep', ho', r'⟩ := hm
    rw [ho] at ho'; cases ho'
    exact ⟨_, es', ep', hL, r'⟩) hok hg
theorem Inv.turned {t' : Nat} {it : Addr} (I : Inv X pins σ H s) (k : ∀ b o, b ≠ it → s.heap.get? b = some o → h'.get? b = some o) (hn : H it = none) (hL : it ≠ X.env.locals)
    (h1 : it ∈ X.ex ∨ X.s_0.heap.objs.size ≤ it) (h2 : ∀ x c, X.env.cells.lookup x = some c → c ≠ it) (h3 : ∀ p ∈ X.pn ++ pins, p.1 ≠ it) : Inv X pins σ H { s with heap := h', toks := t' } := by
  have nit : ∀ b u, H b = some u → b ≠ it := fun b u e z => by rw [z, hn] at e; cases e
  refine I.step (g' := s.gens) (d' := s.drawn) (ch := [it]) (fun b hb => ?_) (fun b o _ _ hc e _ => k b o (fun z => hc (by simp [z])) e) (fun b o _ _ hc e _ => ⟨o.slots, k b o (fun z => hc (by simp [z])) e⟩) (fun _ _ _ _ n => n)
    (fun b o hc e => ⟨o, k b o (fun z => hc (by simp [z])) e⟩) (fun _ _ e => e) (fun _ _ _ e => e) (fun b ps e => ⟨#[], by rw [e]; simp⟩) (fun m hm => ?_) (fun b u e => ?_) I.bare
  · have e : b = it := by simpa using hb
    subst e
    exact ⟨h1, hL, h2, h3⟩
  · obtain ⟨o, es, ep, ho, r⟩ := hm
    exact ⟨o, es, ep, k _ o (Ne.symm hL) ho, r⟩
  · refine (I.hok b u e).stay (fun c v hc q => k c v ?_ q) (fun _ q => q) fun _ _ q => q
    rcases hc with z | z
    · rw [z]; exact nit b u e
    · exact nit c _ z
theorem Inv.tok (I : Inv X pins σ H s) (t : Nat) : Inv X pins σ H { s with toks := t } := I.un (h' := s.heap) (t' := t) Un.refl I.hok
theorem Inv.kept {t' : Nat} (I : Inv X pins σ H s) (k : ∀ b u, s.heap.get? b = some u → h'.get? b = some u) : Inv X pins σ H { s with heap := h', toks := t' } := I.un (Un.kept k) (I.hok.kept k)
theorem Inv.laid {a : Addr} {o : HO} {t' : Nat} (I : Inv X pins σ H s) (k : ∀ b u, s.heap.get? b = some u → h'.get? b = some u) (hp : s.heap.objs.size ≤ a) (new : ObjOk X.prog X.w (upd H a o) h' a o) :
    Inv X pins σ (upd H a o) { s with heap := h', toks := t' } := I.un (Un.laid k hp (I.hok.fresh hp)) (I.hok.laid k hp new)
theorem Inv.write {x e : Addr} {o : HO} {t' : Nat} (I : Inv X pins σ H s) (mu : Mut (H x)) (he : e = x ∨ H e = some (.own x)) (k : ∀ b u, b ≠ e → s.heap.get? b = some u → h'.get? b = some u) (heo : ∃ u, h'.get? e = some u)
    (new : ObjOk X.prog X.w (upd H x o) h' x o) : Inv X pins σ (upd H x o) { s with heap := h', toks := t' } := I.un (Un.write mu he k heo) (I.hok.write mu he k heo new)
theorem Inv.weak {σ' : List (Option V)} (I : Inv X pins σ H s) (hl : σ'.length = σ.length) (w : ∀ (i : Nat) v, σ'[i]? = some (some v) → σ[i]? = some (some v)) : Inv X pins σ' H s :=
  ⟨I.ok, I.os, I.bare, I.base, let ⟨m, hn, hl'⟩ := I.loc; ⟨m, hn, fun i x v e1 e2 e3 => hl' i x v e1 (w i v e2) e3⟩, I.cell, I.free, I.freeC, I.pin, I.hok, hl.trans I.len⟩
theorem Inv.pins_of {pins' : List (Addr × Obj)} (I : Inv X pins σ H s) (h : ∀ p ∈ pins', s.heap.get? p.1 = some p.2 ∧ H p.1 = none ∧ p.1 ≠ X.env.locals ∧ p.1 ∉ X.fs ∧ ∀ v, p.2.data ≠ .cell v) : Inv X pins' σ H s :=
  ⟨I.ok, I.os, I.bare, I.base, I.loc, I.cell, I.free, I.freeC, fun p hp => (List.mem_append.mp hp).elim (fun z => I.pin p (List.mem_append_left _ z)) (h p), I.hok, I.len⟩
theorem nodup_ix {N : List Str} (hN : N.Nodup) {i j : Nat} {x : Str} (a : N[i]? = some x) (b : N[j]? = some x) : i = j := by
  obtain ⟨h1, e1⟩ := List.getElem?_eq_some_iff.mp a
  obtain ⟨h2, e2⟩ := List.getElem?_eq_some_iff.mp b
  exact (List.getElem_inj hN).mp (e1.trans e2.symm)
theorem store_ok2 {M : Model} {A : Around} {E : Value → Shared → Prop} {i : Nat} {x : Str} {v : V} {u : Value} {Q : Unit → Shared → Prop} (I : Inv X pins σ H s) (hN : X.N.Nodup) (hi : X.N[i]? = some x) (hx : Loc X.env.scope x) (r : RelV v u)
    (h : ∀ s', Inv X pins (σ.set i (some v)) H s' → (∃ a, Heap.SameBut a s.heap s'.heap ∧ (a = X.env.locals ∨ X.env.cells.lookup x = some a)) → Q () s') (hf : X.fn x = true ∨ X.env.scope.names.lookup x = some .local := by first | exact .inl rfl | exact .inr rfl | assumption) : wpAny M A (storeName X.env x u) Q E s := by
  obtain ⟨m, hn, hl⟩ := id I.loc
  have hcls : (X.env.scope.kind == .class || (X.env.scope.kind == .module && X.env.locals != X.env.globals)) = false := by rw [I.ok.kind]; rfl
  have hiσ : i < σ.length := by rw [I.len]; exact (List.getElem?_eq_some_iff.mp hi).1
  have cne := I.cne
  have tracked : ∀ {a : Addr} {h' : Heap}, (∃ o, s.heap.get? a = some o ∧ H a = none) → Heap.SameBut a s.heap h' → HOk X.prog X.w H h' := fun {a h'} ha hs b ob e => by
    obtain ⟨_, _, hfree⟩ := ha
    refine (I.hok b ob e).stay (fun c w' hc q => (hs.2 c ?_).trans q) (fun _ q => q) fun _ _ q => q
    rintro rfl
    rcases hc with rfl | hc
    · rw [hfree] at e; cases e
    · rw [hfree] at hc; cases hc
  rcases hx with hk | hk
  · refine wpAny_storeName_local hk hn (fun h' hn' hs => ?_) hcls
    obtain ⟨oL, _, _, hoL, _⟩ := id hn
    refine h _ ⟨I.ok, I.os, I.bare, ⟨fun b o e n hb hx => ?_, fun b o e n hb hx => ?_, I.base.free, fun b o e hx => ?_, I.base.tups, I.base.frzs, I.base.tbls⟩, ⟨_, hn', fun j y v' e1 e2 e3 => ?_⟩, fun y c e => ?_, I.free, I.freeC, fun p hp => ?_, tracked ⟨oL, hoL, I.free⟩ hs, by simpa using I.len⟩ ⟨_, hs, .inl rfl⟩
    · exact (hs.2 b (Nat.ne_of_lt (Nat.lt_of_lt_of_le (Heap.lt_size e) I.ok.above))).trans (I.base.keep b o e n hb hx)
    · obtain ⟨sl, e1⟩ := I.base.slot b o e n hb hx
      exact ⟨sl, (hs.2 b (Nat.ne_of_lt (Nat.lt_of_lt_of_le (Heap.lt_size e) I.ok.above))).trans e1⟩
    · obtain ⟨o', e1⟩ := I.base.there b o e hx
      exact ⟨o', (hs.2 b (Nat.ne_of_lt (Nat.lt_of_lt_of_le (Heap.lt_size e) I.ok.above))).trans e1⟩
    · by_cases hj : j = i
      · subst hj
        rw [hi] at e1; cases e1
        rw [List.getElem?_set_self hiσ] at e2
        cases e2
        exact ⟨u, r, .inl ⟨hk, by simp⟩⟩
      · rw [List.getElem?_set_ne (Ne.symm hj)] at e2
        obtain ⟨u', r', q⟩ := hl j y v' e1 e2 e3
        refine ⟨u', r', ?_⟩
        rcases q with ⟨k, e⟩ | ⟨k, c, e, z⟩
        · refine .inl ⟨k, ?_⟩
          have : y ≠ x := fun e => hj (nodup_ix hN e1 (e ▸ hi))
          simp [this, e]
        · exact .inr ⟨k, c, e, z.sameBut hs (cne y c e)⟩
    · obtain ⟨w', z⟩ := I.cell y c e
      exact ⟨w', z.sameBut hs (cne y c e)⟩
    · obtain ⟨e, n, ne, nf, d⟩ := I.pin p hp
      exact ⟨(hs.2 p.1 ne).trans e, n, ne, nf, d⟩
  · have hfn : X.fn x = true := by
      rcases hf with z | z
      · exact z
      · rw [z] at hk; cases hk
    obtain ⟨c, hc⟩ := I.ok.has x (.inl hk)
    obtain ⟨w', z⟩ := I.cell x c hc
    refine wpAny_storeName_cell I.ok.kind hk hc z (fun h' hc' hs => ?_)
    obtain ⟨oc, hoc, hocd⟩ := id z
    refine h { s with heap := h' } ⟨I.ok, I.os, I.bare, ⟨fun b o e n hb hx => ?_, fun b o e n hb hx => ?_, I.base.free, fun b o e hx => ?_, I.base.tups, I.base.frzs, I.base.tbls⟩, ⟨m, hn.sameBut hs (Ne.symm (cne x c hc)), fun j y v' e1 e2 e3 => ?_⟩, fun y c' e => ?_, I.free, I.freeC, fun p hp => ?_, tracked ⟨oc, hoc, (I.freeC x c hc).resolve_right (fun z => by rw [hfn] at z; exact absurd z.1 (by decide))⟩ hs, by simpa using I.len⟩ ⟨c, hs, .inr hc⟩
    · exact (hs.2 b (Nat.ne_of_lt (Nat.lt_of_lt_of_le (Heap.lt_size e) (I.ok.cab x c hfn hc)))).trans (I.base.keep b o e n hb hx)
    · obtain ⟨sl, e1⟩ := I.base.slot b o e n hb hx
      exact ⟨sl, (hs.2 b (Nat.ne_of_lt (Nat.lt_of_lt_of_le (Heap.lt_size e) (I.ok.cab x c hfn hc)))).trans e1⟩
    · obtain ⟨o', e1⟩ := I.base.there b o e hx
      exact ⟨o', (hs.2 b (Nat.ne_of_lt (Nat.lt_of_lt_of_le (Heap.lt_size e) (I.ok.cab x c hfn hc)))).trans e1⟩
    · by_cases hj : j = i
      · subst hj
        rw [hi] at e1; cases e1
        rw [List.getElem?_set_self hiσ] at e2
        cases e2
        exact ⟨u, r, .inr ⟨.inl hk, c, hc, hc'⟩⟩
      · rw [List.getElem?_set_ne (Ne.symm hj)] at e2
        obtain ⟨u', r', q⟩ := hl j y v' e1 e2 e3
        refine ⟨u', r', ?_⟩
        rcases q with q | ⟨k, c', e, z'⟩
        · exact .inl q
        · refine .inr ⟨k, c', e, z'.sameBut hs ?_⟩
          rintro rfl
          exact hj (nodup_ix hN e1 (I.ok.inj _ _ _ e hc ▸ hi))
    · by_cases hcc : c' = c
      · subst hcc; exact ⟨_, hc'⟩
      · obtain ⟨w2, z2⟩ := I.cell y c' e
        exact ⟨w2, z2.sameBut hs hcc⟩
    · obtain ⟨e, n, ne, nf, d⟩ := I.pin p hp
      refine ⟨(hs.2 p.1 ?_).trans e, n, ne, nf, d⟩
      intro q
      rw [q, hoc] at e
      have q' : oc = p.2 := Option.some.inj e
      exact d w' (by rw [← q']; exact hocd)
theorem store_ok {M : Model} {A : Around} {E : Value → Shared → Prop} {i : Nat} {x : Str} {v : V} {u : Value} {Q : Unit → Shared → Prop} (I : Inv X pins σ H s) (hN : X.N.Nodup) (hi : X.N[i]? = some x) (hx : Loc X.env.scope x) (r : RelV v u)
    (h : ∀ s', Inv X pins (σ.set i (some v)) H s' → Q () s') (hf : X.fn x = true ∨ X.env.scope.names.lookup x = some .local := by first | exact .inl rfl | exact .inr rfl | assumption) : wpAny M A (storeName X.env x u) Q E s :=
  store_ok2 I hN hi hx r (fun s' I' _ => h s' I') hf
theorem Inv.call' {s' : Shared} {ch : List Addr} (I : Inv X pins σ H s) (ho : s'.os = s.os) (u : Un (frs X.stack) ch H H' s.heap s'.heap) (hok : HOk X.prog X.w H' s'.heap) (hg : AllBare s'.gens)
    (hch : ∀ b ∈ ch, (b ∈ X.ex ∨ X.s_0.heap.objs.size ≤ b) ∧ b ≠ X.env.locals ∧ (∀ x c, X.env.cells.lookup x = some c → c ≠ b) ∧ ∀ p ∈ X.pn ++ pins, p.1 ≠ b) : Inv X pins σ H' s' := by
  obtain ⟨h', g', d', t', o'⟩ := s'
  have e : o' = s.os := ho
  subst e
  exact I.call (g' := g') (t' := t') (d' := d') u hok hg hch
end
abbrev XK := Value → Option Addr → Hp → Prop
abbrev St := List (Option V)
abbrev VK := V → Hp → Prop
abbrev TE := St → Hp → VK → Prop
abbrev TT := St → Hp → (Bool → Hp → Prop) → Prop
abbrev TA := St → Hp → (List V → Hp → Prop) → Prop
structure Ends where
  nx : St → Hp → Prop
  rt : VK
  bk : St → Hp → Prop := fun _ _ => False
  ct : St → Hp → Prop := fun _ _ => False
abbrev TS := Ends → St → Hp → Prop
def EP (X : Cx) (pins : List (Addr × Obj)) (σ : St) (Q : VK) (u : Value) (s' : Shared) : Prop := ∃ v H', Inv X pins σ H' s' ∧ RelV v u ∧ Q v H'
def TP (X : Cx) (pins : List (Addr × Obj)) (σ : St) (Q : Bool → Hp → Prop) (b : Bool) (s' : Shared) : Prop := ∃ H', Inv X pins σ H' s' ∧ Q b H'
def AP (X : Cx) (pins : List (Addr × Obj)) (σ : St) (Q : List V → Hp → Prop) (us : List Value) (s' : Shared) : Prop := ∃ vs H', Inv X pins σ H' s' ∧ Vals vs us ∧ Q vs H'
def SP (X : Cx) (pins : List (Addr × Obj)) (D : Ends) (f : Flow) (s' : Shared) : Prop :=
  match f with
  | .next => ∃ σ' H', Inv X pins σ' H' s' ∧ D.nx σ' H'
  | .brk => ∃ σ' H', Inv X pins σ' H' s' ∧ D.bk σ' H'
  | .cont => ∃ σ' H', Inv X pins σ' H' s' ∧ D.ct σ' H'
  | .ret u => ∃ v σ' H', Inv X pins σ' H' s' ∧ RelV v u ∧ D.rt v H'
def PE (X : Cx) (e : Expr) (t : TE) : Prop :=
  ∀ (pins : List (Addr × Obj)) (s : Shared) (σ : St) (H : Hp) (Q : VK), Inv X pins σ H s → t σ H Q → wpAny (model X.prog X.w) X.A (eval e X.env) (EP X pins σ Q) X.xe s
def PT (X : Cx) (e : Expr) (t : TT) : Prop :=
  ∀ (pins : List (Addr × Obj)) (s : Shared) (σ : St) (H : Hp) (Q : Bool → Hp → Prop), Inv X pins σ H s → t σ H Q → wpAny (model X.prog X.w) X.A (isTrue e X.env (eval e X.env)) (TP X pins σ Q) X.xe s
def PW (X : Cx) (e : Expr) (t : TT) : Prop :=
  ∀ (whole : Sem Value) (pins : List (Addr × Obj)) (s : Shared) (σ : St) (H : Hp) (Q : Bool → Hp → Prop), Inv X pins σ H s → t σ H Q → wpAny (model X.prog X.w) X.A (isTrue e X.env whole) (TP X pins σ Q) X.xe s
theorem PW.pt {X : Cx} {e : Expr} {t : TT} (h : PW X e t) : PT X e t := h _
def PA (X : Cx) (es : List Expr) (t : TA) : Prop :=
  ∀ (pos : Pos) (pins : List (Addr × Obj)) (s : Shared) (σ : St) (H : Hp) (Q : List V → Hp → Prop), Inv X pins σ H s → t σ H Q → wpAny (model X.prog X.w) X.A (spliced (backTo pos (starEach es X.env))) (AP X pins σ Q) X.xe s
def PS (X : Cx) (st : Stmt) (t : TS) : Prop :=
  ∀ (pins : List (Addr × Obj)) (s : Shared) (σ : St) (H : Hp) (D : Ends), Inv X pins σ H s → t D σ H → wpAny (model X.prog X.w) X.A (exec st X.env) (SP X pins D) X.xe s
def PSs (X : Cx) (st : List Stmt) (t : TS) : Prop :=
  ∀ (pins : List (Addr × Obj)) (s : Shared) (σ : St) (H : Hp) (D : Ends), Inv X pins σ H s → t D σ H → wpAny (model X.prog X.w) X.A (execs st X.env) (SP X pins D) X.xe s
theorem thn {α : Type} {t : Sem α} {Q Q' : α → Shared → Prop} {M : Model} {A : Around} {E : Value → Shared → Prop} {s : Shared} (h : wpAny M A t Q E s) (hQ : ∀ a s, Q a s → Q' a s) : wpAny M A t Q' E s := wpAny_mono h hQ fun _ _ x => x
end L2
namespace L2
open PySem PySem.Spec PyProof.Rows
section
variable {X : Cx}
theorem bin {a b : Expr} {ta tb : TE} (ha : PE X a ta) (hb : PE X b tb) {pins : List (Addr × Obj)} {s : Shared} {σ : St} {H : Hp} {R : V → V → Hp → Prop} (I : Inv X pins σ H s) (h : ta σ H fun x H1 => tb σ H1 fun y H2 => R x y H2)
    {α : Type} {Q : α → Shared → Prop} {f : Value → Value → Sem α}
    (hf : ∀ v u s2 x y H2, Inv X pins σ H2 s2 → RelV x v → RelV y u → R x y H2 → wpAny (model X.prog X.w) X.A (f v u) Q X.xe s2) :
    wpAny (model X.prog X.w) X.A (eval a X.env) (fun v s₁ => wpAny (model X.prog X.w) X.A (eval b X.env) (fun u s₂ => wpAny (model X.prog X.w) X.A (f v u) Q X.xe s₂) X.xe s₁) X.xe s := by
  refine thn (ha pins s σ H _ I h) fun v s1 ⟨x, H1, I1, r1, q1⟩ => ?_
  refine thn (hb pins s1 σ H1 _ I1 q1) fun u s2 ⟨y, H2, I2, r2, q2⟩ => ?_
  exact hf v u s2 x y H2 I2 r1 r2 q2
def tVar (i : Nat) : TE := fun σ H Q => ∃ v, σ[i]? = some (some v) ∧ Q v H
def tC (v : V) : TE := fun _ H Q => Q v H
theorem pe_var {i : Nat} {x : Str} {pos : Pos} (hN : X.N[i]? = some x) (hv : Vis X.env.scope x) (hd : (x == ("__debug__" : Str)) = false := by decide) (hcd : (x == ("__classdict__" : Str)) = false := by decide) : PE X (.Name x pos) (tVar i) := by
  intro pins s σ H Q I h
  obtain ⟨v, e, h⟩ := h
  obtain ⟨m, hn, hl⟩ := I.loc
  obtain ⟨u, r, l⟩ := hl i x v hN e hv
  have fin : EP X pins σ Q u s := ⟨v, H, I, r, h⟩
  rcases l with ⟨hk, hm⟩ | ⟨hk, c, hc, hcell⟩
  · exact wpAny_Name (wpAny_loadName_local I.ok.kind hk hn hm fin) hd
  · rcases hk with hk | hk
    · exact wpAny_Name (wpAny_loadName_cell I.ok.kind hk hc hcell fin) hd
    · exact wpAny_Name (wpAny_loadName_free I.ok.kind hk hc hcell fin hcd) hd
theorem pe_int {i j pos} : PE X (.Constant (.int i) j pos) (tC (.int i)) := fun _ _ _ H _ I h => wpAny_Constant_int ⟨.int i, H, I.tok _, ⟨_, rfl⟩, h⟩
theorem pe_bl {b j pos} : PE X (.Constant (.bool b) j pos) (tC (.bl b)) := fun _ _ _ H _ I h => Constant_bool ⟨.bl b, H, I, rfl, h⟩
theorem pe_str {x j pos} : PE X (.Constant (.str x) j pos) (tC (.str x)) := fun _ _ _ H _ I h => Calls.Constant_str ⟨.str x, H, I.tok _, ⟨_, rfl⟩, h⟩
def Gl (X : Cx) (x : Str) : Prop := X.env.kindOf x = some .globalImplicit
theorem ld_glob {E : Value → Shared → Prop} {pins : List (Addr × Obj)} {s : Shared} {σ : St} {H : Hp} {x : Str} {u : Value} {pos : Pos} {Q : Value → Shared → Prop} (I : Inv X pins σ H s) (hg : Gl X x) (hm : X.mg x = some u) (h : Q u s)
    (hd : (x == ("__debug__" : Str)) = false := by decide) : wpAny (model X.prog X.w) X.A (eval (.Name x pos) X.env) Q E s :=
  Calls.Name_function_global I.ok.kind hg (Calls.loadGlobal_global (by rw [I.ok.glob]; exact I.mod.glob.keeps I.bk) hm h) hd
theorem ld_blt {E : Value → Shared → Prop} {pins : List (Addr × Obj)} {s : Shared} {σ : St} {H : Hp} {x : Str} {u : Value} {pos : Pos} {Q : Value → Shared → Prop} (I : Inv X pins σ H s) (hg : Gl X x) (hm : X.mg x = none) (hv : bootBuiltins x = some u) (h : Q u s)
    (hn : x ≠ "__name__" := by decide) (hd : (x == ("__debug__" : Str)) = false := by decide) : wpAny (model X.prog X.w) X.A (eval (.Name x pos) X.env) Q E s := by
  obtain ⟨mb, h1, h2⟩ := I.mod.blt
  exact Calls.Name_function_global I.ok.kind hg (Calls.loadGlobal_builtin (by rw [I.ok.glob]; exact I.mod.glob.keeps I.bk) hm (by rw [I.ok.blt]; exact h1.keeps I.bk) ((h2 x hn).trans hv) h) hd
theorem pe_glob {x : Str} {v : V} {u : Value} {pos : Pos} (hg : Gl X x) (hm : X.mg x = some u) (r : RelV v u) (hd : (x == ("__debug__" : Str)) = false := by decide) : PE X (.Name x pos) (tC v) :=
  fun _ _ _ H _ I h => ld_glob I hg hm ⟨v, H, I, r, h⟩ hd
theorem pe_bltn {x : Str} {v : V} {u : Value} {pos : Pos} (hg : Gl X x) (hm : X.mg x = none) (hv : bootBuiltins x = some u) (r : RelV v u) (hn : x ≠ "__name__" := by decide) (hd : (x == ("__debug__" : Str)) = false := by decide) : PE X (.Name x pos) (tC v) :=
  fun _ _ _ H _ I h => ld_blt I hg hm hv ⟨v, H, I, r, h⟩ hn hd
variable {a b : Expr} {ta tb : TE} {pos : Pos}
variable {tA tB' : TT} {rest : List Expr}
def tAnd (t u : TT) : TT := fun σ H Q => t σ H fun c H1 => if c = true then u σ H1 Q else Q false H1
def tOr (t u : TT) : TT := fun σ H Q => t σ H fun c H1 => if c = true then Q true H1 else u σ H1 Q
def tNot (t : TT) : TT := fun σ H Q => t σ H fun c H1 => Q (!c) H1
theorem pw_and1 (ha : PT X a tA) : PW X (.BoolOp .And [a] pos) tA := by
  intro wh pins s σ H Q I h
  refine isTrue_and (thn (ha pins s σ H Q I h) fun c s1 e => ?_)
  cases c with
  | true => exact isTrue_and_nil e
  | false => exact e
theorem pw_or1 (ha : PT X a tA) : PW X (.BoolOp .Or [a] pos) tA := by
  intro wh pins s σ H Q I h
  refine isTrue_or (thn (ha pins s σ H Q I h) fun c s1 e => ?_)
  cases c with
  | false => exact isTrue_or_nil e
  | true => exact e
theorem pw_and (ha : PT X a tA) (hb : PW X (.BoolOp .And (b :: rest) pos) tB') : PW X (.BoolOp .And (a :: b :: rest) pos) (tAnd tA tB') := by
  intro wh pins s σ H Q I h
  refine isTrue_and (thn (ha pins s σ H _ I h) fun c s1 ⟨H1, I1, q1⟩ => ?_)
  cases c with
  | true => exact hb wh pins s1 σ H1 Q I1 q1
  | false => exact ⟨H1, I1, q1⟩
theorem pw_or (ha : PT X a tA) (hb : PW X (.BoolOp .Or (b :: rest) pos) tB') : PW X (.BoolOp .Or (a :: b :: rest) pos) (tOr tA tB') := by
  intro wh pins s σ H Q I h
  refine isTrue_or (thn (ha pins s σ H _ I h) fun c s1 ⟨H1, I1, q1⟩ => ?_)
  cases c with
  | true => exact ⟨H1, I1, q1⟩
  | false => exact hb wh pins s1 σ H1 Q I1 q1
theorem pt_not (ha : PT X a tA) : PT X (.UnaryOp .Not a pos) (tNot tA) := by
  intro pins s σ H Q I h
  exact isTrue_not (ha pins s σ H (fun c H1 => Q (!c) H1) I h)
def tAndV (ta tb : TE) : TE := fun σ H Q => ta σ H fun x H1 => ∃ c, x = .bl c ∧ if c = true then tb σ H1 Q else Q (.bl false) H1
def tOrV (ta tb : TE) : TE := fun σ H Q => ta σ H fun x H1 => ∃ c, x = .bl c ∧ if c = true then Q (.bl true) H1 else tb σ H1 Q
def tNotV (ta : TE) : TE := fun σ H Q => ta σ H fun x H1 => ∃ c, x = .bl c ∧ Q (.bl (!c)) H1
theorem pe_one {op} {t : TE} (h : PE X a t) : PE X (.BoolOp op [a] pos) t := fun pins s σ H Q I hw => BoolOp_one (h pins s σ H Q I hw)
theorem pe_and (ha : PE X a ta) (hb : PE X (.BoolOp .And (b :: rest) pos) tb) : PE X (.BoolOp .And (a :: b :: rest) pos) (tAndV ta tb) := by
  intro pins s σ H Q I h
  refine BoolOp_and (thn (ha pins s σ H _ I h) fun v s1 ⟨x, H1, I1, r1, q1⟩ => ?_)
  obtain ⟨c, rfl, q1⟩ := q1
  cases r1
  refine wpAny_truthy_bool ?_
  cases c with
  | true => exact hb pins s1 σ H1 Q I1 q1
  | false => exact ⟨.bl false, H1, I1, rfl, q1⟩
theorem pe_or (ha : PE X a ta) (hb : PE X (.BoolOp .Or (b :: rest) pos) tb) : PE X (.BoolOp .Or (a :: b :: rest) pos) (tOrV ta tb) := by
  intro pins s σ H Q I h
  refine BoolOp_or (thn (ha pins s σ H _ I h) fun v s1 ⟨x, H1, I1, r1, q1⟩ => ?_)
  obtain ⟨c, rfl, q1⟩ := q1
  cases r1
  refine wpAny_truthy_bool ?_
  cases c with
  | false => exact hb pins s1 σ H1 Q I1 q1
  | true => exact ⟨.bl true, H1, I1, rfl, q1⟩
theorem pe_not (ha : PE X a ta) : PE X (.UnaryOp .Not a pos) (tNotV ta) := by
  intro pins s σ H Q I h
  refine UnaryOp_ (thn (ha pins s σ H _ I h) fun v s1 ⟨x, H1, I1, r1, q1⟩ => ?_)
  obtain ⟨c, rfl, q1⟩ := q1
  cases r1
  exact not_of (wpAny_truthy_bool ⟨.bl (!c), H1, I1, rfl, q1⟩)
end
end L2
namespace L2
open PySem PySem.Spec PyProof.Rows
def SqL (K : PySem.W.Frag) (H : Hp) (a : Addr) (xs : List V) : Prop :=
  Rd H a (.lst xs) ∨
    ∃ (o : Obj) (its : Array Value) (n : Nat), K.lookup a = some o ∧ o.cls = .type "list" ∧ o.dict = none ∧ o.data = .seq its n ∧ its.size ≤ sizeLine ∧ Vals xs its.toList
def SqT (K : PySem.W.Frag) (H : Hp) (a : Addr) (xs : List V) : Prop :=
  Rd H a (.tup xs) ∨
    ∃ (o : Obj) (its : Array Value) (n : Nat), K.lookup a = some o ∧ o.cls = .type "tuple" ∧ o.data = .seq its n ∧ its.size ≤ sizeLine ∧ Vals xs its.toList
def absV : Value → Option V
  | .none => some .non
  | .bool b => some (.bl b)
  | .int i _ => some (.int i)
  | .str x _ => some (.str x)
  | .bytes b _ => some (.byt b)
  | .float b _ => some (.flt b)
  | .ref a => some (.ref a)
  | .type n => some (.ty n)
  | _ => none
theorem RelV.abs {x : V} {u : Value} (r : RelV x u) : absV u = some x := by
  cases x with
  | non => cases r; rfl
  | bl _ => cases r; rfl
  | int _ => obtain ⟨t, rfl⟩ := r; rfl
  | str _ => obtain ⟨t, rfl⟩ := r; rfl
  | byt _ => obtain ⟨t, rfl⟩ := r; rfl
  | flt _ => obtain ⟨t, rfl⟩ := r; rfl
  | ref _ => cases r; rfl
  | ty _ => cases r; rfl
theorem RelV.inj {x y : V} {u : Value} (r : RelV x u) (q : RelV y u) : x = y := Option.some.inj (r.abs.symm.trans q.abs)
theorem Vals.inj : ∀ {xs ys : List V} {us : List Value}, Vals xs us → Vals ys us → xs = ys
  | _, _, _, .nil, .nil => rfl
  | _, _, _, .cons r t, .cons r' t' => by rw [r.inj r', Vals.inj t t']
section
variable {X : Cx} {pins : List (Addr × Obj)} {σ : St} {H : Hp} {s : Shared} {a : Addr} {xs ys : List V}
theorem SqL.of {K : PySem.W.Frag} (h : H a = some (.lst xs)) : SqL K H a xs := .inl (.inl h)
theorem SqT.of {K : PySem.W.Frag} (h : H a = some (.tup xs)) : SqT K H a xs := .inl (.inl h)
theorem Inv.list (I : Inv X pins σ H s) (h : SqL X.K H a xs) : ∃ its : List Value, Vals xs its ∧ PlainL s.heap a its.toArray ∧ xs.length ≤ sizeLine := by
  rcases h with h | ⟨o, its, n, hk, hc, hd, hs, hz, r⟩
  · obtain ⟨z, its, n, r, e⟩ := h.ok I.hok
    exact ⟨its, r, ⟨_, n, e, rfl, rfl, rfl⟩, z⟩
  · refine ⟨its.toList, r, ⟨o, n, I.kIn a o hk, hc, hd, by simpa using hs⟩, ?_⟩
    have e := r.length
    simp only [Array.length_toList] at e
    omega
theorem Inv.tuple (I : Inv X pins σ H s) (h : SqT X.K H a xs) : ∃ its : List Value, Vals xs its ∧ IsTup s.heap a its.toArray ∧ xs.length ≤ sizeLine := by
  rcases h with h | ⟨o, its, n, hk, hc, hs, hz, r⟩
  · obtain ⟨z, its, r, p⟩ := h.ok I.hok
    exact ⟨its, r, p, z⟩
  · refine ⟨its.toList, r, ⟨o, I.kIn a o hk, hc, n, by simpa using hs⟩, ?_⟩
    have e := r.length
    simp only [Array.length_toList] at e
    omega
theorem Inv.list_inj (I : Inv X pins σ H s) (h : SqL X.K H a xs) (h' : SqL X.K H a ys) : xs = ys := by
  obtain ⟨its, r, ⟨o, n, e, _, _, d⟩, _⟩ := I.list h
  obtain ⟨its', r', ⟨o', n', e', _, _, d'⟩, _⟩ := I.list h'
  rw [e] at e'; cases e'
  rw [d] at d'
  injection d' with d1 _
  have : its = its' := by simpa using congrArg Array.toList d1
  subst this
  exact r.inj r'
end
abbrev Cx.wish (X : Cx) (E : Value → Shared → Prop) : Cx := { X with xe := E }
abbrev Cx.nox (X : Cx) : Cx := X.wish fun _ _ => False
theorem Cx.Ok.wish {X : Cx} (ok : X.Ok) (E : Value → Shared → Prop) : (X.wish E).Ok :=
  ⟨ok.mod, ok.kind, ok.glob, ok.blt, ok.above, ok.inj, ok.has, ok.cab, ok.hd, ok.frames, ok.stk, ok.exf, ok.bs, ok.bsz, ok.noex, ok.exfs, ok.funs, ok.frf⟩
theorem Cx.Ok.unwish {X : Cx} {E : Value → Shared → Prop} (ok : (X.wish E).Ok) : X.Ok :=
  ⟨ok.mod, ok.kind, ok.glob, ok.blt, ok.above, ok.inj, ok.has, ok.cab, ok.hd, ok.frames, ok.stk, ok.exf, ok.bs, ok.bsz, ok.noex, ok.exfs, ok.funs, ok.frf⟩
section
variable {X : Cx} {pins : List (Addr × Obj)} {σ : St} {H : Hp} {s : Shared} {E : Value → Shared → Prop}
theorem Inv.wish (I : Inv X pins σ H s) (E : Value → Shared → Prop) : Inv (X.wish E) pins σ H s := ⟨I.ok.wish E, I.os, I.bare, I.base, I.loc, I.cell, I.free, I.freeC, I.pin, I.hok, I.len⟩
theorem Inv.unwish (I : Inv (X.wish E) pins σ H s) : Inv X pins σ H s := ⟨I.ok.unwish, I.os, I.bare, I.base, I.loc, I.cell, I.free, I.freeC, I.pin, I.hok, I.len⟩
theorem SP.unwish {D : Ends} {f : Flow} {s' : Shared} (h : SP (X.wish E) pins D f s') : SP X pins D f s' := by
  cases f with
  | next => obtain ⟨σ', H', I, q⟩ := h; exact ⟨σ', H', I.unwish, q⟩
  | brk => obtain ⟨σ', H', I, q⟩ := h; exact ⟨σ', H', I.unwish, q⟩
  | cont => obtain ⟨σ', H', I, q⟩ := h; exact ⟨σ', H', I.unwish, q⟩
  | ret u => obtain ⟨v, σ', H', I, r, q⟩ := h; exact ⟨v, σ', H', I.unwish, r, q⟩
theorem PE.nox {e : Expr} {t : TE} (h : PE X.nox e t) : PE X e t := fun pins s σ H Q I hw =>
  wpAny_mono (h pins s σ H Q (I.wish _) hw) (fun _ _ ⟨v, H', I', r, q⟩ => ⟨v, H', I'.unwish, r, q⟩) fun _ _ z => False.elim z
theorem PT.nox {e : Expr} {t : TT} (h : PT X.nox e t) : PT X e t := fun pins s σ H Q I hw =>
  wpAny_mono (h pins s σ H Q (I.wish _) hw) (fun _ _ ⟨H', I', q⟩ => ⟨H', I'.unwish, q⟩) fun _ _ z => False.elim z
theorem PSs.nox {st : List Stmt} {t : TS} (h : PSs X.nox st t) : PSs X st t := fun pins s σ H D I hw =>
  wpAny_mono (h pins s σ H D (I.wish _) hw) (fun _ _ q => q.unwish) fun _ _ z => False.elim z
end
section
variable {X : Cx} {st : Stmt} {rest : List Stmt} {t u : TS} {e : Expr} {te : TE} {pos : Pos}
def tNext : TS := fun D σ H => D.nx σ H
def tSeq (t u : TS) : TS := fun D σ H => t { D with nx := u D } σ H
theorem pss_nil : PSs X [] tNext := fun _ _ σ H _ I h => wpAny_execs_nil ⟨σ, H, I, h⟩
theorem pss_cons (h1 : PS X st t) (h2 : PSs X rest u) : PSs X (st :: rest) (tSeq t u) := by
  intro pins s σ H D I h
  refine wpAny_execs_cons (thn (h1 pins s σ H { D with nx := u D } I h) fun f s1 q => ?_)
  cases f with
  | next =>
    obtain ⟨σ', H', I', q⟩ := q
    exact h2 pins s1 σ' H' D I' q
  | ret v => exact q
  | brk => exact q
  | cont => exact q
theorem pss_one (h1 : PS X st t) : PSs X [st] t := by
  intro pins s σ H D I h
  refine wpAny_execs_cons (thn (h1 pins s σ H D I h) fun f s1 q => ?_)
  cases f with
  | next => exact wpAny_execs_nil q
  | ret v => exact q
  | brk => exact q
  | cont => exact q
theorem Inv.quiet {pins : List (Addr × Obj)} {σ : St} {H : Hp} {s : Shared} (I : Inv X pins σ H s) : interactive X.env = false := by simp [interactive, I.ok.kind]
def tDrop (te : TE) : TS := fun D σ H => te σ H fun _ H1 => D.nx σ H1
theorem ps_expr (he : PE X e te) (hs : swapsWith e none pos.line X.env = pure false := by rfl) : PS X (.Expr e pos) (tDrop te) := by
  intro pins s σ H D I h
  exact wpAny_Expr_any (thn (he pins s σ H _ I h) fun v s1 ⟨x, H1, I1, r1, q1⟩ => ⟨σ, H1, I1, q1⟩) I.quiet hs
def tRet (te : TE) : TS := fun D σ H => te σ H D.rt
theorem ps_ret (he : PE X e te) : PS X (.Return (some e) pos) (tRet te) := by
  intro pins s σ H D I h
  exact wpAny_Return_some (thn (he pins s σ H _ I h) fun v s1 ⟨x, H1, I1, r1, q1⟩ => ⟨x, σ, H1, I1, r1, q1⟩)
def tIfS (c : TT) (t u : TS) : TS := fun D σ H => c σ H fun b H1 => if b = true then t D σ H1 else u D σ H1
theorem ps_if {c : Expr} {a b : List Stmt} {tc : TT} (hc : PT X c tc) (ha : PSs X a t) (hb : PSs X b u) : PS X (.If c a b pos) (tIfS tc t u) := by
  intro pins s σ H D I h
  refine wpAny_If (thn (hc pins s σ H _ I h) fun d s1 ⟨H1, I1, q1⟩ => ?_)
  cases d with
  | true => exact ha pins s1 σ H1 D I1 q1
  | false => exact hb pins s1 σ H1 D I1 q1
end
abbrev TG := V → St → Hp → (St → Hp → Prop) → Prop
abbrev TGs := List V → St → Hp → (St → Hp → Prop) → Prop
def PG (X : Cx) (target : Expr) (t : TG) : Prop :=
  ∀ (pins : List (Addr × Obj)) (s : Shared) (σ : St) (H : Hp) (v : V) (u : Value) (Q : St → Hp → Prop), Inv X pins σ H s → RelV v u → t v σ H Q →
    wpAny (model X.prog X.w) X.A (assign target X.env u) (fun _ s' => ∃ σ' H', Inv X pins σ' H' s' ∧ Q σ' H') X.xe s
def PGs (X : Cx) (ts : List Expr) (t : TGs) : Prop :=
  ∀ (pins : List (Addr × Obj)) (s : Shared) (σ : St) (H : Hp) (vs : List V) (us : List Value) (Q : St → Hp → Prop), Inv X pins σ H s → Vals vs us → t vs σ H Q →
    wpAny (model X.prog X.w) X.A (assignInOrder ((assignEach ts X.env).map (·.2)) us) (fun _ s' => ∃ σ' H', Inv X pins σ' H' s' ∧ Q σ' H') X.xe s
abbrev TSet := V → V → V → Hp → (Hp → Prop) → Prop
def PSet (X : Cx) (t : TSet) : Prop :=
  ∀ (pins : List (Addr × Obj)) (s : Shared) (σ : St) (H : Hp) (o i v : V) (ov iv u : Value) (Q : Hp → Prop), Inv X pins σ H s → RelV o ov → RelV i iv → RelV v u → t o i v H Q →
    wpAny (model X.prog X.w) X.A (setItem ov iv u) (fun _ s' => ∃ H', Inv X pins σ H' s' ∧ Q H') X.xe s
section
variable {X : Cx} {pos : Pos}
def gName (i : Nat) : TG := fun v σ H Q => Q (σ.set i (some v)) H
theorem pg_name {i : Nat} {x : Str} (hN : X.N.Nodup) (hi : X.N[i]? = some x) (hx : Loc X.env.scope x) (hf : X.fn x = true ∨ X.env.scope.names.lookup x = some .local := by first | exact .inl rfl | exact .inr rfl | assumption) : PG X (.Name x pos) (gName i) := by
  intro pins s σ H v u Q I r h
  exact wpAny_assign_Name (store_ok I hN hi hx r (fun s' I' => ⟨_, H, I', h⟩) hf)
def gNil : TGs := fun vs σ H Q => vs = [] ∧ Q σ H
def gCons (t : TG) (u : TGs) : TGs := fun vs σ H Q => ∃ v r, vs = v :: r ∧ t v σ H fun σ' H' => u r σ' H' Q
theorem pgs_nil : PGs X [] gNil := by
  intro pins s σ H vs us Q I r h
  obtain ⟨e, h⟩ := h
  subst e
  cases r
  exact assignInOrder_nil ⟨σ, H, I, h⟩
theorem pgs_cons {e : Expr} {es : List Expr} {t : TG} {u : TGs} (h1 : PG X e t) (h2 : PGs X es u)
    (hs : (assignEach (e :: es) X.env).map (·.2) = assign e X.env :: (assignEach es X.env).map (·.2) := by rfl) : PGs X (e :: es) (gCons t u) := by
  intro pins s σ H vs us Q I r h
  obtain ⟨v, vr, e1, h⟩ := h
  subst e1
  cases r with
  | cons r rr =>
    rw [hs]
    refine assignInOrder_cons (thn (h1 pins s σ H _ _ _ I r h) fun _ s1 ⟨σ1, H1, I1, q1⟩ => ?_)
    exact h2 pins s1 σ1 H1 _ _ Q I1 rr q1
def gTup (K : PySem.W.Frag) (n : Nat) (t : TGs) : TG := fun v σ H Q => ∃ a xs, v = .ref a ∧ SqT K H a xs ∧ xs.length = n ∧ t xs σ H Q
theorem pg_tup {es : List Expr} {k : Nat} {t : TGs} {n : Nat} (hc : X.calm = true) (h : PGs X es t)
    (hn : (assignEach es X.env).length = n := by rfl) (hst : (assignEach es X.env).findIdx? (·.1) = none := by rfl) : PG X (.Tuple es k pos) (gTup X.K n t) := by
  intro pins s σ H v u Q I r hw
  obtain ⟨a, xs, e1, hq, hl, hw⟩ := hw
  subst e1
  cases r
  obtain ⟨its, rv, ht, hz⟩ := I.tuple hq
  refine assign_Tuple_tuple (I.ok.hd hc) ht (by simp [hn, ← hl, rv.length]) hst fun h' hx => ?_
  have I1 : Inv X pins σ H { s with heap := h' } := I.kept (t' := s.toks) fun b o e => hx b o (Nat.ne_of_lt (Heap.lt_size e)) e
  exact h pins _ σ H xs _ Q I1 (by simpa using rv) hw
def gSub (to ti : TE) (t : TSet) : TG := fun v σ H Q => to σ H fun o H1 => ti σ H1 fun i H2 => t o i v H2 fun H3 => Q σ H3
theorem pg_sub {o i : Expr} {to ti : TE} {t : TSet} (ho : PE X o to) (hi : PE X i ti) (hs : PSet X t)
    (ha : ∀ v, assign (.Subscript o i pos) X.env v = (do
      let ov ← holding [v] (eval o X.env)
      let iv ← holding [v, ov] (eval i X.env)
      standAt pos
      holding [v, ov, iv] (setItem ov iv v)
      release [v, ov, iv] []) := by intro _; rfl) : PG X (.Subscript o i pos) (gSub to ti t) := by
  intro pins s σ H v u Q I r h
  rw [ha]
  refine wpAny_bind (wpAny_holding (thn (ho pins s σ H _ I h) fun ov s1 ⟨x, H1, I1, r1, q1⟩ => ?_))
  refine wpAny_bind (wpAny_holding (thn (hi pins s1 σ H1 _ I1 q1) fun iv s2 ⟨y, H2, I2, r2, q2⟩ => ?_))
  refine wpAny_bind (wpAny_standAt (wpAny_bind (wpAny_holding (thn (hs pins s2 σ H2 x y v ov iv u _ I2 r1 r2 r q2) fun _ s3 ⟨H3, I3, q3⟩ => ?_))))
  exact wpAny_release ⟨σ, H3, I3, q3⟩
def tAsg (te : TE) (g : TG) : TS := fun D σ H => te σ H fun x H1 => g x σ H1 D.nx
theorem ps_asg {tg e : Expr} {te : TE} {g : TG} (he : PE X e te) (hg : PG X tg g) (hs : swapsWithSole [tg] e pos.line X.env = pure false := by rfl) (hw : swappedStores [tg] e X.env = pure none := by rfl)
    (h1 : (assignEach [tg] X.env).map (·.2) = [assign tg X.env] := by rfl) : PS X (.Assign [tg] e pos) (tAsg te g) := by
  intro pins s σ H D I h
  refine wpAny_Assign_stores (thn (he pins s σ H _ I h) fun v s1 ⟨x, H1, I1, r1, q1⟩ => ?_) hs hw
  rw [h1]
  exact thn (hg pins s1 σ H1 x v _ I1 r1 q1) fun _ s2 q => q
theorem ps_set {i : Nat} {x : Str} {e : Expr} {te : TE} {pos' : Pos} (hN : X.N.Nodup) (hi : X.N[i]? = some x) (hx : Loc X.env.scope x) (he : PE X e te) (hs : swapsWith e (some (.Name x pos')) pos.line X.env = pure false := by rfl) (hf : X.fn x = true ∨ X.env.scope.names.lookup x = some .local := by first | exact .inl rfl | exact .inr rfl | assumption) :
    PS X (.Assign [.Name x pos'] e pos) (tAsg te (gName i)) := by
  intro pins s σ H D I h
  refine wpAny_Assign_Name (thn (he pins s σ H _ I h) fun v s1 ⟨y, H1, I1, r1, q1⟩ => ?_) hs
  exact store_ok I1 hN hi hx r1 (fun s2 I2 => ⟨_, H1, I2, q1⟩) hf
end
section
variable {X : Cx} {pos : Pos}
def tWhile (c : TT) (tb : TS) : TS := fun D σ H => ∃ W : Nat → St → Hp → Prop, (∃ m, W m σ H) ∧ ∀ m σ H, W m σ H →
  c σ H fun b H1 => if b = true then ∃ N : St → Hp → Prop, (∀ σ' H', N σ' H' → ∃ m', m' < m ∧ W m' σ' H') ∧ tb { D with nx := N, ct := N, bk := D.nx } σ H1 else D.nx σ H1
theorem ps_while {c : Expr} {body : List Stmt} {tc : TT} {tb : TS} (hp : PassesOwn (model X.prog X.w) X.A X.env X.xe) (hc : PT X c tc) (hb : PSs X body tb) : PS X (.While c body [] pos) (tWhile tc tb) := by
  intro pins s σ H D I h
  obtain ⟨W, ⟨m0, w0⟩, turn⟩ := h
  refine wpAny_While (codeAny_whileLoop (fun n s' => ∃ σ' H', Inv X pins σ' H' s' ∧ W n σ' H') ?_ m0 ⟨σ, H, I, w0⟩)
  rintro n s1 ⟨σ1, H1, I1, w1⟩
  refine wpAny_passesOwn hp (thn (hc pins s1 σ1 H1 _ I1 (turn n σ1 H1 w1)) fun b s2 ⟨H2, I2, q2⟩ => ?_)
  cases b with
  | true =>
    obtain ⟨N, hN, q2⟩ := q2
    rw [if_pos rfl]
    refine wpAny_passesOwn hp (thn (hb pins s2 σ1 H2 _ I2 q2) fun f s3 q3 => ?_)
    cases f with
    | next =>
      obtain ⟨σ3, H3, I3, n3⟩ := q3
      obtain ⟨m', hm, w3⟩ := hN σ3 H3 n3
      exact ⟨m', hm, σ3, H3, I3, w3⟩
    | cont =>
      obtain ⟨σ3, H3, I3, n3⟩ := q3
      obtain ⟨m', hm, w3⟩ := hN σ3 H3 n3
      exact ⟨m', hm, σ3, H3, I3, w3⟩
    | brk => exact q3
    | ret v => exact q3
  | false =>
    rw [if_neg Bool.false_ne_true]
    exact wpAny_execs_nil ⟨σ1, H2, I2, q2⟩
end
structure It where
  go : Nat → Hp → Prop
  yld : Nat → Hp → V → Hp → Prop
  stop : Nat → Hp → Prop
def FpOk (X : Cx) (pins : List (Addr × Obj)) (H : Hp) (b : Addr) : Prop :=
  H b = none ∧ b ≠ X.env.locals ∧ b ∉ X.fs ∧ (b ∈ X.ex ∨ X.s_0.heap.objs.size ≤ b) ∧ (∀ x c, X.env.cells.lookup x = some c → c ≠ b) ∧ ∀ p ∈ X.pn ++ pins, p.1 ≠ b
theorem Inv.fpOk {X : Cx} {pins : List (Addr × Obj)} {σ : St} {H H' : Hp} {s : Shared} {b : Addr} (I : Inv X pins σ H s) (hb : s.heap.objs.size ≤ b) (hn : H' b = none) : FpOk X pins H' b := by
  refine ⟨hn, Nat.ne_of_gt (Nat.lt_of_lt_of_le I.lt hb), I.nofs hb, .inr (Nat.le_trans I.sz hb), fun x c e z => ?_, fun p hp z => ?_⟩
  · obtain ⟨v, q⟩ := I.cell x c e
    exact absurd (Nat.lt_of_lt_of_le q.lt (by rw [z]; exact hb)) (Nat.lt_irrefl _)
  · exact absurd (Nat.lt_of_lt_of_le (Heap.lt_size (I.pin p hp).1) (by rw [z]; exact hb)) (Nat.lt_irrefl _)
structure Turn (P : Program) (w : World) (K : PySem.W.Frag) (tg : Expr) (J : It) (fp : List Addr) (it : Addr) (tn : Nat → Heap → Prop) : Prop where
  mem : it ∈ fp
  obj : ∀ i h, tn i h → ∀ b ∈ fp, ∃ o, h.get? b = some o ∧ ∀ v, o.data ≠ .cell v
  keep : ∀ i h h', tn i h → (∀ b ∈ fp, ∀ o, h.get? b = some o → h'.get? b = some o) → tn i h'
  item : ∀ (X : Cx), X.prog = P → X.w = w → X.K = K → X.calm = true → ∀ (i : Nat) (pins : List (Addr × Obj)) (s : Shared) (σ : St) (H : Hp) (E : Value → Shared → Prop), Inv X pins σ H s → (∀ b ∈ fp, FpOk X pins H b) → tn i s.heap → J.go i H →
    wpAny (model P w) X.A (pyNext (.ref it)) (fun r s1 => ∃ u, r = some u ∧
      wpAny (model P w) X.A (letOwnedTupleGo tg (.ref it) u) (fun _ s2 => ∃ x H', Inv X pins σ H' s2 ∧ RelV x u ∧ J.yld i H x H' ∧ tn (i + 1) s2.heap ∧ ∀ b ∈ fp, H' b = none) E s1) E s
  done : ∀ (X : Cx), X.prog = P → X.w = w → X.K = K → X.calm = true → ∀ (i : Nat) (pins : List (Addr × Obj)) (s : Shared) (σ : St) (H : Hp) (E : Value → Shared → Prop), Inv X pins σ H s → (∀ b ∈ fp, FpOk X pins H b) → tn i s.heap → J.stop i H →
    wpAny (model P w) X.A (pyNext (.ref it)) (fun r s1 => r = none ∧ Inv X pins σ H s1) E s
  self : ∀ (A : Around) (i : Nat) (s : Shared) (Q : Value → Shared → Prop) (E : Value → Shared → Prop), tn i s.heap → Q (.ref it) s → wpAny (model P w) A (pyIter (.ref it)) Q E s
abbrev TI := St → Hp → (It → Hp → Prop) → Prop
def PIE (X : Cx) (pins : List (Addr × Obj)) (σ : St) (tg : Expr) (R : It → Hp → Prop) (itv : Value) (s2 : Shared) : Prop :=
  ∃ (it : Addr) (fp : List Addr) (tn : Nat → Heap → Prop) (J : It) (H' : Hp), itv = .ref it ∧ Inv X pins σ H' s2 ∧ Turn X.prog X.w X.K tg J fp it tn ∧ tn 0 s2.heap ∧ (∀ b ∈ fp, FpOk X pins H' b) ∧ R J H'
def PI (X : Cx) (tg iter : Expr) (wi : TI) : Prop :=
  ∀ (pins : List (Addr × Obj)) (s : Shared) (σ : St) (H : Hp) (R : It → Hp → Prop), Inv X pins σ H s → wi σ H R →
    wpAny (model X.prog X.w) X.A (eval iter X.env) (fun v s1 => wpAny (model X.prog X.w) X.A (pyIter v) (PIE X pins σ tg R) X.xe s1) X.xe s
theorem go_of {M : Model} {A : Around} {E : Value → Shared → Prop} {s : Shared} {tg : Expr} {it : Addr} {u : Value} {o : Obj} {n : String} {vs : Array Value} {Q : Unit → Shared → Prop} (ho : s.heap.get? it = some o) (hc : o.cls = .type n) (hd : o.data = .fields vs)
    (hn : ["enumerate", "zip", "dict_itemiterator", "dict_reverseitemiterator", "odict_iterator", "itertools.zip_longest", "itertools.pairwise"].contains n = false) (hQ : Q () s) : wpAny M A (letOwnedTupleGo tg (.ref it) u) Q E s := by
  unfold letOwnedTupleGo
  cases tg <;> first
    | exact wpAny_pure hQ
    | (cases u <;> first
        | exact wpAny_pure hQ
        | (refine wpAny_bind (wpAny_load ho ?_)
           rw [hc, hd]
           show wpAny M A (if (["enumerate", "zip", "dict_itemiterator", "dict_reverseitemiterator", "odict_iterator", "itertools.zip_longest", "itertools.pairwise"].contains n && vs[0]? == some (rawInt _)) = true then _ else _) Q E s
           rw [if_neg (by intro h; rw [hn, Bool.false_and] at h; cases h)]
           exact wpAny_pure hQ))
def Itl (K : PySem.W.Frag) (a : Addr) : It :=
  ⟨fun i H => ∃ xs x, SqL K H a xs ∧ xs[i]? = some x, fun i H x H' => H' = H ∧ ∀ xs, SqL K H a xs → xs[i]? = some x, fun i H => ∃ xs, SqL K H a xs ∧ xs.length ≤ i⟩
def Itr (lo : Int) (n : Nat) : It := ⟨fun i _ => i < n, fun i H x H' => H' = H ∧ x = .int (lo + i), fun i _ => n ≤ i⟩
theorem turn_list {P : Program} {w : World} {K : PySem.W.Frag} {tg : Expr} (a it : Addr) : Turn P w K tg (Itl K a) [it] it (fun i h => h.IsListIter it a i) where
  mem := by simp
  obj := fun i h st b hb => by
    have e : b = it := by simpa using hb
    subst e
    obtain ⟨o, e, c, d⟩ := st
    exact ⟨o, e, fun v z => by rw [d] at z; cases z⟩
  keep := fun i h h' st k => st.at fun o e => k it (by simp) o e
  item := by
    intro X hP hw hK hc i pins s σ H E I hf st hg
    subst hP hw hK
    obtain ⟨xs, x, hq, hx⟩ := hg
    obtain ⟨its, rv, p, hz⟩ := I.list hq
    obtain ⟨u, hu, ru⟩ := rv.get hx
    obtain ⟨f0, f1, f2, f3, f4, f5⟩ := hf it (by simp)
    refine wpAny_pyNext_list_item st p.isList (x := u) (by simpa using hu) fun h' st' sb => ?_
    have I1 : Inv X pins σ H { s with heap := h' } := I.turned (t' := s.toks) (fun b o hb e => (sb.2 b hb).trans e) f0 f1 f3 f4 f5
    obtain ⟨o, e, c, d⟩ := id st'
    exact ⟨u, rfl, go_of (s := { s with heap := h' }) e c d (by decide) ⟨x, H, I1, ru, ⟨rfl, fun ys hy => by rw [I.list_inj hy hq]; exact hx⟩, st', fun b hb => (hf b hb).1⟩⟩
  done := by
    intro X hP hw hK hc i pins s σ H E I hf st hg
    subst hP hw hK
    obtain ⟨xs, hq, hx⟩ := hg
    obtain ⟨its, rv, p, hz⟩ := I.list hq
    obtain ⟨f0, f1, f2, f3, f4, f5⟩ := hf it (by simp)
    have hl := rv.length
    exact wpAny_pyNext_list_end (I.ok.hd hc) st p.isList (by simp; omega) fun h' eb => ⟨rfl, I.turned (t' := s.toks) (fun b o hb e => eb b o hb e) f0 f1 f3 f4 f5⟩
  self := fun _ _ _ _ _ st h => wpAny_pyIter_listiter st h
theorem turn_range {P : Program} {w : World} {K : PySem.W.Frag} {tg : Expr} (it : Addr) (lo : Int) (n : Nat) : Turn P w K tg (Itr lo n) [it] it (fun i h => IsRangeIter h it (lo + (i : Nat) * 1) ((n : Int) - (i : Nat)) 1) where
  mem := by simp
  obj := fun i h st b hb => by
    have e : b = it := by simpa using hb
    subst e
    exact ⟨_, st, fun v z => by
      have z' : Data.fields _ = Data.cell v := z
      cases z'⟩
  keep := fun i h h' st k => k it (by simp) _ st
  item := by
    intro X hP hw hK hc i pins s σ H E I hf st hg
    subst hP hw hK
    obtain ⟨f0, f1, f2, f3, f4, f5⟩ := hf it (by simp)
    have W := Walks.range (prog := X.prog) (w := X.w) (I.ok.hd hc) it lo 1 n
    refine W.item i s _ _ hg st fun v h' tk hv st' kk => ?_
    obtain ⟨t, rfl⟩ := hv
    have I1 : Inv X pins σ H { s with heap := h', toks := tk } := I.turned (fun b o hb e => kk b o (by simpa using hb) e) f0 f1 f3 f4 f5
    refine ⟨_, rfl, go_of (s := { s with heap := h', toks := tk }) (n := "range_iterator") st' rfl rfl (by decide) ⟨.int (lo + i), H, I1, ⟨t, ?_⟩, ⟨rfl, rfl⟩, st', fun b hb => (hf b hb).1⟩⟩
    rw [Int.mul_one]
  done := by
    intro X hP hw hK hc i pins s σ H E I hf st hg
    subst hP hw hK
    obtain ⟨f0, f1, f2, f3, f4, f5⟩ := hf it (by simp)
    exact wpAny_pyNext_range_end (I.ok.hd hc) st (by have : n ≤ i := hg; omega) fun h' eb => ⟨rfl, I.turned (t' := s.toks) (fun b o hb e => eb b o hb e) f0 f1 f3 f4 f5⟩
  self := fun _ _ _ _ _ st h => wpAny_pyIter_rangeiter st h
end L2
namespace L2
open PySem PySem.Spec PyProof.Rows
section
variable {X : Cx} {tg : Expr}
def iList (K : PySem.W.Frag) (tl : TE) : TI := fun σ H R => tl σ H fun x H1 => ∃ a, x = .ref a ∧ (∃ xs, SqL K H1 a xs) ∧ R (Itl K a) H1
theorem pi_list {l : Expr} {tl : TE} (hl : PE X l tl) : PI X tg l (iList X.K tl) := by
  intro pins s σ H R I h
  refine thn (hl pins s σ H _ I h) fun v s1 ⟨x, H1, I1, r1, q1⟩ => ?_
  obtain ⟨a, e, ⟨xs, hq⟩, q⟩ := q1
  subst e
  cases r1
  obtain ⟨its, rv, p, hz⟩ := I1.list hq
  refine wpAny_pyIter_list p.isList ?_
  refine ⟨s1.heap.objs.size, [s1.heap.objs.size], _, _, H1, rfl, I1.kept (t' := s1.toks) fun b o e => Heap.get?_push_of_some _ e, turn_list a _, ⟨_, Heap.get?_push_size _ rfl, rfl, rfl⟩, fun b hb => ?_, q⟩
  have e : b = s1.heap.objs.size := by simpa using hb
  subst e
  exact I1.fpOk (Nat.le_refl _) (I1.hok.fresh (Nat.le_refl _))
theorem range_it {pins : List (Addr × Obj)} {σ : St} {H : Hp} {s : Shared} {R : It → Hp → Prop} {E : Value → Shared → Prop} {lo hi : Int} {t u v : Tok} {tk : Nat} (I : Inv X pins σ H s) (h1 : -(2 ^ 62) ≤ lo) (h2 : lo < 2 ^ 62) (h3 : -(2 ^ 62) ≤ hi) (h4 : hi < 2 ^ 62)
    (q : R (Itr lo (hi - lo).toNat) H) : wpAny (model X.prog X.w) X.A (pyIter (.ref s.heap.objs.size)) (PIE X pins σ tg R) E { s with heap := s.heap.push { cls := .type "range", data := .fields #[.int lo t, .int hi u, .int 1 v] }, toks := tk } := by
  refine wpAny_pyIter_range (IsRange.new ..) (small_one h1 h2 h3 h4) ?_
  have I1 : Inv X pins σ H { s with heap := s.heap.push { cls := .type "range", data := .fields #[.int lo t, .int hi u, .int 1 v] }, toks := tk } := I.kept fun b o e => Heap.get?_push_of_some _ e
  refine ⟨(s.heap.push { cls := .type "range", data := .fields #[.int lo t, .int hi u, .int 1 v] }).objs.size, [(s.heap.push { cls := .type "range", data := .fields #[.int lo t, .int hi u, .int 1 v] }).objs.size], _, _, H, rfl,
    I1.kept (t' := tk) fun b o e => Heap.get?_push_of_some _ e, turn_range _ lo (hi - lo).toNat, ?_, fun b hb => ?_, q⟩
  · have e1 : lo + ((0 : Nat) : Int) * 1 = lo := by simp
    have e2 : (((hi - lo).toNat : Nat) : Int) - ((0 : Nat) : Int) = Builtin.Range.rangeSize lo hi 1 := by rw [rangeSize_one]; split <;> omega
    show IsRangeIter _ _ (lo + ((0 : Nat) : Int) * 1) ((((hi - lo).toNat : Nat) : Int) - ((0 : Nat) : Int)) 1
    rw [e1, e2]
    exact Heap.get?_push_size _ rfl
  · have e : b = (s.heap.push { cls := .type "range", data := .fields #[.int lo t, .int hi u, .int 1 v] }).objs.size := by simpa using hb
    subst e
    exact I1.fpOk (Nat.le_refl _) (I1.hok.fresh (Nat.le_refl _))
def iRng1 (ta : TA) : TI := fun σ H R => ta σ H fun vs H1 => ∃ j : Int, vs = [.int j] ∧ -(2 ^ 62) ≤ j ∧ j < 2 ^ 62 ∧ R (Itr 0 j.toNat) H1
theorem pi_range1 {a : Expr} {ta : TA} {p pos : Pos} (hg : Gl X "range") (hm : X.mg "range" = none) (ha : PA X [a] ta) (hs : starEach [a] X.env = [(false, eval a X.env)] := by rfl) : PI X tg (.Call (.Name "range" p) [a] [] pos) (iRng1 ta) := by
  intro pins s σ H R I h
  refine Call_ (ld_blt I hg hm boot_range (PyProof.Rows.callWith_type1 (thn (ha pos pins s σ H _ I h) fun us s1 ⟨vs, H1, I1, r1, q1⟩ => ?_) hs rfl))
  obtain ⟨j, e, q1, q2, q⟩ := q1
  subst e
  cases r1 with
  | cons r rr =>
    cases rr
    obtain ⟨t, rfl⟩ := r
    exact call_range_1 (range_it I1 (by omega) (by omega) q1 q2 (by simpa using q))
def tFor (wi : TI) (g : TG) (tb : TS) : TS := fun D σ H => wi σ H fun J H1 => ∃ W : Nat → Nat → St → Hp → Prop, (∃ m, W 0 m σ H1) ∧ ∀ i m σ H, W i m σ H →
  (J.stop i H ∧ D.nx σ H) ∨ (J.go i H ∧ ∃ N : St → Hp → Prop, (∀ σ' H', N σ' H' → ∃ m', m' < m ∧ W (i + 1) m' σ' H') ∧ ∀ x H', J.yld i H x H' → g x σ H' fun σ2 H2 => tb { D with nx := N, ct := N, bk := D.nx } σ2 H2)
def pinsAt (fp : List Addr) (h : Heap) : List (Addr × Obj) := fp.filterMap fun b => (h.get? b).map fun o => (b, o)
theorem mem_pinsAt {fp : List Addr} {h : Heap} {b : Addr} {o : Obj} (hb : b ∈ fp) (e : h.get? b = some o) : (b, o) ∈ pinsAt fp h := List.mem_filterMap.mpr ⟨b, hb, by rw [e]; rfl⟩
theorem of_pinsAt {fp : List Addr} {h : Heap} {p : Addr × Obj} (hp : p ∈ pinsAt fp h) : p.1 ∈ fp ∧ h.get? p.1 = some p.2 := by
  obtain ⟨b, hb, e⟩ := List.mem_filterMap.mp hp
  cases q : h.get? b with
  | none => rw [q] at e; cases e
  | some o =>
    rw [q] at e
    have e' : (b, o) = p := Option.some.inj e
    subst e'
    exact ⟨hb, q⟩
theorem Inv.pinned {pins : List (Addr × Obj)} {σ : St} {H : Hp} {s : Shared} {fp : List Addr} (I : Inv X pins σ H s) (hf : ∀ b ∈ fp, FpOk X pins H b) (ho : ∀ b ∈ fp, ∃ o, s.heap.get? b = some o ∧ ∀ v, o.data ≠ .cell v) : Inv X (pins ++ pinsAt fp s.heap) σ H s :=
  I.pins_of fun p hp => (List.mem_append.mp hp).elim (fun z => I.pin p (List.mem_append_right _ z)) fun z => by
    obtain ⟨hb, e⟩ := of_pinsAt z
    obtain ⟨f0, f1, f2, _⟩ := hf p.1 hb
    obtain ⟨o, e', d⟩ := ho p.1 hb
    rw [e] at e'; cases e'
    exact ⟨e, f0, f1, f2, d⟩
theorem Inv.unpinned {pins pl : List (Addr × Obj)} {σ : St} {H : Hp} {s : Shared} (I : Inv X (pins ++ pl) σ H s) : Inv X pins σ H s := I.pins_of fun p hp => I.pin p (List.mem_append_right _ (List.mem_append_left _ hp))
theorem ps_for {iter : Expr} {body : List Stmt} {wi : TI} {g : TG} {tb : TS} {pos : Pos} (hp : PassesOwn (model X.prog X.w) X.A X.env X.xe) (hc : X.calm = true) (hi : PI X tg iter wi) (hg : PG X tg g) (hb : PSs X body tb)
    (hs : ∀ x, foldedSetIterable iter X.env x = pure x := by intro _; rfl) : PS X (.For tg iter body [] pos) (tFor wi g tb) := by
  intro pins s σ H D I h
  refine wpAny_For (thn (hi pins s σ H _ I h) fun v s1 h1 => thn h1 fun itv s2 h2 => ?_) hs
  obtain ⟨it, fp, tn, J, H2, e, I2, T, st2, f2, W, ⟨m0, w0⟩, turn⟩ := h2
  subst e
  have stat : ∀ {H' : Hp}, (∀ b ∈ fp, H' b = none) → ∀ b ∈ fp, FpOk X pins H' b := fun hn b hb => ⟨hn b hb, (f2 b hb).2⟩
  refine codeAny_forLoop_any (fun n s' => ∃ i σ' H', Inv X pins σ' H' s' ∧ tn i s'.heap ∧ (∀ b ∈ fp, H' b = none) ∧ W i n σ' H') ?_ m0 ⟨0, σ, H2, I2, st2, fun b hb => (f2 b hb).1, w0⟩
  rintro n s3 ⟨i, σ3, H3, I3, st3, fr3, w3⟩
  rcases turn i n σ3 H3 w3 with ⟨stop, qn⟩ | ⟨go, N, hN, step⟩
  · refine wpAny_passesOwn hp (thn (T.done X rfl rfl rfl hc i pins s3 σ3 H3 X.xe I3 (stat fr3) st3 stop) fun r s4 ⟨hr, I4⟩ => ?_)
    subst hr
    exact wpAny_execs_nil ⟨σ3, H3, I4, qn⟩
  · refine wpAny_passesOwn hp (thn (T.item X rfl rfl rfl hc i pins s3 σ3 H3 X.xe I3 (stat fr3) st3 go) fun r s4 ⟨u, hr, h4⟩ => ?_)
    subst hr
    refine wpAny_passesOwn hp (thn h4 fun _ s5 ⟨x, H5, I5, r5, y5, st5, fr5⟩ => ?_)
    have I5' := I5.pinned (stat fr5) (T.obj _ _ st5)
    refine wpAny_passesOwn hp (thn (hg _ s5 σ3 H5 x u _ I5' r5 (step x H5 y5)) fun _ s6 ⟨σ6, H6, I6, q6⟩ => ?_)
    refine wpAny_passesOwn hp (thn (hb _ s6 σ6 H6 _ I6 q6) fun f s7 q7 => ?_)
    have again : ∀ {σ7 : St} {H7 : Hp}, Inv X (pins ++ pinsAt fp s5.heap) σ7 H7 s7 → N σ7 H7 → ∃ m, m < n ∧ ∃ i σ' H', Inv X pins σ' H' s7 ∧ tn i s7.heap ∧ (∀ b ∈ fp, H' b = none) ∧ W i m σ' H' := fun {σ7 H7} I7 n7 => by
      obtain ⟨m', hm, w7⟩ := hN σ7 H7 n7
      refine ⟨m', hm, i + 1, σ7, H7, I7.unpinned, T.keep _ _ _ st5 fun b hb o e => (I7.pin (b, o) (List.mem_append_right _ (List.mem_append_right _ (mem_pinsAt hb e)))).1, fun b hb => ?_, w7⟩
      obtain ⟨o, e, d⟩ := T.obj _ _ st5 b hb
      exact (I7.pin (b, o) (List.mem_append_right _ (List.mem_append_right _ (mem_pinsAt hb e)))).2.1
    cases f with
    | next => obtain ⟨σ7, H7, I7, n7⟩ := q7; exact again I7 n7
    | cont => obtain ⟨σ7, H7, I7, n7⟩ := q7; exact again I7 n7
    | brk => obtain ⟨σ7, H7, I7, q7⟩ := q7; exact ⟨σ7, H7, I7.unpinned, q7⟩
    | ret v => obtain ⟨x7, σ7, H7, I7, r7, q7⟩ := q7; exact ⟨x7, σ7, H7, I7.unpinned, r7, q7⟩
end
theorem for_range {lo : Int} {n : Nat} {g : TG} {tb : TS} {D : Ends} {σ : St} {H : Hp} (Pv : Nat → St → Hp → Prop) (h0 : Pv 0 σ H)
    (hs : ∀ i σ H, i < n → Pv i σ H → g (.int (lo + i)) σ H fun σ2 H2 => tb { D with nx := Pv (i + 1), ct := Pv (i + 1), bk := D.nx } σ2 H2) (hd : ∀ σ H, Pv n σ H → D.nx σ H) :
    ∃ W : Nat → Nat → St → Hp → Prop, (∃ m, W 0 m σ H) ∧ ∀ i m σ H, W i m σ H →
      ((Itr lo n).stop i H ∧ D.nx σ H) ∨ ((Itr lo n).go i H ∧ ∃ N : St → Hp → Prop, (∀ σ' H', N σ' H' → ∃ m', m' < m ∧ W (i + 1) m' σ' H') ∧ ∀ x H', (Itr lo n).yld i H x H' → g x σ H' fun σ2 H2 => tb { D with nx := N, ct := N, bk := D.nx } σ2 H2) := by
  refine ⟨fun i m σ H => m = n - i ∧ i ≤ n ∧ Pv i σ H, ⟨n, by simp, Nat.zero_le _, h0⟩, ?_⟩
  rintro i m σ H ⟨rfl, hi, p⟩
  by_cases hlt : i < n
  · refine .inr ⟨hlt, Pv (i + 1), fun σ' H' p' => ⟨n - (i + 1), by omega, rfl, hlt, p'⟩, fun x H' y => ?_⟩
    obtain ⟨e, y⟩ := y
    subst e y
    exact hs i σ _ hlt p
  · have e : i = n := by omega
    subst e
    exact .inl ⟨Nat.le_refl _, hd σ H p⟩
end L2
namespace L2
open PySem PySem.Spec PyProof.Rows
abbrev R2 := V → V → Hp → VK → Prop
def OpR (X : Cx) (f : Value → Value → Sem Value) (r : R2) : Prop :=
  ∀ (pins : List (Addr × Obj)) (s : Shared) (σ : St) (H : Hp) (x y : V) (v u : Value) (Q : VK), Inv X pins σ H s → RelV x v → RelV y u → r x y H Q →
    wpAny (model X.prog X.w) X.A (f v u) (EP X pins σ Q) X.xe s
def UnR (X : Cx) (f : Value → Sem Value) (r : V → Hp → VK → Prop) : Prop :=
  ∀ (pins : List (Addr × Obj)) (s : Shared) (σ : St) (H : Hp) (x : V) (v : Value) (Q : VK), Inv X pins σ H s → RelV x v → r x H Q →
    wpAny (model X.prog X.w) X.A (f v) (EP X pins σ Q) X.xe s
def CallR (X : Cx) (f : Value) (r : List V → Hp → VK → Prop) : Prop :=
  ∀ (pins : List (Addr × Obj)) (s : Shared) (σ : St) (H : Hp) (xs : List V) (us : List Value) (Q : VK), Inv X pins σ H s → Vals xs us → r xs H Q →
    wpAny (model X.prog X.w) X.A (call f us) (EP X pins σ Q) X.xe s
def TruR (X : Cx) (r : V → Hp → (Bool → Hp → Prop) → Prop) : Prop :=
  ∀ (pins : List (Addr × Obj)) (s : Shared) (σ : St) (H : Hp) (x : V) (v : Value) (Q : Bool → Hp → Prop), Inv X pins σ H s → RelV x v → r x H Q →
    wpAny (model X.prog X.w) X.A (truthy v) (TP X pins σ Q) X.xe s
def tOp (r : R2) (ta tb : TE) : TE := fun σ H Q => ta σ H fun x H1 => tb σ H1 fun y H2 => r x y H2 Q
def tUn (r : V → Hp → VK → Prop) (ta : TE) : TE := fun σ H Q => ta σ H fun x H1 => r x H1 Q
def rI (C : Int → Int → Prop) (g : Int → Int → V) : R2 := fun x y H Q => ∃ i j, x = .int i ∧ y = .int j ∧ C i j ∧ Q (g i j) H
def rI0 (g : Int → Int → V) : R2 := fun x y H Q => ∃ i j, x = .int i ∧ y = .int j ∧ Q (g i j) H
def rU (g : Int → V) : V → Hp → VK → Prop := fun x H Q => ∃ i, x = .int i ∧ Q (g i) H
section
variable {X : Cx} {a b c : Expr} {ta tb tc : TE} {pos : Pos}
theorem binT (ha : PE X a ta) (hb : PE X b tb) {pins : List (Addr × Obj)} {s : Shared} {σ : St} {H : Hp} {R : V → V → Hp → Prop} (I : Inv X pins σ H s)
    (h : ta σ H fun x H1 => tb σ H1 fun y H2 => R x y H2) {Q : Value → Shared → Prop} {f : Value → Value → Sem Value}
    (hf : ∀ v u s2 x y H2, Inv X pins σ H2 s2 → RelV x v → RelV y u → R x y H2 → wpAny (model X.prog X.w) X.A (f v u) Q X.xe s2) :
    wpAny (model X.prog X.w) X.A (eval a X.env) (fun v s₁ => wpAny (model X.prog X.w) X.A (eval b X.env) (fun u s₂ => wpAny (model X.prog X.w) X.A (f v u) Q X.xe s₂) X.xe s₁) X.xe s := by
  refine thn (ha pins s σ H _ I h) fun v s1 ⟨x, H1, I1, r1, q1⟩ => ?_
  refine thn (hb pins s1 σ H1 _ I1 q1) fun u s2 ⟨y, H2, I2, r2, q2⟩ => ?_
  exact hf v u s2 x y H2 I2 r1 r2 q2
theorem pe_op {op : Operator} {r : R2} (ho : OpR X (binaryOp op) r) (ha : PE X a ta) (hb : PE X b tb) : PE X (.BinOp a op b pos) (tOp r ta tb) := by
  intro pins s σ H Q I h
  exact wpAny_BinOp (binT ha hb I h fun v u s2 x y H2 I2 rx ry q => ho pins s2 σ H2 x y v u Q I2 rx ry q)
theorem pe_un {op : UnaryOp} {r : V → Hp → VK → Prop} (ho : UnR X (unaryOp op) r) (ha : PE X a ta) : PE X (.UnaryOp op a pos) (tUn r ta) := by
  intro pins s σ H Q I h
  exact UnaryOp_ (thn (ha pins s σ H _ I h) fun v s1 ⟨x, H1, I1, r1, q1⟩ => ho pins s1 σ H1 x v Q I1 r1 q1)
theorem opI {f : Value → Value → Sem Value} {C : Int → Int → Prop} {g : Int → Int → Int}
    (rule : ∀ (i j : Int) (t u : Tok) (s : Shared) (Q : Value → Shared → Prop) (E : Value → Shared → Prop), C i j → Q (.int (g i j) s.toks) { s with toks := s.toks + 1 } → wpAny (model X.prog X.w) X.A (f (.int i t) (.int j u)) Q E s) :
    OpR X f (rI C fun i j => .int (g i j)) := by
  intro pins s σ H x y v u Q I rx ry h
  obtain ⟨i, j, rfl, rfl, hc, q⟩ := h
  obtain ⟨t, rfl⟩ := rx
  obtain ⟨t', rfl⟩ := ry
  exact rule i j t t' s _ _ hc ⟨.int (g i j), H, I.tok _, ⟨_, rfl⟩, q⟩
theorem opI0 {f : Value → Value → Sem Value} {g : Int → Int → Int}
    (rule : ∀ (i j : Int) (t u : Tok) (s : Shared) (Q : Value → Shared → Prop) (E : Value → Shared → Prop), Q (.int (g i j) s.toks) { s with toks := s.toks + 1 } → wpAny (model X.prog X.w) X.A (f (.int i t) (.int j u)) Q E s) :
    OpR X f (rI0 fun i j => .int (g i j)) := by
  intro pins s σ H x y v u Q I rx ry h
  obtain ⟨i, j, rfl, rfl, q⟩ := h
  obtain ⟨t, rfl⟩ := rx
  obtain ⟨t', rfl⟩ := ry
  exact rule i j t t' s _ _ ⟨.int (g i j), H, I.tok _, ⟨_, rfl⟩, q⟩
theorem opB0 {f : Value → Value → Sem Value} {g : Int → Int → Bool}
    (rule : ∀ (i j : Int) (t u : Tok) (s : Shared) (Q : Value → Shared → Prop) (E : Value → Shared → Prop), Q (.bool (g i j)) s → wpAny (model X.prog X.w) X.A (f (.int i t) (.int j u)) Q E s) :
    OpR X f (rI0 fun i j => .bl (g i j)) := by
  intro pins s σ H x y v u Q I rx ry h
  obtain ⟨i, j, rfl, rfl, q⟩ := h
  obtain ⟨t, rfl⟩ := rx
  obtain ⟨t', rfl⟩ := ry
  exact rule i j t t' s _ _ ⟨.bl (g i j), H, I, rfl, q⟩
def CDiv (i j : Int) : Prop := 0 < j ∧ j < 1073741824
def CPow (i j : Int) : Prop := 0 ≤ j ∧ j ≤ 1000000 ∧ i.natAbs < 2 ^ 64
def CMul (i j : Int) : Prop := (-(2 ^ 64) < i ∧ i < 2 ^ 64) ∨ (-(2 ^ 64) < j ∧ j < 2 ^ 64)
theorem CMul.ok {i j : Int} (h : CMul i j) : IntMulOk i j := by
  rcases h with ⟨h1, h2⟩ | ⟨h1, h2⟩
  · exact .of_left (intBits_le_64 h1 h2)
  · exact .of_right (intBits_le_64 h1 h2)
theorem op_add : OpR X (binaryOp .Add) (rI0 fun i j => .int (i + j)) := opI0 fun _ _ _ _ _ _ _ q => add_int q
theorem op_sub : OpR X (binaryOp .Sub) (rI0 fun i j => .int (i - j)) := opI0 fun _ _ _ _ _ _ _ q => sub_int q
theorem op_mul : OpR X (binaryOp .Mult) (rI CMul fun i j => .int (i * j)) := opI fun _ _ _ _ _ _ _ hc q => mul_int q hc.ok
theorem op_fdiv : OpR X (binaryOp .FloorDiv) (rI CDiv fun i j => .int (i / j)) := opI fun i j _ _ _ _ _ hc q => by
  have h1 : (0 : Int) < j := hc.1
  have h2 : j < 1073741824 := hc.2
  exact floordiv_int (by omega) (by rw [Int.fdiv_eq_ediv_of_nonneg i (by omega)]; exact q) (.inl (PyProof.noPylong_small (by omega)))
theorem op_mod : OpR X (binaryOp .Mod) (rI (fun _ j => 0 < j) fun i j => .int (i % j)) := opI fun i j _ _ _ _ _ hc q => by
  have h1 : (0 : Int) < j := hc
  exact mod_int' (by omega) (by rw [Int.fmod_eq_emod_of_nonneg i (by omega)]; exact q)
theorem op_pow : OpR X (binaryOp .Pow) (rI CPow fun i j => .int (i ^ j.toNat)) := opI fun _ _ _ _ _ _ _ hc q => pow_int_small hc.1 hc.2.1 hc.2.2 q
theorem unI {f : Value → Sem Value} {g : Int → Int}
    (rule : ∀ (i : Int) (t : Tok) (s : Shared) (Q : Value → Shared → Prop) (E : Value → Shared → Prop), Q (.int (g i) s.toks) { s with toks := s.toks + 1 } → wpAny (model X.prog X.w) X.A (f (.int i t)) Q E s) :
    UnR X f (rU fun i => .int (g i)) := by
  intro pins s σ H x v Q I rx h
  obtain ⟨i, rfl, q⟩ := h
  obtain ⟨t, rfl⟩ := rx
  exact rule i t s _ _ ⟨.int (g i), H, I.tok _, ⟨_, rfl⟩, q⟩
theorem un_neg : UnR X (unaryOp .USub) (rU fun i => .int (-i)) := unI fun _ _ _ _ _ q => neg_int q
end
section
variable {X : Cx} {a b c : Expr} {ta tb tc : TE} {pos : Pos}
theorem fin_bl {pins : List (Addr × Obj)} {σ : St} {H : Hp} {s : Shared} {Q : VK} {k k' : Bool} (I : Inv X pins σ H s) (q : Q (.bl k) H) (e : k = k') : EP X pins σ Q (.bool k') s := by
  subst e
  exact ⟨.bl k, H, I, rfl, q⟩
theorem op_lt : OpR X (compareOp .Lt) (rI0 fun i j => .bl (decide (i < j))) := opB0 fun _ _ _ _ _ _ _ q => lt_int q
theorem op_le : OpR X (compareOp .LtE) (rI0 fun i j => .bl (decide (i ≤ j))) := opB0 fun _ _ _ _ _ _ _ q => le_int q
theorem op_gt : OpR X (compareOp .Gt) (rI0 fun i j => .bl (decide (j < i))) := opB0 fun _ _ _ _ _ _ _ q => gt_int q
theorem op_ge : OpR X (compareOp .GtE) (rI0 fun i j => .bl (decide (j ≤ i))) := opB0 fun _ _ _ _ _ _ _ q => ge_int q
theorem op_lt_str : OpR X (compareOp .Lt) (fun x y H Q => ∃ i j, x = .str i ∧ y = .str j ∧ Q (.bl (decide (i.cps.toList < j.cps.toList))) H) := by
  intro pins s σ H x y v u Q I rx ry h
  obtain ⟨i, j, rfl, rfl, q⟩ := h
  obtain ⟨t, rfl⟩ := rx
  obtain ⟨t', rfl⟩ := ry
  exact lt_str (fin_bl I q rfl)
theorem OpR.or {f : Value → Value → Sem Value} {r r' : R2} (h : OpR X f r) (h' : OpR X f r') : OpR X f (fun x y H Q => r x y H Q ∨ r' x y H Q) := by
  intro pins s σ H x y v u Q I rx ry q
  rcases q with q | q
  · exact h pins s σ H x y v u Q I rx ry q
  · exact h' pins s σ H x y v u Q I rx ry q
theorem nomark (b : Expr) {op : CmpOp} (h : op ≠ .In := by decide) (h2 : op ≠ .NotIn := by decide) : behindInMarks op b = false := by
  have e1 : (op == CmpOp.In) = false := by cases op <;> first | rfl | exact absurd rfl h
  have e2 : (op == CmpOp.NotIn) = false := by cases op <;> first | rfl | exact absurd rfl h2
  cases b <;> simp [behindInMarks, e1, e2]
theorem pe_cmpR {op : CmpOp} {r : R2} (ho : OpR X (compareOp op) r) (ha : PE X a ta) (hb : PE X b tb) (hm : behindInMarks op b = false) : PE X (.Compare a [op] [b] pos) (tOp r ta tb) := by
  intro pins s σ H Q I h
  exact wpAny_Compare1 (binT ha hb I h fun v u s2 x y H2 I2 rx ry q => ho pins s2 σ H2 x y v u Q I2 rx ry q) hm
def tTest (t : TE) : TT := fun σ H Q => t σ H fun x H' => ∃ k, x = .bl k ∧ Q k H'
theorem pt_cmpR {op : CmpOp} {r : R2} (ho : OpR X (compareOp op) r) (ha : PE X a ta) (hb : PE X b tb) (hm : behindInMarks op b = false) : PT X (.Compare a [op] [b] pos) (tTest (tOp r ta tb)) := by
  intro pins s σ H Q I h
  refine wpAny_isTrue_Compare1 (thn (ha pins s σ H _ I h) fun v s1 ⟨x, H1, I1, r1, q1⟩ => thn (hb pins s1 σ H1 _ I1 q1) fun u s2 ⟨y, H2, I2, r2, q2⟩ =>
    thn (ho pins s2 σ H2 x y v u _ I2 r1 r2 q2) fun c s3 ⟨z, H3, I3, r3, k, e, q3⟩ => ?_) hm
  subst e
  cases r3
  exact wpAny_truthy_bool ⟨H3, I3, q3⟩
def TruV (K : PySem.W.Frag) (x : V) (H : Hp) (k : Bool) : Prop :=
  match x with
  | .non => k = false
  | .bl b => k = b
  | .int i => k = (i != 0)
  | .str y => y.length ≤ sizeLine ∧ k = ((y.length : Int) != 0)
  | .byt y => y.size ≤ sizeLine ∧ k = ((y.size : Int) != 0)
  | .ref p => (∃ xs, SqL K H p xs ∧ k = !xs.isEmpty) ∨ (∃ xs, SqT K H p xs ∧ k = !xs.isEmpty) ∨ ∃ kvs, H p = some (.dK kvs) ∧ k = !kvs.isEmpty
  | _ => False
theorem isEmpty_kv {κ : Type} {kvs : List (κ × V)} {vs : List (κ × Value)} (r : KV kvs vs) : (!vs.isEmpty) = !kvs.isEmpty := by
  cases r <;> rfl
theorem isEmpty_of {xs : List V} {its : List Value} (r : Vals xs its) : (!its.toArray.isEmpty) = !xs.isEmpty := by
  cases r <;> simp
theorem line63 : (sizeLine : Nat) < 2 ^ 63 := by rw [sizeLine_eq]; decide
theorem tru_ok : TruR X (fun x H Q => ∃ k, TruV X.K x H k ∧ Q k H) := by
  intro pins s σ H x v Q I rx h
  obtain ⟨k, e, q⟩ := h
  have hl := line63
  have hs : sizeLine = 16777216 := sizeLine_eq
  cases x with
  | non =>
    cases rx
    have e' : k = false := e
    subst e'
    exact truthy_none ⟨H, I, q⟩
  | bl b =>
    cases rx
    have e' : k = b := e
    subst e'
    exact wpAny_truthy_bool ⟨H, I, q⟩
  | int i =>
    obtain ⟨t, rfl⟩ := rx
    have e' : k = (i != 0) := e
    subst e'
    exact PySem.P.truthy_int ⟨H, I, q⟩
  | str y =>
    obtain ⟨t, rfl⟩ := rx
    obtain ⟨hy, e'⟩ : y.length ≤ sizeLine ∧ k = ((y.length : Int) != 0) := e
    subst e'
    exact PySem.P.truthy_str (by omega) ⟨H, I.tok _, q⟩
  | byt y =>
    obtain ⟨t, rfl⟩ := rx
    obtain ⟨hy, e'⟩ : y.size ≤ sizeLine ∧ k = ((y.size : Int) != 0) := e
    subst e'
    exact PySem.W.truthy_bytes (by omega) ⟨H, I.tok _, q⟩
  | ref p =>
    cases rx
    have e' : (∃ xs, SqL X.K H p xs ∧ k = !xs.isEmpty) ∨ (∃ xs, SqT X.K H p xs ∧ k = !xs.isEmpty) ∨ ∃ kvs, H p = some (.dK kvs) ∧ k = !kvs.isEmpty := e
    rcases e' with ⟨xs, hx, e'⟩ | ⟨xs, hx, e'⟩ | ⟨kvs, hx, e'⟩
    · subst e'
      obtain ⟨its, r, pl, hz⟩ := I.list hx
      have hlen := r.length
      exact wpAny_truthy_list pl.isList (by simp only [List.size_toArray]; omega) ⟨H, I.tok _, by rw [isEmpty_of r]; exact q⟩
    · subst e'
      obtain ⟨its, r, pl, hz⟩ := I.tuple hx
      have hlen := r.length
      exact truthy_tuple pl (by simp only [List.size_toArray]; omega) ⟨H, I.tok _, by rw [isEmpty_of r]; exact q⟩
    · subst e'
      obtain ⟨hz, hS, vs, r, m⟩ : kvs.length ≤ sizeLine ∧ (p == sysModules) = false ∧ ∃ vs, KV kvs vs ∧ s.heap.DictOf (mixKind X.prog X.w) p vs := I.hok p _ hx
      have hlen : kvs.length = vs.length := Paired.length r
      exact wpAny_truthy_dict hS m (by omega) ⟨H, I.tok _, by rw [isEmpty_kv r]; exact q⟩
  | _ => exact (show False from e).elim
theorem pt_truth (ha : PE X a ta) (he : ∀ whole, isTrue a X.env whole = (do let v ← whole; standAt a.pos; holding [v] (truthy v))) :
    PT X a (fun σ H Q => ta σ H fun x H' => ∃ k, TruV X.K x H' k ∧ Q k H') := by
  intro pins s σ H Q I h
  exact isTrue_plain (thn (ha pins s σ H _ I h) fun v s1 ⟨x, H1, I1, r1, q1⟩ => tru_ok pins s1 σ H1 x v Q I1 r1 q1) (he _)
theorem op_add_str : OpR X (binaryOp .Add) (fun x y H Q => ∃ i j, x = .str i ∧ y = .str j ∧ i.length + j.length ≤ sizeLine ∧ Q (.str (i ++ j)) H) := by
  intro pins s σ H x y v u Q I rx ry h
  obtain ⟨i, j, rfl, rfl, hz, q⟩ := h
  obtain ⟨t, rfl⟩ := rx
  obtain ⟨t', rfl⟩ := ry
  exact add_str (fun t' tk => ⟨.str (i ++ j), H, I.tok _, ⟨_, rfl⟩, q⟩) hz
theorem vals1 {x : V} {us : List Value} (r : Vals [x] us) : ∃ u, us = [u] ∧ RelV x u := by
  cases r with
  | cons r1 r2 => cases r2; exact ⟨_, rfl, r1⟩
theorem vals2 {x y : V} {us : List Value} (r : Vals [x, y] us) : ∃ u w', us = [u, w'] ∧ RelV x u ∧ RelV y w' := by
  cases r with
  | cons r1 r2 =>
    cases r2 with
    | cons r3 r4 => cases r4; exact ⟨_, _, rfl, r1, r3⟩
end
end L2
namespace L2
open PySem PySem.Spec PyProof.Rows
structure ObjM (h : Heap) (x dx C : Addr) (mA : Str → Option Value) : Prop where
  obj : h.get? x = some (PySem.W.instObj C dx)
  ns : h.Ns1 dx mA
  ne : dx ≠ x
theorem lookIn_ns {h : Heap} {dx : Addr} {mA : Str → Option Value} (n : h.Ns1 dx mA) : ∃ od, h.get? dx = some od ∧ ∀ name, PySem.W.lookIn name od = some (mA name) := by
  obtain ⟨o, es, ep, ho, hd, hk, _, hm⟩ := n
  refine ⟨o, ho, fun name => ?_⟩
  have e := hm name
  unfold nsFind findBy at e
  rw [← Array.find?_toList] at e
  unfold PySem.W.lookIn
  rw [hd]
  dsimp only
  split
  · rename_i y q
    rw [q] at e
    exact congrArg some e
  · rename_i q
    rw [q] at e
    have a : es.toList.any (·.refKey) = false := by
      rw [List.any_eq_false]
      intro y hy
      obtain ⟨z, t, hkey⟩ := hk y (Array.mem_toList_iff.mp hy)
      simp [DictEntry.refKey, hkey]
    have a' : ¬ es.toList.any (·.refKey) = true := by rw [a]; exact Bool.false_ne_true
    rw [if_neg a']
    exact congrArg some e
theorem ObjM.look {h : Heap} {x dx C : Addr} {mA : Str → Option Value} (I : ObjM h x dx C mA) : ∃ od, PySem.W.InstAt h x (PySem.W.instObj C dx) C (some od) ∧ ∀ name, PySem.W.lookIn name od = some (mA name) :=
  let ⟨od, ho, hl⟩ := lookIn_ns I.ns
  ⟨od, ⟨I.obj, rfl, rfl, ho⟩, hl⟩
section
variable {prog : Program} {w : World} {A : Around} {E : Value → Shared → Prop} {s : Shared} {K : PySem.W.Frag} {x dx C f : Addr} {mA : Str → Option Value} {name : Str} {v : Value}
end
section
variable {P : Program} {w : World} {H H' : Hp} {h h' : Heap} {a C dx : Addr} {fs fs' : List (Str × V)}
end
structure Cls (K : PySem.W.Frag) (C : Addr) : Prop where
  pg : PySem.W.plainGet K C Str.empty = true
  hd : PySem.W.hasDictIn K C = true
  po : PySem.W.plainOver K C = true
  sa : PySem.W.findIn K (.ref C) "__setattr__" = some (some (.builtin "object.__setattr__"))
theorem Cls.get {K : PySem.W.Frag} {C : Addr} (c : Cls K C) (f : Str) : PySem.W.plainGet K C f = true := c.pg
structure Con (K : PySem.W.Frag) (C : Addr) (f : Str) (v : V) (u : Value) : Prop where
  at_ : PySem.W.findIn K (.ref C) f = some (some u)
  rel : RelV v u
  get : PySem.W.specialIn K u "__get__" = some none
  cp : PySem.W.copiedNames.contains f = false
structure Meth (K : PySem.W.Frag) (C : Addr) (m : Str) (f : Addr) : Prop where
  at_ : PySem.W.findIn K (.ref C) m = some (some (.ref f))
  fn : PySem.W.isFn K (.ref f) = true
  kp : PySem.W.keepIn K (.ref f) = true
section
variable {X : Cx} {pins : List (Addr × Obj)} {σ : St} {H : Hp} {s : Shared} {a C dx : Addr} {fs : List (Str × V)} {f : Str} {v : V} {A : Around} {E : Value → Shared → Prop}
end
section
variable {X : Cx} {o e value : Expr} {f : Str} {pos pos' tpos : Pos} {ta tv : TE}
end
section
variable {X : Cx} {pins : List (Addr × Obj)} {σ : St} {H : Hp} {s : Shared} {A : Around} {E : Value → Shared → Prop} {Q : Value → Shared → Prop} {c : Value} {b : Bool}
inductive TyOf (K : PySem.W.Frag) (H : Hp) : V → Value → Prop where
  | non : TyOf K H .non (.type "NoneType")
  | bl (x : Bool) : TyOf K H (.bl x) (.type "bool")
  | int (i : Int) : TyOf K H (.int i) (.type "int")
  | str (x : Str) : TyOf K H (.str x) (.type "str")
  | flt (x : UInt64) : TyOf K H (.flt x) (.type "float")
  | lst {a : Addr} {xs : List V} (e : H a = some (.lst xs)) : TyOf K H (.ref a) (.type "list")
  | frz {a : Addr} {o : Obj} {xs : List V} (e : H a = some (.frz o (.lst xs))) : TyOf K H (.ref a) (.type "list")
  | tup {a : Addr} {xs : List V} (e : H a = some (.tup xs)) : TyOf K H (.ref a) (.type "tuple")
  | dK {a : Addr} {kvs : List (Key × V)} (e : H a = some (.dK kvs)) : TyOf K H (.ref a) (.type "dict")
  | dT {a : Addr} {kvs : List (List Key × V)} (e : H a = some (.dT kvs)) : TyOf K H (.ref a) (.type "dict")
  | ins {a C dx : Addr} {fs : List (Str × V)} (e : H a = some (.ins C dx fs)) (cl : Cls K C) (ha : PySem.W.findIn K (.ref C) "__class__" = some (some (.builtin "object.__class__")))
      (hn : PySem.W.specialIn K (.builtin "object.__class__") "__get__" = some (some (.builtin "getset_descriptor.__get__"))) (htk : PySem.W.takesIn K (.builtin "object.__class__") = some true)
      (hm : PySem.W.mroIn K C (.type "object") = some true) : TyOf K H (.ref a) (.ref C)
end
end L2
namespace L2
open PySem PySem.Spec PyProof.Rows
structure Room (k : Nat) (A : Around) : Prop where
  hd : A.handled = none
  dp : A.depth + 3 * k + 5 < recursionLimit
  un : A.units + 16 * k + 200 < cLine
  gd : A.guards = some []
theorem Room.mono {j k : Nat} {A : Around} (r : Room k A) (h : j ≤ k) : Room j A := ⟨r.hd, by have := r.dp; omega, by have := r.un; omega, r.gd⟩
theorem Room.deeper {k : Nat} {A : Around} (r : Room (k + 1) A) (env : Env) : Room k (A.deeper env) :=
  ⟨r.hd, by have := r.dp; show A.depth + 1 + 3 * k + 5 < _; omega, by have := r.un; show A.units + 3 + 16 * k + 200 < _; omega, r.gd⟩
theorem Room.in1 {k : Nat} {A : Around} (r : Room (k + 1) A) : Room k A.in1 :=
  ⟨r.hd, by have := r.dp; show A.depth + 3 * k + 5 < _; omega, by have := r.un; show A.units + 1 + 16 * k + 200 < _; omega, r.gd⟩
theorem Room.depth {k : Nat} {A : Around} (r : Room k A) : A.depth < recursionLimit := by have := r.dp; omega
theorem Room.units {k : Nat} {A : Around} (r : Room k A) : A.units + 64 < cLine := by have := r.un; omega
def tNil : TA := fun _ H Q => Q [] H
def tCons (ta : TE) (tr : TA) : TA := fun σ H Q => ta σ H fun x H1 => tr σ H1 fun xs H2 => Q (x :: xs) H2
section
variable {X : Cx} {e : Expr} {es : List Expr} {te : TE} {t : TA} {pos : Pos}
theorem pa_nil : PA X [] tNil := fun _ _ _ _ H Q I h => Calls.spliced_nil ⟨[], H, I, .nil, h⟩
theorem pa_cons (ha : PE X e te) (hr : PA X es t) (hs : starEach (e :: es) X.env = (false, eval e X.env) :: starEach es X.env := by rfl) : PA X (e :: es) (tCons te t) := by
  intro pos pins s σ H Q I h
  rw [hs]
  show wpAny _ _ (spliced ((false, eval e X.env) :: backTo pos (starEach es X.env))) _ _ s
  refine Calls.spliced_cons (thn (ha pins s σ H _ I h) fun u s1 ⟨x, H1, I1, r1, q1⟩ => ?_)
  exact thn (hr pos pins s1 σ H1 _ I1 q1) fun us s2 ⟨xs, H2, I2, r2, q2⟩ => ⟨x :: xs, H2, I2, .cons r1 r2, q2⟩
def tTup (t : TA) : TE := fun σ H Q => t σ H fun xs H1 => xs.length ≤ sizeLine ∧ ∀ p, H1 p = none → Q (.ref p) (upd H1 p (.tup xs))
def tLst (t : TA) : TE := fun σ H Q => t σ H fun xs H1 => xs.length ≤ sizeLine ∧ ∀ p, H1 p = none → Q (.ref p) (upd H1 p (.lst xs))
theorem pe_tup {x1} (h : PA X es t) : PE X (.Tuple es x1 pos) (tTup t) := by
  intro pins s σ H Q I hq
  refine wpAny_Tuple_spliced (thn (h pos pins s σ H _ I hq) fun us s1 ⟨xs, H1, I1, r, z, q⟩ => ⟨by rw [← r.length]; exact z, ?_⟩)
  have hf : H1 s1.heap.objs.size = none := I1.hok.fresh (Nat.le_refl _)
  refine ⟨.ref s1.heap.objs.size, upd H1 s1.heap.objs.size (.tup xs), I1.laid (t' := s1.toks) (fun b u e => Heap.get?_push_of_some _ e) (Nat.le_refl _) ?_, rfl, q _ hf⟩
  exact ⟨z, us, r, ⟨_, Heap.get?_push_size _ rfl, rfl, _, rfl⟩⟩
theorem pe_lst (h : PA X es t) : PE X (.List es pos) (tLst t) := by
  intro pins s σ H Q I hq
  refine wpAny_List_spliced (thn (h pos pins s σ H _ I hq) fun us s1 ⟨xs, H1, I1, r, z, q⟩ => ⟨by rw [← r.length]; exact z, ?_⟩)
  have hf : H1 s1.heap.objs.size = none := I1.hok.fresh (Nat.le_refl _)
  refine ⟨.ref s1.heap.objs.size, upd H1 s1.heap.objs.size (.lst xs), I1.laid (t' := s1.toks) (fun b u e => Heap.get?_push_of_some _ e) (Nat.le_refl _) ?_, rfl, q _ hf⟩
  exact ⟨z, us, 0, r, Heap.get?_push_size _ rfl⟩
end
abbrev Sp := List V → Hp → VK → XK → Prop
abbrev CXT := List Env → Hp → Shared → XK → Value → Shared → Prop
structure Env0 (P : Program) (w : World) (K : PySem.W.Frag) (mg : Str → Option Value) (base : Heap) (A : Around) (outer : List Env) (s : Shared) (H : Hp) : Prop where
  frames : A.frames = some outer
  mod : Mod K mg base
  bs : ∀ b o, base.get? b = some o → s.heap.get? b = some o ∧ H b = none
  bsz : base.objs.size ≤ s.heap.objs.size
  funs : s.heap.FunFrames base outer
  frf : ∀ b ∈ frs outer, H b = none
  hok : HOk P w H s.heap
  bare : AllBare s.gens
def CE (outer : List Env) (P : Program) (w : World) (H : Hp) (s : Shared) (Q : VK) (u : Value) (s' : Shared) : Prop :=
  ∃ v H', s'.os = s.os ∧ AllBare s'.gens ∧ Un (frs outer) [] H H' s.heap s'.heap ∧ HOk P w H' s'.heap ∧ RelV v u ∧ Q v H'
def CR (CX : CXT) (outer : List Env) (P : Program) (w : World) (H : Hp) (s : Shared) (Q : VK) (E : XK) (r : Result) (s' : Shared) : Prop :=
  match r with
  | .ok (.ret u) => CE outer P w H s Q u s'
  | .ok _ => False
  | .error e => CX outer H s E e s'
structure FnOk (P : Program) (w : World) (K : PySem.W.Frag) (mg : Str → Option Value) (base : Heap) (CX : CXT) (k : Nat) (f : Addr) (fd : FuncData) (ps : List Str) (sp : Sp) : Prop where
  len : ∀ vs H Q E, sp vs H Q E → vs.length = ps.length
  run : ∀ (A : Around) (outer : List Env) (s : Shared) (H : Hp) (args : Args) (us : List Value) (vs : List V) (Q : VK) (E : XK), Room k A → Env0 P w K mg base A outer s H → BindsTo s fd args (ps.zip us) → Vals vs us → sp vs H Q E →
    codeAny (model P w) A (.call (.ref f) args) (CR CX outer P w H s Q E) s
theorem FnOk.mono {P : Program} {w : World} {K : PySem.W.Frag} {mg : Str → Option Value} {base : Heap} {CX : CXT} {j k : Nat} {f : Addr} {fd : FuncData} {ps : List Str} {sp : Sp} (F : FnOk P w K mg base CX j f fd ps sp) (h : j ≤ k) :
    FnOk P w K mg base CX k f fd ps sp := ⟨F.len, fun A outer s H args us vs Q E hr => F.run A outer s H args us vs Q E (hr.mono h)⟩
theorem FnOk.imp {P : Program} {w : World} {K : PySem.W.Frag} {mg : Str → Option Value} {base : Heap} {CX : CXT} {k : Nat} {f : Addr} {fd : FuncData} {ps : List Str} {sp sp' : Sp} (F : FnOk P w K mg base CX k f fd ps sp)
    (h : ∀ vs H Q E, sp' vs H Q E → sp vs H Q E) : FnOk P w K mg base CX k f fd ps sp' :=
  ⟨fun vs H Q E q => F.len vs H Q E (h _ _ _ _ q), fun A outer s H args us vs Q E hr he hb hv hs => F.run A outer s H args us vs Q E hr he hb hv (h _ _ _ _ hs)⟩
theorem Env0.in1 {P : Program} {w : World} {K : PySem.W.Frag} {mg : Str → Option Value} {base : Heap} {A : Around} {outer : List Env} {s : Shared} {H : Hp} (e : Env0 P w K mg base A outer s H) :
    Env0 P w K mg base A.in1 outer s H := ⟨e.frames, e.mod, e.bs, e.bsz, e.funs, e.frf, e.hok, e.bare⟩
section
variable {X : Cx} {pins : List (Addr × Obj)} {σ : St} {H : Hp} {s s' : Shared}
theorem Inv.env0 (I : Inv X pins σ H s) : Env0 X.prog X.w X.K X.mg X.base X.A X.stack s H :=
  ⟨I.ok.frames, I.ok.mod, I.bs, Nat.le_trans I.ok.bsz I.sz, I.stack, I.stkFree, I.hok, I.bare⟩
theorem Inv.after {Q : VK} {u : Value} (I : Inv X pins σ H s) (h : CE X.stack X.prog X.w H s Q u s') : EP X pins σ Q u s' := by
  obtain ⟨v, H', os, bare, un, hok, r, q⟩ := h
  obtain ⟨hh, g, d, t, os'⟩ := s'
  obtain rfl : os' = s.os := os
  exact ⟨v, H', I.call (h' := hh) (g' := g) (d' := d) (t' := t) (ch := []) un hok bare (fun b z => absurd z (by simp)), r, q⟩
end
def tCall (sp : Sp) (dvs : List V) (E : XK) (t : TA) : TE := fun σ H Q => t σ H fun vs H1 => sp (vs ++ dvs) H1 Q E
def Binds (K : PySem.W.Frag) (fd : FuncData) (ps : List Str) (ds : List Value) : Prop :=
  ∀ (s : Shared) (us : List Value), K.In s.heap → (us ++ ds).length = ps.length → BindsTo s fd ⟨us, []⟩ (ps.zip (us ++ ds))
theorem Binds.all {K : PySem.W.Frag} {fd : FuncData} {ps : List Str} (h : ∀ us : List Value, us.length = ps.length → bindArgs fd ⟨us, []⟩ = pure (ps.zip us)) : Binds K fd ps [] := fun s us _ hl => by
  rw [List.append_nil] at hl ⊢
  exact .of_eq (h us hl)
def Passes (CX : CXT) (X : Cx) (E : XK) : Prop := ∀ (pins : List (Addr × Obj)) (σ : St) (H : Hp) (s : Shared) (e : Value) (s' : Shared), Inv X pins σ H s → CX X.stack H s E e s' → X.xe e s'
section
variable {X : Cx} {CX : CXT} {k : Nat} {f C : Addr} {fd : FuncData} {ps : List Str} {sp : Sp} {dvs : List V} {ds : List Value} {E : XK} {x m : Str} {p pos apos : Pos} {e o : Expr} {es : List Expr} {ta : TE} {t : TA}
theorem run_fn {pins : List (Addr × Obj)} {σ : St} {H : Hp} {s : Shared} {Q : VK} {us : List Value} {vs : List V} (F : FnOk X.prog X.w X.K X.mg X.base CX k f fd ps sp) (hr : Room k X.A) (hb : Binds X.K fd ps ds) (hd : Vals dvs ds) (hx : Passes CX X E)
    (I : Inv X pins σ H s) (r : Vals vs us) (h : sp (vs ++ dvs) H Q E) : wpAny (model X.prog X.w) X.A (call (.ref f) us) (EP X pins σ Q) X.xe s := by
  have r2 : Vals (vs ++ dvs) (us ++ ds) := r.append hd
  have hl : (us ++ ds).length = ps.length := by rw [← r2.length]; exact F.len _ _ _ _ h
  refine wpAny_call (codeAny_mono (F.run X.A X.stack s H ⟨us, []⟩ (us ++ ds) (vs ++ dvs) Q E hr I.env0 (hb s us I.kIn hl) r2 h) fun r s' hq => ?_)
  cases r with
  | error e => exact hx pins σ H s e s' I hq
  | ok fl =>
    cases fl with
    | ret u => exact I.after hq
    | next => exact False.elim hq
    | brk => exact False.elim hq
    | cont => exact False.elim hq
theorem pe_call (F : FnOk X.prog X.w X.K X.mg X.base CX k f fd ps sp) (hr : Room k X.A) (hg : Gl X x) (hm : X.mg x = some (.ref f)) (hk : PySem.W.keepIn X.K (.ref f) = true) (hb : Binds X.K fd ps ds) (hd : Vals dvs ds) (hx : Passes CX X E)
    (ha : PA X (e :: es) t) (hdb : (x == ("__debug__" : Str)) = false := by decide) (he : starEach (e :: es) X.env = (false, eval e X.env) :: starEach es X.env := by rfl) (hpl : (backTo pos (starEach es X.env)).any (·.1) = false := by rfl) :
    PE X (.Call (.Name x p) (e :: es) [] pos) (tCall sp dvs E t) := by
  intro pins s σ H Q I h
  refine wpAny_Call_Name_kw (ld_glob I hg hm ?_ hdb)
  refine PySem.W.callWith_K (h₀ := X.base) I.ok.mod.kin hk (thn (ha pos pins s σ H _ I h) fun us s1 ⟨vs, H1, I1, r, q⟩ => ⟨I1.kIn, ?_⟩) he hpl
  exact run_fn F hr hb hd hx I1 r q
structure Mk (K : PySem.W.Frag) (C f : Addr) : Prop where
  makes : PySem.W.makesIn K C = true
  init : PySem.W.findIn K (.ref C) "__init__" = some (some (.ref f))
  fn : PySem.W.isFn K (.ref f) = true
  kp : PySem.W.keepIn K (.ref C) = true
end
section
variable {X : Cx} {CX : CXT} {k : Nat} {f C : Addr} {fd : FuncData} {ps ks : List Str} {sp : Sp} {E : XK} {x m : Str} {p pos apos kpos : Pos} {e o : Expr} {es : List Expr} {kws : List Keyword} {te ta : TE} {t tk : TA} {nm : Option Str}
structure KBinds (K : PySem.W.Frag) (fd : FuncData) (ps ks : List Str) (g : List Value → List Value → List Value) (gV : List V → List V → List V) : Prop where
  to : ∀ (s : Shared) (us ws : List Value), K.In s.heap → (g us ws).length = ps.length → BindsTo s fd ⟨us, ks.zip ws⟩ (ps.zip (g us ws))
  rel : ∀ {vs : List V} {us : List Value} {zs : List V} {ws : List Value}, Vals vs us → Vals zs ws → Vals (gV vs zs) (g us ws)
variable {g : List Value → List Value → List Value} {gV : List V → List V → List V}
end
structure FnScope (N P : List Str) (sc : Scope) : Prop where
  kind : sc.kind = .function
  co : sc.isCoroutine = false
  gen : sc.isGenerator = false
  nd : N.Nodup
  pre : N.take P.length = P
  par : ∀ x ∈ P, sc.names.lookup x = some .local ∨ sc.names.lookup x = some .cell
  nofree : ∀ y ∈ sc.names, y.2 ≠ .free
theorem bindL_out {kindOf : Str → Option NameKind} {x : Str} : ∀ {binds : List (Str × Value)} {m : Str → Option Value}, (∀ v, (x, v) ∉ binds) → bindL kindOf binds m x = m x
  | [], _, _ => rfl
  | (n, v) :: r, m, h => by
    unfold bindL
    rw [bindL_out fun w hw => h w (List.mem_cons_of_mem _ hw)]
    split
    · have : x ≠ n := by rintro rfl; exact h v List.mem_cons_self
      simp [this]
    · rfl
theorem bindC_out {kindOf : Str → Option NameKind} {x : Str} : ∀ {binds : List (Str × Value)} {m : Str → Option Value}, (∀ v, (x, v) ∉ binds) → bindC kindOf binds m x = m x
  | [], _, _ => rfl
  | (n, v) :: r, m, h => by
    unfold bindC
    rw [bindC_out fun w hw => h w (List.mem_cons_of_mem _ hw)]
    split
    · rfl
    · have : x ≠ n := by rintro rfl; exact h v List.mem_cons_self
      simp [this]
theorem bindL_get {kindOf : Str → Option NameKind} {x : Str} {v : Value} : ∀ {P : List Str} {vs : List Value} {i : Nat} {m : Str → Option Value}, P.Nodup → P[i]? = some x → vs[i]? = some v → kindOf x = some .local →
    bindL kindOf (P.zip vs) m x = some v
  | [], _, _, _, _, h, _, _ => by simp at h
  | _ :: _, [], _, _, _, _, h, _ => by simp at h
  | p :: P, w :: vs, 0, m, nd, h1, h2, hk => by
    simp at h1 h2; subst h1; subst h2
    show bindL kindOf ((p, w) :: P.zip vs) m p = _
    unfold bindL
    rw [bindL_out fun v hv => (List.nodup_cons.mp nd).1 (List.of_mem_zip hv).1, if_pos hk]
    simp
  | p :: P, w :: vs, i + 1, m, nd, h1, h2, hk => by
    show bindL kindOf ((p, w) :: P.zip vs) m x = _
    unfold bindL
    exact bindL_get (i := i) (List.nodup_cons.mp nd).2 (by simpa using h1) (by simpa using h2) hk
theorem bindC_get {kindOf : Str → Option NameKind} {x : Str} {v : Value} : ∀ {P : List Str} {vs : List Value} {i : Nat} {m : Str → Option Value}, P.Nodup → P[i]? = some x → vs[i]? = some v → kindOf x ≠ some .local →
    bindC kindOf (P.zip vs) m x = some v
  | [], _, _, _, _, h, _, _ => by simp at h
  | _ :: _, [], _, _, _, _, h, _ => by simp at h
  | p :: P, w :: vs, 0, m, nd, h1, h2, hk => by
    simp at h1 h2; subst h1; subst h2
    show bindC kindOf ((p, w) :: P.zip vs) m p = _
    unfold bindC
    rw [bindC_out fun v hv => (List.nodup_cons.mp nd).1 (List.of_mem_zip hv).1, if_neg hk]
    simp
  | p :: P, w :: vs, i + 1, m, nd, h1, h2, hk => by
    show bindC kindOf ((p, w) :: P.zip vs) m x = _
    unfold bindC
    exact bindC_get (i := i) (List.nodup_cons.mp nd).2 (by simpa using h1) (by simpa using h2) hk
def start (N : List Str) (vs : List V) : St := vs.map some ++ List.replicate (N.length - vs.length) none
def cxOf (CX : CXT) (P : Program) (w : World) (K : PySem.W.Frag) (mg : Str → Option Value) (base : Heap) (N : List Str) (qual : Str) (scope : Scope) (f : Addr) (cd : Value) (A : Around) (outer : List Env) (s : Shared) (H : Hp) (E : XK) : Cx where
  prog := P
  w := w
  K := K
  mg := mg
  base := base
  A := A.deeper (envOfC qual scope s.heap.objs.size f cd)
  N := N
  s_0 := s
  H_0 := H
  env := envOfC qual scope s.heap.objs.size f cd
  outer := outer
  stack := envOfC qual scope s.heap.objs.size f cd :: outer
  ex := []
  calm := true
  fn := fun _ => true
  pn := []
  xe := fun e s' => wpAny (model P w) (A.deeper (envOfC qual scope s.heap.objs.size f cd)) (leaving (envOfC qual scope s.heap.objs.size f cd) e) (fun _ s'' => CX outer H s E e s'') (fun e' s'' => CX outer H s E e' s'') s'
theorem cell_has {sc : Scope} {n : Nat} {x : Str} (h : sc.names.lookup x = some .cell) : ∃ c, (cellsFrom n sc.names []).lookup x = some c := by
  have q := PySem.W.cellsFrom_some sc.names n [] (.inl h)
  exact Option.isSome_iff_exists.mp q
theorem inv_start {CX : CXT} {P : Program} {w : World} {K : PySem.W.Frag} {mg : Str → Option Value} {base : Heap} {N ps : List Str} {qual : Str} {scope : Scope} {f : Addr} {cd : Value} {A : Around} {outer : List Env} {s s1 : Shared} {H : Hp} {E : XK} {us : List Value} {vs : List V}
    (S : FnScope N ps scope) (hd : A.handled = none) (e0 : Env0 P w K mg base A outer s H) (hl : vs.length = ps.length) (r : Vals vs us)
    (x : InCallC s s.heap.objs.size (bindL (envOfC qual scope s.heap.objs.size f cd).kindOf (ps.zip us) fun _ => none) (cellsFrom (s.heap.objs.size + 1) scope.names []) (bindC (envOfC qual scope s.heap.objs.size f cd).kindOf (ps.zip us) fun _ => none) s1) :
    Inv (cxOf CX P w K mg base N qual scope f cd A outer s H E) [] (start N vs) H s1 := by
  have hpl : ps.length ≤ N.length := by have := congrArg List.length S.pre; rw [List.length_take] at this; omega
  obtain ⟨h1, tk, rfl, hk⟩ := x.done
  have noA : ∀ b : Addr, b ∉ (cxOf CX P w K mg base N qual scope f cd A outer s H E).ex := fun b z => absurd (show b ∈ ([] : List Addr) from z) (by simp)
  refine ⟨⟨e0.mod, S.kind, rfl, rfl, Nat.le_refl _, fun y z c h1 h2 => ?_, fun y hy => ?_, fun y c _ h => ?_, fun _ => hd, Around.frames_deeper e0.frames, .inr ⟨rfl, rfl⟩, fun b z => absurd z (noA b), e0.bs, e0.bsz, fun b _ _ => noA b, fun b z => absurd z (noA b), e0.funs, e0.frf⟩,
    rfl, e0.bare, Un.kept hk, ⟨_, x.toInCall.ns, fun i y v h1 h2 h3 => ?_⟩, fun y c h => ⟨_, x.cell y c h⟩, e0.hok.fresh (Nat.le_refl _), fun y c h => ?_, fun p hp => absurd (show p ∈ ([] : List (Addr × Obj)) from hp) (by simp), e0.hok.kept hk, ?_⟩
  · exact name_of_addr x.apart (PySem.mem_of_lookup h1) (PySem.mem_of_lookup h2)
  · have hy : scope.names.lookup y = some .cell ∨ scope.names.lookup y = some .free := hy
    rcases hy with hy | hy
    · exact cell_has hy
    · exact absurd rfl (S.nofree _ (PySem.mem_of_lookup hy))
  · exact Nat.le_of_lt (x.above y c (PySem.mem_of_lookup h))
  · have hi : i < vs.length := by
      unfold start at h2
      by_cases hi : i < vs.length
      · exact hi
      · rw [List.getElem?_append_right (by simpa using hi)] at h2
        rw [List.getElem?_replicate] at h2
        split at h2 <;> cases h2
    have ha : vs[i]? = some v := by
      unfold start at h2
      rw [List.getElem?_append_left (by simpa using hi), List.getElem?_map] at h2
      cases e : vs[i]? with
      | none => rw [e] at h2; cases h2
      | some a => rw [e] at h2; cases h2; rfl
    obtain ⟨u, hu, rv⟩ := r.get ha
    have hp : ps[i]? = some y := by
      rw [← S.pre, List.getElem?_take_of_lt (by omega)]; exact h1
    have ndP : ps.Nodup := by rw [← S.pre]; exact S.nd.sublist (List.take_sublist _ _)
    refine ⟨u, rv, ?_⟩
    rcases S.par y (List.mem_of_getElem? hp) with k | k
    · exact .inl ⟨k, bindL_get ndP hp hu k⟩
    · obtain ⟨c, e⟩ := cell_has (n := s.heap.objs.size + 1) k
      refine .inr ⟨.inl k, c, e, ?_⟩
      have q := x.cell y c e
      rw [bindC_get ndP hp hu (by show scope.names.lookup y ≠ _; rw [k]; decide)] at q
      exact q
  · exact .inl (e0.hok.fresh (Nat.le_of_lt (x.above y c (PySem.mem_of_lookup h))))
  · unfold start
    show _ = N.length
    rw [List.length_append, List.length_map, List.length_replicate]
    omega
theorem fn_of {CX : CXT} {P : Program} {w : World} {K : PySem.W.Frag} {mg : Str → Option Value} {base : Heap} {k : Nat} {f : Addr} {name qual : Str} {params : Arguments} {body : List Stmt} {scope : Scope} {dV kV doc pm cdv ct oc : Value} {an od : Option Addr}
    {osl : Array (Option Value)} {N ps : List Str} {sp : Sp} (lk : K.lookup f = some ⟨oc, od, .func (PySem.W.fnOf name qual params body scope dV kV doc pm an cdv ct), osl⟩) (hcd : PySem.W.codeIn K cdv qual = true) (S : FnScope N ps scope)
    (len : ∀ vs H Q E, sp vs H Q E → vs.length = ps.length)
    (hbody : ∀ (A : Around) (outer : List Env) (s : Shared) (H : Hp) (vs : List V) (Q : VK) (E : XK), Room k (A.deeper (envOfC qual scope s.heap.objs.size f cdv)) → sp vs H Q E →
      ∃ t, PSs (cxOf CX P w K mg base N qual scope f cdv A outer s H E) body t ∧ t { nx := fun _ H' => Q .non H', rt := Q } (start N vs) H) :
    FnOk P w K mg base CX (k + 1) f (PySem.W.fnOf name qual params body scope dV kV doc pm an cdv ct) ps sp := by
  refine ⟨len, fun A outer s H args us vs Q E hr e0 hb r hsp => ?_⟩
  have hl := len _ _ _ _ hsp
  have KX : K.In s.heap := e0.mod.kin.keeps fun b o e => (e0.bs b o e).1
  have lim : s.heap.NoLimit := e0.mod.nolimit.keeps fun b o e => (e0.bs b o e).1
  have hkind : ∀ y ∈ ps.zip us, scope.names.lookup y.1 = some .local ∨ (scope.names.lookup y.1 = some .cell ∧ ((cellsFrom (s.heap.objs.size + 1) scope.names []).lookup y.1).isSome = true) := fun ⟨n, v⟩ hy => by
    rcases S.par n (List.of_mem_zip hy).1 with q | q
    · exact .inl q
    · exact .inr ⟨q, PySem.W.cellsFrom_some _ _ _ (.inl q)⟩
  refine codeAny_call_function hr.depth (KX _ _ lk) rfl S.co S.gen rfl (PySem.W.codeRec_of KX hcd) (hb _ _ _ _ ?_)
  refine wpAny_newFunctionEnv_cells S.kind hkind fun env he s1 x => ?_
  subst he
  refine ⟨lim.keeps x.toInCall.keep, codeAny_func ?_⟩
  obtain ⟨t, ht, hq⟩ := hbody A outer s H vs Q E (hr.deeper _) hsp
  have I : Inv (cxOf CX P w K mg base N qual scope f cdv A outer s H E) [] (start N vs) H s1 := inv_start S hr.hd e0 hl r x
  refine wpAny_mono (ht [] s1 (start N vs) H _ I hq) (fun fl s' hs => ?_) fun e s' hs => hs
  have fin : ∀ {σ' : St} {H' : Hp} {v : V} {u : Value}, Inv (cxOf CX P w K mg base N qual scope f cdv A outer s H E) [] σ' H' s' → RelV v u → Q v H' → CE outer P w H s Q u s' :=
    fun {σ' H' v u} J rv q => ⟨v, H', J.os, J.bare, J.base, J.hok, rv, q⟩
  cases fl with
  | ret u =>
    obtain ⟨v, σ', H', J, rv, q⟩ := hs
    exact fin J rv q
  | next =>
    obtain ⟨σ', H', J, q⟩ := hs
    exact fin (v := V.non) (u := Value.none) J rfl q
  | brk =>
    obtain ⟨_, _, _, q⟩ := hs
    exact False.elim q
  | cont =>
    obtain ⟨_, _, _, q⟩ := hs
    exact False.elim q
end L2
namespace L2
open PySem PySem.Spec PyProof.Rows
section
variable {X : Cx} {x : Str} {p pos : Pos} {e : Expr} {es : List Expr} {t : TA} {id T : String} {r : List V → Hp → VK → Prop}
def tCB (r : List V → Hp → VK → Prop) (t : TA) : TE := fun σ H Q => t σ H fun vs H1 => r vs H1 Q
theorem pe_callB (hc : CallR X (.builtin id) r) (hg : Gl X x) (hm : X.mg x = none) (hv : bootBuiltins x = some (.builtin id)) (ha : PA X (e :: es) t) (hn : x ≠ "__name__" := by decide) (hdb : (x == ("__debug__" : Str)) = false := by decide)
    (he : starEach (e :: es) X.env = (false, eval e X.env) :: starEach es X.env := by rfl) (hpl : (backTo pos (starEach es X.env)).any (·.1) = false := by rfl) : PE X (.Call (.Name x p) (e :: es) [] pos) (tCB r t) := by
  intro pins s σ H Q I h
  refine wpAny_Call_Name_kw (ld_blt I hg hm hv ?_ hn hdb)
  exact PyProof.Rows.callWith_builtin1 (thn (ha pos pins s σ H _ I h) fun us s1 ⟨vs, H1, I1, r1, q1⟩ => hc pins s1 σ H1 vs us Q I1 r1 q1) he hpl
theorem pe_callTy (hc : CallR X (.type T) r) (hg : Gl X x) (hm : X.mg x = none) (hv : bootBuiltins x = some (.type T)) (ha : PA X (e :: es) t) (hn : x ≠ "__name__" := by decide) (hdb : (x == ("__debug__" : Str)) = false := by decide)
    (he : starEach (e :: es) X.env = (false, eval e X.env) :: starEach es X.env := by rfl) (hpl : (backTo pos (starEach es X.env)).any (·.1) = false := by rfl) : PE X (.Call (.Name x p) (e :: es) [] pos) (tCB r t) := by
  intro pins s σ H Q I h
  refine wpAny_Call_Name_kw (ld_blt I hg hm hv ?_ hn hdb)
  exact PyProof.Rows.callWith_type1 (thn (ha pos pins s σ H _ I h) fun us s1 ⟨vs, H1, I1, r1, q1⟩ => hc pins s1 σ H1 vs us Q I1 r1 q1) he hpl
end
end L2
namespace HT
open PySem PyProof.Rows
section
open PySem.SeqAt
open PySem.AutoSeq1 (wpAny_loadPart')
open PySem.MeetsSeq PySem.MeetsSeq2 PySem.MeetsSeq3
end
section
variable {prog : Program} {w : World} {A : Around} {E : Value → Shared → Prop} {s : Shared}
def sIx (n d : Nat) : Option Int → Nat
  | none => d
  | some v => if v < 0 then (v + (n : Int)).toNat else min v.toNat n
theorem sIx_none (n d : Nat) : sIx n d none = d := rfl
theorem sIx_nat (n d k : Nat) : sIx n d (some (k : Int)) = min k n := by
  show (if (k : Int) < 0 then ((k : Int) + (n : Int)).toNat else min (k : Int).toNat n) = min k n
  rw [if_neg (by omega), Int.toNat_natCast]
theorem sIx_le (n d : Nat) (hd : d ≤ n) (o : Option Int) : sIx n d o ≤ n := by
  cases o with
  | none => exact hd
  | some v =>
    show (if v < 0 then (v + (n : Int)).toNat else min v.toNat n) ≤ n
    by_cases hv : v < 0
    · rw [if_pos hv]; omega
    · rw [if_neg hv]; exact Nat.min_le_right _ _
theorem clip_eq (v : Int) (n d : Nat) : (if v < 0 then max (v + (n : Int)) 0 else min v (n : Int)) = ((sIx n d (some v) : Nat) : Int) := by
  show (if v < 0 then max (v + (n : Int)) 0 else min v (n : Int)) = (((if v < 0 then (v + (n : Int)).toNat else min v.toNat n) : Nat) : Int)
  by_cases hv : v < 0
  · simp only [if_pos hv]; omega
  · simp only [if_neg hv]; omega
theorem adjust_gen (lo hi : Option Int) (n : Nat) : Builtin.Slice.sliceAdjust lo hi 1 (n : Int) = (((sIx n 0 lo : Nat) : Int), ((sIx n n hi : Nat) : Int)) := by
  have h1 : ¬ ((1 : Int) < 0) := by omega
  unfold Builtin.Slice.sliceAdjust
  simp only [h1, if_false]
  refine Prod.ext ?_ ?_
  · cases lo with
    | none => rfl
    | some v => exact clip_eq v n 0
  · cases hi with
    | none => rfl
    | some v => exact clip_eq v n n
theorem places_gen (i j : Nat) : Builtin.Slice.slicePlaces (i : Int) (j : Int) 1 = j - i := by
  unfold Builtin.Slice.slicePlaces
  have h1 : (1 : Int) > 0 := by omega
  simp only [h1, if_true, Int.ediv_one]
  split <;> omega
theorem slicePart_ {v : Value} {o : Option Int} {Q : Option Int → Shared → Prop} (p : IsPart v o) (h : Q o s) : wpAny (model prog w) A (Builtin.Slice.slicePartIndex v) Q E s := by
  cases p with
  | none => exact slicePart_none h
  | int i t => exact slicePart_int h
theorem sliceApplied_gen {sl : Addr} {vl vu : Value} {lo hi : Option Int} {n : Nat} {Q : Int × Int × Nat → Shared → Prop} (hs : s.heap.IsSliceOf sl vl vu .none) (pl : IsPart vl lo) (pu : IsPart vu hi)
    (h : Q (((sIx n 0 lo : Nat) : Int), 1, sIx n n hi - sIx n 0 lo) s) : wpAny (model prog w) A (Builtin.Slice.sliceApplied (.ref sl) (pure (n : Int))) Q E s := by
  obtain ⟨os, hos, hcs, hds⟩ := id hs
  unfold Builtin.Slice.sliceApplied Builtin.Slice.sliceFields
  refine wpAny_bind (wpAny_bind (wpAny_field hos hds (x := vl) rfl (wpAny_bind (wpAny_field hos hds (x := vu) rfl (wpAny_bind (wpAny_field hos hds (x := .none) rfl (wpAny_pure ?_)))))))
  refine wpAny_bind (slicePart_none ?_)
  show wpAny _ _ (if ((1 : Int) == 0) = true then _ else _) _ _ s
  rw [if_neg (by decide)]
  refine wpAny_bind (slicePart_ pl (wpAny_bind (slicePart_ pu (wpAny_bind (wpAny_pure ?_)))))
  show wpAny _ _ (match Builtin.Slice.sliceAdjust lo hi 1 (n : Int) with | (lo, hi) => pure (lo, (1 : Int), Builtin.Slice.slicePlaces lo hi 1)) _ _ s
  rw [adjust_gen lo hi n]
  show wpAny _ _ (pure (((sIx n 0 lo : Nat) : Int), (1 : Int), Builtin.Slice.slicePlaces ((sIx n 0 lo : Nat) : Int) ((sIx n n hi : Nat) : Int) 1)) _ _ s
  rw [places_gen]
  exact wpAny_pure h
theorem pick_gen (xs : Array Value) (i k : Nat) : ((List.range k).filterMap fun (m : Nat) => xs[((i : Int) + (m : Int) * 1).toNat]?).toArray = ((xs.toList.drop i).take k).toArray := by
  have e : (fun (m : Nat) => xs[((i : Int) + (m : Int) * 1).toNat]?) = fun m => xs[i + m]? := by
    funext m
    have : ((i : Int) + (m : Int) * 1).toNat = i + m := by omega
    rw [this]
  rw [e]
  have := pick_run xs i k
  rw [List.filterMap_map] at this
  have e2 : ((fun x => xs[x]?) ∘ fun x => i + x) = fun m => xs[i + m]? := rfl
  rw [e2] at this
  rw [this]
theorem getItem_tuple_cut {t sl : Addr} {items : Array Value} {vl vu : Value} {lo hi : Option Int} {Q : Value → Shared → Prop} (ht : IsTup s.heap t items) (hs : s.heap.IsSliceOf sl vl vu .none) (pl : IsPart vl lo) (pu : IsPart vu hi)
    (hw : ¬ (sIx items.size 0 lo = 0 ∧ sIx items.size items.size hi = items.size))
    (h : Q (.ref s.heap.objs.size) { s with heap := s.heap.push { cls := .type "tuple", data := .seq ((items.toList.drop (sIx items.size 0 lo)).take (sIx items.size items.size hi - sIx items.size 0 lo)).toArray } })
    (hsz : items.size ≤ sizeLine) : wpAny (model prog w) A (getItem (.ref t) (.ref sl)) Q E s := by
  have htake : sizeOk (.seq ((items.toList.drop (sIx items.size 0 lo)).take (sIx items.size items.size hi - sIx items.size 0 lo)).toArray) := by
    show ((items.toList.drop (sIx items.size 0 lo)).take (sIx items.size items.size hi - sIx items.size 0 lo)).toArray.size ≤ sizeLine
    rw [List.size_toArray, List.length_take, List.length_drop, Array.length_toList]
    omega
  have hj : sIx items.size items.size hi ≤ items.size := sIx_le _ _ (Nat.le_refl _) hi
  obtain ⟨os, hos, hcs, hds⟩ := id hs
  have hTs : s.TypeIs (.ref sl) "slice" := ⟨os, hos, hcs⟩
  unfold getItem
  try with_reducible refine wpAny_holding ?_
  first | refine wpAny_bind (wpAny_pure ?_) | skip
  refine wpAny_bind (wpAny_sequenceKey ht.typeIs (by decide) ?_)
  refine wpAny_bind (wpAny_callSpecial?_slot (name := Str.ofString "__getitem__") ht.typeIs PyProof.Rows.slot_tuple_getitem
    (wpAny_call_entry PyProof.Rows.slot_tuple_getitem ht.typeIs entry_tuple_getitem ?_ (args_tuple_getitem _ _)))
  show wpAny _ _ (Builtin.Tuple.tupleItemsOf (.ref t) >>= _) _ _ s
  refine wpAny_bind (tupleItemsOf_ ht ?_)
  refine wpAny_bind (wpAny_typeOf hTs ?_)
  rw [if_pos (by decide)]
  refine wpAny_bind (sliceApplied_gen hs pl pu ?_)
  have hno : ¬ ((((sIx items.size 0 lo : Nat) : Int) == 0 && (1 : Int) == 1 && (sIx items.size items.size hi - sIx items.size 0 lo) == items.size) = true) := by
    intro q
    rw [Bool.and_eq_true, Bool.and_eq_true] at q
    have q1 : ((sIx items.size 0 lo : Nat) : Int) = 0 := eq_of_beq q.1.1
    have q2 : sIx items.size items.size hi - sIx items.size 0 lo = items.size := eq_of_beq q.2
    exact hw ⟨by omega, by omega⟩
  show wpAny _ _ (if (((sIx items.size 0 lo : Nat) : Int) == 0 && (1 : Int) == 1 && (sIx items.size items.size hi - sIx items.size 0 lo) == items.size) = true then _ else _) _ _ s
  rw [if_neg hno, pick_gen]
  first
    | exact wpAny_bind (m := Builtin.Tuple.tupleExact _) (wpAny_newObj_type (wpAny_pure ⟨_, rfl, wpAny_pure h⟩) htake)
    | exact wpAny_bind (m := Builtin.Tuple.tupleExact _) (wpAny_newObj_type (wpAny_bind (wpAny_pure (wpAny_pure ⟨_, rfl, wpAny_pure h⟩))) htake)
    | exact wpAny_bind (wpAny_bind (m := Builtin.Tuple.tupleExact _) (wpAny_newObj_type (wpAny_pure (wpAny_pure ⟨_, rfl, wpAny_pure h⟩)) htake))
    | exact wpAny_bind (wpAny_bind (m := Builtin.Tuple.tupleExact _) (wpAny_newObj_type (wpAny_pure ⟨_, rfl, wpAny_pure h⟩) htake))
end
end HT
namespace L2
open PySem PySem.Spec PyProof.Rows
abbrev TO := St → Hp → (Option Int → Hp → Prop) → Prop
def PO (X : Cx) (e : Option Expr) (t : TO) : Prop :=
  ∀ (pins : List (Addr × Obj)) (s : Shared) (σ : St) (H : Hp) (Q : Option Int → Hp → Prop), Inv X pins σ H s → t σ H Q →
    wpAny (model X.prog X.w) X.A (evalPart e X.env) (fun u s' => ∃ o H', Inv X pins σ H' s' ∧ IsPart u o ∧ Q o H') X.xe s
def tNoPart : TO := fun _ H Q => Q none H
def tPart (t : TE) : TO := fun σ H Q => t σ H fun x H1 => ∃ i, x = .int i ∧ Q (some i) H1
section
variable {X : Cx} {e : Expr} {te : TE} {lo hi : Option Expr} {tl th : TO} {pos p2 : Pos}
theorem po_none : PO X none tNoPart := by
  intro pins s σ H Q I h
  rw [evalPart_none]
  exact wpAny_pure ⟨none, H, I, .none, h⟩
theorem po_some (h : PE X e te) : PO X (some e) (tPart te) := by
  intro pins s σ H Q I hw
  rw [evalPart_some]
  refine thn (h pins s σ H _ I hw) fun u s1 ⟨x, H1, I1, r1, q1⟩ => ?_
  obtain ⟨i, rfl, q⟩ := q1
  obtain ⟨t, rfl⟩ := r1
  exact ⟨some i, H1, I1, .int i t, q⟩
def SlR (X : Cx) (r : V → Option Int → Option Int → Hp → VK → Prop) : Prop :=
  ∀ (pins : List (Addr × Obj)) (s : Shared) (σ : St) (H : Hp) (x : V) (v vl vu : Value) (lo hi : Option Int) (sl : Addr) (Q : VK), Inv X pins σ H s → RelV x v → s.heap.IsSliceOf sl vl vu .none → IsPart vl lo → IsPart vu hi → r x lo hi H Q →
    ∃ T id, typeLookup (.type T) "__getitem__" = pure (some (.builtin id)) ∧ s.TypeIs v T ∧ wpAny (model X.prog X.w) X.A (getItem v (.ref sl)) (EP X pins σ Q) X.xe s
theorem SlR.or {r r' : V → Option Int → Option Int → Hp → VK → Prop} (h : SlR X r) (h' : SlR X r') : SlR X (fun x lo hi H Q => r x lo hi H Q ∨ r' x lo hi H Q) := by
  intro pins s σ H x v vl vu lo hi sl Q I rx hs pl pu q
  rcases q with q | q
  · exact h pins s σ H x v vl vu lo hi sl Q I rx hs pl pu q
  · exact h' pins s σ H x v vl vu lo hi sl Q I rx hs pl pu q
def tSl (r : V → Option Int → Option Int → Hp → VK → Prop) (te : TE) (tl th : TO) : TE := fun σ H Q => te σ H fun x H1 => tl σ H1 fun l H2 => th σ H2 fun u H3 => r x l u H3 Q
theorem pe_slice {r : V → Option Int → Option Int → Hp → VK → Prop} (hr : SlR X r) (he : PE X e te) (hl : PO X lo tl) (hu : PO X hi th) : PE X (.Subscript e (.Slice lo hi none p2) pos) (tSl r te tl th) := by
  intro pins s σ H Q I h
  refine Subscript_ (thn (he pins s σ H _ I h) fun v s1 ⟨x, H1, I1, r1, q1⟩ => ?_)
  refine wpAny_Slice (thn (hl pins s1 σ H1 _ I1 q1) fun vl s2 ⟨l, H2, I2, pl, q2⟩ => thn (hu pins s2 σ H2 _ I2 q2) fun vu s3 ⟨u, H3, I3, pu, q3⟩ => ?_)
  rw [evalPart_none]
  refine wpAny_pure ?_
  have I4 : Inv X pins σ H3 { s3 with heap := s3.heap.push { cls := .type "slice", data := .fields #[vl, vu, .none] } } := I3.kept (t' := s3.toks) fun b ob q => Heap.get?_push_of_some _ q
  obtain ⟨T, id, hT, ht, hg⟩ := hr pins { s3 with heap := s3.heap.push { cls := .type "slice", data := .fields #[vl, vu, .none] } } σ H3 x v vl vu l u s3.heap.objs.size Q I4 r1 (Heap.IsSliceOf.new ..) pl pu q3
  show wpAny (model X.prog X.w) X.A (subscriptTail e (.Slice lo hi none p2) v (.ref s3.heap.objs.size)) (EP X pins σ Q) X.xe { s3 with heap := s3.heap.push { cls := .type "slice", data := .fields #[vl, vu, .none] } }
  exact tail_any (ops := [.ref s3.heap.objs.size, v]) ht hT hg (by with_unfolding_all rfl)
def cutV (xs : List V) (lo hi : Option Int) : List V := (xs.drop (HT.sIx xs.length 0 lo)).take (HT.sIx xs.length xs.length hi - HT.sIx xs.length 0 lo)
theorem cutV_length (xs : List V) (lo hi : Option Int) : (cutV xs lo hi).length ≤ xs.length := by
  unfold cutV
  rw [List.length_take, List.length_drop]
  omega
def rSlT (K : PySem.W.Frag) : V → Option Int → Option Int → Hp → VK → Prop := fun x lo hi H Q => ∃ a xs, x = .ref a ∧ SqT K H a xs ∧
  ¬ (HT.sIx xs.length 0 lo = 0 ∧ HT.sIx xs.length xs.length hi = xs.length) ∧ ∀ p, H p = none → Q (.ref p) (upd H p (.tup (cutV xs lo hi)))
theorem sl_tup : SlR X (rSlT X.K) := by
  intro pins s σ H x v vl vu lo hi sl Q I rx hs pl pu h
  obtain ⟨a, xs, rfl, hx, hw, q⟩ := h
  cases rx
  obtain ⟨its, r, ht, hz⟩ := I.tuple hx
  have hlen : its.toArray.size = xs.length := by rw [List.size_toArray]; exact r.length.symm
  refine ⟨"tuple", _, PyProof.Rows.slot_tuple_getitem.lookup, ht.typeIs, ?_⟩
  refine HT.getItem_tuple_cut ht hs pl pu (by rw [hlen]; exact hw) ?_ (by rw [hlen]; exact hz)
  rw [hlen]
  refine ⟨.ref s.heap.objs.size, _, I.laid (t' := s.toks) (o := .tup (cutV xs lo hi)) (fun b ob q => Heap.get?_push_of_some _ q) (Nat.le_refl _) ?_, rfl, q _ (I.hok.fresh (Nat.le_refl _))⟩
  exact ⟨Nat.le_trans (cutV_length xs lo hi) hz, _, (r.drop (HT.sIx xs.length 0 lo)).take (HT.sIx xs.length xs.length hi - HT.sIx xs.length 0 lo), IsTup.new _ _⟩
end
end L2
namespace L2
open PySem PySem.Spec PyProof.Rows
def ixN (n : Nat) (i : Int) : Option Nat := if 0 ≤ i then (if i < n then some i.toNat else none) else if -(n : Int) ≤ i then some (i + n).toNat else none
def atI {α : Type} (xs : List α) (i : Int) : Option α := (ixN xs.length i).bind fun j => xs[j]?
theorem ixN_seq {n : Nat} {i : Int} {j : Nat} (h : ixN n i = some j) : seqIndex? i n = some j ∧ j < n ∧ -(n : Int) ≤ i ∧ i < n := by
  unfold ixN at h
  by_cases h0 : 0 ≤ i
  · rw [if_pos h0] at h
    by_cases h1 : i < n
    · rw [if_pos h1] at h
      have e : i.toNat = j := Option.some.inj h
      exact ⟨by rw [seqIndex_of h0 h1, e], by omega, by omega, h1⟩
    · rw [if_neg h1] at h; cases h
  · rw [if_neg h0] at h
    by_cases h1 : -(n : Int) ≤ i
    · rw [if_pos h1] at h
      have e : (i + n).toNat = j := Option.some.inj h
      exact ⟨by rw [seqIndex_neg (by omega) h1, e], by omega, h1, by omega⟩
    · rw [if_neg h1] at h; cases h
theorem atI_get {α : Type} {xs : List α} {i : Int} {v : α} (h : atI xs i = some v) : ∃ j, seqIndex? i xs.length = some j ∧ xs[j]? = some v ∧ j < xs.length ∧ -(xs.length : Int) ≤ i ∧ i < xs.length := by
  unfold atI at h
  cases e : ixN xs.length i with
  | none => rw [e] at h; cases h
  | some j =>
    rw [e] at h
    obtain ⟨h1, h2, h3, h4⟩ := ixN_seq e
    exact ⟨j, h1, h, h2, h3, h4⟩
theorem atI_nat {α : Type} {xs : List α} {j : Nat} {v : α} (h : xs[j]? = some v) : atI xs (j : Int) = some v := by
  have hj : j < xs.length := (List.getElem?_eq_some_iff.mp h).1
  have e : ixN xs.length (j : Int) = some j := by
    unfold ixN
    rw [if_pos (by omega), if_pos (by omega)]; simp
  unfold atI; rw [e]; exact h
def PlainIx (b : Expr) : Prop := ∀ o i, subscripted b false o i = operate [o, i] (getItem o i)
def IxR (X : Cx) (r : R2) : Prop :=
  ∀ (value slice : Expr) (pins : List (Addr × Obj)) (s : Shared) (σ : St) (H : Hp) (x y : V) (v u : Value) (Q : VK), Inv X pins σ H s → RelV x v → RelV y u → r x y H Q →
    subscripted slice false v u = operate [v, u] (getItem v u) → wpAny (model X.prog X.w) X.A (subscriptTail value slice v u) (EP X pins σ Q) X.xe s
def MtR (X : Cx) (id : String) (r : V → List V → Hp → VK → Prop) : Prop :=
  ∀ (pins : List (Addr × Obj)) (s : Shared) (σ : St) (H : Hp) (x : V) (xs : List V) (v : Value) (us : List Value) (Q : VK), Inv X pins σ H s → RelV x v → Vals xs us → r x xs H Q →
    wpAny (model X.prog X.w) X.A (call (.builtin id) (v :: us)) (EP X pins σ Q) X.xe s
section
variable {X : Cx} {a b : Expr} {ta tb : TE} {pos : Pos}
theorem IxR.or {r r' : R2} (h : IxR X r) (h' : IxR X r') : IxR X (fun x y H Q => r x y H Q ∨ r' x y H Q) := by
  intro value slice pins s σ H x y v u Q I rx ry q hs
  rcases q with q | q
  · exact h value slice pins s σ H x y v u Q I rx ry q hs
  · exact h' value slice pins s σ H x y v u Q I rx ry q hs
theorem MtR.or {id : String} {r r' : V → List V → Hp → VK → Prop} (h : MtR X id r) (h' : MtR X id r') : MtR X id (fun x xs H Q => r x xs H Q ∨ r' x xs H Q) := by
  intro pins s σ H x xs v us Q I rx rs q
  rcases q with q | q
  · exact h pins s σ H x xs v us Q I rx rs q
  · exact h' pins s σ H x xs v us Q I rx rs q
theorem pe_ix {r : R2} (hr : IxR X r) (ha : PE X a ta) (hb : PE X b tb) (hs : PlainIx b) : PE X (.Subscript a b pos) (tOp r ta tb) := by
  intro pins s σ H Q I h
  exact Subscript_ (binT ha hb I h fun v u s2 x y H2 I2 rx ry q => hr a b pins s2 σ H2 x y v u Q I2 rx ry q (hs _ _))
def rIxL (K : PySem.W.Frag) : R2 := fun x y H Q => ∃ p xs i v, x = .ref p ∧ y = .int i ∧ SqL K H p xs ∧ atI xs i = some v ∧ Q v H
def rIxT (K : PySem.W.Frag) : R2 := fun x y H Q => ∃ p xs i v, x = .ref p ∧ y = .int i ∧ SqT K H p xs ∧ atI xs i = some v ∧ Q v H
def rIxS : R2 := fun x y H Q => ∃ z i c, x = .str z ∧ y = .int i ∧ z.length ≤ sizeLine ∧ atI z.cps.toList i = some c ∧ Q (.str ⟨#[c]⟩) H
theorem ix_list : IxR X (rIxL X.K) := by
  intro value slice pins s σ H x y v u Q I rx ry h hs
  obtain ⟨p, xs, i, z, rfl, rfl, hq, he, q⟩ := h
  cases rx
  obtain ⟨t, rfl⟩ := ry
  obtain ⟨its, r, pl, hz⟩ := I.list hq
  obtain ⟨j, h1, h2, h3, h4, h5⟩ := atI_get he
  obtain ⟨w, ew, rw'⟩ := r.get h2
  have hl := r.length
  have hn := line63
  have fin : EP X pins σ Q w s := ⟨z, H, I, rw', q⟩
  by_cases h0 : 0 ≤ i
  · have hj : i.toNat = j := by
      rw [seqIndex_of h0 h5] at h1
      exact Option.some.inj h1
    exact item_listR pl.isList h0 (by omega) (by rw [hj]; simpa using ew) fin hs
  · have hj : (i + (its.toArray.size : Int)).toNat = j := by
      rw [seqIndex_neg (by omega) h4] at h1
      rw [List.size_toArray, ← hl]
      exact Option.some.inj h1
    exact subscriptTail_builtinR (x := w) pl.isList.typeIs slot_list_getitem.lookup
      (wpAny_getItem_list_neg (Q := fun r s' => r = w ∧ EP X pins σ Q r s') pl.isList (by omega) (by rw [List.size_toArray] <;> omega) (by omega) (by rw [hj]; simpa using ew) ⟨rfl, fin⟩) hs
theorem ix_tup : IxR X (rIxT X.K) := by
  intro value slice pins s σ H x y v u Q I rx ry h hs
  obtain ⟨p, xs, i, z, rfl, rfl, hq, he, q⟩ := h
  cases rx
  obtain ⟨t, rfl⟩ := ry
  obtain ⟨its, r, pl, hz⟩ := I.tuple hq
  obtain ⟨j, h1, h2, h3, h4, h5⟩ := atI_get he
  obtain ⟨w, ew, rw'⟩ := r.get h2
  have hl := r.length
  have hn := line63
  have fin : EP X pins σ Q w s := ⟨z, H, I, rw', q⟩
  exact subscriptTail_builtinR (x := w) pl.typeIs slot_tuple_getitem.lookup
    (getItem_tuple (j := j) (Q := fun r s' => r = w ∧ EP X pins σ Q r s') pl (by omega) (by omega) (by rw [List.size_toArray, ← hl]; exact h1) (by simpa using ew) ⟨rfl, fin⟩) hs
theorem ix_str : IxR X rIxS := by
  intro value slice pins s σ H x y v u Q I rx ry h hs
  obtain ⟨z, i, c, rfl, rfl, hz, he, q⟩ := h
  obtain ⟨t, rfl⟩ := rx
  obtain ⟨t', rfl⟩ := ry
  obtain ⟨j, h1, h2, h3, h4, h5⟩ := atI_get he
  have hl : z.cps.toList.length = z.length := by simp [Str.length]
  rw [hl] at h1 h4 h5
  have hn := line63
  exact tail_any (typeIs_str s z t) slot_str_getitem.lookup (getItem_str (c := c) (by
    have e1 : decide (i < -(2 ^ 63 : Int)) = false := decide_eq_false (by omega)
    have e2 : decide (i ≥ 2 ^ 63) = false := decide_eq_false (by omega)
    rw [e1, e2, Bool.or_false]) (by rw [h1]; simpa using h2) ⟨.str ⟨#[c]⟩, H, I.tok _, ⟨_, rfl⟩, q⟩) hs
def rIx (K : PySem.W.Frag) : R2 := fun x y H Q => rIxL K x y H Q ∨ rIxT K x y H Q ∨ rIxS x y H Q
theorem ix_seq : IxR X (rIx X.K) := ix_list.or (ix_tup.or ix_str)
theorem mapSeq_set (its : List Value) (n j : Nat) (u : Value) : Obj.mapSeq (·.setIfInBounds j u) { cls := .type "list", data := .seq its.toArray n } = { cls := .type "list", data := .seq (its.set j u).toArray n } := by
  simp [Obj.mapSeq]
theorem Inv.lst {pins : List (Addr × Obj)} {σ : St} {H : Hp} {s : Shared} {p : Addr} {xs : List V} (I : Inv X pins σ H s) (h : H p = some (.lst xs)) :
    ∃ (its : List Value) (n : Nat), Vals xs its ∧ s.heap.get? p = some { cls := .type "list", data := .seq its.toArray n } ∧ xs.length ≤ sizeLine := by
  obtain ⟨z, its, n, r, e⟩ := I.hok p _ h
  exact ⟨its, n, r, e, z⟩
theorem Inv.lstUpd {pins : List (Addr × Obj)} {σ : St} {H : Hp} {s : Shared} {p : Addr} {xs ys : List V} {its its' : List Value} {n n' : Nat} {f : Obj → Obj} (I : Inv X pins σ H s) (h : H p = some (.lst xs))
    (ho : s.heap.get? p = some { cls := .type "list", data := .seq its.toArray n }) (hf : f { cls := .type "list", data := .seq its.toArray n } = { cls := .type "list", data := .seq its'.toArray n' }) (r : Vals ys its') (hz : ys.length ≤ sizeLine) (t : Nat) :
    Inv X pins σ (upd H p (.lst ys)) { s with heap := s.heap.update p f, toks := t } := by
  have e : (s.heap.update p f).get? p = some { cls := .type "list", data := .seq its'.toArray n' } := by
    rw [Heap.get?_update_self f ho (by rw [hf] <;> rfl), hf]
  refine I.write (x := p) (e := p) (by rw [h]; trivial) (.inl rfl) (fun b u hb q => (Heap.get?_update_other _ _ (Ne.symm hb)).trans q) ⟨_, e⟩ ?_
  exact ⟨hz, its', n', r, e⟩
def rSetL : V → V → V → Hp → (Hp → Prop) → Prop := fun o i v H Q => ∃ p xs k j, o = .ref p ∧ i = .int k ∧ H p = some (.lst xs) ∧ ixN xs.length k = some j ∧ Q (upd H p (.lst (xs.set j v)))
theorem set_list : PSet X rSetL := by
  intro pins s σ H o i v ov iv u Q I ro ri rv h
  obtain ⟨p, xs, k, j, rfl, rfl, hp, hj, q⟩ := h
  cases ro
  obtain ⟨t, rfl⟩ := ri
  obtain ⟨its, n, r, ho, hz⟩ := I.lst hp
  obtain ⟨h1, h2, h3, h4⟩ := ixN_seq hj
  have hl := r.length
  have hn := line63
  have I' : Inv X pins σ (upd H p (.lst (xs.set j v))) { s with heap := s.heap.update p (Obj.mapSeq (·.setIfInBounds j u)) } :=
    I.lstUpd hp ho (mapSeq_set its n j u) (r.set rv j) (by rw [List.length_set]; exact hz) s.toks
  by_cases h0 : 0 ≤ k
  · have hk : k.toNat = j := by
      rw [seqIndex_of h0 h4] at h1
      exact Option.some.inj h1
    exact PySem.W.ki_setAt ho h0 (by omega) (by rw [List.size_toArray, ← hl]; exact h4) (by rw [hk]; exact ⟨_, I', q⟩)
  · have hk : (k + (its.toArray.size : Int)).toNat = j := by
      rw [seqIndex_neg (by omega) h3] at h1
      rw [List.size_toArray, ← hl]
      exact Option.some.inj h1
    exact PySem.W.ki_setBack ho (by omega) (by rw [List.size_toArray, ← hl]; exact h3) (by omega) (by rw [hk]; exact ⟨_, I', q⟩)
theorem slice_bounds (lo hi : Option Int) (n : Nat) : (sliceBounds lo hi none n).1 = ((HT.sIx n 0 lo : Nat) : Int) ∧ (sliceBounds lo hi none n).2.1 = ((HT.sIx n n hi : Nat) : Int) ∧ (sliceBounds lo hi none n).2.2 = 1 := by
  refine ⟨?_, ?_, rfl⟩
  · cases lo with
    | none => simp [sliceBounds, HT.sIx]
    | some i =>
      simp only [sliceBounds, HT.sIx, Option.getD_none, show (1 : Int) > 0 by decide, if_true]
      by_cases h : i < 0
      · simp only [h, if_true] <;> omega
      · simp only [h, if_false] <;> omega
  · cases hi with
    | none => simp [sliceBounds, HT.sIx]
    | some i =>
      simp only [sliceBounds, HT.sIx, Option.getD_none, show (1 : Int) > 0 by decide, if_true]
      by_cases h : i < 0
      · simp only [h, if_true] <;> omega
      · simp only [h, if_false] <;> omega
theorem slicePick_cut (its : List Value) (lo hi : Option Int) : slicePick its.toArray lo hi none = ((its.drop (HT.sIx its.length 0 lo)).take (HT.sIx its.length its.length hi - HT.sIx its.length 0 lo)).toArray := by
  obtain ⟨h1, h2, h3⟩ := slice_bounds lo hi its.toArray.size
  unfold slicePick
  rw [h1, h2, h3]
  simp only [sliceRange_one, pick_run, List.size_toArray] <;> rfl
def rSlL (K : PySem.W.Frag) : V → Option Int → Option Int → Hp → VK → Prop := fun x lo hi H Q => ∃ a xs, x = .ref a ∧ SqL K H a xs ∧ ∀ p, H p = none → Q (.ref p) (upd H p (.lst (cutV xs lo hi)))
theorem sl_list : SlR X (rSlL X.K) := by
  intro pins s σ H x v vl vu lo hi sl Q I rx hs pl pu h
  obtain ⟨a, xs, rfl, hx, q⟩ := h
  cases rx
  obtain ⟨its, r, ht, hz⟩ := I.list hx
  have hlen := r.length
  refine ⟨"list", _, slot_list_getitem.lookup, ht.isList.typeIs, ?_⟩
  refine wpAny_getItem_list_slice ht.isList hs pl pu .none (by simp) ?_ (by rw [List.size_toArray] <;> omega)
  rw [slicePick_cut, ← hlen]
  refine ⟨.ref s.heap.objs.size, _, I.laid (t' := s.toks) (o := .lst (cutV xs lo hi)) (fun b ob q => Heap.get?_push_of_some _ q) (Nat.le_refl _) ?_, rfl, q _ (I.hok.fresh (Nat.le_refl _))⟩
  exact ⟨Nat.le_trans (cutV_length xs lo hi) hz, _, 0, (r.drop (HT.sIx xs.length 0 lo)).take (HT.sIx xs.length xs.length hi - HT.sIx xs.length 0 lo), Heap.get?_push_size _ rfl⟩
def flatV : V → Bool
  | .non => true
  | .bl _ => true
  | .int _ => true
  | .str _ => true
  | _ => false
def eqV : V → V → Bool
  | .non, .non => true
  | .bl a, .bl b => a == b
  | .bl a, .int b => (if a then 1 else 0) == b
  | .int a, .bl b => a == (if b then 1 else 0)
  | .int a, .int b => a == b
  | .str a, .str b => a == b
  | _, _ => false
theorem eqAt_V {A : Around} {s : Shared} {y x : V} {u v : Value} (ry : RelV y u) (rx : RelV x v) (fy : flatV y = true) (fx : flatV x = true) : SeqAt.EqAt A s u v (eqV y x) := by
  cases y with
  | non =>
    cases ry
    cases x with
    | non => cases rx; exact SeqAt.EqAt.same _
    | bl b => cases rx; exact SeqAt.EqAt.none_bool b
    | int b => obtain ⟨t, rfl⟩ := rx; exact SeqAt.EqAt.none_int b t
    | str b => obtain ⟨t, rfl⟩ := rx; exact SeqAt.EqAt.none_str b t
    | _ => exact absurd (show false = true from fx) Bool.false_ne_true
  | bl a =>
    cases ry
    cases x with
    | non => cases rx; exact SeqAt.EqAt.bool_none a
    | bl b => cases rx; exact SeqAt.EqAt.bool_bool a b
    | int b => obtain ⟨t, rfl⟩ := rx; exact SeqAt.EqAt.bool_int a b t
    | str b => obtain ⟨t, rfl⟩ := rx; exact SeqAt.EqAt.bool_str a b t
    | _ => exact absurd (show false = true from fx) Bool.false_ne_true
  | int a =>
    obtain ⟨t', rfl⟩ := ry
    cases x with
    | non => cases rx; exact SeqAt.EqAt.int_none a t'
    | bl b => cases rx; exact SeqAt.EqAt.int_bool a t' b
    | int b => obtain ⟨t, rfl⟩ := rx; exact SeqAt.EqAt.int_int a t' b t
    | str b => obtain ⟨t, rfl⟩ := rx; exact SeqAt.EqAt.int_str a t' b t
    | _ => exact absurd (show false = true from fx) Bool.false_ne_true
  | str a =>
    obtain ⟨t', rfl⟩ := ry
    cases x with
    | non => cases rx; exact SeqAt.EqAt.str_none a t'
    | bl b => cases rx; exact SeqAt.EqAt.str_bool a t' b
    | int b => obtain ⟨t, rfl⟩ := rx; exact SeqAt.EqAt.str_int a t' b t
    | str b => obtain ⟨t, rfl⟩ := rx; exact SeqAt.EqAt.str_str a t' b t
    | _ => exact absurd (show false = true from fx) Bool.false_ne_true
  | _ => exact absurd (show false = true from fy) Bool.false_ne_true
theorem call_len_seq : CallR X (.builtin "len") (fun xs H Q => ∃ p ys, xs = [.ref p] ∧ (SqL X.K H p ys ∨ SqT X.K H p ys) ∧ Q (.int ys.length) H) := by
  intro pins s σ H xs us Q I r h
  obtain ⟨p, ys, rfl, hq, q⟩ := h
  obtain ⟨u, rfl, rx⟩ := vals1 r
  cases rx
  have hn := line63
  rcases hq with hq | hq
  · obtain ⟨its, r', pl, hz⟩ := I.list hq
    have hlen := r'.length
    exact Calls.call_len_list pl.isList (by simp only [List.size_toArray] <;> omega) ⟨.int ys.length, H, I.tok _, ⟨s.toks + 1, by rw [List.size_toArray, hlen]⟩, q⟩
  · obtain ⟨its, r', pl, hz⟩ := I.tuple hq
    have hlen := r'.length
    exact len_tuple pl (by simp only [List.size_toArray] <;> omega) ⟨.int ys.length, H, I.tok _, ⟨s.toks + 1, by rw [List.size_toArray, hlen]⟩, q⟩
theorem call_len_str : CallR X (.builtin "len") (fun xs H Q => ∃ z, xs = [.str z] ∧ z.length ≤ sizeLine ∧ Q (.int z.length) H) := by
  intro pins s σ H xs us Q I r h
  obtain ⟨z, rfl, hz, q⟩ := h
  obtain ⟨u, rfl, t, rfl⟩ := vals1 r
  have hn := line63
  exact len_str (by omega) ⟨.int z.length, H, I.tok _, ⟨_, rfl⟩, q⟩
theorem CallR.or {f : Value} {r r' : List V → Hp → VK → Prop} (h : CallR X f r) (h' : CallR X f r') : CallR X f (fun xs H Q => r xs H Q ∨ r' xs H Q) := by
  intro pins s σ H xs us Q I rs q
  rcases q with q | q
  · exact h pins s σ H xs us Q I rs q
  · exact h' pins s σ H xs us Q I rs q
def tyV (K : PySem.W.Frag) (T : String) (x : V) (H : Hp) : Prop := match x with
  | .str _ => T = "str"
  | .int _ => T = "int"
  | .ref p => (T = "list" ∧ ∃ xs, SqL K H p xs) ∨ (T = "tuple" ∧ ∃ o, K.lookup p = some o ∧ o.cls = .type "tuple" ∧ o.dict = none) ∨
      (T = "dict" ∧ ((∃ kvs, H p = some (.dK kvs)) ∨ ∃ kvs, H p = some (.dT kvs))) ∨ (T = "set" ∧ ∃ S n, H p = some (.set S n))
  | _ => False
theorem tyV_is {pins : List (Addr × Obj)} {σ : St} {H : Hp} {s : Shared} {T : String} {x : V} {v : Value} (I : Inv X pins σ H s) (r : RelV x v) (ty : tyV X.K T x H) :
    s.TypeIs v T ∧ ∀ a, v = .ref a → ∃ ob, s.heap.get? a = some ob ∧ ob.dict = none := by
  cases x with
  | str z =>
    obtain ⟨t, rfl⟩ := r
    cases (show T = "str" from ty)
    exact ⟨typeIs_str s z t, fun _ e => nomatch e⟩
  | int i =>
    obtain ⟨t, rfl⟩ := r
    cases (show T = "int" from ty)
    exact ⟨typeIs_int s i t, fun _ e => nomatch e⟩
  | ref p =>
    cases r
    rcases ty with ⟨rfl, xs, hq⟩ | ⟨rfl, o, hk, hc, hd⟩ | ⟨rfl, hk⟩ | ⟨rfl, S, n, hk⟩
    · obtain ⟨its, _, pl, _⟩ := I.list hq
      refine ⟨pl.isList.typeIs, fun a e => ?_⟩
      cases e
      obtain ⟨o, n, e, c, hd, _⟩ := pl
      exact ⟨o, e, hd⟩
    · refine ⟨⟨o, I.kIn p o hk, hc⟩, fun a e => ?_⟩
      cases e
      exact ⟨o, I.kIn _ o hk, hd⟩
    · have z : ∃ o, s.heap.get? p = some o ∧ o.ExactDict := by
        rcases hk with ⟨kvs, hk⟩ | ⟨kvs, hk⟩
        · obtain ⟨_, _, _, _, o, _, _, e, ex, _⟩ := I.hok p _ hk
          exact ⟨o, e, ex⟩
        · obtain ⟨_, _, _, _, o, _, _, e, ex, _⟩ := I.hok p _ hk
          exact ⟨o, e, ex⟩
      obtain ⟨o, e, ex⟩ := z
      refine ⟨⟨o, e, ex.1⟩, fun a e2 => ?_⟩
      cases e2
      exact ⟨o, e, ex.2.1⟩
    · obtain ⟨o, _, _, _, e, ex, _⟩ := I.hok p _ hk
      refine ⟨⟨o, e, ex.1⟩, fun a e2 => ?_⟩
      cases e2
      exact ⟨o, e, ex.2.1⟩
  | _ => exact False.elim ty
def tBM0 (K : PySem.W.Frag) (T : String) (r : V → List V → Hp → VK → Prop) (to : TE) : TE := fun σ H Q => to σ H fun x H1 => tyV K T x H1 ∧ r x [] H1 Q
def tBM (K : PySem.W.Frag) (T : String) (r : V → List V → Hp → VK → Prop) (to : TE) (t : TA) : TE := fun σ H Q => to σ H fun x H1 => tyV K T x H1 ∧ t σ H1 fun xs H2 => r x xs H2 Q
variable {o e : Expr} {es : List Expr} {to : TE} {t : TA} {name : Str} {apos cpos : Pos} {T id : String} {r : V → List V → Hp → VK → Prop}
theorem pe_bm0 (pa : PlainAttrs T) (slot : Slot T name id) (hty : typeOf (.builtin id) = pure (.type "method_descriptor")) (hm : MtR X id r) (ho : PE X o to)
    (hbase : attributeBase o name X.env (eval o X.env) = eval o X.env := by rfl) (hline : (apos.endLine == cpos.line) = true := by rfl) : PE X (.Call (.Attribute o name apos) [] [] cpos) (tBM0 X.K T r to) := by
  intro pins s σ H Q I h
  refine wpAny_Call_method0_late hbase hline (thn (ho pins s σ H _ I h) fun v s1 ⟨x, H1, I1, r1, ty, q1⟩ => ?_)
  obtain ⟨h1, h2⟩ := tyV_is I1 r1 ty
  exact ⟨T, id, pa, slot, hty, h1, h2, Calls.callWith_builtin rfl (PySem.evalArgs_none (hm pins s1 σ H1 x [] v [] Q I1 r1 .nil q1))⟩
theorem pe_bm (pa : PlainAttrs T) (slot : Slot T name id) (hty : typeOf (.builtin id) = pure (.type "method_descriptor")) (hm : MtR X id r) (ho : PE X o to) (ha : PA X (e :: es) t)
    (hbase : attributeBase o name X.env (eval o X.env) = eval o X.env := by rfl)
    (hfew : ((backTo cpos (starEach (e :: es) X.env)).all (fun x => !x.1) && (backToKw cpos (keywordEach [] X.env)).all (fun x => x.1.isSome)
      && decide ((e :: es).length + ([] : List Keyword).length + (if ([] : List Keyword).isEmpty then 0 else 1) < 30)) = true := by rfl)
    (hline : (apos.endLine == cpos.line) = true := by rfl) (hs : starEach (e :: es) X.env = (false, eval e X.env) :: starEach es X.env := by rfl) (hplain : (backTo cpos (starEach es X.env)).any (·.1) = false := by rfl) :
    PE X (.Call (.Attribute o name apos) (e :: es) [] cpos) (tBM X.K T r to t) := by
  intro pins s σ H Q I h
  refine wpAny_Call_method_late hbase hfew hline rfl (thn (ho pins s σ H _ I h) fun v s1 ⟨x, H1, I1, r1, ty, q1⟩ => ?_)
  obtain ⟨h1, h2⟩ := tyV_is I1 r1 ty
  refine ⟨T, id, pa, slot, hty, h1, h2, ?_⟩
  have hA := ha cpos pins s1 σ H1 _ I1 q1
  rw [hs] at hA ⊢
  refine Calls.callWith_builtin (by show (false || (backTo cpos (starEach es X.env)).any (·.1)) = false; rw [hplain] <;> rfl) (Calls.evalArgs_plain ?_)
  exact thn hA fun us s2 ⟨vs, H2, I2, r2, q2⟩ => hm pins s2 σ H2 x vs v us Q I2 r1 r2 q2
end
end L2
namespace L2
open PySem PySem.Spec PyProof.Rows
def MtM (X : Cx) (id : String) (r : V → List V → Hp → VK → Prop) : Prop :=
  ∀ (pins : List (Addr × Obj)) (s : Shared) (σ : St) (H : Hp) (x : V) (xs : List V) (v : Value) (us : List Value) (Q : VK), Inv X pins σ H s → RelV x v → Vals xs us → r x xs H Q →
    wpAny (model X.prog X.w) X.A (call (.builtin id) (v :: us)) (EP X pins σ Q) X.xe s
theorem Vals.one : ∀ {x : V} {us : List Value}, Vals [x] us → ∃ u, us = [u] ∧ RelV x u
  | _, _, .cons r .nil => ⟨_, rfl, r⟩
theorem Vals.two : ∀ {x y : V} {us : List Value}, Vals [x, y] us → ∃ u v, us = [u, v] ∧ RelV x u ∧ RelV y v
  | _, _, _, .cons r (.cons q .nil) => ⟨_, _, rfl, r, q⟩
theorem Vals.zero : ∀ {us : List Value}, Vals [] us → us = []
  | _, .nil => rfl
theorem Vals.dropLast {xs : List V} {us : List Value} (h : Vals xs us) : Vals xs.dropLast us.dropLast := by
  induction h with
  | nil => exact .nil
  | cons r t ih =>
    cases t with
    | nil => exact .nil
    | cons q t' => exact .cons r ih
theorem Vals.eraseIdx : ∀ {xs : List V} {us : List Value} (i : Nat), Vals xs us → Vals (xs.eraseIdx i) (us.eraseIdx i)
  | _, _, _, .nil => .nil
  | _, _, 0, .cons _ t => t
  | _, _, i + 1, .cons r t => .cons r (Vals.eraseIdx i t)
theorem Vals.reverse {xs : List V} {us : List Value} (h : Vals xs us) : Vals xs.reverse us.reverse := by
  induction h with
  | nil => exact .nil
  | cons r t ih => rw [List.reverse_cons, List.reverse_cons]; exact Vals.append ih (.cons r .nil)
theorem erase_last {α : Type} (l : List α) : l.eraseIdx (l.length - 1) = l.dropLast := by
  induction l with
  | nil => rfl
  | cons a r ih =>
    cases r with
    | nil => rfl
    | cons b r =>
      have e : (a :: b :: r).length - 1 = ((b :: r).length - 1) + 1 := by
        have h1 : (a :: b :: r).length = r.length + 2 := rfl
        have h2 : (b :: r).length = r.length + 1 := rfl
        omega
      rw [e, List.eraseIdx_cons_succ, ih]
      all_goals rfl
section
variable {X : Cx} {pins : List (Addr × Obj)} {σ : St} {H : Hp} {s : Shared} {l b : Addr} {xs ys zs : List V}
theorem Inv.lset {its its' : List Value} {n : Nat} {f : Array Value → Array Value} {t' : Nat} (I : Inv X pins σ H s) (hH : H l = some (.lst xs))
    (e : s.heap.get? l = some { cls := .type "list", data := .seq its.toArray n }) (hf : f its.toArray = its'.toArray) (hv : Vals ys its') (hz : ys.length ≤ sizeLine) :
    Inv X pins σ (upd H l (.lst ys)) { s with heap := s.heap.update l (Obj.mapSeq f), toks := t' } := by
  have q := PySem.IsL.update e f
  rw [hf] at q
  refine I.write (x := l) (e := l) (by rw [hH]; exact trivial) (.inl rfl) (fun b' u hb hu => (Heap.get?_update_other s.heap (Obj.mapSeq f) (Ne.symm hb)).trans hu) ⟨_, q⟩ ?_
  exact ⟨hz, its', _, hv, q⟩
theorem Inv.lnew {its : List Value} {t' : Nat} (I : Inv X pins σ H s) (hv : Vals ys its) (hz : ys.length ≤ sizeLine) :
    Inv X pins σ (upd H s.heap.objs.size (.lst ys)) { s with heap := s.heap.push { cls := .type "list", data := .seq its.toArray }, toks := t' } :=
  I.laid (fun _ _ q => Heap.get?_push_of_some _ q) (Nat.le_refl _) ⟨hz, its, 0, hv, Heap.get?_push_size _ rfl⟩
theorem Inv.fresh (I : Inv X pins σ H s) : H s.heap.objs.size = none := I.hok.fresh (Nat.le_refl _)
theorem Inv.lstM (I : Inv X pins σ H s) (hH : H l = some (.lst xs)) : xs.length ≤ sizeLine ∧ ∃ (its : List Value) (n : Nat), Vals xs its ∧ xs.length = its.length ∧ s.heap.get? l = some { cls := .type "list", data := .seq its.toArray n } := by
  obtain ⟨z, its, n, r, e⟩ := I.hok l _ hH
  exact ⟨z, its, n, r, r.length, e⟩
end
section
variable {X : Cx}
def rAppend : V → List V → Hp → VK → Prop := fun x vs H Q => ∃ l xs y, x = .ref l ∧ vs = [y] ∧ H l = some (.lst xs) ∧ xs.length < sizeLine ∧ Q .non (upd H l (.lst (xs ++ [y])))
theorem mt_append : MtM X "list.append" rAppend := by
  intro pins s σ H x vs v us Q I rx rv h
  obtain ⟨l, xs, y, rfl, rfl, hH, hz, q⟩ := h
  cases rx
  obtain ⟨u, rfl, ru⟩ := rv.one
  obtain ⟨z, its, n, r, hl, e⟩ := I.lstM hH
  refine call_meets F.slot_list_append ⟨_, e, rfl⟩ F.entry_list_append (F.args_list_append_2 _ _) (PySem.list_append l its.toArray n u (by rw [List.size_toArray]; omega)) ⟨e, ?_⟩
  refine ⟨.non, _, I.lset (its' := its ++ [u]) hH e (by simp) (r.append (.cons ru .nil)) ?_, rfl, q⟩
  rw [List.length_append, List.length_singleton]
  omega
def rPop : V → List V → Hp → VK → Prop := fun x vs H Q => ∃ l xs y, x = .ref l ∧ vs = [] ∧ H l = some (.lst xs) ∧ xs[xs.length - 1]? = some y ∧ Q y (upd H l (.lst xs.dropLast))
theorem mt_pop : MtM X "list.pop" rPop := by
  intro pins s σ H x vs v us Q I rx rv h
  obtain ⟨l, xs, y, rfl, rfl, hH, hy, q⟩ := h
  cases rx
  have hus := rv.zero
  subst hus
  obtain ⟨z, its, n, r, hl, e⟩ := I.lstM hH
  obtain ⟨u, hu, ru⟩ := r.get hy
  have hy' : its.toArray[its.toArray.size - 1]? = some u := by
    show its.toArray[its.length - 1]? = some u
    rw [← Array.getElem?_toList, ← hl]
    exact hu
  refine call_meets F.slot_list_pop ⟨_, e, rfl⟩ F.entry_list_pop (F.args_list_pop_1 _) (MeetsSeq.list_pop_last l its.toArray n u hy' (by rw [List.size_toArray]; omega)) ⟨e, ?_⟩
  refine ⟨y, _, I.lset (its' := its.dropLast) hH e ?_ r.dropLast ?_, ru, q⟩
  · show its.toArray.eraseIdxIfInBounds (its.toArray.size - 1) = its.dropLast.toArray
    rw [List.size_toArray, List.eraseIdxIfInBounds_toArray, erase_last]
  · rw [List.length_dropLast]
    omega
def rCat : R2 := fun x y H Q => ∃ l b xs zs, x = .ref l ∧ y = .ref b ∧ H l = some (.lst xs) ∧ H b = some (.lst zs) ∧ xs.length + zs.length ≤ sizeLine ∧ ∀ p, H p = none → Q (.ref p) (upd H p (.lst (xs ++ zs)))
theorem op_cat : OpR X (binaryOp .Add) rCat := by
  intro pins s σ H x y v u Q I rx ry h
  obtain ⟨l, b, xs, zs, rfl, rfl, hH, hB, hz, q⟩ := h
  cases rx
  cases ry
  obtain ⟨z, its, n, r, hl, e⟩ := I.lstM hH
  obtain ⟨z2, its2, n2, r2, hl2, e2⟩ := I.lstM hB
  refine PySem.P.add_list e e2 ?_ (by rw [List.size_toArray, List.size_toArray]; omega)
  have ea : its.toArray ++ its2.toArray = (its ++ its2).toArray := by simp
  rw [ea]
  exact ⟨.ref _, _, I.lnew (t' := s.toks) (r.append r2) (by rw [List.length_append]; omega), rfl, q _ I.fresh⟩
end
section
variable {prog : Program} {w : World} {A : Around} {E : Value → Shared → Prop} {s : Shared}
end
section
variable {X : Cx}
end
end L2
namespace L2
open PySem PySem.Spec PyProof.Rows
theorem Vals.ints : ∀ {ns : List Int} {us : List Value}, Vals (ns.map V.int) us → IntsAre us ns
  | [], us, h => by
    rw [List.map_nil] at h
    cases h
    exact IntsAre.nil
  | n :: ns, us, h => by
    rw [List.map_cons] at h
    cases h with
    | cons r t =>
      obtain ⟨k, rfl⟩ := r
      exact IntsAre.cons n k (Vals.ints t)
theorem Vals.strs : ∀ {xs : List Str} {us : List Value}, Vals (xs.map V.str) us → StrsAre us xs
  | [], us, h => by
    rw [List.map_nil] at h
    cases h
    exact StrsAre.nil
  | x :: xs, us, h => by
    rw [List.map_cons] at h
    cases h with
    | cons r t =>
      obtain ⟨k, rfl⟩ := r
      exact StrsAre.cons x k (Vals.strs t)
section
variable {prog : Program} {w : World} {A : Around} {E : Value → Shared → Prop} {s : Shared} {l : Addr} {its : List Value} {ns : List Int} {Q : Value → Shared → Prop}
end
section
variable {X : Cx}
end
section
variable {X : Cx}
end
section
variable {X : Cx}
end
section
variable {X : Cx}
end
mutual
inductive Dp (K : PySem.W.Frag) (H : Hp) : V → PyData → Prop
  | non : Dp K H .non .none
  | bl (b : Bool) : Dp K H (.bl b) (.bool b)
  | int (i : Int) : Dp K H (.int i) (.int i)
  | str (x : Str) : Dp K H (.str x) (.str x)
  | lst {a : Addr} {xs : List V} {ds : List PyData} : SqL K H a xs → DpAll K H xs ds → Dp K H (.ref a) (.list ds)
  | tup {a : Addr} {xs : List V} {ds : List PyData} : SqT K H a xs → DpAll K H xs ds → Dp K H (.ref a) (.tuple ds)
inductive DpAll (K : PySem.W.Frag) (H : Hp) : List V → List PyData → Prop
  | nil : DpAll K H [] []
  | cons {v : V} {vs : List V} {d : PyData} {ds : List PyData} : Dp K H v d → DpAll K H vs ds → DpAll K H (v :: vs) (d :: ds)
end
section
variable {X : Cx} {pins : List (Addr × Obj)} {σ : St} {H : Hp} {s : Shared}
mutual
theorem Dp.reads (I : Inv X pins σ H s) : ∀ (d : PyData) (v : V) (u : Value), Dp X.K H v d → RelV v u → ∃ as, Reads s.heap u d as
  | .none, _, _, h, r => by
    cases h
    cases r
    exact ⟨_, Reads.none⟩
  | .bool b, _, _, h, r => by
    cases h
    cases r
    exact ⟨_, Reads.bool b⟩
  | .int i, _, _, h, r => by
    cases h
    obtain ⟨t, rfl⟩ := r
    exact ⟨_, Reads.int i t⟩
  | .str x, _, _, h, r => by
    cases h
    obtain ⟨t, rfl⟩ := r
    exact ⟨_, Reads.str x t⟩
  | .list ds, _, _, h, r => by
    cases h with
    | lst hs ha =>
      cases r
      obtain ⟨its, rv, ⟨o, n, ho, hc, _, hd⟩, _⟩ := I.list hs
      obtain ⟨as, hr⟩ := Dp.readsAll I ds _ its ha rv
      exact ⟨_, Reads.list ho hc hd hr⟩
  | .tuple ds, _, _, h, r => by
    cases h with
    | tup hs ha =>
      cases r
      obtain ⟨its, rv, ⟨o, ho, hc, n, hd⟩, _⟩ := I.tuple hs
      obtain ⟨as, hr⟩ := Dp.readsAll I ds _ its ha rv
      exact ⟨_, Reads.tuple ho hc hd hr⟩
  | .dict _, _, _, h, _ => by cases h
theorem Dp.readsAll (I : Inv X pins σ H s) : ∀ (ds : List PyData) (vs : List V) (us : List Value), DpAll X.K H vs ds → Vals vs us → ∃ as, ReadsAll s.heap us ds as
  | [], _, _, h, r => by
    cases h
    cases r
    exact ⟨_, ReadsAll.nil⟩
  | d :: ds, _, _, h, r => by
    cases h with
    | cons h1 h2 =>
      cases r with
      | cons r1 r2 =>
        obtain ⟨as, q1⟩ := Dp.reads I d _ _ h1 r1
        obtain ⟨bs, q2⟩ := Dp.readsAll I ds _ _ h2 r2
        exact ⟨_, ReadsAll.cons q1 q2⟩
end
end
section
variable {X : Cx}
end
end L2
namespace L2
open PySem PySem.Spec PyProof.Rows
abbrev CellAt (h : Heap) (c : Addr) (v : Option Value) : Prop := h.IsCell c v
def relS (scope sc : Scope) : Scope :=
  { scope with names := scope.names.map fun (n, k) => if (k == .free && sc.kind == .function && sc.names.lookup n == some .cell) then (n, .cell) else (n, k) }
def cloFrom (cells : List (Str × Addr)) : List (Str × NameKind) → List (Str × Addr) → List (Str × Addr)
  | [], acc => acc
  | (n, k) :: r, acc => if k == .free then cloFrom cells r ((n, (cells.lookup n).getD 0) :: acc) else cloFrom cells r acc
theorem closure_loop (env : Env) (f : Str × NameKind → List (Str × Addr) → Sem (ForInStep (List (Str × Addr))))
    (hf : ∀ n k c, f (n, k) c = if k == .free then (do let a ← cellOf env n; pure (.yield ((n, a) :: c))) else pure (.yield c)) :
    ∀ (names : List (Str × NameKind)) (acc : List (Str × Addr)), (∀ y ∈ names, y.2 = .free → ∃ c, env.cells.lookup y.1 = some c) → forIn names acc f = pure (cloFrom env.cells names acc)
  | [], acc, _ => by rw [List.forIn_nil]; rfl
  | (n, k) :: r, acc, h => by
    rw [List.forIn_cons, hf]
    have ih := fun acc => closure_loop env f hf r acc fun y hy => h y (List.mem_cons_of_mem _ hy)
    unfold cloFrom
    by_cases hk : (k == NameKind.free) = true
    · rw [if_pos hk, if_pos hk]
      obtain ⟨c, hc⟩ := h (n, k) List.mem_cons_self (by simpa using hk)
      have e : cellOf env n = pure c := by unfold cellOf; rw [hc]
      rw [e]
      have e2 : (env.cells.lookup n).getD 0 = c := by rw [hc]; rfl
      rw [e2]
      exact ih _
    · rw [if_neg hk, if_neg hk]
      exact ih _
theorem closure_ok {scope : Scope} {env : Env} (h : ∀ y ∈ scope.names, y.2 = .free → ∃ c, env.cells.lookup y.1 = some c) : closureFor scope env = pure (cloFrom env.cells scope.names []) := by
  simp only [closureFor]
  rw [closure_loop env _ (fun n k c => rfl) scope.names [] h]
  rfl
theorem mem_lookup {α : Type} : ∀ {l : List (Str × α)} {n : Str} {c : α}, (n, c) ∈ l → ∃ c', l.lookup n = some c'
  | (k, v) :: r, n, c, h => by
    rw [List.lookup_cons]
    cases hb : n == k with
    | true => exact ⟨_, rfl⟩
    | false =>
      rcases List.mem_cons.mp h with e | h
      · cases e; simp at hb
      · exact mem_lookup h
theorem cloFrom_mem {cells : List (Str × Addr)} : ∀ {names : List (Str × NameKind)} {acc : List (Str × Addr)} {n : Str} {c : Addr}, (n, c) ∈ cloFrom cells names acc → (n, c) ∈ acc ∨ ((n, .free) ∈ names ∧ c = (cells.lookup n).getD 0)
  | [], _, _, _, h => .inl h
  | (m, k) :: r, acc, n, c, h => by
    unfold cloFrom at h
    split at h
    · rename_i hk
      have hk : k = .free := by simpa using hk
      rcases cloFrom_mem h with h | ⟨h1, h2⟩
      · rcases List.mem_cons.mp h with e | h
        · cases e; exact .inr ⟨hk ▸ List.mem_cons_self, rfl⟩
        · exact .inl h
      · exact .inr ⟨List.mem_cons_of_mem _ h1, h2⟩
    · rcases cloFrom_mem h with h | ⟨h1, h2⟩
      · exact .inl h
      · exact .inr ⟨List.mem_cons_of_mem _ h1, h2⟩
theorem cloFrom_acc {cells : List (Str × Addr)} : ∀ {names : List (Str × NameKind)} {acc : List (Str × Addr)} {p : Str × Addr}, p ∈ acc → p ∈ cloFrom cells names acc
  | [], _, _, h => h
  | (m, k) :: r, acc, p, h => by
    unfold cloFrom
    split
    · exact cloFrom_acc (List.mem_cons_of_mem _ h)
    · exact cloFrom_acc h
theorem cloFrom_has {cells : List (Str × Addr)} : ∀ {names : List (Str × NameKind)} {acc : List (Str × Addr)} {n : Str}, (n, .free) ∈ names → (n, (cells.lookup n).getD 0) ∈ cloFrom cells names acc
  | (m, k) :: r, acc, n, h => by
    unfold cloFrom
    rcases List.mem_cons.mp h with e | h
    · cases e
      exact cloFrom_acc List.mem_cons_self
    · split
      · exact cloFrom_has h
      · exact cloFrom_has h
theorem cells_mem : ∀ {names : List (Str × NameKind)} {h : Heap} {acc : List (Str × Addr)} {x : Str} {c : Addr}, (x, c) ∈ cellsFrom h.objs.size names acc →
    (x, c) ∈ acc ∨ ((x, .cell) ∈ names ∧ h.objs.size ≤ c ∧ CellAt (pushCells h names) c none)
  | [], _, _, _, _, h => .inl h
  | (n, k) :: r, h, acc, x, c, hm => by
    unfold cellsFrom at hm
    unfold pushCells
    split at hm
    · rename_i hk
      rw [if_pos hk]
      have hk : k = .cell := by simpa using hk
      rw [← Heap.size_push h { cls := .type "cell", data := .cell none }] at hm
      rcases cells_mem hm with hm | ⟨h1, h2, h3⟩
      · rcases List.mem_cons.mp hm with e | hm
        · cases e
          exact .inr ⟨hk ▸ List.mem_cons_self, Nat.le_refl _, _, pushCells_keeps r _ _ _ (Heap.get?_push_size _ rfl), rfl⟩
        · exact .inl hm
      · rw [Heap.size_push] at h2
        exact .inr ⟨List.mem_cons_of_mem _ h1, Nat.le_of_succ_le h2, h3⟩
    · rename_i hk
      rw [if_neg hk]
      rcases cells_mem hm with hm | ⟨h1, h2, h3⟩
      · exact .inl hm
      · exact .inr ⟨List.mem_cons_of_mem _ h1, h2, h3⟩
theorem cells_acc : ∀ {names : List (Str × NameKind)} {n : Nat} {acc : List (Str × Addr)} {p : Str × Addr}, p ∈ acc → p ∈ cellsFrom n names acc
  | [], _, _, _, h => h
  | (m, k) :: r, n, acc, p, h => by
    unfold cellsFrom
    split
    · exact cells_acc (List.mem_cons_of_mem _ h)
    · exact cells_acc h
theorem cells_has : ∀ {names : List (Str × NameKind)} {n : Nat} {acc : List (Str × Addr)} {x : Str}, (x, .cell) ∈ names → ∃ c, (x, c) ∈ cellsFrom n names acc
  | (m, k) :: r, n, acc, x, h => by
    unfold cellsFrom
    rcases List.mem_cons.mp h with e | h
    · cases e
      exact ⟨n, cells_acc List.mem_cons_self⟩
    · split
      · exact cells_has h
      · exact cells_has h
theorem cells_inj : ∀ {names : List (Str × NameKind)} {h : Heap} {acc : List (Str × Addr)} {x y : Str} {c : Addr}, (∀ p ∈ acc, p.2 < h.objs.size) → (∀ x y c, (x, c) ∈ acc → (y, c) ∈ acc → x = y) →
    (x, c) ∈ cellsFrom h.objs.size names acc → (y, c) ∈ cellsFrom h.objs.size names acc → x = y
  | [], _, _, _, _, _, _, hi, h1, h2 => hi _ _ _ h1 h2
  | (n, k) :: r, h, acc, x, y, c, hl, hi, h1, h2 => by
    unfold cellsFrom at h1 h2
    split at h1
    · rename_i hk
      rw [if_pos hk] at h2
      rw [← Heap.size_push h { cls := .type "cell", data := .cell none }] at h1 h2
      refine cells_inj (h := h.push _) (fun p hp => ?_) (fun x y c a b => ?_) h1 h2
      · rw [Heap.size_push]
        rcases List.mem_cons.mp hp with rfl | hp
        · exact Nat.lt_succ_self _
        · exact Nat.lt_succ_of_lt (hl p hp)
      · rcases List.mem_cons.mp a with e | a <;> rcases List.mem_cons.mp b with e' | b
        · cases e; cases e'; rfl
        · cases e; exact absurd (hl _ b) (Nat.lt_irrefl _)
        · cases e'; exact absurd (hl _ a) (Nat.lt_irrefl _)
        · exact hi _ _ _ a b
    · rename_i hk
      rw [if_neg hk] at h2
      exact cells_inj hl hi h1 h2
theorem newEnv_comp {M : Model} {A : Around} {E : Value → Shared → Prop} {s : Shared} {scope : Scope} {globals : Addr} {closure : List (Str × Addr)} {qual : Str} {func : Option Addr} {code : Value} {around : Env} {builtins : Addr} {Q : Env → Shared → Prop}
    (h : Q (newEnv scope s.heap.objs.size globals (cellsFrom (s.heap.objs.size + 1) scope.names closure) qual func code (some around) builtins)
      { s with heap := pushCells (s.heap.push { cls := .type "dict", data := .dict #[] }) scope.names }) :
    wpAny M A (newFunctionEnv scope globals closure [] qual func code (some around) builtins) Q E s := by
  simp only [newFunctionEnv, Option.isSome_some, if_true]
  refine wpAny_bind (wpAny_alloc ?_)
  refine wpAny_bind (wpAny_layCells _ (fun n k c => rfl) scope.names closure _ _ ?_)
  rw [show ({ s with heap := s.heap.push { cls := .type "dict", data := .dict #[] } } : Shared).heap.objs.size = s.heap.objs.size + 1 from Heap.size_push ..]
  rw [List.forIn_nil]
  exact wpAny_bind (wpAny_pure (wpAny_pure h))
theorem lookup_relS {sc : Scope} : ∀ {names : List (Str × NameKind)} {x : Str} {k : NameKind},
    (names.map fun (n, k) => if (k == NameKind.free && sc.kind == .function && sc.names.lookup n == some .cell) then (n, NameKind.cell) else (n, k)).lookup x = some k →
    ∃ k', names.lookup x = some k' ∧ (k = k' ∨ (k' = .free ∧ k = .cell))
  | [], _, _, h => by simp at h
  | (n, k₀) :: r, x, k, h => by
    have ih := @lookup_relS sc r x k
    have h' : List.lookup x ((if (k₀ == NameKind.free && sc.kind == .function && sc.names.lookup n == some .cell) = true then (n, NameKind.cell) else (n, k₀)) :: (r.map _)) = some k := h
    cases hx : x == n with
    | true =>
      simp only [List.lookup_cons, hx]
      by_cases hc : (k₀ == NameKind.free && sc.kind == .function && sc.names.lookup n == some .cell) = true
      · rw [if_pos hc] at h'
        simp only [List.lookup_cons, hx] at h'
        cases h'
        simp only [Bool.and_eq_true, beq_iff_eq] at hc
        exact ⟨k₀, rfl, .inr ⟨hc.1.1, rfl⟩⟩
      · rw [if_neg hc] at h'
        simp only [List.lookup_cons, hx] at h'
        cases h'
        exact ⟨_, rfl, .inl rfl⟩
    | false =>
      simp only [List.lookup_cons, hx]
      by_cases hc : (k₀ == NameKind.free && sc.kind == .function && sc.names.lookup n == some .cell) = true
      · rw [if_pos hc] at h'
        simp only [List.lookup_cons, hx] at h'
        exact ih h'
      · rw [if_neg hc] at h'
        simp only [List.lookup_cons, hx] at h'
        exact ih h'
structure BlkOk (N : List Str) (sc scope : Scope) (own : List (Str × Nat)) : Prop where
  kind : scope.kind = .function
  uniq : ∀ y ∈ scope.names, scope.names.lookup y.1 = some y.2
  ix : ∀ p ∈ own, N[p.2]? = some p.1
  free : ∀ y ∈ scope.names, y.2 = .free → sc.names.lookup y.1 = some .cell ∨ sc.names.lookup y.1 = some .free
  own : ∀ y ∈ scope.names, y.2 = .local ∨ y.2 = .cell → y.1 ∈ own.map (·.1) ∨ y.1 ∉ N
def wipe (σ : St) : List Nat → St
  | [] => σ
  | v :: vs => (wipe σ vs).set v none
theorem wipe_length (σ : St) : ∀ vs : List Nat, (wipe σ vs).length = σ.length
  | [] => rfl
  | v :: vs => by unfold wipe; rw [List.length_set, wipe_length σ vs]
theorem wipe_some {σ : St} {i : Nat} {x : V} : ∀ {vs : List Nat}, (wipe σ vs)[i]? = some (some x) → σ[i]? = some (some x) ∧ i ∉ vs
  | [], h => ⟨h, by simp⟩
  | v :: vs, h => by
    unfold wipe at h
    by_cases hi : v = i
    · subst hi
      by_cases hv : v < (wipe σ vs).length
      · rw [List.getElem?_set_self hv] at h; cases h
      · rw [List.getElem?_eq_none (by simpa using hv)] at h; cases h
    · rw [List.getElem?_set_ne hi] at h
      obtain ⟨h1, h2⟩ := wipe_some h
      exact ⟨h1, by simp only [List.mem_cons, not_or]; exact ⟨fun e => hi e.symm, h2⟩⟩
abbrev Cx.blk (X : Cx) (s : Shared) (H : Hp) (scope : Scope) (cenv : Env) (fp : List Addr) : Cx := { X with s_0 := s, H_0 := H, env := cenv, outer := X.stack, ex := fp, fn := fun x => scope.names.lookup x == some .cell, pn := [], xe := fun _ _ => False }
section
variable {X : Cx} {pins : List (Addr × Obj)} {σ : St} {H : Hp} {s : Shared}
theorem block_start {scope : Scope} {own : List (Str × Nat)} {fp : List Addr} (I : Inv X pins σ H s) (ok : BlkOk X.N X.env.scope scope own) (hN : X.N.Nodup) (hfp : ∀ b ∈ fp, FpOk X pins H b ∧ b < s.heap.objs.size) :
    Inv (X.blk s H scope (compEnvC scope (cellsFrom (s.heap.objs.size + 1) scope.names (cloFrom X.env.cells scope.names [])) s.heap.objs.size X.env) fp) [] (wipe σ (own.map (·.2))) H { s with heap := pushCells (s.heap.push { cls := .type "dict", data := .dict #[] }) scope.names } := by
  have hfree : ∀ y ∈ scope.names, y.2 = .free → ∃ c, X.env.cells.lookup y.1 = some c := fun y hy e => by
    rcases ok.free y hy e with k | k
    · exact I.ok.has _ (.inl k)
    · exact I.ok.has _ (.inr k)
  generalize hcenv : compEnvC scope (cellsFrom (s.heap.objs.size + 1) scope.names (cloFrom X.env.cells scope.names [])) s.heap.objs.size X.env = cenv
  have kp : ∀ b o, s.heap.get? b = some o → (pushCells (s.heap.push { cls := .type "dict", data := .dict #[] }) scope.names).get? b = some o := fun b o e => pushCells_keeps _ _ _ _ (Heap.get?_push_of_some _ e)
  have hL : cenv.locals = s.heap.objs.size := by rw [← hcenv]; rfl
  have hcl : cenv.cells = cellsFrom (s.heap.objs.size + 1) scope.names (cloFrom X.env.cells scope.names []) := by rw [← hcenv]; rfl
  have hsc : cenv.scope = relS scope X.env.scope := by rw [← hcenv]; rfl
  rw [← Heap.size_push s.heap { cls := .type "dict", data := .dict #[] }] at hcl
  have cm : ∀ {y c}, (y, c) ∈ cloFrom X.env.cells scope.names [] → X.env.cells.lookup y = some c ∧ c < s.heap.objs.size := fun {y c} hm => by
    rcases cloFrom_mem hm with hm | ⟨h1, rfl⟩
    · cases hm
    · obtain ⟨c, hc⟩ := hfree _ h1 rfl
      rw [hc]
      obtain ⟨w, z⟩ := I.cell _ _ hc
      exact ⟨rfl, z.lt⟩
  have mem : ∀ {y c}, cenv.cells.lookup y = some c → (X.env.cells.lookup y = some c ∧ c < s.heap.objs.size) ∨ (s.heap.objs.size + 1 ≤ c ∧ CellAt (pushCells (s.heap.push { cls := .type "dict", data := .dict #[] }) scope.names) c none) := fun {y c} e => by
    rw [hcl] at e
    rcases cells_mem (PySem.mem_of_lookup e) with hm | ⟨_, h2, h3⟩
    · exact .inl (cm hm)
    · rw [Heap.size_push] at h2; exact .inr ⟨h2, h3⟩
  have look : ∀ {y}, scope.names.lookup y = some .free → ∃ c, cenv.cells.lookup y = some c ∧ X.env.cells.lookup y = some c := fun {y} hl => by
    have hy : (y, NameKind.free) ∈ scope.names := PySem.mem_of_lookup hl
    obtain ⟨c', e'⟩ := mem_lookup (cells_acc (names := scope.names) (n := (s.heap.push { cls := .type "dict", data := .dict #[] }).objs.size) (cloFrom_has (cells := X.env.cells) (acc := []) hy))
    rw [← hcl] at e'
    refine ⟨c', e', ?_⟩
    rw [hcl] at e'
    rcases cells_mem (PySem.mem_of_lookup e') with hm | ⟨h1, _, _⟩
    · exact (cm hm).1
    · have := ok.uniq _ h1
      rw [hl] at this; cases this
  have okB : (X.blk s H scope cenv fp).Ok := by
    refine ⟨I.ok.mod, by show cenv.scope.kind = _; rw [hsc]; exact ok.kind, by show cenv.globals = _; rw [← hcenv]; exact I.ok.glob, by show cenv.builtins = _; rw [← hcenv]; exact I.ok.blt, by show s.heap.objs.size ≤ cenv.locals; rw [hL]; exact Nat.le_refl _,
      fun y z c e1 e2 => ?_, fun y hy => ?_, fun y c z e => ?_, I.ok.hd, I.ok.frames, .inl rfl, fun b hb => ⟨?_, fun y c e z => ?_⟩, I.bs, Nat.le_trans I.ok.bsz I.sz, fun b o e hb => ?_, fun b hb z => ?_, I.stack, I.stkFree⟩
    · have e1 : cenv.cells.lookup y = some c := e1
      have e2 : cenv.cells.lookup z = some c := e2
      rw [hcl] at e1 e2
      refine cells_inj (fun p hp => ?_) (fun y z c a b => I.ok.inj y z c (cm a).1 (cm b).1) (PySem.mem_of_lookup e1) (PySem.mem_of_lookup e2)
      rw [Heap.size_push]
      exact Nat.lt_succ_of_lt (cm (y := p.1) (c := p.2) hp).2
    · show ∃ c, cenv.cells.lookup y = some c
      have key : ∀ k, cenv.kindOf y = some k → (k = .cell ∨ k = .free) → ∃ c, cenv.cells.lookup y = some c := fun k hk hk' => by
        unfold Env.kindOf at hk
        rw [hsc] at hk
        obtain ⟨k', e, r⟩ := lookup_relS hk
        have : k' = .cell ∨ k' = .free := by
          rcases r with rfl | ⟨rfl, _⟩
          · exact hk'
          · exact .inr rfl
        rcases this with rfl | rfl
        · obtain ⟨c, hm⟩ := cells_has (n := (s.heap.push { cls := .type "dict", data := .dict #[] }).objs.size) (acc := cloFrom X.env.cells scope.names []) (PySem.mem_of_lookup e)
          obtain ⟨c', e'⟩ := mem_lookup hm
          exact ⟨c', by rw [hcl]; exact e'⟩
        · obtain ⟨c, h1, _⟩ := look e
          exact ⟨c, h1⟩
      rcases hy with hy | hy
      · exact key _ hy (.inl rfl)
      · exact key _ hy (.inr rfl)
    · have z : (scope.names.lookup y == some NameKind.cell) = true := z
      have z : scope.names.lookup y = some .cell := by simpa using z
      have e : cenv.cells.lookup y = some c := e
      rw [hcl] at e
      rcases cells_mem (PySem.mem_of_lookup e) with hm | ⟨_, h2, _⟩
      · rcases cloFrom_mem hm with hm | ⟨h1, _⟩
        · cases hm
        · have q := ok.uniq _ h1
          rw [z] at q; cases q
      · rw [Heap.size_push] at h2
        exact Nat.le_of_succ_le h2
    · show b ≠ cenv.locals
      rw [hL]; exact Nat.ne_of_lt (hfp b hb).2
    · have e : cenv.cells.lookup y = some c := e
      rcases mem e with ⟨h1, _⟩ | ⟨h1, _⟩
      · exact (hfp b hb).1.2.2.2.2.1 y c h1 z
      · have h2 : s.heap.objs.size + 1 ≤ b := by rw [← z]; exact h1
        exact absurd (Nat.lt_of_lt_of_le (hfp b hb).2 (Nat.le_of_succ_le h2)) (Nat.lt_irrefl _)
    · rcases (hfp b hb).1.2.2.2.1 with z | z
      · exact I.ok.noex b o e z
      · exact absurd (Nat.lt_of_lt_of_le (Heap.lt_size e) (Nat.le_trans I.ok.bsz z)) (Nat.lt_irrefl _)
    · rcases List.mem_cons.mp (I.stkSub b z) with z | z
      · exact (hfp b hb).1.2.1 z
      · exact (hfp b hb).1.2.2.1 z
  refine ⟨okB, rfl, I.bare, Un.kept kp, ⟨fun _ => none, ?_, fun i y av e1 e2 e3 => ?_⟩, fun y c e => ?_, ?_, fun y c e => ?_, fun p hp => ?_, I.hok.kept kp, by rw [wipe_length]; exact I.len⟩
  · show Heap.Ns _ cenv.locals _
    rw [hL]
    exact Heap.Ns.keeps (Heap.Ns.new ..) fun b o e => pushCells_keeps _ _ _ _ e
  · obtain ⟨e2, hne⟩ := wipe_some e2
    have hfr : scope.names.lookup y = some .free ∧ (cenv.kindOf y = some .cell ∨ cenv.kindOf y = some .free) := by
      have key : ∀ k, cenv.scope.names.lookup y = some k → k = .local ∨ k = .cell ∨ k = .free → scope.names.lookup y = some .free ∧ (cenv.kindOf y = some .cell ∨ cenv.kindOf y = some .free) := fun k hk hk' => by
        have hk0 := hk
        rw [hsc] at hk
        obtain ⟨k', e, r⟩ := lookup_relS hk
        have no : ¬ (k' = .local ∨ k' = .cell) := fun hh => by
          rcases ok.own _ (PySem.mem_of_lookup e) hh with e' | e'
          · obtain ⟨p, hp, hpy⟩ := List.mem_map.mp e'
            have e3 := ok.ix p hp
            have : p.1 = y := hpy
            rw [this] at e3
            exact hne (List.mem_map.mpr ⟨p, hp, nodup_ix hN e3 e1⟩)
          · exact e' (List.mem_of_getElem? e1)
        rcases r with rfl | ⟨rfl, rfl⟩
        · rcases hk' with rfl | rfl | rfl
          · exact absurd (.inl rfl) no
          · exact absurd (.inr rfl) no
          · exact ⟨e, .inr hk0⟩
        · exact ⟨e, .inl hk0⟩
      have e3 : Vis cenv.scope y := e3
      rcases e3 with e3 | e3 | e3
      · exact key _ e3 (.inl rfl)
      · exact key _ e3 (.inr (.inl rfl))
      · exact key _ e3 (.inr (.inr rfl))
    obtain ⟨m, hn, hl⟩ := I.loc
    have hvis : Vis X.env.scope y := (ok.free _ (PySem.mem_of_lookup hfr.1) rfl).elim (fun k => .inr (.inl k)) (fun k => .inr (.inr k))
    obtain ⟨w, r, q⟩ := hl i y av e1 e2 hvis
    refine ⟨w, r, .inr ⟨hfr.2, ?_⟩⟩
    obtain ⟨c, h1, h2⟩ := look hfr.1
    rcases q with ⟨k, _⟩ | ⟨_, c', e', z⟩
    · have k : X.env.scope.names.lookup y = some .local := k
      rcases ok.free _ (PySem.mem_of_lookup hfr.1) rfl with k' | k' <;> rw [show X.env.scope.names.lookup y = _ from k'] at k <;> cases k
    · rw [h2] at e'; cases e'
      exact ⟨c, h1, z.keeps kp⟩
  · have e : cenv.cells.lookup y = some c := e
    rcases mem e with ⟨h1, _⟩ | ⟨_, z⟩
    · obtain ⟨w, z⟩ := I.cell y c h1
      exact ⟨w, z.keeps kp⟩
    · exact ⟨_, z⟩
  · show H cenv.locals = none
    rw [hL]; exact I.hok.fresh (Nat.le_refl _)
  · have e : cenv.cells.lookup y = some c := e
    rw [hcl] at e
    rcases cells_mem (PySem.mem_of_lookup e) with hm | ⟨_, h2, _⟩
    · rcases I.freeC y c (cm hm).1 with q | ⟨_, o, z, q⟩
      · exact .inl q
      · refine .inr ⟨?_, o, z, q⟩
        rcases cloFrom_mem hm with hm | ⟨h1, _⟩
        · cases hm
        · show (scope.names.lookup y == some NameKind.cell) = false
          rw [ok.uniq _ h1]; rfl
    · rw [Heap.size_push] at h2
      exact .inl (I.hok.fresh (Nat.le_of_succ_le h2))
  · exact absurd (show p ∈ ([] : List (Addr × Obj)) ++ [] from hp) (by simp)
theorem app_ok {E : Value → Shared → Prop} {D : Addr} {xs : List V} {y : V} {v : Value} {Q : Value → Shared → Prop} (I : Inv X pins σ H s) (hD : H D = some (.lst xs)) (hz : xs.length < sizeLine) (r : RelV y v)
    (h : ∀ s', Inv X pins σ (upd H D (.lst (xs ++ [y]))) s' → Q .none s') : wpAny (model X.prog X.w) X.A (call (.builtin "list.append") [.ref D, v]) Q E s := by
  obtain ⟨hz', its, n, ri, e⟩ := I.hok D _ hD
  have hl := ri.length
  refine append_at (hsz := by rw [List.size_toArray]; omega) e fun h' sb ho' => ?_
  refine h { s with heap := h' } (I.write (t' := s.toks) (by rw [hD]; trivial) (.inl rfl) (fun b u hb q => (sb.2 b hb).trans q) ⟨_, ho'⟩ ⟨by rw [List.length_append]; exact hz, its ++ [v], n + 1, ri.append (.cons r .nil), ?_⟩)
  rw [ho']
  simp
def PTs (X : Cx) (ifs : List Expr) (t : TT) : Prop :=
  ∀ (pins : List (Addr × Obj)) (s : Shared) (σ : St) (H : Hp) (Q : Bool → Hp → Prop), Inv X pins σ H s → t σ H Q →
    wpAny (model X.prog X.w) X.A (forIn ifs true fun c r => if r = true then do let ok ← isTrue c X.env (eval c X.env); pure (ForInStep.yield ok) else pure (ForInStep.yield r)) (TP X pins σ Q) X.xe s
def tYes : TT := fun _ H Q => Q true H
theorem pts_nil : PTs X [] tYes := fun _ _ _ H _ I h => wpAny_tests_nil ⟨H, I, h⟩
theorem pts_one {c : Expr} {t : TT} (h : PT X c t) : PTs X [c] t := fun pins s σ H Q I hw => wpAny_tests_one (h pins s σ H Q I hw)
end
theorem thnF {α : Type} {t : Sem α} {Q Q' : α → Shared → Prop} {M : Model} {A : Around} {E : Value → Shared → Prop} {s : Shared} (h : wpAny M A t Q (fun _ _ => False) s) (hQ : ∀ a s, Q a s → Q' a s) : wpAny M A t Q' E s := wpAny_mono h hQ fun _ _ z => False.elim z
theorem compLoop_any {prog : Program} {w : World} {A : Around} {R : Result → Shared → Prop} {s : Shared} {elt target iter : Expr} {ifs : List Expr} {scope : Scope} {pos : Pos} {it acc : Value} {env : Env} (I : Nat → Shared → Prop)
    (turn : ∀ n s, I n s → wpAny (model prog w) A (pyNext it) (fun r s₁ => match r with
      | none => R (.ok .next) s₁
      | some v => wpAny (model prog w) A (letOwnedTupleGo target it v) (fun _ s₁' => wpAny (model prog w) A (assign target env v) (fun _ s₂ =>
          wpAny (model prog w) A (forIn ifs true fun c r => if r = true then do let ok ← isTrue c env (eval c env); pure (ForInStep.yield ok) else pure (ForInStep.yield r)) (fun ok s₃ =>
            if ok = true then wpAny (model prog w) A (eval elt env) (fun x s₄ =>
              wpAny (model prog w) A (call (.builtin "list.append") [acc, x]) (fun _ s₅ => ∃ m, m < n ∧ I m s₅) (notedBy (model prog w) A env fun e s' => R (.error e) s') s₄) (notedBy (model prog w) A env fun e s' => R (.error e) s') s₃
            else ∃ m, m < n ∧ I m s₃) (notedBy (model prog w) A env fun e s' => R (.error e) s') s₂) (notedBy (model prog w) A env fun e s' => R (.error e) s') s₁') (notedBy (model prog w) A env fun e s' => R (.error e) s') s₁) (notedBy (model prog w) A env fun e s' => R (.error e) s') s)
    (n : Nat) (h : I n s) :
    codeAny (model prog w) A (.compLoop (.ListComp elt [⟨target, iter, ifs, 0⟩] scope pos) 0 it acc env) R s := by
  refine codeAny_loop rfl I (fun n s hI => ?_) n h
  show wpAny _ A ((compTurn (.ListComp elt [⟨target, iter, ifs, 0⟩] scope pos) 0 it acc env).onRaise (fun x => do noteFrame x env; theTreesLotGoes x)) _ _ s
  refine wpAny_noted ?_
  rw [compTurn_list]
  refine wpAny_bind (wpAny_standAt (wpAny_bind (wpAny_mono (turn n s hI) (fun r s₁ h₁ => ?_) fun _ _ h' => h')))
  cases r with
  | none => exact wpAny_pure h₁
  | some v =>
    refine wpAny_bind (wpAny_mono h₁ (fun _ s₁' h₁' => ?_) fun _ _ h' => h')
    refine wpAny_bind (wpAny_mono h₁' (fun _ s₂ h₂ => wpAny_bind (wpAny_mono h₂ (fun ok s₃ h₃ => ?_) fun _ _ h' => h')) fun _ _ h' => h')
    cases ok with
    | false => exact wpAny_pure ⟨rfl, h₃⟩
    | true =>
      exact wpAny_bind (wpAny_bind (wpAny_mono h₃ (fun x s₄ h₄ => wpAny_bind (wpAny_mono h₄ (fun _ s₅ h₅ => wpAny_pure (wpAny_pure ⟨rfl, h₅⟩)) fun _ _ h' => h')) fun _ _ h' => h'))
section
variable {X : Cx}
def tLc (wi : TI) (g : TG) (tt : TT) (te : TE) (vs : List Nat) : TE := fun σ H Q => wi σ H fun J H1 => ∀ D, H1 D = none → ∃ W : Nat → Nat → Hp → Prop, (∃ m, W 0 m (upd H1 D (.lst []))) ∧ ∀ i m H, W i m H →
  (J.stop i H ∧ Q (.ref D) H) ∨ (J.go i H ∧ ∃ Nx : Hp → Prop, (∀ H', Nx H' → ∃ m', m' < m ∧ W (i + 1) m' H') ∧ ∀ x H', J.yld i H x H' → g x (wipe σ vs) H' fun σ2 H2 => wipe σ2 vs = wipe σ vs ∧ tt σ2 H2 fun b H3 =>
    if b = true then te σ2 H3 fun y H4 => ∃ acc, H4 D = some (.lst acc) ∧ acc.length < sizeLine ∧ Nx (upd H4 D (.lst (acc ++ [y]))) else Nx H3)
theorem lc_core {pins : List (Addr × Obj)} {s : Shared} {σ : St} {H : Hp} {Q : VK} {elt tg iter : Expr} {ifs : List Expr} {scope : Scope} {own : List (Str × Nat)} {pos pos' : Pos} {wi : TI} {g : TG} {tt : TT} {te : TE} {use : Option (Value → Sem Unit)} {Qf : Value → Shared → Prop}
    (hc : X.calm = true) (hN : X.N.Nodup) (I : Inv X pins σ H s) (hi : PI X tg iter wi) (ok : BlkOk X.N X.env.scope scope own)
    (hg : ∀ (s : Shared) (H : Hp) (C : Addr) (cl : List (Str × Addr)) (fp : List Addr), PG (X.blk s H scope (compEnvC scope cl C X.env) fp) tg g) (ht : ∀ (s : Shared) (H : Hp) (C : Addr) (cl : List (Str × Addr)) (fp : List Addr), PTs (X.blk s H scope (compEnvC scope cl C X.env) fp) ifs tt)
    (he : ∀ (s : Shared) (H : Hp) (C : Addr) (cl : List (Str × Addr)) (fp : List Addr), PE (X.blk s H scope (compEnvC scope cl C X.env) fp) elt te) (hs : ∀ x, foldedSetIterable iter X.env x = pure x)
    (h : tLc wi g tt te (own.map (·.2)) σ H Q)
    (hRR : ∀ D C s' m H', Inv X pins σ H' s' → Q (.ref D) H' → s'.heap.Ns C m → FpOk X pins H' C → compPost (model X.prog X.w) X.A X.xe use Qf (.ref D) C (.ok .next) s') :
    wpAny (model X.prog X.w) X.A (comprehension (.ListComp elt [⟨tg, iter, ifs, 0⟩] scope pos) scope X.env pos' (newList []) false (eval iter X.env) use) Qf X.xe s := by
  have hfree : ∀ y ∈ scope.names, y.2 = .free → ∃ c, X.env.cells.lookup y.1 = some c := fun y hy e => by
    rcases ok.free y hy e with k | k
    · exact I.ok.has _ (.inl k)
    · exact I.ok.has _ (.inr k)
  refine wpAny_comprehension_free (use := use) rfl hs (closure_ok hfree) ok.kind (fun y hy e => by rw [ok.uniq y hy, e])
    (thn (hi pins s σ H _ I h) fun xv s1 hx => thn hx fun itv s2 h2 => ?_)
  obtain ⟨it, fp, tn, J, H2, e, I2, T, st2, f2, q⟩ := h2
  subst e
  refine wpAny_newObj_type (newEnv_comp ?_) (by show 0 ≤ sizeLine; decide)
  generalize hD : s2.heap.objs.size = D
  have hDn : H2 D = none := I2.hok.fresh (Nat.le_of_eq hD)
  obtain ⟨W, ⟨m0, w0⟩, turn⟩ := q D hDn
  generalize hs3 : ({ s2 with heap := s2.heap.push { cls := .type "list", data := .seq ([] : List Value).toArray } } : Shared) = s3
  have I3 : Inv X pins σ (upd H2 D (.lst [])) s3 := by
    rw [← hs3]
    refine I2.laid (t' := s2.toks) (fun b o e => Heap.get?_push_of_some _ e) (Nat.le_of_eq hD) ⟨Nat.zero_le _, [], 0, .nil, ?_⟩
    rw [← hD]
    exact Heap.get?_push_size _ rfl
  have h3 : s3.heap = s2.heap.push { cls := .type "list", data := .seq ([] : List Value).toArray } := by rw [← hs3]
  have sz : ∀ b ∈ fp, b < s2.heap.objs.size := fun b hb => by
    obtain ⟨o, e, _⟩ := T.obj _ _ st2 b hb
    exact Heap.lt_size e
  have f3 : ∀ b ∈ fp, FpOk X pins (upd H2 D (.lst [])) b ∧ b < s3.heap.objs.size := fun b hb => by
    have hlt := sz b hb
    refine ⟨⟨?_, (f2 b hb).2⟩, by rw [h3, Heap.size_push]; exact Nat.lt_succ_of_lt hlt⟩
    rw [upd_ne (by rw [← hD]; exact Nat.ne_of_lt hlt)]
    exact (f2 b hb).1
  have st3 : tn 0 s3.heap := T.keep _ _ _ st2 fun b _ o e => by rw [h3]; exact Heap.get?_push_of_some _ e
  have I4 := block_start I3 ok hN f3
  have pg := hg s3 (upd H2 D (.lst [])) s3.heap.objs.size (cellsFrom (s3.heap.objs.size + 1) scope.names (cloFrom X.env.cells scope.names [])) fp
  have pt := ht s3 (upd H2 D (.lst [])) s3.heap.objs.size (cellsFrom (s3.heap.objs.size + 1) scope.names (cloFrom X.env.cells scope.names [])) fp
  have pe := he s3 (upd H2 D (.lst [])) s3.heap.objs.size (cellsFrom (s3.heap.objs.size + 1) scope.names (cloFrom X.env.cells scope.names [])) fp
  show codeAny _ _ (.compStart (.ListComp elt [⟨tg, iter, ifs, 0⟩] scope pos) 0 (.ref it) (.ref D) (compEnvC scope (cellsFrom (s3.heap.objs.size + 1) scope.names (cloFrom X.env.cells scope.names [])) s3.heap.objs.size X.env)) (compPost (model X.prog X.w) X.A X.xe use Qf (.ref D) s3.heap.objs.size) { s3 with heap := pushCells (s3.heap.push { cls := .type "dict", data := .dict #[] }) scope.names }
  have nfp : ∀ b ∈ fp, (upd H2 D (.lst [])) b = none := fun b hb => (f3 b hb).1.1
  generalize hce : compEnvC scope (cellsFrom (s3.heap.objs.size + 1) scope.names (cloFrom X.env.cells scope.names [])) s3.heap.objs.size X.env = ce at I4 pg pt pe ⊢
  have cL : ce.locals = s3.heap.objs.size := by subst hce; rfl
  generalize hH3 : upd H2 D (.lst []) = H3 at I3 I4 pg pt pe w0 nfp f3
  generalize hs4 : ({ s3 with heap := pushCells (s3.heap.push { cls := .type "dict", data := .dict #[] }) scope.names } : Shared) = s4 at I4 ⊢
  have st4 : tn 0 s4.heap := T.keep _ _ _ st3 fun b _ o e => by rw [← hs4]; exact pushCells_keeps _ _ _ _ (Heap.get?_push_of_some _ e)
  have stat : ∀ {σ' : St} {H' : Hp} {s' : Shared}, Inv (X.blk s3 H3 scope ce fp) [] σ' H' s' → (∀ b ∈ fp, H' b = none) → ∀ b ∈ fp, FpOk (X.blk s3 H3 scope ce fp) [] H' b := fun {σ' H' s'} I' hn b hb =>
    ⟨hn b hb, (I'.ok.exf b hb).1, I'.ok.exfs b hb, .inl hb, fun x c e => (I'.ok.exf b hb).2 x c e, fun p hp => absurd (show p ∈ ([] : List (Addr × Obj)) ++ [] from hp) (by simp)⟩
  have loop : codeAny (model X.prog X.w) X.A (.compLoop (.ListComp elt [⟨tg, iter, ifs, 0⟩] scope pos) 0 (.ref it) (.ref D) ce) (compPost (model X.prog X.w) X.A X.xe use Qf (.ref D) s3.heap.objs.size) s4 := by
    refine compLoop_any (fun n s' => ∃ i H', Inv (X.blk s3 H3 scope ce fp) [] (wipe σ (own.map (·.2))) H' s' ∧ tn i s'.heap ∧ (∀ b ∈ fp, H' b = none) ∧ W i n H') ?_ m0 ⟨0, H3, I4, st4, nfp, w0⟩
    rintro n s5 ⟨i, H5, I5, st5, n5, w5⟩
    rcases turn i n H5 w5 with ⟨stop, qq⟩ | ⟨go, Nx, hNx, step⟩
    · have td := T.done (X.blk s3 H3 scope ce fp) rfl rfl rfl hc i [] s5 _ H5 (fun _ _ => False) I5 (stat I5 n5) st5 stop
      refine thnF td fun r s6 ⟨hr, I6⟩ => ?_
      subst hr
      have I7 : Inv X pins σ H5 s6 := I3.call' (ch := fp) I6.os I6.base I6.hok I6.bare fun b hb => ⟨(f3 b hb).1.2.2.2.1, (f3 b hb).1.2.1, (f3 b hb).1.2.2.2.2.1, (f3 b hb).1.2.2.2.2.2⟩
      have nC : H5 s3.heap.objs.size = none := by
        have z : H5 ce.locals = none := I6.free
        rw [cL] at z
        exact z
      obtain ⟨m, hn, _⟩ := I6.loc
      have hn : s6.heap.Ns ce.locals m := hn
      rw [cL] at hn
      exact hRR D s3.heap.objs.size s6 m H5 I7 qq hn (I3.fpOk (Nat.le_refl _) nC)
    · have ti := T.item (X.blk s3 H3 scope ce fp) rfl rfl rfl hc i [] s5 _ H5 (fun _ _ => False) I5 (stat I5 n5) st5 go
      refine thnF ti fun r s6 ⟨u, hr, h6⟩ => ?_
      subst hr
      refine thnF h6 fun _ s7 ⟨x, H7, I7, r7, y7, st7, n7⟩ => ?_
      have I7' := I7.pinned (stat I7 n7) (T.obj _ _ st7)
      refine thnF (pg _ s7 _ H7 x u _ I7' r7 (step x H7 y7)) fun _ s8 ⟨σ8, H8, I8, hw8, q8⟩ => ?_
      refine thnF (pt _ s8 σ8 H8 _ I8 q8) fun b s9 ⟨H9, I9, q9⟩ => ?_
      have fin : ∀ {s' : Shared} {H' : Hp}, Inv (X.blk s3 H3 scope ce fp) ([] ++ pinsAt fp s7.heap) σ8 H' s' → Nx H' → ∃ m, m < n ∧ ∃ i H', Inv (X.blk s3 H3 scope ce fp) [] (wipe σ (own.map (·.2))) H' s' ∧ tn i s'.heap ∧ (∀ b ∈ fp, H' b = none) ∧ W i m H' := fun {s' H'} I' nx => by
        obtain ⟨m', hm, w'⟩ := hNx H' nx
        have pin' : ∀ b ∈ fp, ∀ o, s7.heap.get? b = some o → s'.heap.get? b = some o ∧ H' b = none := fun b hb o e =>
          let z := I'.pin (b, o) (List.mem_append_right _ (List.mem_append_right _ (mem_pinsAt hb e)))
          ⟨z.1, z.2.1⟩
        have hl : (wipe σ (own.map (·.2))).length = σ8.length := by rw [← hw8, wipe_length]
        refine ⟨m', hm, i + 1, H', (I'.unpinned (pins := [])).weak hl (fun j v e => ?_), T.keep _ _ _ st7 fun b hb o e => (pin' b hb o e).1, fun b hb => ?_, w'⟩
        · rw [← hw8] at e
          exact (wipe_some e).1
        · obtain ⟨o, e, _⟩ := T.obj _ _ st7 b hb
          exact (pin' b hb o e).2
      cases b with
      | false =>
        simp only [Bool.false_eq_true, if_false] at q9 ⊢
        exact fin I9 q9
      | true =>
        simp only [if_true] at q9 ⊢
        refine thnF (pe _ s9 σ8 H9 _ I9 q9) fun z s10 ⟨yv, H10, I10, r10, acc, hD10, hz10, nx⟩ => ?_
        exact app_ok (X := X.blk s3 H3 scope ce fp) I10 hD10 hz10 r10 fun s11 I11 => fin I11 nx
  exact codeAny_compStart_list loop (T.self X.A 0 _ _ _ st4 loop)
theorem pe_lc {elt tg iter : Expr} {ifs : List Expr} {scope : Scope} {own : List (Str × Nat)} {pos : Pos} {wi : TI} {g : TG} {tt : TT} {te : TE} (hc : X.calm = true) (hN : X.N.Nodup) (hi : PI X tg iter wi) (ok : BlkOk X.N X.env.scope scope own)
    (hg : ∀ (s : Shared) (H : Hp) (C : Addr) (cl : List (Str × Addr)) (fp : List Addr), PG (X.blk s H scope (compEnvC scope cl C X.env) fp) tg g) (ht : ∀ (s : Shared) (H : Hp) (C : Addr) (cl : List (Str × Addr)) (fp : List Addr), PTs (X.blk s H scope (compEnvC scope cl C X.env) fp) ifs tt)
    (he : ∀ (s : Shared) (H : Hp) (C : Addr) (cl : List (Str × Addr)) (fp : List Addr), PE (X.blk s H scope (compEnvC scope cl C X.env) fp) elt te) (hs : ∀ x, foldedSetIterable iter X.env x = pure x := by intro _; rfl) :
    PE X (.ListComp elt [⟨tg, iter, ifs, 0⟩] scope pos) (tLc wi g tt te (own.map (·.2))) := by
  intro pins s σ H Q I h
  rw [eval_ListComp]
  refine lc_core hc hN I hi ok hg ht he hs h fun D C s' m H' I' q hn f => ⟨m, hn, fun h'' sb => ?_⟩
  obtain ⟨f0, f1, f2, f3, f4, f5⟩ := f
  exact ⟨.ref D, H', I'.turned (t' := s'.toks) (fun b o hb e => (sb.2 b hb).trans e) f0 f1 f3 f4 f5, rfl, q⟩
end
def blkC (N : List Str) (sc scope : Scope) (own : List (Str × Nat)) : Bool :=
  (match scope.kind with | .function => true | _ => false) && (scope.names.all fun y => decide (scope.names.lookup y.1 = some y.2)) && (own.all fun p => decide (N[p.2]? = some p.1)) &&
    (scope.names.all fun y => match y.2 with
      | .free => (match sc.names.lookup y.1 with | some .cell => true | some .free => true | _ => false)
      | .local => decide (y.1 ∈ own.map (·.1)) || decide (y.1 ∉ N)
      | .cell => decide (y.1 ∈ own.map (·.1)) || decide (y.1 ∉ N)
      | _ => true)
theorem blkOk_by {N : List Str} {sc scope : Scope} {own : List (Str × Nat)} (h : blkC N sc scope own = true) : BlkOk N sc scope own := by
  unfold blkC at h
  simp only [Bool.and_eq_true, List.all_eq_true, decide_eq_true_eq] at h
  obtain ⟨⟨⟨h1, h2⟩, h3⟩, h4⟩ := h
  refine ⟨?_, h2, h3, fun y hy e => ?_, fun y hy e => ?_⟩
  · split at h1
    · assumption
    · cases h1
  · have q := h4 y hy
    simp only [e] at q
    split at q <;> first | exact .inl (by assumption) | exact .inr (by assumption) | cases q
  · have q := h4 y hy
    rcases e with e | e <;> (simp only [e, Bool.or_eq_true, decide_eq_true_eq] at q; exact q)
end L2
namespace L2
open PySem PySem.Spec PyProof.Rows
section
variable {prog : Program} {w : World} {A : Around} {R : Result → Shared → Prop} {s : Shared} {elt t0 i0 t1 i1 : Expr} {ifs0 ifs1 : List Expr} {scope : Scope} {pos : Pos} {it acc : Value} {env : Env}
end
section
variable {X : Cx}
end
end L2
namespace L2
open PySem PySem.Spec PyProof.Rows
section
variable {κ : Type} [DecidableEq κ]
def valV (kvs : List (κ × V)) (k : κ) : Option V := (kvs.find? fun kv => decide (kv.1 = k)).map (·.2)
def putK (kvs : List (κ × V)) (k : κ) (v : V) : List (κ × V) :=
  if (kvs.any fun kv => decide (kv.1 = k)) = true then kvs.map (fun kv => if kv.1 = k then (kv.1, v) else kv) else kvs ++ [(k, v)]
def dropK (kvs : List (κ × V)) (k : κ) : List (κ × V) := kvs.filter fun kv => decide (kv.1 ≠ k)
theorem valV_pos {p : κ × V} {r : List (κ × V)} {k : κ} (e : p.1 = k) : valV (p :: r) k = some p.2 := by simp [valV, List.find?_cons, e]
theorem valV_neg {p : κ × V} {r : List (κ × V)} {k : κ} (e : ¬ p.1 = k) : valV (p :: r) k = valV r k := by simp [valV, List.find?_cons, e]
theorem RelO.getD {o : Option V} {u : Option Value} {d : V} {d' : Value} (r : RelO o u) (rd : RelV d d') : RelV (o.getD d) (u.getD d') := by
  cases o with
  | none => cases u with
    | none => exact rd
    | some _ => exact (show False from r).elim
  | some _ => cases u with
    | none => exact (show False from r).elim
    | some _ => exact r
theorem KV.val {kvs : List (κ × V)} {vs : List (κ × Value)} (r : KV kvs vs) (k : κ) : RelO (valV kvs k) (valueAt vs k) := by
  unfold KV at r
  induction r with
  | nil => exact True.intro
  | @cons p q ps qs h t ih =>
    obtain ⟨h1, h2⟩ := h
    by_cases e : p.1 = k
    · have e' : q.1 = k := h1.symm.trans e
      have b : valueAt (q :: qs) k = some q.2 := by simp [valueAt, List.find?_cons, e']
      rw [valV_pos e, b]; exact h2
    · have e' : ¬ q.1 = k := fun z => e (h1.trans z)
      have b : valueAt (q :: qs) k = valueAt qs k := by simp [valueAt, List.find?_cons, e']
      rw [valV_neg e, b]; exact ih
theorem KV.any {kvs : List (κ × V)} {vs : List (κ × Value)} (r : KV kvs vs) (k : κ) : (kvs.any fun kv => decide (kv.1 = k)) = vs.any fun kv => decide (kv.1 = k) := by
  unfold KV at r
  induction r with
  | nil => rfl
  | cons h t ih => rw [List.any_cons, List.any_cons, ih, h.1]
theorem KV.drop {kvs : List (κ × V)} {vs : List (κ × Value)} (r : KV kvs vs) (k : κ) : KV (dropK kvs k) (without vs k) := by
  unfold KV at r ⊢
  unfold dropK without
  induction r with
  | nil => exact .nil
  | @cons p q ps qs h t ih =>
    obtain ⟨h1, h2⟩ := h
    rw [List.filter_cons, List.filter_cons]
    by_cases e : p.1 = k
    · have a : ¬ decide (p.1 ≠ k) = true := by simp [e]
      have b : ¬ decide (q.1 ≠ k) = true := by simp [h1.symm.trans e]
      rw [if_neg a, if_neg b]; exact ih
    · have e' : ¬ q.1 = k := fun z => e (h1.trans z)
      have a : decide (p.1 ≠ k) = true := by simp [e]
      have b : decide (q.1 ≠ k) = true := by simp [e']
      rw [if_pos a, if_pos b]; exact .cons ⟨h1, h2⟩ ih
theorem KV.length {kvs : List (κ × V)} {vs : List (κ × Value)} (r : KV kvs vs) : kvs.length = vs.length := Paired.length r
end
theorem kV_is {P : Program} {w : World} {k : Key} {u : Value} (r : RelV (kV k) u) : (mixKind P w).is k u = true := by
  cases k with
  | inl i => obtain ⟨t, e⟩ := (show ∃ t, u = Value.int i t from r); subst e; exact mixKind_int P w i t
  | inr x => obtain ⟨t, e⟩ := (show ∃ t, u = Value.str x t from r); subst e; exact mixKind_str P w x t
theorem items_are {P : Program} {w : World} : ∀ {ks : List Key} {us : List Value}, Vals (ks.map kV) us → ItemsAre (mixKind P w) ks us
  | [], _, r => by rw [List.map_nil] at r; cases r; exact .nil
  | k :: ks, _, r => by
    rw [List.map_cons] at r
    cases r with
    | cons h t => exact .cons (kV_is h) (items_are t)
abbrev KT (H : Hp) : List (List Key × V) → List (List Key × Addr × Value) → Prop := Paired fun p q => p.1 = q.1 ∧ H q.2.1 = some (.tup (p.1.map kV)) ∧ RelV p.2 q.2.2
theorem KT.val {H : Hp} {kvs : List (List Key × V)} {xs : List (List Key × Addr × Value)} (r : KT H kvs xs) (k : List Key) : RelO (valV kvs k) ((atKey xs k).map (·.2)) := by
  induction r with
  | nil => exact True.intro
  | @cons p q ps qs h t ih =>
    obtain ⟨h1, _, h2⟩ := h
    by_cases e : p.1 = k
    · have e' : q.1 = k := h1.symm.trans e
      have b : atKey (q :: qs) k = some q.2 := by simp [atKey, List.find?_cons, e']
      rw [valV_pos e, b]; exact h2
    · have e' : ¬ q.1 = k := fun z => e (h1.trans z)
      have b : atKey (q :: qs) k = atKey qs k := by simp [atKey, List.find?_cons, e']
      rw [valV_neg e, b]; exact ih
theorem KT.keeps {H H' : Hp} {kvs : List (List Key × V)} {xs : List (List Key × Addr × Value)} (r : KT H kvs xs) (ht : ∀ b ys, H b = some (.tup ys) → H' b = some (.tup ys)) : KT H' kvs xs :=
  Paired.mapP r fun _ _ z => ⟨z.1, ht _ _ z.2.1, z.2.2⟩
section
variable {P : Program} {w : World} {H : Hp} {h : Heap} {a : Addr}
end
def DGet (H : Hp) (a : Addr) (y : V) (r : Option V) : Prop :=
  (∃ kvs k, Rd H a (.dK kvs) ∧ y = kV k ∧ r = valV kvs k) ∨ ∃ kvs k b, Rd H a (.dT kvs) ∧ y = .ref b ∧ H b = some (.tup (k.map kV)) ∧ r = valV kvs k
def DPut (H : Hp) (a : Addr) (y v : V) (H' : Hp) : Prop :=
  (∃ kvs k, H a = some (.dK kvs) ∧ y = kV k ∧ kvs.length < sizeLine ∧ H' = upd H a (.dK (putK kvs k v))) ∨
  ∃ kvs k b, H a = some (.dT kvs) ∧ y = .ref b ∧ H b = some (.tup (k.map kV)) ∧ kvs.length < sizeLine ∧ H' = upd H a (.dT (putK kvs k v))
theorem DGet.k {H : Hp} {a : Addr} {kvs : List (Key × V)} {k : Key} (e : H a = some (.dK kvs)) : DGet H a (kV k) (valV kvs k) := .inl ⟨kvs, k, .inl e, rfl, rfl⟩
theorem DGet.t {H : Hp} {a b : Addr} {kvs : List (List Key × V)} {k : List Key} (e : H a = some (.dT kvs)) (eb : H b = some (.tup (k.map kV))) : DGet H a (.ref b) (valV kvs k) := .inr ⟨kvs, k, b, .inl e, rfl, eb, rfl⟩
theorem DPut.k {H : Hp} {a : Addr} {kvs : List (Key × V)} {k : Key} {v : V} (e : H a = some (.dK kvs)) (hl : kvs.length < sizeLine) : DPut H a (kV k) v (upd H a (.dK (putK kvs k v))) := .inl ⟨kvs, k, e, rfl, hl, rfl⟩
theorem DPut.t {H : Hp} {a b : Addr} {kvs : List (List Key × V)} {k : List Key} {v : V} (e : H a = some (.dT kvs)) (eb : H b = some (.tup (k.map kV))) (hl : kvs.length < sizeLine) :
    DPut H a (.ref b) v (upd H a (.dT (putK kvs k v))) := .inr ⟨kvs, k, b, e, rfl, eb, hl, rfl⟩
section
variable {X : Cx} {pins : List (Addr × Obj)} {σ : St} {H : Hp} {s : Shared} {a : Addr} {y v : V} {u r : Value} {o : Option V} {A : Around} {E : Value → Shared → Prop}
theorem Inv.big (I : Inv X pins σ H s) : sysModules < s.heap.objs.size := by
  have h : mainGlobals < s.heap.objs.size := (I.mod.glob.keeps I.bk).lt
  exact Nat.lt_trans (by decide) h
theorem d_write {h' : Heap} {t' : Nat} {ob : HO} (I : Inv X pins σ H s) (mu : Mut (H a)) (hs : Heap.SameBut a s.heap h') (he : ∃ q, h'.get? a = some q) (new : ObjOk X.prog X.w (upd H a ob) h' a ob) :
    Inv X pins σ (upd H a ob) { s with heap := h', toks := t' } :=
  I.write (x := a) (e := a) mu (.inl rfl) (fun b q hb z => (hs.2 b hb).trans z) he new
end
section
variable {X : Cx} {pins : List (Addr × Obj)} {σ : St} {H : Hp} {s : Shared} {a : Addr} {kvs : List (Key × V)} {k : Key} {u : Value} {A : Around} {E : Value → Shared → Prop}
end
section
variable {X : Cx} {o i e value : Expr} {pos pos' tpos : Pos} {td ty tv : TE}
end
section
variable {X : Cx} {pos : Pos}
end
structure M1 (X : Cx) (o : Expr) (m : Str) (apos : Pos) (e : Expr) (cpos : Pos) : Prop where
  base : attributeBase o m X.env (eval o X.env) = eval o X.env
  few : ((backTo cpos (starEach [e] X.env)).all (fun x => !x.1) && (backToKw cpos (keywordEach [] X.env)).all (fun x => x.1.isSome)
    && decide (([e] : List Expr).length + ([] : List Keyword).length + (if ([] : List Keyword).isEmpty then 0 else 1) < 30)) = true
  line : (apos.endLine == cpos.line) = true
  trees : backTo cpos (starEach [e] X.env) = [(false, eval e X.env)]
structure M2 (X : Cx) (o : Expr) (m : Str) (apos : Pos) (e f : Expr) (cpos : Pos) : Prop where
  base : attributeBase o m X.env (eval o X.env) = eval o X.env
  few : ((backTo cpos (starEach [e, f] X.env)).all (fun x => !x.1) && (backToKw cpos (keywordEach [] X.env)).all (fun x => x.1.isSome)
    && decide (([e, f] : List Expr).length + ([] : List Keyword).length + (if ([] : List Keyword).isEmpty then 0 else 1) < 30)) = true
  line : (apos.endLine == cpos.line) = true
  trees : backTo cpos (starEach [e, f] X.env) = [(false, eval e X.env), (false, eval f X.env)]
section
variable {X : Cx} {pins : List (Addr × Obj)} {σ : St} {H : Hp} {s : Shared} {a : Addr} {y d : V} {u r : Value} {o : Option V} {A : Around} {E : Value → Shared → Prop}
end
section
variable {X : Cx} {o e f : Expr} {apos cpos : Pos} {td ty tx : TE}
end
section
variable {X : Cx} {pins : List (Addr × Obj)} {σ : St} {H : Hp} {s : Shared} {a : Addr} {kvs : List (Key × V)} {A : Around} {E : Value → Shared → Prop}
end
section
variable {X : Cx} {pins : List (Addr × Obj)} {σ : St} {H : Hp} {s : Shared} {a : Addr} {y : V} {u : Value} {A : Around} {E : Value → Shared → Prop}
end
end L2
namespace L2
open PySem PySem.Spec PyProof.Rows
section
variable {prog : Program} {w : World} {A : Around} {E : Value → Shared → Prop}
end
section
variable {X : Cx}
theorem pairs_of {pins : List (Addr × Obj)} {σ : St} {H : Hp} {s : Shared} (I : Inv X pins σ H s) : ∀ {ps : List Addr} {kvs : List (Key × V)}, Paired (fun p kv => SqT X.K H p [kV kv.1, kv.2]) ps kvs →
    ∃ prs : List (Key × Value), KV kvs prs ∧ prs.length = ps.length ∧ ∀ (j : Nat) (q : Key × Value), prs[j]? = some q → ∃ (b : Addr) (u : Value), ps[j]? = some b ∧ IsTup s.heap b #[u, q.2] ∧ keyIs q.1 u = true
  | _, _, .nil => ⟨[], .nil, rfl, fun j q e => by simp at e⟩
  | _, _, .cons (a := p) (b := kv) h t => by
    obtain ⟨prs, r, hl, hp⟩ := pairs_of I t
    obtain ⟨its, rv, ht, _⟩ := I.tuple h
    obtain ⟨u, y, ei, ru, ry⟩ := vals2 rv
    subst ei
    refine ⟨(kv.1, y) :: prs, .cons ⟨rfl, ry⟩ r, by rw [List.length_cons, List.length_cons, hl], fun j q e => ?_⟩
    cases j with
    | zero =>
      have e' : (kv.1, y) = q := Option.some.inj e
      subst e'
      exact ⟨p, u, rfl, ht, kV_is (P := X.prog) (w := X.w) ru⟩
    | succ j =>
      obtain ⟨b, u', e1, e2, e3⟩ := hp j q (by simpa using e)
      exact ⟨b, u', by simpa using e1, e2, e3⟩
end
end L2
namespace L2
open PySem PySem.Spec PyProof.Rows
theorem boot_reversed5 : bootBuiltins "reversed" = some (.type "reversed") := by decide +kernel
section
variable {X : Cx} {pins : List (Addr × Obj)} {σ : St} {H : Hp} {s : Shared} {h' : Heap}
end
section
variable {X : Cx}
theorem pi_one {tg : Expr} {pins : List (Addr × Obj)} {σ : St} {H : Hp} {s : Shared} {R : It → Hp → Prop} {J : It} {tn : Nat → Heap → Prop} {tk : Nat} (I : Inv X pins σ H s) (o : Obj)
    (T : Turn X.prog X.w X.K tg J [s.heap.objs.size] s.heap.objs.size tn) (st : tn 0 (s.heap.push o)) (q : R J H) : PIE X pins σ tg R (.ref s.heap.objs.size) { s with heap := s.heap.push o, toks := tk } := by
  refine ⟨s.heap.objs.size, [s.heap.objs.size], tn, J, H, rfl, I.kept fun b ob e => Heap.get?_push_of_some _ e, T, st, fun b hb => ?_, q⟩
  have e : b = s.heap.objs.size := by simpa using hb
  subst e
  exact I.fpOk (Nat.le_refl _) (I.hok.fresh (Nat.le_refl _))
end
section
variable {X : Cx} {tg : Expr}
end
def Itv (K : PySem.W.Frag) (a : Addr) (n : Nat) : It :=
  ⟨fun i H => i < n ∧ ∃ (xs : List V) (x : V), SqL K H a xs ∧ xs[n - 1 - i]? = some x, fun i H x H' => H' = H ∧ ∀ xs, SqL K H a xs → xs[n - 1 - i]? = some x, fun i _ => n ≤ i⟩
theorem turn_rev {P : Program} {w : World} {K : PySem.W.Frag} {tg : Expr} (a it : Addr) (n : Nat) : Turn P w K tg (Itv K a n) [it] it (fun i h => i ≤ n ∧ h.IsRevIter it a ((n : Int) - 1 - (i : Nat))) where
  mem := by simp
  obj := fun i h st b hb => by
    have e : b = it := by simpa using hb
    subst e
    obtain ⟨_, o, e, c, d⟩ := st
    exact ⟨o, e, fun v z => by rw [d] at z; cases z⟩
  keep := fun i h h' st k => ⟨st.1, st.2.at fun o e => k it (by simp) o e⟩
  item := by
    intro X hP hw hK hc i pins s σ H E I hf st hg
    subst hP hw hK
    obtain ⟨hin, xs, x, hq, hx⟩ := hg
    obtain ⟨its, rv, p, hz⟩ := I.list hq
    obtain ⟨u, hu, ru⟩ := rv.get hx
    obtain ⟨f0, f1, f2, f3, f4, f5⟩ := hf it (by simp)
    obtain ⟨_, hit⟩ := st
    have e1 : (n : Int) - 1 - ((i : Nat) : Int) = ((n - 1 - i : Nat) : Int) := by omega
    rw [e1] at hit
    refine wpAny_pyNext_rev_item hit p.isList (x := u) (by simpa using hu) fun h' st' sb => ?_
    have e2 : ((n - 1 - i : Nat) : Int) - 1 = (n : Int) - 1 - ((i + 1 : Nat) : Int) := by omega
    rw [e2] at st'
    have I1 : Inv X pins σ H { s with heap := h' } := I.turned (t' := s.toks) (fun b o hb e => (sb.2 b hb).trans e) f0 f1 f3 f4 f5
    obtain ⟨o, e, c, d⟩ := id st'
    exact ⟨u, rfl, go_of (s := { s with heap := h' }) e c d (by decide) ⟨x, H, I1, ru, ⟨rfl, fun ys hy => by rw [I.list_inj hy hq]; exact hx⟩, ⟨hin, st'⟩, fun b hb => (hf b hb).1⟩⟩
  done := by
    intro X hP hw hK hc i pins s σ H E I hf st hg
    subst hP hw hK
    obtain ⟨f0, f1, f2, f3, f4, f5⟩ := hf it (by simp)
    obtain ⟨hin, hit⟩ := st
    have hge : n ≤ i := hg
    have e1 : (n : Int) - 1 - ((i : Nat) : Int) = -1 := by omega
    rw [e1] at hit
    exact wpAny_pyNext_rev_end (I.ok.hd hc) hit fun h' eb => ⟨rfl, I.turned (t' := s.toks) (fun b o hb e => eb b o hb e) f0 f1 f3 f4 f5⟩
  self := fun A i s Q E st h => wpAny_pyIter_revIter st.2 h
def iRev (K : PySem.W.Frag) (ta : TA) : TI := fun σ H R => ta σ H fun vs H1 => ∃ (a : Addr) (xs : List V), vs = [.ref a] ∧ SqL K H1 a xs ∧ R (Itv K a xs.length) H1
section
variable {X : Cx} {tg : Expr}
theorem pi_reversed {e : Expr} {ta : TA} {p pos : Pos} (hg : Gl X "reversed") (hm : X.mg "reversed" = none) (ha : PA X [e] ta) (hs : starEach [e] X.env = [(false, eval e X.env)] := by rfl) : PI X tg (.Call (.Name "reversed" p) [e] [] pos) (iRev X.K ta) := by
  intro pins s σ H R I h
  refine Call_ (ld_blt I hg hm boot_reversed5 (PyProof.Rows.callWith_type1 (thn (ha pos pins s σ H _ I h) fun us s1 ⟨vs, H1, I1, r1, q1⟩ => ?_) hs rfl))
  obtain ⟨a, xs, e, hq, q⟩ := q1
  subst e
  cases r1 with
  | cons r rr =>
    cases rr
    cases r
    obtain ⟨its, rv, p', hz⟩ := I1.list hq
    have hl := rv.length
    have e1 : ((its.toArray.size : Nat) : Int) - 1 = (xs.length : Int) - 1 - ((0 : Nat) : Int) := by simp only [List.size_toArray]; omega
    refine call_reversed_list p'.isList (wpAny_pyIter_revIter (l := a) (i := ((its.toArray.size : Nat) : Int) - 1) ⟨_, Heap.get?_push_size _ rfl, rfl, rfl⟩ ?_)
    refine pi_one (tk := s1.toks) I1 _ (turn_rev a _ xs.length) ⟨Nat.zero_le _, ?_⟩ q
    rw [← e1]
    exact ⟨_, Heap.get?_push_size _ rfl, rfl, rfl⟩
end
section
variable {prog : Program} {w : World} {A : Around} {E : Value → Shared → Prop} {s : Shared}
end
section
variable {X : Cx} {pins : List (Addr × Obj)} {σ : St} {H : Hp} {s : Shared} {d : Addr} {o : Obj}
end
section
variable {P : Program} {w : World} {K : PySem.W.Frag} {tg : Expr} {d : Addr} {o : Obj} {es : Array DictEntry} {ep : Nat}
end
section
variable {X : Cx} {tg e : Expr} {td : TE} {apos cpos : Pos}
end
end L2
section
namespace Bits
open PySem PyProof.Rows
end Bits
end
section
namespace TL
open PySem PySem.Builtin PySem.Builtin.Str PySem.StrLaws
abbrev tl (x : Str) : List Nat := x.cps.toList
def pre (S l : List Nat) : Bool := l.take S.length == S
def par (S : List Nat) : List Nat → List Nat → Option (List Nat × List Nat)
  | _, [] => none
  | acc, c :: r => if pre S (c :: r) = true then some (acc, (c :: r).drop S.length) else par S (acc ++ [c]) r
end TL
end
namespace L2
open PySem PySem.Spec PyProof.Rows
theorem notLong {n : Nat} (h : n ≤ 16777216) : Builtin.Str.tooLong n = false := by
  have e : (2 : Nat) ^ 24 = 16777216 := by decide
  unfold Builtin.Str.tooLong sizeLine
  exact decide_eq_false (by omega)
section
variable {X : Cx} {pins : List (Addr × Obj)} {σ : St} {H : Hp} {s : Shared} {Q : VK}
end
section
variable {X : Cx}
end
section
variable {X : Cx} {o e : Expr} {to te : TE}
end
end L2
namespace L2
open PySem PySem.Spec PyProof.Rows
section
variable {X : Cx}
theorem op_le_str : OpR X (compareOp .LtE) (fun x y H Q => ∃ i j, x = .str i ∧ y = .str j ∧ Q (.bl (!decide (j.cps.toList < i.cps.toList))) H) := by
  intro pins s σ H x y v u Q I rx ry h
  obtain ⟨i, j, rfl, rfl, q⟩ := h
  obtain ⟨t, rfl⟩ := rx
  obtain ⟨t', rfl⟩ := ry
  exact PySem.P.le_str (fin_bl I q rfl)
theorem op_gt_str : OpR X (compareOp .Gt) (fun x y H Q => ∃ i j, x = .str i ∧ y = .str j ∧ Q (.bl (decide (j.cps.toList < i.cps.toList))) H) := by
  intro pins s σ H x y v u Q I rx ry h
  obtain ⟨i, j, rfl, rfl, q⟩ := h
  obtain ⟨t, rfl⟩ := rx
  obtain ⟨t', rfl⟩ := ry
  exact PySem.P.gt_str (fin_bl I q rfl)
theorem op_ge_str : OpR X (compareOp .GtE) (fun x y H Q => ∃ i j, x = .str i ∧ y = .str j ∧ Q (.bl (!decide (i.cps.toList < j.cps.toList))) H) := by
  intro pins s σ H x y v u Q I rx ry h
  obtain ⟨i, j, rfl, rfl, q⟩ := h
  obtain ⟨t, rfl⟩ := rx
  obtain ⟨t', rfl⟩ := ry
  exact PySem.P.ge_str (fin_bl I q rfl)
end
theorem IsPart.raw {v : Value} {o : Option Int} (p : IsPart v o) : ∃ l : Option (Int × Tok), v = partValue l ∧ l.map (·.1) = o := by
  cases p with
  | none => exact ⟨none, rfl, rfl⟩
  | int i t => exact ⟨some (i, t), rfl, rfl⟩
def clipS (n d : Nat) : Option Int → Int
  | none => (d : Int)
  | some i => max 0 (min (if i < 0 then i + (n : Int) else i) (n : Int))
theorem clipS_eq (n d : Nat) (o : Option Int) : clipS n d o = ((HT.sIx n d o : Nat) : Int) := by
  cases o with
  | none => rfl
  | some v =>
    show max (0 : Int) (min (if v < 0 then v + (n : Int) else v) (n : Int)) = (((if v < 0 then (v + (n : Int)).toNat else min v.toNat n) : Nat) : Int)
    by_cases hv : v < 0
    · simp only [if_pos hv]
      omega
    · simp only [if_neg hv]
      omega
theorem sidx_clip (a b : Option Int) (n : Nat) : Builtin.Str.strSliceIndices a b 1 n = sliceRange (clipS n 0 a) (clipS n n b) 1 := by
  have h1 : ((1 : Int) > 0) = True := by simp
  cases a <;> cases b <;> first
    | rfl
    | (simp only [Builtin.Str.strSliceIndices, clipS, h1, if_true]; rfl)
    | simp [Builtin.Str.strSliceIndices, clipS]
theorem sidx (a b : Option Int) (n : Nat) : Builtin.Str.strSliceIndices a b 1 n = (List.range (HT.sIx n n b - HT.sIx n 0 a)).map (fun k => HT.sIx n 0 a + k) := by
  rw [sidx_clip, clipS_eq, clipS_eq]
  generalize HT.sIx n 0 a = p
  generalize HT.sIx n n b = q
  simp only [sliceRange, show ((1 : Int) > 0) = True from by simp, if_true]
  by_cases hlt : (p : Int) < q
  · have e3 : (((q : Int) - p + 1 - 1) / 1).toNat = q - p := by first | omega | (simp; done) | (simp; omega)
    simp only [hlt, if_true, e3]
    refine List.map_congr_left fun k _ => ?_
    omega
  · have : q - p = 0 := by omega
    simp [hlt, this]
def cutS (z : Str) (lo hi : Option Int) : Str :=
  ⟨((z.cps.toList.drop (HT.sIx z.length 0 lo)).take (HT.sIx z.length z.length hi - HT.sIx z.length 0 lo)).toArray⟩
theorem sliceText_cut (z : Str) (lo hi : Option Int) : PySem.StrLaws.sliceText z lo hi = cutS z lo hi := by
  have h1 : HT.sIx z.length 0 lo ≤ z.length := HT.sIx_le _ _ (Nat.zero_le _) _
  have h2 : HT.sIx z.length z.length hi ≤ z.length := HT.sIx_le _ _ (Nat.le_refl _) _
  have hp : HT.sIx z.length 0 lo ≤ max (HT.sIx z.length 0 lo) (HT.sIx z.length z.length hi) := Nat.le_max_left _ _
  have hq : max (HT.sIx z.length 0 lo) (HT.sIx z.length z.length hi) ≤ z.length := Nat.max_le.mpr ⟨h1, h2⟩
  have hd : max (HT.sIx z.length 0 lo) (HT.sIx z.length z.length hi) - HT.sIx z.length 0 lo = HT.sIx z.length z.length hi - HT.sIx z.length 0 lo := by omega
  have e : Builtin.Str.strSliceIndices lo hi 1 z.length =
      Builtin.Str.strSliceIndices (some ((HT.sIx z.length 0 lo : Nat) : Int)) (some ((max (HT.sIx z.length 0 lo) (HT.sIx z.length z.length hi) : Nat) : Int)) 1 z.length := by
    rw [PySem.StrLaws.strSliceIndices_plain hp hq, hd, sidx]
  have e2 : PySem.StrLaws.sliceText z lo hi =
      PySem.StrLaws.sliceText z (some ((HT.sIx z.length 0 lo : Nat) : Int)) (some ((max (HT.sIx z.length 0 lo) (HT.sIx z.length z.length hi) : Nat) : Int)) := by
    unfold PySem.StrLaws.sliceText
    rw [e]
  rw [e2, PySem.StrLaws.sliceText_nat z hp hq, hd]
  rfl
theorem cutS_length (z : Str) (lo hi : Option Int) : (cutS z lo hi).length ≤ z.length := by
  show (((z.cps.toList.drop (HT.sIx z.length 0 lo)).take (HT.sIx z.length z.length hi - HT.sIx z.length 0 lo)).toArray).size ≤ z.cps.size
  rw [List.size_toArray, List.length_take, List.length_drop, Array.length_toList]
  omega
def rSlS : V → Option Int → Option Int → Hp → VK → Prop := fun x lo hi H Q => ∃ z, x = .str z ∧ z.length ≤ sizeLine ∧ Q (.str (cutS z lo hi)) H
theorem sl_str {X : Cx} : SlR X rSlS := by
  intro pins s σ H x v vl vu lo hi sl Q I rx hs pl pu h
  obtain ⟨z, rfl, hz, q⟩ := h
  obtain ⟨t, rfl⟩ := rx
  obtain ⟨os, hos, hcs, hds⟩ := hs
  obtain ⟨l, rfl, rfl⟩ := IsPart.raw pl
  obtain ⟨u, rfl, rfl⟩ := IsPart.raw pu
  refine ⟨"str", _, F.slot_str_getitem.lookup, typeIs_str _ _ _, ?_⟩
  refine wpAny_getItem_str_slice (l := l) (u := u) (st := none) ⟨os, hos, hcs, hds⟩ rfl ?_
  have hl : (PySem.StrLaws.sliceText z (l.map (·.1)) (u.map (·.1))).length ≤ sizeLine := by
    rw [sliceText_cut]
    exact Nat.le_trans (cutS_length z _ _) hz
  rw [← sliceText_cut] at q
  unfold PySem.StrLaws.sliceText at q hl
  show Made.post (if ((1 : Int) == 1 && (Builtin.Str.strSliceIndices (l.map (·.1)) (u.map (·.1)) 1 z.length).length == z.length) = true then Made.val (.str z t)
    else Made.str ⟨((Builtin.Str.strSliceIndices (l.map (·.1)) (u.map (·.1)) 1 z.length).filterMap (z.cps[·]?)).toArray⟩) (EP X pins σ Q) s
  by_cases c : ((1 : Int) == 1 && (Builtin.Str.strSliceIndices (l.map (·.1)) (u.map (·.1)) 1 z.length).length == z.length) = true
  · rw [if_pos c] at q ⊢
    exact ⟨.str z, H, I, ⟨t, rfl⟩, q⟩
  · rw [if_neg c] at q hl ⊢
    exact ⟨hl, .str _, H, I.tok _, ⟨_, rfl⟩, q⟩
end L2
namespace Att
open PySem PySem.W PySem.Calls PyProof.Rows
theorem ints_of_wellAll {P : Params} {h : Heap} : ∀ (ns : List Int) (vs : List Value), WellAll P h vs (ns.map WData.int) → IntsAre vs ns := by
  intro ns
  induction ns with
  | nil =>
    intro vs w
    rw [List.map_nil] at w
    cases w
    exact .nil
  | cons n ns ih =>
    intro vs w
    rw [List.map_cons] at w
    cases w with
    | cons a b =>
      cases a
      exact .cons _ _ (ih _ b)
theorem script_of {l : OpenLaw} {n : Nat} (hn : l.most = some n) {P : Params} {h : Heap} {args : List WData} {vals : List Value}
    (hpre : l.row.toRowW.claim.pre args = true) (hwl : WellAll P h vals args) :
    ∃ a vs ns, vals = [Value.ref a] ∧ args = [WData.list (ns.map WData.int)] ∧ h.get? a = some { cls := .type "list", data := .seq vs.toArray } ∧ IntsAre vs ns ∧ ns.length ≤ n := by
  have hsh : WShape.hasAll [] args [.list .int] = true := (pre_splitW hpre).1
  have hc : l.pre.holds [] { args := args } = true := (pre_splitW hpre).2
  obtain ⟨d, r, rfl, h1, h2⟩ := hasAllW_cons hsh
  obtain rfl := hasAllW_nil h2
  obtain ⟨xs, rfl, h3⟩ := hasW_list h1
  obtain ⟨ns, rfl⟩ := items_int h3
  have hlen : ns.length ≤ n := by
    unfold OpenLaw.pre at hc
    have h4 : (WTm.not (.lt (.lit (.int (n : Int))) (.len (.arg 0)))).holds [] { args := [.list (ns.map .int)] } = true := by
      have h4 := (holds_andW hc).1
      rw [hn] at h4
      exact h4
    have h5 := condW_of h4 (w_not (w_lt w_lit (w_len_list (w_arg rfl))))
    rw [List.length_map] at h5
    refine Nat.le_of_not_lt fun q => ?_
    have q' : (n : Int) < ((ns.length : Nat) : Int) := by omega
    first
      | (rw [decide_eq_true q'] at h5; exact absurd h5 (by decide))
      | (simp at h5; omega)
  cases hwl with
  | cons w1 w2 =>
    cases w2
    cases w1 with
    | list ho hall => exact ⟨_, _, ns, rfl, rfl, ho, ints_of_wellAll ns _ hall, hlen⟩
theorem post_true (l : OpenLaw) (args : List WData) : l.row.toRowW.claim.post args (.bool true) args = true :=
  postW_of (r := l.row.toRowW) (X := (true == true))
    (show WShape.has [] (.bool true) .bool = true by first | rfl | decide | simp [WShape.has, WShape.arms, WShape.armsAll])
    (show (WTm.eq .res (.lit (.bool true))).value [] { args := args, res := some (.bool true), after := args } = some (.bool (true == true)) from w_eq_bool (w_res rfl) w_lit) rfl
theorem attach {l : OpenLaw} {n : Nat} {q : Program} {loose : List Str} {XP : (Str → Option Value) → Heap → Prop} {YP : World → Heap → Prop} {d : DefRec} {x : Str}
    (hn : l.most = some n) (hdf : d.params.defaults = [])
    (hbind : ∀ pm cd doc v : Value, bindArgs (docDef d.name d.params d.body d.scope pm cd doc) ⟨[v], []⟩ = pure [(x, v)])
    (hx : d.scope.names.lookup x = some .local ∨ d.scope.names.lookup x = some .cell)
    (hk : d.scope.kind = .function) (hco : d.scope.isCoroutine = false) (hgen : d.scope.isGenerator = false)
    (body : ∀ (w : World) (s₀ s₁ s : Shared) (mg mb : Str → Option Value) (fa : Addr) (o : Obj) (pm cd doc : Value) (a : Addr) (vs : List Value) (ns : List Int),
      Ground q loose [] XP w s₀ mg mb s₁.heap → YP w s₁.heap →
      s₁.heap.get? fa = some o → o.data = .func (docDef d.name d.params d.body d.scope pm cd doc) → s₁.heap.CodeRec cd d.name → mg d.name = some (.ref fa) →
      s₁.heap.get? a = some { cls := .type "list", data := .seq vs.toArray } → IntsAre vs ns → ns.length ≤ n →
      s.gens = #[] → s.os = s₁.os →
      Fr s₁.heap s₁.heap.objs.size s.heap (bindL (envOfC d.name d.scope s₁.heap.objs.size fa cd).kindOf [(x, .ref a)] fun _ => none) →
      Cl s₁.heap.objs.size (cellsFrom (s₁.heap.objs.size + 1) d.scope.names []) s.heap (bindC (envOfC d.name d.scope s₁.heap.objs.size fa cd).kindOf [(x, .ref a)] fun _ => none) →
      wpAny (model l.prog w) (callerA.deeper (envOfC d.name d.scope s₁.heap.objs.size fa cd)) (execs d.body (envOfC d.name d.scope s₁.heap.objs.size fa cd))
        (fun f s' => f = .ret (.bool true) ∧ OldK s₁.heap s'.heap ∧ s'.os = s₁.os ∧ AllBare s'.gens) (fun _ _ => False) s) :
    WalkO q loose XP YP l.row.toRowW d [] (fun f vs => PySem.call f vs) := by
  intro w s₀ s₁ mg mb G Y fa o pm cd doc dV kV ho hd hcd hD hmg hg args vals as hpre hlay hrd hwl hlo
  obtain rfl : dV = .none := Dflts.none hD hdf
  obtain rfl : kV = .none := Dflts.noKw hD
  obtain ⟨a, vs, ns, rfl, rfl, hobj, hints, hlen⟩ := script_of hn hpre hwl
  refine enter_call ?_
  refine call_cells_ret (o := o) (by rw [depth_caller]; decide) ho (fd_plain hd) G.T.nolimit hcd (hbind pm cd doc (.ref a)) (fun y hy => ?_) (fun h₁ tk F X => ?_) hco hgen hk
  · obtain rfl : y = (x, Value.ref a) := List.mem_singleton.mp hy
    rcases hx with e | e
    · exact .inl e
    · exact .inr ⟨e, cellsFrom_some _ _ _ (.inl e)⟩
  · refine wpAny_mono (body w s₀ s₁ { s₁ with heap := h₁, toks := tk } mg mb fa o pm cd doc a vs ns G Y ho (fd_plain hd) hcd hmg hobj hints hlen hg rfl F X) (fun f s' hq => ?_) (fun _ _ hq => hq)
    obtain ⟨rfl, h2, h3, h4⟩ := hq
    exact ⟨.inl ⟨.bool true, .bool true, [], rfl, fun _ => rfl, .bool true, post_true l _, fun _ => ⟨List.Pairwise.nil, fun _ hm => (nomatch hm)⟩⟩, h2, h3, h4⟩
theorem attach_call {l : OpenLaw} {n : Nat} {q : Program} {loose : List Str} {XP : (Str → Option Value) → Heap → Prop} {YP : World → Heap → Prop} {d : DefRec}
    (hn : l.most = some n) (hdf : d.params.defaults = [])
    (call : ∀ (w : World) (s₀ s₁ : Shared) (mg mb : Str → Option Value) (fa : Addr) (o : Obj) (pm cd doc : Value) (a : Addr) (vs : List Value) (ns : List Int),
      Ground q loose [] XP w s₀ mg mb s₁.heap → YP w s₁.heap →
      s₁.heap.get? fa = some o → o.data = .func (docDef d.name d.params d.body d.scope pm cd doc) → s₁.heap.CodeRec cd d.name → mg d.name = some (.ref fa) →
      s₁.heap.get? a = some { cls := .type "list", data := .seq vs.toArray } → IntsAre vs ns → ns.length ≤ n → s₁.gens = #[] →
      codeAny (model l.prog w) callerA (.call (.ref fa) ⟨[.ref a], []⟩) (fun r s' => r = .ok (.ret (.bool true)) ∧ OldK s₁.heap s'.heap ∧ s'.os = s₁.os ∧ AllBare s'.gens) s₁) :
    WalkO q loose XP YP l.row.toRowW d [] (fun f vs => PySem.call f vs) := by
  intro w s₀ s₁ mg mb G Y fa o pm cd doc dV kV ho hd hcd hD hmg hg args vals as hpre hlay hrd hwl hlo
  obtain rfl : dV = .none := Dflts.none hD hdf
  obtain rfl : kV = .none := Dflts.noKw hD
  obtain ⟨a, vs, ns, rfl, rfl, hobj, hints, hlen⟩ := script_of hn hpre hwl
  refine enter_call (codeAny_mono (call w s₀ s₁ mg mb fa o pm cd doc a vs ns G Y ho (fd_plain hd) hcd hmg hobj hints hlen hg) fun r s' hq => ?_)
  obtain ⟨rfl, h2, h3, h4⟩ := hq
  exact ⟨.inl ⟨.bool true, .bool true, [], rfl, fun _ => rfl, .bool true, post_true l _, fun _ => ⟨List.Pairwise.nil, fun _ hm => (nomatch hm)⟩⟩, h2, h3, h4⟩
section
variable {prog : Program} {w : World} {A : Around} {E : Value → Shared → Prop} {s : Shared} {K : Frag}
end
end Att
namespace L2
open PySem PySem.Spec PyProof.Rows
theorem vals_ints : ∀ {vs : List Value} {ns : List Int}, IntsAre vs ns → Vals (ns.map V.int) vs
  | _, _, .nil => .nil
  | _, _, .cons n t h => .cons ⟨t, rfl⟩ (vals_ints h)
end L2
namespace L2
open PySem PySem.Spec PyProof.Rows
end L2
namespace L2
open PySem PySem.Spec PyProof.Rows
def defArgs (s : Stmt) : Arguments := match s with
  | .FunctionDef _ a _ _ _ _ _ _ _ _ => a
  | _ => { posonlyargs := [], args := [], vararg := none, kwonlyargs := [], kw_defaults := [], kwarg := none, defaults := [] }
def defBody (s : Stmt) : List Stmt := match s with
  | .FunctionDef _ _ b _ _ _ _ _ _ _ => b
  | _ => []
def defScope (s : Stmt) : Scope := match s with
  | .FunctionDef _ _ _ _ _ _ sc _ _ _ => sc
  | _ => { kind := .function, names := [], isGenerator := false, isCoroutine := false }
abbrev CX0 : CXT := fun _ _ _ _ _ _ => False
abbrev E0 : XK := fun _ _ _ => False
structure Fun (K : PySem.W.Frag) (x qual : Str) (st : Stmt) (f : Addr) (fd : FuncData) : Prop where
  ex : ∃ (oc : Value) (od : Option Addr) (kV doc pm : Value) (an : Option Addr) (cdv ct : Value) (osl : Array (Option Value)),
    fd = PySem.W.fnOf x qual (defArgs st) (defBody st) (defScope st) .none kV doc pm an cdv ct ∧ K.lookup f = some ⟨oc, od, .func fd, osl⟩ ∧ PySem.W.codeIn K cdv qual = true
  kp : PySem.W.keepIn K (.ref f) = true
section
variable {P : Program} {w : World} {K : PySem.W.Frag} {mg : Str → Option Value} {base : Heap}
theorem Fun.ok {x qual : Str} {st : Stmt} {f : Addr} {fd : FuncData} {N ps : List Str} {k : Nat} {sp : Sp} (F : Fun K x qual st f fd) (S : FnScope N ps (defScope st)) (len : ∀ vs H Q E, sp vs H Q E → vs.length = ps.length)
    (hbody : ∀ (cdv : Value) (A : Around) (outer : List Env) (s : Shared) (H : Hp) (vs : List V) (Q : VK) (E : XK), Room k (A.deeper (envOfC qual (defScope st) s.heap.objs.size f cdv)) → sp vs H Q E →
      ∃ t, PSs (cxOf CX0 P w K mg base N qual (defScope st) f cdv A outer s H E).nox (defBody st) t ∧ t { nx := fun _ H' => Q .non H', rt := Q } (start N vs) H) : FnOk P w K mg base CX0 (k + 1) f fd ps sp := by
  obtain ⟨oc, od, kV, doc, pm, an, cdv, ct, osl, rfl, lk, hcd⟩ := F.ex
  refine fn_of lk hcd S len fun A outer s H vs Q E hr hsp => ?_
  obtain ⟨t, h, q⟩ := hbody cdv A outer s H vs Q E hr hsp
  exact ⟨t, h.nox, q⟩
theorem Fun.binds {x qual : Str} {st : Stmt} {f : Addr} {fd : FuncData} {ps : List Str} (F : Fun K x qual st f fd)
    (h : ∀ (kV doc pm : Value) (an : Option Addr) (cdv ct : Value) (us : List Value), us.length = ps.length → bindArgs (PySem.W.fnOf x qual (defArgs st) (defBody st) (defScope st) .none kV doc pm an cdv ct) ⟨us, []⟩ = pure (ps.zip us)) : Binds K fd ps [] := by
  obtain ⟨oc, od, kV, doc, pm, an, cdv, ct, osl, rfl, lk, hcd⟩ := F.ex
  exact .all (h kV doc pm an cdv ct)
theorem fun_mk {x qual : Str} {st : Stmt} {f : Addr} {oc : Value} {od an : Option Addr} {osl : Array (Option Value)} {kV doc pm cdv ct : Value} (l : K.lookup f = some ⟨oc, od, .func (PySem.W.fnOf x qual (defArgs st) (defBody st) (defScope st) .none kV doc pm an cdv ct), osl⟩)
    (c : PySem.W.codeIn K cdv qual = true) (k : PySem.W.keepIn K (.ref f) = true) : Fun K x qual st f (PySem.W.fnOf x qual (defArgs st) (defBody st) (defScope st) .none kV doc pm an cdv ct) := ⟨⟨oc, od, kV, doc, pm, an, cdv, ct, osl, rfl, l, c⟩, k⟩
end
section
variable {X : Cx}
end
theorem iteF {A B : Prop} (h : B) : if false = true then A else B := by
  rw [if_neg Bool.false_ne_true]
  exact h
theorem iteT {A B : Prop} (h : A) : if true = true then A else B := by
  rw [if_pos rfl]
  exact h
def Same (H H' : Hp) : Prop := ∀ b o, H b = some o → H' b = some o
theorem Same.refl (H : Hp) : Same H H := fun _ _ h => h
theorem Same.trans {H H1 H2 : Hp} (a : Same H H1) (b : Same H1 H2) : Same H H2 := fun c o h => b c o (a c o h)
theorem Same.free {H H' : Hp} (e : Same H H') {l : Addr} (h : H' l = Option.none) : H l = Option.none := by
  cases q : H l with
  | none => rfl
  | some o =>
    rw [e l o q] at h
    cases h
theorem Same.seq {K : PySem.W.Frag} {H H' : Hp} {a : Addr} {xs : List V} (e : Same H H') (h : SqL K H a xs) : SqL K H' a xs := by
  rcases h with (h | ⟨o, h⟩) | h
  · exact .inl (.inl (e _ _ h))
  · exact .inl (.inr ⟨o, e _ _ h⟩)
  · exact .inr h
section
variable {κ : Type} [DecidableEq κ]
end
theorem nd_ix {α : Type} {l : List α} (hN : l.Nodup) {i j : Nat} {x : α} (a : l[i]? = some x) (b : l[j]? = some x) : i = j := by
  obtain ⟨h1, e1⟩ := List.getElem?_eq_some_iff.mp a
  obtain ⟨h2, e2⟩ := List.getElem?_eq_some_iff.mp b
  exact (List.getElem_inj hN).mp (e1.trans e2.symm)
end L2
set_option Elab.async false
set_option linter.all false
set_option maxRecDepth 100000
namespace Ab
open PySem PySem.Spec PyProof.Rows L2
set_option autoImplicit false
set_option relaxedAutoImplicit false
inductive A where
  | non | bl (b : Bool) | int (i : Int) | str (x : Str) | ty (n : String) | tup (xs : List A) | ro (xs : List A) | loc (n : Nat) | raw (a : Addr)
inductive AO where
  | lst (xs : List A)
  | ins (C : Addr) (fs : List (Str × A))
  | dic (hf : Sum Str (List L2.Key) → Int) (kvs : List (Sum Str (List L2.Key) × A))
  | clo (e : Expr) (xs : List (Str × A))
abbrev AHp := List AO
abbrev ASt := List (Option A)
abbrev Rs (α : Type) := Option (α × AHp)
abbrev ME := ASt → AHp → Rs A
abbrev MT := ASt → AHp → Rs Bool
abbrev MA := ASt → AHp → Rs (List A)
inductive Fl where
  | nx (τ : ASt) | rt (a : A) | bk (τ : ASt) | ct (τ : ASt)
abbrev MS := ASt → AHp → Rs Fl
abbrev MF := List A → AHp → Rs A
def RoL (K : PySem.W.Frag) (H : Hp) (a : Addr) (xs : List V) : Prop :=
  (∃ o, H a = some (.frz o (.lst xs))) ∨
    ∃ (o : Obj) (its : Array Value) (n : Nat), K.lookup a = some o ∧ o.cls = .type "list" ∧ o.dict = none ∧ o.data = .seq its n ∧ its.size ≤ sizeLine ∧ Vals xs its.toList
theorem RoL.sq {K : PySem.W.Frag} {H : Hp} {a : Addr} {xs : List V} (h : RoL K H a xs) : SqL K H a xs := by
  rcases h with ⟨o, h⟩ | h
  · exact .inl (.inr ⟨o, h⟩)
  · exact .inr h
mutual
inductive Rep (K : PySem.W.Frag) (ρ : List Addr) (H : Hp) : A → V → Prop
  | non : Rep K ρ H .non .non
  | bl (b : Bool) : Rep K ρ H (.bl b) (.bl b)
  | int (i : Int) : Rep K ρ H (.int i) (.int i)
  | str (x : Str) : Rep K ρ H (.str x) (.str x)
  | ty (n : String) : Rep K ρ H (.ty n) (.ty n)
  | tup {xs : List A} {p : Addr} {vs : List V} : SqT K H p vs → Reps K ρ H xs vs → Rep K ρ H (.tup xs) (.ref p)
  | ro {xs : List A} {p : Addr} {vs : List V} : RoL K H p vs → Reps K ρ H xs vs → Rep K ρ H (.ro xs) (.ref p)
  | loc {n : Nat} {p : Addr} : ρ[n]? = some p → Rep K ρ H (.loc n) (.ref p)
  | raw (a : Addr) : Rep K ρ H (.raw a) (.ref a)
inductive Reps (K : PySem.W.Frag) (ρ : List Addr) (H : Hp) : List A → List V → Prop
  | nil : Reps K ρ H [] []
  | cons {a : A} {v : V} {xs : List A} {vs : List V} : Rep K ρ H a v → Reps K ρ H xs vs → Reps K ρ H (a :: xs) (v :: vs)
end
def KpT (o : HO) (x : Option HO) : Prop := x = some o ∨ ∃ ps ps', o = .tbl ps ∧ x = some (.tbl ps')
theorem KpT.some {o : HO} {x : Option HO} (h : KpT o x) : ∃ o', x = Option.some o' := by
  rcases h with h | ⟨_, ps', _, h⟩
  · exact ⟨_, h⟩
  · exact ⟨_, h⟩
theorem KpT.step {o : HO} {x y : Option HO} (h : KpT o x) (g : ∀ o', x = Option.some o' → KpT o' y) : KpT o y := by
  rcases h with h | ⟨ps, ps', e, h⟩
  · exact g o h
  · rcases g _ h with q | ⟨_, ps2, _, q⟩
    · exact .inr ⟨ps, ps', e, q⟩
    · exact .inr ⟨ps, ps2, e, q⟩
theorem KpT.is {o : HO} {x : Option HO} (h : KpT o x) (n : ∀ ps, o ≠ .tbl ps) : x = Option.some o := by
  rcases h with h | ⟨ps, ps', e, h⟩
  · exact h
  · exact absurd e (n ps)
structure Le (K : PySem.W.Frag) (ρ : List Addr) (H : Hp) (ρ' : List Addr) (H' : Hp) : Prop where
  pre : ρ <+: ρ'
  tup : ∀ p vs, SqT K H p vs → SqT K H' p vs
  ros : ∀ p vs, RoL K H p vs → RoL K H' p vs
  frz : ∀ p o y, H p = some (.frz o (.own y)) → H' p = some (.frz o (.own y))
structure Up (K : PySem.W.Frag) (ρ : List Addr) (H : Hp) (ρ' : List Addr) (H' : Hp) : Prop extends Le K ρ H ρ' H' where
  oth : ∀ p o, p ∉ ρ → H p = some o → KpT o (H' p)
  new : ∀ p, p ∈ ρ' → p ∉ ρ → H p = none
section
variable {K : PySem.W.Frag} {ρ ρ' ρ1 ρ2 : List Addr} {H H' H1 H2 : Hp}
theorem Up.refl : Up K ρ H ρ H := ⟨⟨List.prefix_refl _, fun _ _ h => h, fun _ _ h => h, fun _ _ _ h => h⟩, fun _ _ _ h => .inl h, fun p h n => absurd h n⟩
theorem Up.trans (a : Up K ρ H ρ1 H1) (b : Up K ρ1 H1 ρ2 H2) : Up K ρ H ρ2 H2 := by
  refine ⟨⟨a.pre.trans b.pre, fun p vs h => b.tup p vs (a.tup p vs h), fun p vs h => b.ros p vs (a.ros p vs h), fun p o y h => b.frz p o y (a.frz p o y h)⟩, fun p o n h => (a.oth p o n h).step fun o' h' => b.oth p o' (fun m => ?_) h', fun p m n => ?_⟩
  · have := a.new p m n
    rw [h] at this; cases this
  · by_cases m1 : p ∈ ρ1
    · exact a.new p m1 n
    · have z := b.new p m m1
      cases q : H p with
      | none => rfl
      | some o => obtain ⟨o', z'⟩ := (a.oth p o n q).some; rw [z'] at z; cases z
end
section
variable {K : PySem.W.Frag} {ρ ρ' : List Addr} {H H' : Hp} {h : AHp} {p : Addr} {o : AO} {vs : List V} {xs ys : List A} {n : Nat} {σ : L2.St} {τ : ASt}
theorem pre_get {ρ ρ' : List Addr} {n : Nat} {p : Addr} (h : ρ <+: ρ') (e : ρ[n]? = some p) : ρ'[n]? = some p := by
  obtain ⟨t, rfl⟩ := h
  rw [List.getElem?_append_left (List.getElem?_eq_some_iff.mp e).1]; exact e
mutual
theorem Rep.le (u : Le K ρ H ρ' H') : ∀ {a : A} {v : V}, Rep K ρ H a v → Rep K ρ' H' a v
  | _, _, .non => .non
  | _, _, .bl b => .bl b
  | _, _, .int b => .int b
  | _, _, .str b => .str b
  | _, _, .ty b => .ty b
  | _, _, .tup h r => .tup (u.tup _ _ h) (Reps.le u r)
  | _, _, .ro h r => .ro (u.ros _ _ h) (Reps.le u r)
  | _, _, .loc e => .loc (pre_get u.pre e)
  | _, _, .raw a => .raw a
theorem Reps.le (u : Le K ρ H ρ' H') : ∀ {a : List A} {v : List V}, Reps K ρ H a v → Reps K ρ' H' a v
  | _, _, .nil => .nil
  | _, _, .cons r t => .cons (Rep.le u r) (Reps.le u t)
end
theorem Rep.up {a : A} {v : V} (u : Up K ρ H ρ' H') (r : Rep K ρ H a v) : Rep K ρ' H' a v := r.le u.toLe
theorem Reps.up {a : List A} {v : List V} (u : Up K ρ H ρ' H') (r : Reps K ρ H a v) : Reps K ρ' H' a v := r.le u.toLe
theorem Reps.length  : ∀ {xs : List A} {vs : List V}, Reps K ρ H xs vs → xs.length = vs.length
  | _, _, .nil => rfl
  | _, _, .cons _ t => by rw [List.length_cons, List.length_cons, Reps.length t]
theorem Reps.append  : ∀ {xs ys : List A} {vs ws : List V}, Reps K ρ H xs vs → Reps K ρ H ys ws → Reps K ρ H (xs ++ ys) (vs ++ ws)
  | _, _, _, _, .nil, s => s
  | _, _, _, _, .cons r t, s => .cons r (Reps.append t s)
theorem Reps.get  : ∀ {xs : List A} {vs : List V} {i : Nat} {a : A}, Reps K ρ H xs vs → xs[i]? = some a → ∃ v, vs[i]? = some v ∧ Rep K ρ H a v
  | _, _, _, _, .nil, e => by simp at e
  | _, _, 0, _, .cons r _, e => by simp at e; subst e; exact ⟨_, rfl, r⟩
  | _, _, i + 1, a, .cons _ t, e => by
    obtain ⟨u, h1, h2⟩ := Reps.get (i := i) (a := a) t (by simpa using e)
    exact ⟨u, by simpa using h1, h2⟩
theorem Reps.set  {a : A} {v : V} (r : Rep K ρ H a v) : ∀ {xs : List A} {vs : List V} (i : Nat), Reps K ρ H xs vs → Reps K ρ H (xs.set i a) (vs.set i v)
  | _, _, _, .nil => .nil
  | _, _, 0, .cons _ t => .cons r t
  | _, _, i + 1, .cons q t => .cons q (Reps.set r i t)
theorem Reps.take  : ∀ {xs : List A} {us : List V} (n : Nat), Reps K ρ H xs us → Reps K ρ H (xs.take n) (us.take n)
  | _, _, 0, _ => .nil
  | _, _, _ + 1, .nil => .nil
  | _, _, n + 1, .cons r t => .cons r (Reps.take n t)
theorem Reps.drop  : ∀ {xs : List A} {us : List V} (n : Nat), Reps K ρ H xs us → Reps K ρ H (xs.drop n) (us.drop n)
  | _, _, 0, r => r
  | _, _, _ + 1, .nil => .nil
  | _, _, n + 1, .cons _ t => Reps.drop n t
theorem Reps.ints  : ∀ (ns : List Int), Reps K ρ H (ns.map A.int) (ns.map V.int)
  | [] => .nil
  | n :: r => .cons (.int n) (Reps.ints r)
abbrev MK := Sum Str (List Key)
def DictF (hf : MK → Int) (h : Heap) (d : Addr) (xs : List (MK × Value × Value)) : Prop := ∃ o es ep, h.get? d = some o ∧ o.ExactDict ∧ o.data = .dict es ep ∧ es.toList = xs.map (fun x => (⟨hf x.1, x.2.1, x.2.2⟩ : DictEntry)) ∧ (xs.map (·.1)).Nodup
abbrev DicT (hf : MK → Int) (p : Addr) (xs : List (MK × Value × Value)) : HO := .ext fun h => DictF hf h p xs
def keyV (K : PySem.W.Frag) (H : Hp) : MK → V → Prop
  | .inl x, v => v = .str x
  | .inr ks, v => ∃ a, v = .ref a ∧ SqT K H a (ks.map kV)
def DicOk (K : PySem.W.Frag) (H : Hp) (xs : List (MK × Value × Value)) : Prop := ∀ y ∈ xs, ∃ v, RelV v y.2.1 ∧ keyV K H y.1 v
theorem keyV.le {K : PySem.W.Frag} {ρ ρ' : List Addr} {H H' : Hp} (u : Le K ρ H ρ' H') {k : MK} {v : V} (x : keyV K H k v) : keyV K H' k v := by
  cases k with
  | inl x' => exact x
  | inr ks => obtain ⟨a, e, s⟩ := x; exact ⟨a, e, u.tup _ _ s⟩
theorem DicOk.le {K : PySem.W.Frag} {ρ ρ' : List Addr} {H H' : Hp} (u : Le K ρ H ρ' H') {xs : List (MK × Value × Value)} (x : DicOk K H xs) : DicOk K H' xs := fun y hy => let ⟨v, r, k⟩ := x y hy; ⟨v, r, k.le u⟩
def isLam : Expr → Bool
  | .Lambda .. => true
  | _ => false
def hasLam : FuncBody → Bool
  | .stmts [.Return (some (.Call _ args kws _)) _] => args.any isLam || kws.any fun k => isLam k.value
  | _ => false
def tabOf (K : PySem.W.Frag) (o : Obj) (c : Addr) : Option (Str × Addr) := match o.data with
  | .func fd => if hasLam fd.body then (match fd.code with
    | .ref c' => if c' = c then (match K.lookup c with
      | some oc => (match oc.data with
        | .fields vs => (match (vs[1]? : Option Value), (vs[11]? : Option Value) with
          | some (.str qn _), some (.ref P) => some (qn, P)
          | _, _ => none)
        | _ => none)
      | none => none) else none
    | _ => none) else none
  | _ => none
def CodeF (H : Hp) (q : Str) (cv : Value) : Prop := ∃ c oc vs t y, cv = .ref c ∧ H c = some (.frz oc (.own y)) ∧ oc.data = .fields vs ∧ vs[1]? = some (.str q t)
def IsTab (K : PySem.W.Frag) (c P : Addr) (q : Str) : Prop := ∃ (f : Addr) (o : Obj) (qn : Str), K.lookup f = some o ∧ tabOf K o c = some (qn, P) ∧ q = qn ++ ".<locals>." ++ "<lambda>"
structure TabOk (K : PySem.W.Frag) (H : Hp) : Prop where
  uq : ∀ c1 c2 P q1 q2, IsTab K c1 P q1 → IsTab K c2 P q2 → q1 = q2
  tat : ∀ c P q, IsTab K c P q → ∃ ps, H P = some (.tbl ps) ∧ TriplesOk ps.toList ∧ ∀ pos cv, codeAmong pos ps.toList = some cv → CodeF H q cv
theorem CodeF.le {K : PySem.W.Frag} {ρ ρ' : List Addr} {H H' : Hp} {q : Str} {cv : Value} (u : Le K ρ H ρ' H') (x : CodeF H q cv) : CodeF H' q cv :=
  let ⟨c, oc, vs, t, y, e, hc, r⟩ := x; ⟨c, oc, vs, t, y, e, u.frz _ _ _ hc, r⟩
theorem TabOk.to {K : PySem.W.Frag} {ρ ρ' : List Addr} {H H' : Hp} (u : Le K ρ H ρ' H') (k : ∀ P ps, H P = some (.tbl ps) → H' P = some (.tbl ps)) (x : TabOk K H) : TabOk K H' := ⟨x.uq, fun c P q i =>
  let ⟨ps, hp, t, g⟩ := x.tat c P q i; ⟨ps, k _ _ hp, t, fun pos cv e => (g pos cv e).le u⟩⟩
theorem nf_none {H : Hp} {p : Addr} (e : H p = none) : ∀ o u, H p ≠ some (.frz o u) := fun o u z => by rw [e] at z; cases z
theorem nf_lst {H : Hp} {p : Addr} {xs : List V} (e : H p = some (.lst xs)) : ∀ o u, H p ≠ some (.frz o u) := fun o u z => by rw [e] at z; cases z
theorem nf_ext {H : Hp} {p : Addr} {φ : Heap → Prop} (e : H p = some (.ext φ)) : ∀ o u, H p ≠ some (.frz o u) := fun o u z => by rw [e] at z; cases z
theorem nt_none {H : Hp} {p : Addr} (e : H p = none) : ∀ ps, H p ≠ some (.tbl ps) := fun o z => by rw [e] at z; cases z
theorem nt_lst {H : Hp} {p : Addr} {xs : List V} (e : H p = some (.lst xs)) : ∀ ps, H p ≠ some (.tbl ps) := fun o z => by rw [e] at z; cases z
theorem nt_ext {H : Hp} {p : Addr} {φ : Heap → Prop} (e : H p = some (.ext φ)) : ∀ ps, H p ≠ some (.tbl ps) := fun o z => by rw [e] at z; cases z
theorem frz_upd {H : Hp} {p q : Addr} {o : Obj} {y : Addr} {u : HO} (n : ∀ o u, H p ≠ some (.frz o u)) (z : H q = some (.frz o (.own y))) : upd H p u q = some (.frz o (.own y)) := by
  rw [upd_ne]; exact z
  intro e; subst e; exact n _ _ z
theorem tbl_upd {H : Hp} {p q : Addr} {ps : Array Value} {u : HO} (n : ∀ ps, H p ≠ some (.tbl ps)) (z : H q = some (.tbl ps)) : upd H p u q = some (.tbl ps) := by
  rw [upd_ne]; exact z
  intro e; subst e; exact n _ z
def CapR (H : Hp) (cl : List (Str × Addr)) (us : List Value) : Prop := Paired (fun (y : Str × Addr) (u : Value) => ∃ (o : Obj) (z : Addr), H y.2 = some (.frz o (.own z)) ∧ o.data = .cell (some u)) cl us
theorem CapR.le {K : PySem.W.Frag} {ρ ρ' : List Addr} {H H' : Hp} (u : Le K ρ H ρ' H') : ∀ {cl : List (Str × Addr)} {us : List Value}, CapR H cl us → CapR H' cl us
  | _, _, .nil => .nil
  | _, _, .cons ⟨o, z, h, d⟩ t => .cons ⟨o, z, u.frz _ _ _ h, d⟩ (CapR.le u t)
def CloR (K : PySem.W.Frag) (ρ : List Addr) (H : Hp) (p : Addr) (e : Expr) (xs : List (Str × A)) : Prop :=
  ∃ args body scope pos qual cl pm c' ctv y us vs, e = .Lambda args body scope pos ∧ H p = some (.frz (PySem.W.kla_obj "<lambda>" qual args body scope cl pm c' ctv) (.own y)) ∧ CodeF H qual (.ref c') ∧ CapR H cl us ∧ cl.map Prod.fst = xs.map Prod.fst ∧ (∀ x y c, cl.lookup x = some c → cl.lookup y = some c → x = y) ∧ Vals vs us ∧ Reps K ρ H (xs.map Prod.snd) vs
theorem CloR.le {K : PySem.W.Frag} {ρ ρ' : List Addr} {H H' : Hp} {p : Addr} {e : Expr} {xs : List (Str × A)} (u : Le K ρ H ρ' H') (x : CloR K ρ H p e xs) : CloR K ρ' H' p e xs :=
  let ⟨args, body, scope, pos, qual, cl, pm, c', ctv, y, us, vs, a, b, c, d, f, i, g, r⟩ := x
  ⟨args, body, scope, pos, qual, cl, pm, c', ctv, y, us, vs, a, u.frz _ _ _ b, c.le u, d.le u, f, i, g, r.le u⟩
def ObjR (K : PySem.W.Frag) (ρ : List Addr) (H : Hp) (p : Addr) : AO → Prop
  | .lst xs => ∃ vs, H p = some (.lst vs) ∧ Reps K ρ H xs vs
  | .ins C fs => ∃ dx vs, H p = some (.ins C dx vs) ∧ vs.map Prod.fst = fs.map Prod.fst ∧ Reps K ρ H (fs.map Prod.snd) (vs.map Prod.snd)
  | .dic hf kvs => (p == sysModules) = false ∧ ∃ xs vs, H p = some (DicT hf p xs) ∧ xs.map (·.1) = kvs.map Prod.fst ∧ DicOk K H xs ∧ Vals vs (xs.map (·.2.2)) ∧ Reps K ρ H (kvs.map Prod.snd) vs
  | .clo e xs => CloR K ρ H p e xs
structure RelH (K : PySem.W.Frag) (ρ : List Addr) (H : Hp) (h : AHp) : Prop where
  len : ρ.length = h.length
  nd : ρ.Nodup
  obj : ∀ (n : Nat) (p : Addr) (o : AO), ρ[n]? = some p → h[n]? = some o → ObjR K ρ H p o
  tb : TabOk K H
structure RelS (K : PySem.W.Frag) (ρ : List Addr) (H : Hp) (σ : L2.St) (τ : ASt) : Prop where
  len : σ.length = τ.length
  get : ∀ (i : Nat) (a : A), τ[i]? = some (some a) → ∃ v, σ[i]? = some (some v) ∧ Rep K ρ H a v
theorem RelS.le (u : Le K ρ H ρ' H') (s : RelS K ρ H σ τ) : RelS K ρ' H' σ τ := ⟨s.len, fun i a e => let ⟨v, h1, h2⟩ := s.get i a e; ⟨v, h1, h2.le u⟩⟩
theorem RelS.up (u : Up K ρ H ρ' H') (s : RelS K ρ H σ τ) : RelS K ρ' H' σ τ := s.le u.toLe
theorem RelS.set  {i : Nat} {a : A} {v : V} (s : RelS K ρ H σ τ) (r : Rep K ρ H a v) : RelS K ρ H (σ.set i (some v)) (τ.set i (some a)) := by
  refine ⟨by rw [List.length_set, List.length_set, s.len], fun j b e => ?_⟩
  by_cases hij : i = j
  · subst hij
    have hl : i < (τ.set i (some a)).length := (List.getElem?_eq_some_iff.mp e).1
    rw [List.length_set] at hl
    rw [List.getElem?_set_self hl] at e
    cases e
    exact ⟨v, by rw [List.getElem?_set_self (by rw [s.len]; exact hl)], r⟩
  · rw [List.getElem?_set_ne hij] at e
    obtain ⟨w, h1, h2⟩ := s.get j b e
    exact ⟨w, by rw [List.getElem?_set_ne hij]; exact h1, h2⟩
theorem RelH.at  (r : RelH K ρ H h) {n : Nat} {o : AO} (e : h[n]? = some o) : ∃ p, ρ[n]? = some p ∧ ObjR K ρ H p o := by
  have hl : n < ρ.length := by rw [r.len]; exact (List.getElem?_eq_some_iff.mp e).1
  exact ⟨ρ[n], by simp [hl], r.obj n _ o (by simp [hl]) e⟩
theorem RelH.locAt  (r : RelH K ρ H h) {n : Nat} {o : AO} {v : V} (e : h[n]? = some o) (x : Rep K ρ H (.loc n) v) : ∃ p, v = .ref p ∧ ρ[n]? = some p ∧ ObjR K ρ H p o := by
  cases x with
  | loc q => exact ⟨_, rfl, q, r.obj n _ o q e⟩
theorem ObjR.some  (h : ObjR K ρ H p o) : ∃ u, H p = Option.some u := by
  cases o with
  | lst xs => obtain ⟨vs, h, _⟩ := h; exact ⟨_, h⟩
  | ins C fs => obtain ⟨dx, vs, h, _⟩ := h; exact ⟨_, h⟩
  | dic hf kvs => obtain ⟨_, xs, vs, h, _⟩ := h; exact ⟨_, h⟩
  | clo e xs => obtain ⟨_, _, _, _, _, _, _, _, _, _, _, _, _, h, _⟩ := h; exact ⟨_, h⟩
theorem SqT_upd {K : PySem.W.Frag} {H : Hp} {p q : Addr} {vs : List V} {o : HO} (hp : H p = Option.none ∨ ∃ xs, H p = Option.some (.lst xs)) (h : SqT K H q vs) : SqT K (upd H p o) q vs := by
  rcases h with (h | ⟨ob, h⟩) | h
  · refine .inl (.inl ?_)
    rw [upd_ne]; exact h
    intro e; subst e; rcases hp with hp | ⟨xs, hp⟩ <;> (rw [h] at hp; cases hp)
  · refine .inl (.inr ⟨ob, ?_⟩)
    rw [upd_ne]; exact h
    intro e; subst e; rcases hp with hp | ⟨xs, hp⟩ <;> (rw [h] at hp; cases hp)
  · exact .inr h
theorem RoL_upd {K : PySem.W.Frag} {H : Hp} {p q : Addr} {vs : List V} {o : HO} (hp : H p = Option.none ∨ ∃ xs, H p = Option.some (.lst xs)) (h : RoL K H q vs) : RoL K (upd H p o) q vs := by
  rcases h with ⟨ob, h⟩ | h
  · refine .inl ⟨ob, ?_⟩
    rw [upd_ne]; exact h
    intro e; subst e; rcases hp with hp | ⟨xs, hp⟩ <;> (rw [h] at hp; cases hp)
  · exact .inr h
theorem ObjR.le (u : Le K ρ H ρ' H') (e : H' p = H p) (h : ObjR K ρ H p o) : ObjR K ρ' H' p o := by
  cases o with
  | lst xs => obtain ⟨vs, h, r⟩ := h; exact ⟨vs, e.trans h, r.le u⟩
  | ins C fs => obtain ⟨dx, vs, h, n, r⟩ := h; exact ⟨dx, vs, e.trans h, n, r.le u⟩
  | dic hf kvs => obtain ⟨q, xs, vs, h, n, d, v, r⟩ := h; exact ⟨q, xs, vs, e.trans h, n, d.le u, v, r.le u⟩
  | clo ex xs => exact CloR.le u h
theorem ObjR.up (u : Up K ρ H ρ' H') (e : H' p = H p) (h : ObjR K ρ H p o) : ObjR K ρ' H' p o := h.le u.toLe e
theorem RelH.notin  (r : RelH K ρ H h) (hp : H p = Option.none) : p ∉ ρ := by
  intro m
  obtain ⟨n, hn, e⟩ := List.mem_iff_getElem.mp m
  have hn' : n < h.length := by rw [← r.len]; exact hn
  obtain ⟨u, hu⟩ := (r.obj n p h[n] (by simp [hn, e]) (by simp [hn'])).some
  rw [hp] at hu; cases hu
theorem RelH.alloc  (r : RelH K ρ H h) (hp : H p = Option.none) (x : Reps K ρ H xs vs) :
    Up K ρ H (ρ ++ [p]) (upd H p (.lst vs)) ∧ RelH K (ρ ++ [p]) (upd H p (.lst vs)) (h ++ [.lst xs]) ∧ Rep K (ρ ++ [p]) (upd H p (.lst vs)) (.loc h.length) (.ref p) := by
  have u : Up K ρ H (ρ ++ [p]) (upd H p (.lst vs)) := ⟨⟨⟨[p], rfl⟩, fun q ws z => SqT_upd (.inl hp) z, fun q ws z => RoL_upd (.inl hp) z, fun q o y z => frz_upd (nf_none hp) z⟩, fun q o n z => by rw [upd_ne (ne_of_none z hp)]; exact .inl z, fun q m n => by
    rcases List.mem_append.mp m with m | m
    · exact absurd m n
    · rw [List.mem_singleton.mp m]; exact hp⟩
  refine ⟨u, ⟨by simp [r.len], ?_, fun n q o e1 e2 => ?_, r.tb.to u.toLe fun P ps z => tbl_upd (nt_none hp) z⟩, .loc (by rw [← r.len]; simp)⟩
  · rw [List.nodup_append]
    refine ⟨r.nd, by simp, fun a ha b hb => ?_⟩
    have : b = p := by simpa using hb
    subst this
    intro e; subst e
    exact r.notin hp ha
  · by_cases hn : n < ρ.length
    · rw [List.getElem?_append_left hn] at e1
      rw [List.getElem?_append_left (by rw [← r.len]; exact hn)] at e2
      refine (r.obj n q o e1 e2).up u (upd_ne fun e => ?_)
      subst e
      exact r.notin hp (List.mem_of_getElem? e1)
    · have hn2 : n = ρ.length := by
        have := (List.getElem?_eq_some_iff.mp e1).1
        rw [List.length_append, List.length_singleton] at this
        omega
      subst hn2
      have e3 : q = p := by simpa using e1.symm
      have e4 : o = .lst xs := by rw [r.len] at e2; simpa using e2.symm
      subst e3 e4
      exact ⟨vs, upd_same, x.up u⟩
theorem RelH.push {D : Addr} (r : RelH K ρ H h) (hD : D ∉ ρ) (hH : H D = Option.some (.lst vs)) (x : Reps K ρ H xs vs) : RelH K (ρ ++ [D]) H (h ++ [.lst xs]) := by
  have l : Le K ρ H (ρ ++ [D]) H := ⟨⟨[D], rfl⟩, fun _ _ z => z, fun _ _ z => z, fun _ _ _ z => z⟩
  refine ⟨by simp [r.len], ?_, fun n q o e1 e2 => ?_, r.tb⟩
  · rw [List.nodup_append]
    refine ⟨r.nd, by simp, fun a ha b hb => ?_⟩
    have : b = D := by simpa using hb
    subst this
    intro e; subst e
    exact hD ha
  · by_cases hn : n < ρ.length
    · rw [List.getElem?_append_left hn] at e1
      rw [List.getElem?_append_left (by rw [← r.len]; exact hn)] at e2
      exact (r.obj n q o e1 e2).le l rfl
    · have hn2 : n = ρ.length := by
        have := (List.getElem?_eq_some_iff.mp e1).1
        rw [List.length_append, List.length_singleton] at this
        omega
      subst hn2
      have e3 : q = D := by simpa using e1.symm
      have e4 : o = .lst xs := by rw [r.len] at e2; simpa using e2.symm
      subst e3 e4
      exact ⟨vs, hH, x.le l⟩
theorem RelH.out {D : Addr} {u : HO} (r : RelH K ρ H h) (hD : D ∉ ρ) (hH : H D = Option.none ∨ ∃ ws, H D = Option.some (.lst ws)) : Le K ρ H ρ (upd H D u) ∧ RelH K ρ (upd H D u) h := by
  have l : Le K ρ H ρ (upd H D u) := ⟨List.prefix_refl _, fun _ _ z => SqT_upd hH z, fun _ _ z => RoL_upd hH z, fun q o y z => frz_upd (hH.elim nf_none fun ⟨_, e⟩ => nf_lst e) z⟩
  refine ⟨l, r.len, r.nd, fun n q o e1 e2 => (r.obj n q o e1 e2).le l (upd_ne fun e => ?_), r.tb.to l fun P ps z => tbl_upd (hH.elim nt_none fun ⟨_, e⟩ => nt_lst e) z⟩
  subst e
  exact hD (List.mem_of_getElem? e1)
theorem RelH.tuple  (r : RelH K ρ H h) (hp : H p = Option.none) (x : Reps K ρ H xs vs) :
    Up K ρ H ρ (upd H p (.tup vs)) ∧ RelH K ρ (upd H p (.tup vs)) h ∧ Rep K ρ (upd H p (.tup vs)) (.tup xs) (.ref p) := by
  have u : Up K ρ H ρ (upd H p (.tup vs)) := ⟨⟨List.prefix_refl _, fun q ws z => SqT_upd (.inl hp) z, fun q ws z => RoL_upd (.inl hp) z, fun q o y z => frz_upd (nf_none hp) z⟩, fun q o n z => by rw [upd_ne (ne_of_none z hp)]; exact .inl z, fun p m n => absurd m n⟩
  refine ⟨u, ⟨r.len, r.nd, fun n q o e1 e2 => (r.obj n q o e1 e2).up u (upd_ne fun e => ?_), r.tb.to u.toLe fun P ps z => tbl_upd (nt_none hp) z⟩, .tup (SqT.of upd_same) (x.up u)⟩
  subst e
  exact r.notin hp (List.mem_of_getElem? e1)
theorem RelH.store  (r : RelH K ρ H h) (hn : ρ[n]? = Option.some p) (hh : h[n]? = Option.some (.lst ys)) (x : Reps K ρ H xs vs) :
    Up K ρ H ρ (upd H p (.lst vs)) ∧ RelH K ρ (upd H p (.lst vs)) (h.set n (.lst xs)) := by
  obtain ⟨ws, hp, _⟩ := r.obj n p _ hn hh
  have u : Up K ρ H ρ (upd H p (.lst vs)) := ⟨⟨List.prefix_refl _, fun q ws z => SqT_upd (.inr ⟨_, hp⟩) z, fun q ws z => RoL_upd (.inr ⟨_, hp⟩) z, fun q o y z => frz_upd (nf_lst hp) z⟩, fun q o m z => by rw [upd_ne (fun e => m (by rw [e]; exact List.mem_of_getElem? hn))]; exact .inl z, fun p m n => absurd m n⟩
  have hl : n < h.length := (List.getElem?_eq_some_iff.mp hh).1
  refine ⟨u, ⟨by rw [List.length_set]; exact r.len, r.nd, fun m q o e1 e2 => ?_, r.tb.to u.toLe fun P ps z => tbl_upd (nt_lst hp) z⟩⟩
  by_cases hm : n = m
  · subst hm
    rw [hn] at e1; cases e1
    rw [List.getElem?_set_self hl] at e2; cases e2
    exact ⟨vs, upd_same, x.up u⟩
  · rw [List.getElem?_set_ne hm] at e2
    refine (r.obj m q o e1 e2).up u (upd_ne fun e => ?_)
    subst e
    exact hm (nd_ix r.nd hn e1)
end
def tE (K : PySem.W.Frag) (m : ME) : TE := fun σ H Q => ∃ ρ τ h a h', RelH K ρ H h ∧ RelS K ρ H σ τ ∧ m τ h = some (a, h') ∧ ∀ ρ' H' v, Up K ρ H ρ' H' → RelH K ρ' H' h' → Rep K ρ' H' a v → Q v H'
def tT (K : PySem.W.Frag) (m : MT) : TT := fun σ H Q => ∃ ρ τ h a h', RelH K ρ H h ∧ RelS K ρ H σ τ ∧ m τ h = some (a, h') ∧ ∀ ρ' H', Up K ρ H ρ' H' → RelH K ρ' H' h' → Q a H'
def tA (K : PySem.W.Frag) (m : MA) : TA := fun σ H Q => ∃ ρ τ h a h', RelH K ρ H h ∧ RelS K ρ H σ τ ∧ m τ h = some (a, h') ∧ ∀ ρ' H' v, Up K ρ H ρ' H' → RelH K ρ' H' h' → Reps K ρ' H' a v → Q v H'
def Fin (K : PySem.W.Frag) (D : Ends) (ρ : List Addr) (H : Hp) : Fl → Prop
  | .nx τ => ∀ σ, RelS K ρ H σ τ → D.nx σ H
  | .rt a => ∀ v, Rep K ρ H a v → D.rt v H
  | .bk τ => ∀ σ, RelS K ρ H σ τ → D.bk σ H
  | .ct τ => ∀ σ, RelS K ρ H σ τ → D.ct σ H
def tS (K : PySem.W.Frag) (m : MS) : TS := fun D σ H => ∃ ρ τ h f h', RelH K ρ H h ∧ RelS K ρ H σ τ ∧ m τ h = some (f, h') ∧ ∀ ρ' H', Up K ρ H ρ' H' → RelH K ρ' H' h' → Fin K D ρ' H' f
structure JE (X : Cx) (e : Expr) (m : ME) : Prop where
  pf : PE X e (tE X.K m)
structure JT (X : Cx) (e : Expr) (m : MT) : Prop where
  pf : PT X e (tT X.K m)
structure JW (X : Cx) (e : Expr) (m : MT) : Prop where
  pf : PW X e (tT X.K m)
structure JA (X : Cx) (e : List Expr) (m : MA) : Prop where
  pf : PA X e (tA X.K m)
structure JS (X : Cx) (e : Stmt) (m : MS) : Prop where
  pf : PS X e (tS X.K m)
structure JB (X : Cx) (e : List Stmt) (m : MS) : Prop where
  pf : PSs X e (tS X.K m)
section
variable {X : Cx} {e : Expr} {es : List Expr} {st : Stmt} {sts : List Stmt}
theorem PE_imp {t t' : TE} (h : PE X e t) (i : ∀ σ H Q, t' σ H Q → t σ H Q) : PE X e t' := fun pins s σ H Q I q => h pins s σ H Q I (i σ H Q q)
theorem PT_imp {t t' : TT} (h : PT X e t) (i : ∀ σ H Q, t' σ H Q → t σ H Q) : PT X e t' := fun pins s σ H Q I q => h pins s σ H Q I (i σ H Q q)
theorem PW_imp {t t' : TT} (h : PW X e t) (i : ∀ σ H Q, t' σ H Q → t σ H Q) : PW X e t' := fun wh pins s σ H Q I q => h wh pins s σ H Q I (i σ H Q q)
theorem PA_imp {t t' : TA} (h : PA X es t) (i : ∀ σ H Q, t' σ H Q → t σ H Q) : PA X es t' := fun pos pins s σ H Q I q => h pos pins s σ H Q I (i σ H Q q)
theorem PS_imp {t t' : TS} (h : PS X st t) (i : ∀ D σ H, t' D σ H → t D σ H) : PS X st t' := fun pins s σ H D I q => h pins s σ H D I (i D σ H q)
theorem PSs_imp {t t' : TS} (h : PSs X sts t) (i : ∀ D σ H, t' D σ H → t D σ H) : PSs X sts t' := fun pins s σ H D I q => h pins s σ H D I (i D σ H q)
end
theorem bindS {α β : Type} {x : Option α} {f : α → Option β} {b : β} (h : x.bind f = some b) : ∃ a, x = some a ∧ f a = some b := Option.bind_eq_some_iff.mp h
def eVar (i : Nat) : ME := fun τ h => match τ[i]? with | some (some a) => some (a, h) | _ => none
def eC (a : A) : ME := fun _ h => some (a, h)
theorem eVar_some {i : Nat} {τ : ASt} {h h' : AHp} {a : A} (e : eVar i τ h = some (a, h')) : τ[i]? = some (some a) ∧ h' = h := by
  unfold eVar at e
  split at e
  · rename_i b hb
    injection e with e; injection e with e1 e2
    subst e1 e2; exact ⟨hb, rfl⟩
  · cases e
section
variable {X : Cx} {a b c e : Expr} {es : List Expr} {pos : Pos}
theorem je_var (i : Nat) {x : Str} (hN : X.N[i]? = some x := by rfl) (hv : Vis X.env.scope x := by first | exact Or.inl rfl | exact Or.inr (Or.inl rfl) | exact Or.inr (Or.inr rfl)) (hd : (x == ("__debug__" : Str)) = false := by decide)
    (hcd : (x == ("__classdict__" : Str)) = false := by decide) : JE X (.Name x pos) (eVar i) := ⟨PE_imp (pe_var (i := i) hN hv hd hcd) fun σ H Q q => by
  obtain ⟨ρ, τ, h, a, h', R, S, e, k⟩ := q
  obtain ⟨e1, rfl⟩ := eVar_some e
  obtain ⟨v, h1, h2⟩ := S.get i a e1
  exact ⟨v, h1, k ρ H v Up.refl R h2⟩⟩
def Cst (K : PySem.W.Frag) (a : A) (v : V) : Prop := ∀ ρ H, Rep K ρ H a v
theorem je_C {v : V} {m : A} (h : PE X e (tC v)) (c : Cst X.K m v) : JE X e (eC m) := ⟨PE_imp h fun σ H Q q => by
  obtain ⟨ρ, τ, h, a, h', R, S, e, k⟩ := q
  cases e
  exact k ρ H v Up.refl R (c ρ H)⟩
theorem je_int {i j pos} : JE X (.Constant (.int i) j pos) (eC (.int i)) := je_C pe_int fun _ _ => .int i
theorem je_bl {i j pos} : JE X (.Constant (.bool i) j pos) (eC (.bl i)) := je_C pe_bl fun _ _ => .bl i
theorem je_str {i j pos} : JE X (.Constant (.str i) j pos) (eC (.str i)) := je_C pe_str fun _ _ => .str i
theorem je_glob {x : Str} {v : V} {m : A} {u : Value} {pos : Pos} (c : Cst X.K m v) (hm : X.mg x = some u) (r : RelV v u) (hg : Gl X x := by rfl) (hd : (x == ("__debug__" : Str)) = false := by decide) : JE X (.Name x pos) (eC m) := je_C (pe_glob hg hm r hd) c
theorem je_ty {x : Str} {n : String} {pos : Pos} (hm : X.mg x = none) (hv : bootBuiltins x = some (.type n)) (hg : Gl X x := by rfl) (hn : x ≠ "__name__" := by decide) (hd : (x == ("__debug__" : Str)) = false := by decide) : JE X (.Name x pos) (eC (.ty n)) :=
  je_C (pe_bltn (v := .ty n) hg hm hv rfl hn hd) fun _ _ => .ty n
def eOp (f : A → A → AHp → Rs A) (ma mb : ME) : ME := fun τ h => (ma τ h).bind fun p => (mb τ p.2).bind fun q => f p.1 q.1 q.2
def OpOk (K : PySem.W.Frag) (f : A → A → AHp → Rs A) (r : R2) : Prop := ∀ ρ H h a b c h' x y (Q : VK), RelH K ρ H h → Rep K ρ H a x → Rep K ρ H b y → f a b h = some (c, h') →
  (∀ ρ' H' v, Up K ρ H ρ' H' → RelH K ρ' H' h' → Rep K ρ' H' c v → Q v H') → r x y H Q
theorem imp_op {K : PySem.W.Frag} {ma mb : ME} {f : A → A → AHp → Rs A} {r : R2} (o : OpOk K f r) (σ : L2.St) (H : Hp) (Q : VK) (q : tE K (eOp f ma mb) σ H Q) : tOp r (tE K ma) (tE K mb) σ H Q := by
  obtain ⟨ρ, τ, h, c, h', R, S, e, k⟩ := q
  obtain ⟨⟨x, h1⟩, e1, e⟩ := bindS e
  obtain ⟨⟨y, h2⟩, e2, e⟩ := bindS e
  refine ⟨ρ, τ, h, x, h1, R, S, e1, fun ρ1 H1 v1 u1 R1 r1 => ⟨ρ1, τ, h1, y, h2, R1, S.up u1, e2, fun ρ2 H2 v2 u2 R2 r2 => ?_⟩⟩
  exact o ρ2 H2 h2 x y c h' v1 v2 Q R2 (r1.up u2) r2 e fun ρ3 H3 v u3 R3 r3 => k ρ3 H3 v ((u1.trans u2).trans u3) R3 r3
theorem je_op {op : Operator} {ma mb : ME} {f : A → A → AHp → Rs A} {r : R2} (ho : OpR X (binaryOp op) r) (o : OpOk X.K f r) (ha : JE X a ma) (hb : JE X b mb) : JE X (.BinOp a op b pos) (eOp f ma mb) := ⟨PE_imp (pe_op ho ha.pf hb.pf) (imp_op o)⟩
theorem je_cmp {op : CmpOp} {ma mb : ME} {f : A → A → AHp → Rs A} {r : R2} (ho : OpR X (compareOp op) r) (o : OpOk X.K f r) (ha : JE X a ma) (hb : JE X b mb)
    (hm : behindInMarks op b = false := by first | exact nomark _ | with_unfolding_all rfl) : JE X (.Compare a [op] [b] pos) (eOp f ma mb) := ⟨PE_imp (pe_cmpR ho ha.pf hb.pf hm) (imp_op o)⟩
theorem je_ix {ma mb : ME} {f : A → A → AHp → Rs A} {r : R2} (ho : IxR X r) (o : OpOk X.K f r) (ha : JE X a ma) (hb : JE X b mb) (hs : PlainIx b := by exact fun _ _ => rfl) : JE X (.Subscript a b pos) (eOp f ma mb) := ⟨PE_imp (pe_ix ho ha.pf hb.pf hs) (imp_op o)⟩
def eUn (f : A → AHp → Rs A) (ma : ME) : ME := fun τ h => (ma τ h).bind fun p => f p.1 p.2
def UnOk (K : PySem.W.Frag) (f : A → AHp → Rs A) (r : V → Hp → VK → Prop) : Prop := ∀ ρ H h a c h' x (Q : VK), RelH K ρ H h → Rep K ρ H a x → f a h = some (c, h') →
  (∀ ρ' H' v, Up K ρ H ρ' H' → RelH K ρ' H' h' → Rep K ρ' H' c v → Q v H') → r x H Q
theorem je_un {op : UnaryOp} {ma : ME} {f : A → AHp → Rs A} {r : V → Hp → VK → Prop} (ho : UnR X (unaryOp op) r) (o : UnOk X.K f r) (ha : JE X a ma) : JE X (.UnaryOp op a pos) (eUn f ma) := ⟨PE_imp (pe_un ho ha.pf) fun σ H Q q => by
  obtain ⟨ρ, τ, h, c, h', R, S, e, k⟩ := q
  obtain ⟨⟨x, h1⟩, e1, e⟩ := bindS e
  exact ⟨ρ, τ, h, x, h1, R, S, e1, fun ρ1 H1 v1 u1 R1 r1 => o ρ1 H1 h1 x c h' v1 Q R1 r1 e fun ρ3 H3 v u3 R3 r3 => k ρ3 H3 v (u1.trans u3) R3 r3⟩⟩
def eChain (f g : A → A → AHp → Rs A) (ma mb mc : ME) : ME := fun τ h => (ma τ h).bind fun p => (mb τ p.2).bind fun q => (f p.1 q.1 q.2).bind fun z => match z.1 with
  | .bl true => (mc τ z.2).bind fun w => g q.1 w.1 w.2
  | .bl false => some (.bl false, z.2)
  | _ => none
def tru : A → AHp → Option Bool
  | .non, _ => some false
  | .bl b, _ => some b
  | .int i, _ => some (i != 0)
  | .str x, _ => if x.length ≤ 100000 then some (x.length != 0) else none
  | .tup xs, _ => some (!xs.isEmpty)
  | .ro xs, _ => some (!xs.isEmpty)
  | .loc n, h => match h[n]? with | some (.lst xs) => some (!xs.isEmpty) | _ => none
  | _, _ => none
def mTru (ma : ME) : MT := fun τ h => (ma τ h).bind fun p => (tru p.1 p.2).bind fun b => some (b, p.2)
theorem isEmpty_reps {K : PySem.W.Frag} {ρ : List Addr} {H : Hp} {xs : List A} {vs : List V} (r : Reps K ρ H xs vs) : xs.isEmpty = vs.isEmpty := by cases r <;> rfl
theorem lim_le {n : Nat} (h : n ≤ 100000) : n ≤ sizeLine := Nat.le_trans h (by decide)
theorem tru_ok' {K : PySem.W.Frag} {ρ : List Addr} {H : Hp} {h : AHp} {a : A} {b : Bool} {v : V} (R : RelH K ρ H h) (r : Rep K ρ H a v) (e : tru a h = some b) : TruV K v H b := by
  cases r with
  | non => cases e; rfl
  | bl b => cases e; rfl
  | int i => cases e; rfl
  | str x =>
    change (if x.length ≤ 100000 then some (x.length != 0) else none) = some b at e
    split at e
    · rename_i hx
      cases e
      exact ⟨lim_le hx, by rw [Bool.eq_iff_iff]; simp⟩
    · cases e
  | ty n => cases e
  | tup hs rs =>
    cases e
    exact .inr (.inl ⟨_, hs, by rw [isEmpty_reps rs]⟩)
  | ro hs rs =>
    cases e
    exact .inl ⟨_, hs.sq, by rw [isEmpty_reps rs]⟩
  | @loc n p hn =>
    change (match h[n]? with | some (.lst xs) => some (!xs.isEmpty) | _ => none) = some b at e
    split at e
    · rename_i xs hx
      cases e
      obtain ⟨vs, h1, h2⟩ := R.obj _ _ _ hn hx
      exact .inl ⟨vs, SqL.of h1, by rw [isEmpty_reps h2]⟩
    · cases e
  | raw a => cases e
theorem imp_tru {K : PySem.W.Frag} {ma : ME} (σ : L2.St) (H : Hp) (Q : Bool → Hp → Prop) (q : tT K (mTru ma) σ H Q) : tE K ma σ H fun x H' => ∃ k, TruV K x H' k ∧ Q k H' := by
  obtain ⟨ρ, τ, h, d, h', R, S, e, k⟩ := q
  obtain ⟨⟨x, h1⟩, e1, e⟩ := bindS e
  obtain ⟨b, e2, e⟩ := bindS e
  cases e
  exact ⟨ρ, τ, h, x, h1, R, S, e1, fun ρ1 H1 v1 u1 R1 r1 => ⟨d, tru_ok' R1 r1 e2, k ρ1 H1 u1 R1⟩⟩
theorem jt_val {ma : ME} (ha : JE X a ma) (he : ∀ whole, isTrue a X.env whole = (do let v ← whole; standAt a.pos; holding [v] (truthy v)) := by intro _; rfl) : JT X a (mTru ma) := ⟨PT_imp (pt_truth ha.pf he) imp_tru⟩
def mB (ma : ME) : MT := fun τ h => (ma τ h).bind fun p => match p.1 with | .bl b => some (b, p.2) | _ => none
theorem imp_b {K : PySem.W.Frag} {ma : ME} (σ : L2.St) (H : Hp) (Q : Bool → Hp → Prop) (q : tT K (mB ma) σ H Q) : tE K ma σ H fun x H' => ∃ k, x = .bl k ∧ Q k H' := by
  obtain ⟨ρ, τ, h, d, h', R, S, e, k⟩ := q
  obtain ⟨⟨x, h1⟩, e1, e⟩ := bindS e
  dsimp only at e
  split at e
  · cases e
    refine ⟨ρ, τ, h, _, _, R, S, e1, fun ρ1 H1 v1 u1 R1 r1 => ?_⟩
    cases r1
    exact ⟨d, rfl, k ρ1 H1 u1 R1⟩
  · cases e
theorem jt_cmp {op : CmpOp} {ma mb : ME} {f : A → A → AHp → Rs A} {r : R2} (ho : OpR X (compareOp op) r) (o : OpOk X.K f r) (ha : JE X a ma) (hb : JE X b mb)
    (hm : behindInMarks op b = false := by first | exact nomark _ | with_unfolding_all rfl) : JT X (.Compare a [op] [b] pos) (mB (eOp f ma mb)) := ⟨PT_imp (pt_cmpR ho ha.pf hb.pf hm) fun σ H Q q => imp_op o σ H _ (imp_b σ H Q q)⟩
def mAnd (m n : MT) : MT := fun τ h => (m τ h).bind fun p => if p.1 = true then n τ p.2 else some (false, p.2)
def mOr (m n : MT) : MT := fun τ h => (m τ h).bind fun p => if p.1 = true then some (true, p.2) else n τ p.2
def mNot (m : MT) : MT := fun τ h => (m τ h).bind fun p => some (!p.1, p.2)
variable {m n : MT} {rest : List Expr}
theorem jw_and1 (ha : JT X a m) : JW X (.BoolOp .And [a] pos) m := ⟨pw_and1 ha.pf⟩
theorem jw_or1 (ha : JT X a m) : JW X (.BoolOp .Or [a] pos) m := ⟨pw_or1 ha.pf⟩
theorem jw_and (ha : JT X a m) (hb : JW X (.BoolOp .And (b :: rest) pos) n) : JW X (.BoolOp .And (a :: b :: rest) pos) (mAnd m n) := ⟨PW_imp (pw_and ha.pf hb.pf) fun σ H Q q => by
  obtain ⟨ρ, τ, h, d, h', R, S, e, k⟩ := q
  obtain ⟨⟨x, h1⟩, e1, e⟩ := bindS e
  refine ⟨ρ, τ, h, x, h1, R, S, e1, fun ρ1 H1 u1 R1 => ?_⟩
  cases x with
  | true =>
    rw [if_pos rfl]
    exact ⟨ρ1, τ, h1, d, h', R1, S.up u1, e, fun ρ2 H2 u2 R2 => k ρ2 H2 (u1.trans u2) R2⟩
  | false =>
    rw [if_neg Bool.false_ne_true]
    cases e
    exact k ρ1 H1 u1 R1⟩
theorem jw_or (ha : JT X a m) (hb : JW X (.BoolOp .Or (b :: rest) pos) n) : JW X (.BoolOp .Or (a :: b :: rest) pos) (mOr m n) := ⟨PW_imp (pw_or ha.pf hb.pf) fun σ H Q q => by
  obtain ⟨ρ, τ, h, d, h', R, S, e, k⟩ := q
  obtain ⟨⟨x, h1⟩, e1, e⟩ := bindS e
  refine ⟨ρ, τ, h, x, h1, R, S, e1, fun ρ1 H1 u1 R1 => ?_⟩
  cases x with
  | true =>
    rw [if_pos rfl]
    cases e
    exact k ρ1 H1 u1 R1
  | false =>
    rw [if_neg Bool.false_ne_true]
    exact ⟨ρ1, τ, h1, d, h', R1, S.up u1, e, fun ρ2 H2 u2 R2 => k ρ2 H2 (u1.trans u2) R2⟩⟩
theorem jt_w (h : JW X a m) : JT X a m := ⟨PW.pt h.pf⟩
theorem jt_not (ha : JT X a m) : JT X (.UnaryOp .Not a pos) (mNot m) := ⟨PT_imp (pt_not ha.pf) fun σ H Q q => by
  obtain ⟨ρ, τ, h, d, h', R, S, e, k⟩ := q
  obtain ⟨⟨x, h1⟩, e1, e⟩ := bindS e
  cases e
  exact ⟨ρ, τ, h, x, h1, R, S, e1, fun ρ1 H1 u1 R1 => k ρ1 H1 u1 R1⟩⟩
def eAnd (ma mb : ME) : ME := fun τ h => (ma τ h).bind fun p => match p.1 with | .bl true => mb τ p.2 | .bl false => some (.bl false, p.2) | _ => none
def eOr (ma mb : ME) : ME := fun τ h => (ma τ h).bind fun p => match p.1 with | .bl false => mb τ p.2 | .bl true => some (.bl true, p.2) | _ => none
def eNot (ma : ME) : ME := fun τ h => (ma τ h).bind fun p => match p.1 with | .bl b => some (.bl (!b), p.2) | _ => none
variable {ma mb mc : ME}
theorem je_one {op : BoolOp} (ha : JE X a ma) : JE X (.BoolOp op [a] pos) ma := ⟨pe_one ha.pf⟩
theorem je_and (ha : JE X a ma) (hb : JE X (.BoolOp .And (b :: rest) pos) mb) : JE X (.BoolOp .And (a :: b :: rest) pos) (eAnd ma mb) := ⟨PE_imp (pe_and ha.pf hb.pf) fun σ H Q q => by
  obtain ⟨ρ, τ, h, d, h', R, S, e, k⟩ := q
  obtain ⟨⟨x, h1⟩, e1, e⟩ := bindS e
  refine ⟨ρ, τ, h, x, h1, R, S, e1, fun ρ1 H1 v1 u1 R1 r1 => ?_⟩
  dsimp only at e
  split at e
  · cases r1
    refine ⟨true, rfl, ?_⟩
    rw [if_pos rfl]
    exact ⟨ρ1, τ, h1, d, h', R1, S.up u1, e, fun ρ2 H2 v u2 R2 r2 => k ρ2 H2 v (u1.trans u2) R2 r2⟩
  · cases r1
    cases e
    refine ⟨false, rfl, ?_⟩
    rw [if_neg Bool.false_ne_true]
    exact k ρ1 H1 _ u1 R1 (.bl false)
  · cases e⟩
theorem je_or (ha : JE X a ma) (hb : JE X (.BoolOp .Or (b :: rest) pos) mb) : JE X (.BoolOp .Or (a :: b :: rest) pos) (eOr ma mb) := ⟨PE_imp (pe_or ha.pf hb.pf) fun σ H Q q => by
  obtain ⟨ρ, τ, h, d, h', R, S, e, k⟩ := q
  obtain ⟨⟨x, h1⟩, e1, e⟩ := bindS e
  refine ⟨ρ, τ, h, x, h1, R, S, e1, fun ρ1 H1 v1 u1 R1 r1 => ?_⟩
  dsimp only at e
  split at e
  · cases r1
    refine ⟨false, rfl, ?_⟩
    rw [if_neg Bool.false_ne_true]
    exact ⟨ρ1, τ, h1, d, h', R1, S.up u1, e, fun ρ2 H2 v u2 R2 r2 => k ρ2 H2 v (u1.trans u2) R2 r2⟩
  · cases r1
    cases e
    refine ⟨true, rfl, ?_⟩
    rw [if_pos rfl]
    exact k ρ1 H1 _ u1 R1 (.bl true)
  · cases e⟩
theorem je_not (ha : JE X a ma) : JE X (.UnaryOp .Not a pos) (eNot ma) := ⟨PE_imp (pe_not ha.pf) fun σ H Q q => by
  obtain ⟨ρ, τ, h, d, h', R, S, e, k⟩ := q
  obtain ⟨⟨x, h1⟩, e1, e⟩ := bindS e
  refine ⟨ρ, τ, h, x, h1, R, S, e1, fun ρ1 H1 v1 u1 R1 r1 => ?_⟩
  dsimp only at e
  split at e
  · cases r1
    cases e
    exact ⟨_, rfl, k ρ1 H1 _ u1 R1 (.bl _)⟩
  · cases e⟩
def eIf (m : MT) (ma mb : ME) : ME := fun τ h => (m τ h).bind fun p => if p.1 = true then ma τ p.2 else mb τ p.2
def aNil : MA := fun _ h => some ([], h)
def aCons (ma : ME) (ms : MA) : MA := fun τ h => (ma τ h).bind fun p => (ms τ p.2).bind fun q => some (p.1 :: q.1, q.2)
def eTup (ms : MA) : ME := fun τ h => (ms τ h).bind fun p => if p.1.length ≤ 100000 then some (.tup p.1, p.2) else none
def eLst (ms : MA) : ME := fun τ h => (ms τ h).bind fun p => if p.1.length ≤ 100000 then some (.loc p.2.length, p.2 ++ [.lst p.1]) else none
variable {ms : MA}
theorem ja_nil : JA X [] aNil := ⟨PA_imp pa_nil fun σ H Q q => by
  obtain ⟨ρ, τ, h, d, h', R, S, e, k⟩ := q
  cases e
  exact k ρ H [] Up.refl R .nil⟩
theorem ja_cons (ha : JE X e ma) (hr : JA X es ms) (hs : starEach (e :: es) X.env = (false, eval e X.env) :: starEach es X.env := by rfl) : JA X (e :: es) (aCons ma ms) := ⟨PA_imp (pa_cons ha.pf hr.pf hs) fun σ H Q q => by
  obtain ⟨ρ, τ, h, d, h', R, S, e, k⟩ := q
  obtain ⟨⟨x, h1⟩, e1, e⟩ := bindS e
  obtain ⟨⟨y, h2⟩, e2, e⟩ := bindS e
  cases e
  exact ⟨ρ, τ, h, x, h1, R, S, e1, fun ρ1 H1 v1 u1 R1 r1 => ⟨ρ1, τ, h1, y, _, R1, S.up u1, e2, fun ρ2 H2 v2 u2 R2 r2 => k ρ2 H2 _ (u1.trans u2) R2 (.cons (r1.up u2) r2)⟩⟩⟩
theorem je_tup {k1 : Nat} (h : JA X es ms) : JE X (.Tuple es k1 pos) (eTup ms) := ⟨PE_imp (pe_tup h.pf) fun σ H Q q => by
  obtain ⟨ρ, τ, h, d, h', R, S, e, k⟩ := q
  obtain ⟨⟨x, h1⟩, e1, e⟩ := bindS e
  dsimp only at e
  split at e
  · rename_i hl
    cases e
    refine ⟨ρ, τ, h, x, _, R, S, e1, fun ρ1 H1 v1 u1 R1 r1 => ⟨by rw [← r1.length]; exact lim_le hl, fun p hp => ?_⟩⟩
    obtain ⟨u2, R2, r2⟩ := R1.tuple hp r1
    exact k _ _ _ (u1.trans u2) R2 r2
  · cases e⟩
theorem je_lst (h : JA X es ms) : JE X (.List es pos) (eLst ms) := ⟨PE_imp (pe_lst h.pf) fun σ H Q q => by
  obtain ⟨ρ, τ, h, d, h', R, S, e, k⟩ := q
  obtain ⟨⟨x, h1⟩, e1, e⟩ := bindS e
  dsimp only at e
  split at e
  · rename_i hl
    cases e
    refine ⟨ρ, τ, h, x, _, R, S, e1, fun ρ1 H1 v1 u1 R1 r1 => ⟨by rw [← r1.length]; exact lim_le hl, fun p hp => ?_⟩⟩
    obtain ⟨u2, R2, r2⟩ := R1.alloc hp r1
    exact k _ _ _ (u1.trans u2) R2 r2
  · cases e⟩
def eCall (F : MF) (ms : MA) : ME := fun τ h => (ms τ h).bind fun p => F p.1 p.2
def spF (K : PySem.W.Frag) (F : MF) (n : Nat) : Sp := fun vs H Q _ => vs.length = n ∧ ∃ ρ as h a h', RelH K ρ H h ∧ Reps K ρ H as vs ∧ F as h = some (a, h') ∧ ∀ ρ' H' v, Up K ρ H ρ' H' → RelH K ρ' H' h' → Rep K ρ' H' a v → Q v H'
theorem imp_call {K : PySem.W.Frag} {F : MF} {n : Nat} {E : XK} (hn : ∀ τ h p, ms τ h = some p → p.1.length = n) (σ : L2.St) (H : Hp) (Q : VK) (q : tE K (eCall F ms) σ H Q) : tCall (spF K F n) [] E (tA K ms) σ H Q := by
  obtain ⟨ρ, τ, h, d, h', R, S, e, k⟩ := q
  obtain ⟨⟨x, h1⟩, e1, e⟩ := bindS e
  refine ⟨ρ, τ, h, x, h1, R, S, e1, fun ρ1 H1 v1 u1 R1 r1 => ?_⟩
  show spF K F n (v1 ++ []) H1 Q E
  rw [List.append_nil]
  exact ⟨by rw [← r1.length]; exact hn _ _ _ e1, ρ1, x, h1, d, h', R1, r1, e, fun ρ2 H2 v u2 R2 r2 => k ρ2 H2 v (u1.trans u2) R2 r2⟩
theorem len_nil : ∀ (τ : ASt) (h : AHp) (p : List A × AHp), aNil τ h = some p → p.1.length = 0 := by
  intro τ h p e; cases e; rfl
theorem len_cons {n : Nat} (i : ∀ (τ : ASt) (h : AHp) (p : List A × AHp), ms τ h = some p → p.1.length = n) : ∀ (τ : ASt) (h : AHp) (p : List A × AHp), aCons ma ms τ h = some p → p.1.length = n + 1 := by
  intro τ h p e
  obtain ⟨⟨x, h1⟩, e1, e⟩ := bindS e
  obtain ⟨⟨y, h2⟩, e2, e⟩ := bindS e
  cases e
  show y.length + 1 = n + 1
  rw [i _ _ _ e2]
theorem je_call {k n : Nat} {f : Addr} {fd : FuncData} {ps : List Str} {F : MF} {x : Str} {p : Pos} (hF : FnOk X.prog X.w X.K X.mg X.base CX0 k f fd ps (spF X.K F n)) (hr : Room k X.A) (hm : X.mg x = some (.ref f)) (hk : PySem.W.keepIn X.K (.ref f) = true)
    (hb : Binds X.K fd ps []) (ha : JA X (e :: es) ms) (hn : ∀ (τ : ASt) (h : AHp) (p : List A × AHp), ms τ h = some p → p.1.length = n := by repeat (first | exact len_nil | refine len_cons ?_))
    (hg : Gl X x := by rfl) (hdb : (x == ("__debug__" : Str)) = false := by decide) (he : starEach (e :: es) X.env = (false, eval e X.env) :: starEach es X.env := by rfl) (hpl : (backTo pos (starEach es X.env)).any (·.1) = false := by rfl) :
    JE X (.Call (.Name x p) (e :: es) [] pos) (eCall F ms) := ⟨PE_imp (pe_call (E := E0) hF hr hg hm hk hb .nil (fun _ _ _ _ _ _ _ h => h.elim) ha.pf hdb he hpl) (imp_call hn)⟩
def CallOk (K : PySem.W.Frag) (F : MF) (r : List V → Hp → VK → Prop) : Prop := ∀ ρ H h as c h' xs (Q : VK), RelH K ρ H h → Reps K ρ H as xs → F as h = some (c, h') →
  (∀ ρ' H' v, Up K ρ H ρ' H' → RelH K ρ' H' h' → Rep K ρ' H' c v → Q v H') → r xs H Q
theorem imp_cb {K : PySem.W.Frag} {F : MF} {r : List V → Hp → VK → Prop} (o : CallOk K F r) (σ : L2.St) (H : Hp) (Q : VK) (q : tE K (eCall F ms) σ H Q) : tCB r (tA K ms) σ H Q := by
  obtain ⟨ρ, τ, h, d, h', R, S, e, k⟩ := q
  obtain ⟨⟨x, h1⟩, e1, e⟩ := bindS e
  exact ⟨ρ, τ, h, x, h1, R, S, e1, fun ρ1 H1 v1 u1 R1 r1 => o ρ1 H1 h1 x d h' v1 Q R1 r1 e fun ρ2 H2 v u2 R2 r2 => k ρ2 H2 v (u1.trans u2) R2 r2⟩
theorem je_callB {x : Str} {p : Pos} {id : String} {F : MF} {r : List V → Hp → VK → Prop} (hc : CallR X (.builtin id) r) (o : CallOk X.K F r) (hm : X.mg x = none) (hv : bootBuiltins x = some (.builtin id)) (ha : JA X (e :: es) ms) (hg : Gl X x := by rfl) (hn : x ≠ "__name__" := by decide) (hdb : (x == ("__debug__" : Str)) = false := by decide)
    (he : starEach (e :: es) X.env = (false, eval e X.env) :: starEach es X.env := by rfl) (hpl : (backTo pos (starEach es X.env)).any (·.1) = false := by rfl) : JE X (.Call (.Name x p) (e :: es) [] pos) (eCall F ms) := ⟨PE_imp (pe_callB hc hg hm hv ha.pf hn hdb he hpl) (imp_cb o)⟩
theorem je_callT {x : Str} {p : Pos} {T : String} {F : MF} {r : List V → Hp → VK → Prop} (hc : CallR X (.type T) r) (o : CallOk X.K F r) (hm : X.mg x = none) (hv : bootBuiltins x = some (.type T)) (ha : JA X (e :: es) ms) (hg : Gl X x := by rfl) (hn : x ≠ "__name__" := by decide) (hdb : (x == ("__debug__" : Str)) = false := by decide)
    (he : starEach (e :: es) X.env = (false, eval e X.env) :: starEach es X.env := by rfl) (hpl : (backTo pos (starEach es X.env)).any (·.1) = false := by rfl) : JE X (.Call (.Name x p) (e :: es) [] pos) (eCall F ms) := ⟨PE_imp (pe_callTy hc hg hm hv ha.pf hn hdb he hpl) (imp_cb o)⟩
end
end Ab
set_option Elab.async false
set_option linter.all false
set_option maxRecDepth 100000
namespace Ab
open PySem PySem.Spec PyProof.Rows L2
set_option autoImplicit false
set_option relaxedAutoImplicit false
def sNx : MS := fun τ h => some (.nx τ, h)
def sSeq (a b : MS) : MS := fun τ h => (a τ h).bind fun p => match p.1 with | .nx τ1 => b τ1 p.2 | f => some (f, p.2)
def sRet (ma : ME) : MS := fun τ h => (ma τ h).bind fun p => some (.rt p.1, p.2)
def sRetN : MS := fun _ h => some (.rt .non, h)
def sIf (m : MT) (a b : MS) : MS := fun τ h => (m τ h).bind fun p => if p.1 = true then a τ p.2 else b τ p.2
def sX (ma : ME) : MS := fun τ h => (ma τ h).bind fun p => some (.nx τ, p.2)
def sBk : MS := fun τ h => some (.bk τ, h)
def sCt : MS := fun τ h => some (.ct τ, h)
abbrev MG := A → ASt → AHp → Option (ASt × AHp)
def gN (i : Nat) : MG := fun a τ h => some (τ.set i (some a), h)
def gT (i j : Nat) : MG := fun a τ h => match a with | .tup [x, y] => some ((τ.set i (some x)).set j (some y), h) | _ => none
def gT3 (i j k : Nat) : MG := fun a τ h => match a with | .tup [x, y, z] => some (((τ.set i (some x)).set j (some y)).set k (some z), h) | _ => none
def gIx (mo mi : ME) (f : A → A → A → AHp → Option AHp) : MG := fun a τ h => (mo τ h).bind fun p => (mi τ p.2).bind fun q => (f p.1 q.1 a q.2).bind fun h' => some (τ, h')
def sAsg (ma : ME) (g : MG) : MS := fun τ h => (ma τ h).bind fun p => (g p.1 τ p.2).bind fun q => some (.nx q.1, q.2)
def tG (K : PySem.W.Frag) (g : MG) : TG := fun v σ H Q => ∃ ρ τ h a τ' h', RelH K ρ H h ∧ RelS K ρ H σ τ ∧ Rep K ρ H a v ∧ g a τ h = some (τ', h') ∧ ∀ ρ' H' σ', Up K ρ H ρ' H' → RelH K ρ' H' h' → RelS K ρ' H' σ' τ' → Q σ' H'
structure JG (X : Cx) (e : Expr) (g : MG) : Prop where
  pf : PG X e (tG X.K g)
section
variable {X : Cx} {a b c e o i : Expr} {es : List Expr} {pos : Pos} {st : Stmt} {sts body : List Stmt} {m : MT} {ma mb mo mi : ME} {s t : MS} {g : MG}
theorem PG_imp {t t' : TG} (h : PG X e t) (i : ∀ v σ H Q, t' v σ H Q → t v σ H Q) : PG X e t' := fun pins s σ H v u Q I r q => h pins s σ H v u Q I r (i v σ H Q q)
theorem jb_nil : JB X [] sNx := ⟨PSs_imp pss_nil fun D σ H q => by
  obtain ⟨ρ, τ, h, f, h', R, S, e, k⟩ := q
  cases e
  exact k ρ H Up.refl R σ S⟩
theorem jb_cons (h1 : JS X st s) (h2 : JB X sts t) : JB X (st :: sts) (sSeq s t) := ⟨PSs_imp (pss_cons h1.pf h2.pf) fun D σ H q => by
  obtain ⟨ρ, τ, h, f, h', R, S, e, k⟩ := q
  obtain ⟨⟨x, h1⟩, e1, e⟩ := bindS e
  refine ⟨ρ, τ, h, x, h1, R, S, e1, fun ρ1 H1 u1 R1 => ?_⟩
  cases x with
  | nx τ1 =>
    intro σ1 S1
    exact ⟨ρ1, τ1, h1, f, h', R1, S1, e, fun ρ2 H2 u2 R2 => k ρ2 H2 (u1.trans u2) R2⟩
  | rt a => cases e; exact k ρ1 H1 u1 R1
  | bk τ1 => cases e; exact k ρ1 H1 u1 R1
  | ct τ1 => cases e; exact k ρ1 H1 u1 R1⟩
theorem jb_one (h1 : JS X st s) : JB X [st] s := ⟨pss_one h1.pf⟩
theorem js_x (ha : JE X e ma) (hs : swapsWith e none pos.line X.env = pure false := by rfl) : JS X (.Expr e pos) (sX ma) := ⟨PS_imp (ps_expr ha.pf hs) fun D σ H q => by
  obtain ⟨ρ, τ, h, f, h', R, S, e, k⟩ := q
  obtain ⟨⟨x, h1⟩, e1, e⟩ := bindS e
  cases e
  exact ⟨ρ, τ, h, x, _, R, S, e1, fun ρ1 H1 v1 u1 R1 r1 => k ρ1 H1 u1 R1 σ (S.up u1)⟩⟩
theorem js_ret (ha : JE X e ma) : JS X (.Return (some e) pos) (sRet ma) := ⟨PS_imp (ps_ret ha.pf) fun D σ H q => by
  obtain ⟨ρ, τ, h, f, h', R, S, e, k⟩ := q
  obtain ⟨⟨x, h1⟩, e1, e⟩ := bindS e
  cases e
  exact ⟨ρ, τ, h, x, _, R, S, e1, fun ρ1 H1 v1 u1 R1 r1 => k ρ1 H1 u1 R1 v1 r1⟩⟩
theorem js_if (hc : JT X c m) (ha : JB X sts s) (hb : JB X body t) : JS X (.If c sts body pos) (sIf m s t) := ⟨PS_imp (ps_if hc.pf ha.pf hb.pf) fun D σ H q => by
  obtain ⟨ρ, τ, h, f, h', R, S, e, k⟩ := q
  obtain ⟨⟨x, h1⟩, e1, e⟩ := bindS e
  refine ⟨ρ, τ, h, x, h1, R, S, e1, fun ρ1 H1 u1 R1 => ?_⟩
  cases x with
  | true =>
    rw [if_pos rfl]
    exact ⟨ρ1, τ, h1, f, h', R1, S.up u1, e, fun ρ2 H2 u2 R2 => k ρ2 H2 (u1.trans u2) R2⟩
  | false =>
    rw [if_neg Bool.false_ne_true]
    exact ⟨ρ1, τ, h1, f, h', R1, S.up u1, e, fun ρ2 H2 u2 R2 => k ρ2 H2 (u1.trans u2) R2⟩⟩
theorem jg_name (j : Nat) {x : Str} (hN : X.N.Nodup) (hi : X.N[j]? = some x := by rfl) (hx : Loc X.env.scope x := by first | exact Or.inl rfl | exact Or.inr rfl) (hf : X.fn x = true ∨ X.env.scope.names.lookup x = some .local := by first | exact .inl rfl | exact .inr rfl) : JG X (.Name x pos) (gN j) := ⟨PG_imp (pg_name (i := j) hN hi hx hf) fun v σ H Q q => by
  obtain ⟨ρ, τ, h, a, τ', h', R, S, r, e, k⟩ := q
  cases e
  exact k ρ H _ Up.refl R (S.set r)⟩
theorem jg_tup3 {x y z : Str} {p1 p2 p3 : Pos} {kk : Nat} (j k l : Nat) (hc : X.calm = true) (hN : X.N.Nodup) (hi : X.N[j]? = some x := by rfl) (hj : X.N[k]? = some y := by rfl) (hl : X.N[l]? = some z := by rfl) (hx : Loc X.env.scope x := by first | exact Or.inl rfl | exact Or.inr rfl) (hy : Loc X.env.scope y := by first | exact Or.inl rfl | exact Or.inr rfl) (hz : Loc X.env.scope z := by first | exact Or.inl rfl | exact Or.inr rfl)
    (hf : X.fn x = true ∨ X.env.scope.names.lookup x = some .local := by first | exact .inl rfl | exact .inr rfl) (hf2 : X.fn y = true ∨ X.env.scope.names.lookup y = some .local := by first | exact .inl rfl | exact .inr rfl) (hf3 : X.fn z = true ∨ X.env.scope.names.lookup z = some .local := by first | exact .inl rfl | exact .inr rfl) : JG X (.Tuple [.Name x p1, .Name y p2, .Name z p3] kk pos) (gT3 j k l) :=
  ⟨PG_imp (pg_tup (n := 3) hc (pgs_cons (pg_name (i := j) hN hi hx hf) (pgs_cons (pg_name (i := k) hN hj hy hf2) (pgs_cons (pg_name (i := l) hN hl hz hf3) pgs_nil)))) fun v σ H Q q => by
  obtain ⟨ρ, τ, h, a, τ', h', R, S, r, e, k⟩ := q
  unfold gT3 at e
  split at e
  · cases e
    cases r with
    | tup hs rs =>
      cases rs with
      | cons r1 rs =>
        cases rs with
        | cons r2 rs =>
          cases rs with
          | cons r3 rs =>
            cases rs
            exact ⟨_, _, rfl, hs, rfl, _, _, rfl, _, _, rfl, _, _, rfl, rfl, k ρ H _ Up.refl R (((S.set r1).set r2).set r3)⟩
  · cases e⟩
def SetOk (K : PySem.W.Frag) (f : A → A → A → AHp → Option AHp) (t : TSet) : Prop := ∀ ρ H h a b c h' x y z (Q : Hp → Prop), RelH K ρ H h → Rep K ρ H a x → Rep K ρ H b y → Rep K ρ H c z → f a b c h = some h' →
  (∀ ρ' H', Up K ρ H ρ' H' → RelH K ρ' H' h' → Q H') → t x y z H Q
theorem jg_sub {f : A → A → A → AHp → Option AHp} {t : TSet} (ho : JE X o mo) (hi : JE X i mi) (hs : PSet X t) (so : SetOk X.K f t)
    (ha : ∀ v, assign (.Subscript o i pos) X.env v = (do
      let ov ← holding [v] (eval o X.env)
      let iv ← holding [v, ov] (eval i X.env)
      standAt pos
      holding [v, ov, iv] (setItem ov iv v)
      release [v, ov, iv] []) := by intro _; rfl) : JG X (.Subscript o i pos) (gIx mo mi f) := ⟨PG_imp (pg_sub ho.pf hi.pf hs ha) fun v σ H Q q => by
  obtain ⟨ρ, τ, h, a, τ', h', R, S, r, e, k⟩ := q
  obtain ⟨⟨x, h1⟩, e1, e⟩ := bindS e
  obtain ⟨⟨y, h2⟩, e2, e⟩ := bindS e
  obtain ⟨h3, e3, e⟩ := bindS e
  cases e
  exact ⟨ρ, τ, h, x, h1, R, S, e1, fun ρ1 H1 v1 u1 R1 r1 => ⟨ρ1, τ, h1, y, h2, R1, S.up u1, e2, fun ρ2 H2 v2 u2 R2 r2 =>
    so ρ2 H2 h2 x y a _ v1 v2 v _ R2 (r1.up u2) r2 (r.up (u1.trans u2)) e3 fun ρ3 H3 u3 R3 => k ρ3 H3 σ ((u1.trans u2).trans u3) R3 (S.up ((u1.trans u2).trans u3))⟩⟩⟩
theorem js_asg {tg : Expr} (he : JE X e ma) (hg : JG X tg g) (hs : swapsWithSole [tg] e pos.line X.env = pure false := by rfl) (hw : swappedStores [tg] e X.env = pure none := by rfl)
    (h1 : (assignEach [tg] X.env).map (·.2) = [assign tg X.env] := by rfl) : JS X (.Assign [tg] e pos) (sAsg ma g) := ⟨PS_imp (ps_asg he.pf hg.pf hs hw h1) fun D σ H q => by
  obtain ⟨ρ, τ, h, f, h', R, S, e, k⟩ := q
  obtain ⟨⟨x, h1⟩, e1, e⟩ := bindS e
  obtain ⟨⟨τ1, h2⟩, e2, e⟩ := bindS e
  cases e
  exact ⟨ρ, τ, h, x, h1, R, S, e1, fun ρ1 H1 v1 u1 R1 r1 => ⟨ρ1, τ, h1, x, τ1, _, R1, S.up u1, r1, e2, fun ρ2 H2 σ2 u2 R2 S2 => k ρ2 H2 (u1.trans u2) R2 σ2 S2⟩⟩⟩
theorem js_set (j : Nat) {x : Str} {pos' : Pos} (hN : X.N.Nodup) (he : JE X e ma) (hi : X.N[j]? = some x := by rfl) (hx : Loc X.env.scope x := by first | exact Or.inl rfl | exact Or.inr rfl) (hs : swapsWith e (some (.Name x pos')) pos.line X.env = pure false := by rfl) (hf : X.fn x = true ∨ X.env.scope.names.lookup x = some .local := by first | exact .inl rfl | exact .inr rfl) :
    JS X (.Assign [.Name x pos'] e pos) (sAsg ma (gN j)) := ⟨PS_imp (ps_set (i := j) hN hi hx he.pf hs hf) fun D σ H q => by
  obtain ⟨ρ, τ, h, f, h', R, S, e, k⟩ := q
  obtain ⟨⟨x, h1⟩, e1, e⟩ := bindS e
  cases e
  exact ⟨ρ, τ, h, x, _, R, S, e1, fun ρ1 H1 v1 u1 R1 r1 => k ρ1 H1 u1 R1 _ ((S.up u1).set r1)⟩⟩
def whileL (m : MT) (s : MS) : Nat → MS
  | 0, _, _ => none
  | n + 1, τ, h => (m τ h).bind fun p => if p.1 = true then (s τ p.2).bind fun q => match q.1 with
      | .nx τ1 => whileL m s n τ1 q.2
      | .ct τ1 => whileL m s n τ1 q.2
      | .bk τ1 => some (.nx τ1, q.2)
      | .rt a => some (.rt a, q.2)
    else some (.nx τ, p.2)
theorem js_while (n : Nat) (hc : JT X c m) (hb : JB X body s) (hx : X.xe = fun _ _ => False := by rfl) : JS X (.While c body [] pos) (whileL m s n) := by
  refine ⟨PS_imp (ps_while (by rw [hx]; exact PassesOwn.never) hc.pf hb.pf) fun D σ H q => ?_⟩
  obtain ⟨ρ, τ, h, f, h', R, S, e, k⟩ := q
  refine ⟨fun j σ1 H1 => ∃ ρ1 τ1 h1, Up X.K ρ H ρ1 H1 ∧ RelH X.K ρ1 H1 h1 ∧ RelS X.K ρ1 H1 σ1 τ1 ∧ whileL m s j τ1 h1 = some (f, h'), ⟨n, ρ, τ, h, Up.refl, R, S, e⟩, ?_⟩
  rintro j σ1 H1 ⟨ρ1, τ1, h1, u1, R1, S1, e1⟩
  cases j with
  | zero => cases e1
  | succ j =>
    obtain ⟨⟨b, h2⟩, e2, e1⟩ := bindS e1
    refine ⟨ρ1, τ1, h1, b, h2, R1, S1, e2, fun ρ2 H2 u2 R2 => ?_⟩
    cases b with
    | false =>
      rw [if_neg Bool.false_ne_true] at e1 ⊢
      cases e1
      exact k ρ2 H2 (u1.trans u2) R2 σ1 (S1.up u2)
    | true =>
      rw [if_pos rfl] at e1 ⊢
      refine ⟨fun σ3 H3 => ∃ ρ3 τ3 h3, Up X.K ρ H ρ3 H3 ∧ RelH X.K ρ3 H3 h3 ∧ RelS X.K ρ3 H3 σ3 τ3 ∧ whileL m s j τ3 h3 = some (f, h'), fun σ3 H3 z => ⟨j, Nat.lt_succ_self j, z⟩, ?_⟩
      obtain ⟨⟨fl, h3⟩, e3, e1⟩ := bindS e1
      refine ⟨ρ2, τ1, h2, fl, h3, R2, S1.up u2, e3, fun ρ3 H3 u3 R3 => ?_⟩
      cases fl with
      | nx τ3 => exact fun σ3 S3 => ⟨ρ3, τ3, h3, (u1.trans u2).trans u3, R3, S3, e1⟩
      | ct τ3 => exact fun σ3 S3 => ⟨ρ3, τ3, h3, (u1.trans u2).trans u3, R3, S3, e1⟩
      | bk τ3 =>
        cases e1
        exact k ρ3 H3 ((u1.trans u2).trans u3) R3
      | rt a =>
        cases e1
        exact k ρ3 H3 ((u1.trans u2).trans u3) R3
structure AIt where
  n : Nat
  get : Nat → AHp → Option A
  fin : AHp → Bool
abbrev MI := ASt → AHp → Rs AIt
def ItOk (K : PySem.W.Frag) (J : It) (it : AIt) (ρ0 : List Addr) (H0 : Hp) : Prop := ∀ ρ H h, Le K ρ0 H0 ρ H → RelH K ρ H h →
  (∀ i a, it.get i h = some a → J.go i H ∧ ∀ x H', J.yld i H x H' → Up K ρ H ρ H' ∧ RelH K ρ H' h ∧ Rep K ρ H' a x) ∧ (it.fin h = true → J.stop it.n H)
def tI (K : PySem.W.Frag) (mi : MI) : TI := fun σ H R => ∃ ρ τ h it h', RelH K ρ H h ∧ RelS K ρ H σ τ ∧ mi τ h = some (it, h') ∧ ∀ ρ' H' J, Up K ρ H ρ' H' → RelH K ρ' H' h' → ItOk K J it ρ' H' → R J H'
structure JI (X : Cx) (tg iter : Expr) (mi : MI) : Prop where
  pf : PI X tg iter (tI X.K mi)
theorem PI_imp {tg : Expr} {t t' : TI} (h : PI X tg e t) (i : ∀ σ H R, t' σ H R → t σ H R) : PI X tg e t' := fun pins s σ H R I q => h pins s σ H R I (i σ H R q)
def forL (it : AIt) (g : MG) (s : MS) : Nat → Nat → MS
  | 0, _, τ, h => if it.fin h = true then some (.nx τ, h) else none
  | n + 1, k, τ, h => (it.get k h).bind fun a => (g a τ h).bind fun p => (s p.1 p.2).bind fun q => match q.1 with
      | .nx τ1 => forL it g s n (k + 1) τ1 q.2
      | .ct τ1 => forL it g s n (k + 1) τ1 q.2
      | .bk τ1 => some (.nx τ1, q.2)
      | .rt a => some (.rt a, q.2)
def sFor (mi : MI) (g : MG) (s : MS) : MS := fun τ h => (mi τ h).bind fun p => forL p.1 g s p.1.n 0 τ p.2
theorem js_for {iter tg : Expr} {mi : MI} (hc : X.calm = true) (hi : JI X tg iter mi) (hg : JG X tg g) (hb : JB X body s) (hs : ∀ x, foldedSetIterable iter X.env x = pure x := by intro _; rfl) (hx : X.xe = fun _ _ => False := by rfl) : JS X (.For tg iter body [] pos) (sFor mi g s) := by
  refine ⟨PS_imp (ps_for (by rw [hx]; exact PassesOwn.never) hc hi.pf hg.pf hb.pf hs) fun D σ H q => ?_⟩
  obtain ⟨ρ, τ, h, f, h', R, S, e, k⟩ := q
  obtain ⟨⟨it, h0⟩, e0, e⟩ := bindS e
  refine ⟨ρ, τ, h, it, h0, R, S, e0, fun ρ0 H0 J u0 R0 ok => ?_⟩
  refine ⟨fun j n σ1 H1 => j + n = it.n ∧ ∃ ρ1 τ1 h1, Up X.K ρ0 H0 ρ1 H1 ∧ RelH X.K ρ1 H1 h1 ∧ RelS X.K ρ1 H1 σ1 τ1 ∧ forL it g s n j τ1 h1 = some (f, h'), ⟨it.n, Nat.zero_add _, ρ0, τ, h0, Up.refl, R0, S.up u0, e⟩, ?_⟩
  rintro j n σ1 H1 ⟨ej, ρ1, τ1, h1, u1, R1, S1, e1⟩
  obtain ⟨okg, okf⟩ := ok ρ1 H1 h1 u1.toLe R1
  cases n with
  | zero =>
    change (if it.fin h1 = true then some (Fl.nx τ1, h1) else none) = _ at e1
    split at e1
    · rename_i hf
      cases e1
      have : j = it.n := by omega
      subst this
      exact .inl ⟨okf hf, k ρ1 H1 (u0.trans u1) R1 σ1 S1⟩
    · cases e1
  | succ n =>
    obtain ⟨a, e2, e1⟩ := bindS e1
    obtain ⟨⟨τ2, h2⟩, e3, e1⟩ := bindS e1
    obtain ⟨⟨fl, h3⟩, e4, e1⟩ := bindS e1
    obtain ⟨go, yl⟩ := okg j a e2
    refine .inr ⟨go, fun σ3 H3 => (j + 1) + n = it.n ∧ ∃ ρ3 τ3 h3, Up X.K ρ0 H0 ρ3 H3 ∧ RelH X.K ρ3 H3 h3 ∧ RelS X.K ρ3 H3 σ3 τ3 ∧ forL it g s n (j + 1) τ3 h3 = some (f, h'), fun σ3 H3 z => ⟨n, Nat.lt_succ_self n, z⟩, fun x Hx yx => ?_⟩
    obtain ⟨ux, Rx, rx⟩ := yl x Hx yx
    refine ⟨ρ1, τ1, h1, a, τ2, h2, Rx, S1.up ux, rx, e3, fun ρ2 H2 σ2 u2 R2 S2 => ?_⟩
    refine ⟨ρ2, τ2, h2, fl, h3, R2, S2, e4, fun ρ3 H3 u3 R3 => ?_⟩
    have uu : Up X.K ρ0 H0 ρ3 H3 := u1.trans (ux.trans (u2.trans u3))
    cases fl with
    | nx τ3 => exact fun σ3 S3 => ⟨by omega, ρ3, τ3, h3, uu, R3, S3, e1⟩
    | ct τ3 => exact fun σ3 S3 => ⟨by omega, ρ3, τ3, h3, uu, R3, S3, e1⟩
    | bk τ3 =>
      cases e1
      exact k ρ3 H3 (u0.trans uu) R3
    | rt a =>
      cases e1
      exact k ρ3 H3 (u0.trans uu) R3
end
def fnOf (n : Nat) (body : MS) : MF := fun as h => (body (as.map some ++ List.replicate (n - as.length) none) h).bind fun p => match p.1 with
  | .rt a => some (a, p.2)
  | .nx _ => some (.non, p.2)
  | _ => none
theorem start_rel {K : PySem.W.Frag} {ρ : List Addr} {H : Hp} {N : List Str} {as : List A} {vs : List V} (r : Reps K ρ H as vs) : RelS K ρ H (L2.start N vs) (as.map some ++ List.replicate (N.length - as.length) none) := by
  have hl := r.length
  refine ⟨by unfold L2.start; simp [hl], fun i a e => ?_⟩
  have hi : i < as.length := by
    by_cases hi : i < as.length
    · exact hi
    · rw [List.getElem?_append_right (by simpa using hi), List.getElem?_replicate] at e
      split at e <;> cases e
  rw [List.getElem?_append_left (by simpa using hi), List.getElem?_map] at e
  have ha : as[i]? = some a := by
    cases q : as[i]? with
    | none => rw [q] at e; cases e
    | some b => rw [q] at e; cases e; rfl
  obtain ⟨v, h1, h2⟩ := r.get ha
  refine ⟨v, ?_, h2⟩
  unfold L2.start
  rw [List.getElem?_append_left (by simpa [hl] using hi), List.getElem?_map, h1]
  rfl
theorem fn_ok {P : Program} {w : World} {K : PySem.W.Frag} {mg : Str → Option Value} {base : Heap} {x qual : Str} {st : Stmt} {f : Addr} {fd : FuncData} {N ps : List Str} {k n : Nat} {body : MS} (F : Fun K x qual st f fd) (S : FnScope N ps (defScope st)) (hn : ps.length = n)
    (hb : ∀ (cdv : Value) (A : Around) (outer : List Env) (s : Shared) (H : Hp) (E : XK), Room k (A.deeper (envOfC qual (defScope st) s.heap.objs.size f cdv)) → JB (cxOf CX0 P w K mg base N qual (defScope st) f cdv A outer s H E).nox (defBody st) body) :
    FnOk P w K mg base CX0 (k + 1) f fd ps (spF K (fnOf N.length body) n) := by
  refine F.ok S (fun vs H Q E h => h.1.trans hn.symm) (fun cdv A outer s H vs Q E hr h => ?_)
  obtain ⟨hl, ρ, as, h, a, h', R, r, e, q⟩ := h
  obtain ⟨⟨fl, h1⟩, e1, e⟩ := bindS e
  refine ⟨_, (hb cdv A outer s H E hr).pf, ρ, _, h, fl, h1, R, start_rel r, e1, fun ρ1 H1 u1 R1 => ?_⟩
  cases fl with
  | nx τ => cases e; exact fun σ _ => q ρ1 H1 .non u1 R1 .non
  | rt b => cases e; exact fun v rv => q ρ1 H1 v u1 R1 rv
  | bk τ => cases e
  | ct τ => cases e
theorem fn_zero {P : Program} {w : World} {K : PySem.W.Frag} {mg : Str → Option Value} {base : Heap} {f : Addr} {fd : FuncData} {ps : List Str} {n k : Nat} : FnOk P w K mg base CX0 k f fd ps (spF K (fun _ _ => none) n) := by
  have no : ∀ vs H Q E, ¬ spF K (fun _ _ => none) n vs H Q E := fun vs H Q E h => by
    obtain ⟨_, _, _, _, _, _, _, _, e, _⟩ := h
    cases e
  exact ⟨fun vs H Q E h => absurd h (no vs H Q E), fun A outer s H args us vs Q E _ _ _ _ h => absurd h (no vs H Q E)⟩
end Ab
set_option Elab.async false
set_option linter.all false
set_option maxRecDepth 100000
namespace Ab
open PySem PySem.Spec PyProof.Rows L2
set_option autoImplicit false
set_option relaxedAutoImplicit false
def oAdd (a b : A) (h : AHp) : Rs A := match a, b with
  | .int i, .int j => some (.int (i + j), h)
  | .str x, .str y => if x.length + y.length ≤ 100000 then some (.str (x ++ y), h) else none
  | .loc m, .loc n => match h[m]?, h[n]? with
    | some (.lst xs), some (.lst ys) => if xs.length + ys.length ≤ 100000 then some (.loc h.length, h ++ [.lst (xs ++ ys)]) else none
    | _, _ => none
  | _, _ => none
def oSub (a b : A) (h : AHp) : Rs A := match a, b with
  | .int i, .int j => some (.int (i - j), h)
  | _, _ => none
def oMod (a b : A) (h : AHp) : Rs A := match a, b with
  | .int i, .int j => if 0 < j then some (.int (i % j), h) else none
  | _, _ => none
def oDiv (a b : A) (h : AHp) : Rs A := match a, b with
  | .int i, .int j => if 0 < j ∧ j < 1073741824 then some (.int (i / j), h) else none
  | _, _ => none
def oMul (a b : A) (h : AHp) : Rs A := match a, b with
  | .int i, .int j => if (-(2 ^ 64) < i ∧ i < 2 ^ 64) ∨ (-(2 ^ 64) < j ∧ j < 2 ^ 64) then some (.int (i * j), h) else none
  | .str x, .int n => if x.length ≤ 1000 ∧ 2 ≤ n ∧ n ≤ 1000 then some (.str (Txt.mul x n), h) else none
  | _, _ => none
def oPow (a b : A) (h : AHp) : Rs A := match a, b with
  | .int i, .int j => if 0 ≤ j ∧ j ≤ 1000000 ∧ i.natAbs < 2 ^ 64 then some (.int (i ^ j.toNat), h) else none
  | _, _ => none
def uNeg (a : A) (h : AHp) : Rs A := match a with
  | .int i => some (.int (-i), h)
  | _ => none
section
variable {X : Cx} {K : PySem.W.Frag}
def rAdd3 : R2 := fun x y H Q => (rI0 fun i j => .int (i + j)) x y H Q ∨ (fun x y H Q => ∃ i j, x = .str i ∧ y = .str j ∧ i.length + j.length ≤ sizeLine ∧ Q (.str (i ++ j)) H) x y H Q ∨ rCat x y H Q
theorem op_add3 : OpR X (binaryOp .Add) rAdd3 := op_add.or (op_add_str.or op_cat)
theorem ok_add : OpOk K oAdd rAdd3 := by
  intro ρ H h a b c h' x y Q R ra rb e k
  unfold oAdd at e
  split at e
  · cases e; cases ra; cases rb
    exact .inl ⟨_, _, rfl, rfl, k ρ H _ Up.refl R (.int _)⟩
  · split at e
    · rename_i hl
      cases e; cases ra; cases rb
      exact .inr (.inl ⟨_, _, rfl, rfl, lim_le hl, k ρ H _ Up.refl R (.str _)⟩)
    · cases e
  · split at e
    · rename_i xs ys hx hy
      split at e
      · rename_i hl
        cases e
        obtain ⟨p, rfl, h1, vs, h2, r1⟩ := R.locAt hx ra
        obtain ⟨q, rfl, h3, ws, h4, r2⟩ := R.locAt hy rb
        refine .inr (.inr ⟨p, q, vs, ws, rfl, rfl, h2, h4, by rw [← r1.length, ← r2.length]; exact lim_le hl, fun z hz => ?_⟩)
        obtain ⟨u, R', r'⟩ := R.alloc hz (r1.append r2)
        exact k _ _ _ u R' r'
      · cases e
    · cases e
  · cases e
theorem ok_sub : OpOk K oSub (rI0 fun i j => .int (i - j)) := by
  intro ρ H h a b c h' x y Q R ra rb e k
  unfold oSub at e
  split at e
  · cases e; cases ra; cases rb
    exact ⟨_, _, rfl, rfl, k ρ H _ Up.refl R (.int _)⟩
  · cases e
theorem ok_mod : OpOk K oMod (rI (fun _ j => 0 < j) fun i j => .int (i % j)) := by
  intro ρ H h a b c h' x y Q R ra rb e k
  unfold oMod at e
  split at e
  · split at e
    · rename_i hj
      cases e; cases ra; cases rb
      exact ⟨_, _, rfl, rfl, hj, k ρ H _ Up.refl R (.int _)⟩
    · cases e
  · cases e
theorem ok_div : OpOk K oDiv (rI CDiv fun i j => .int (i / j)) := by
  intro ρ H h a b c h' x y Q R ra rb e k
  unfold oDiv at e
  split at e
  · split at e
    · rename_i hj
      cases e; cases ra; cases rb
      exact ⟨_, _, rfl, rfl, hj, k ρ H _ Up.refl R (.int _)⟩
    · cases e
  · cases e
theorem op_mul_str : OpR X (binaryOp .Mult) (fun x y H Q => ∃ z n, x = .str z ∧ y = .int n ∧ (z.length ≤ 1000 ∧ 2 ≤ n ∧ n ≤ 1000) ∧ Q (.str (Txt.mul z n)) H) := by
  intro pins s σ H x y v u Q I rx ry h
  obtain ⟨z, n, rfl, rfl, ⟨h1, h2, h3⟩, q⟩ := h
  obtain ⟨t, rfl⟩ := rx
  obtain ⟨t', rfl⟩ := ry
  refine SB.mul ⟨?_, fun _ _ => ?_, fun _ _ => ?_⟩ fun t' k => ⟨.str (Txt.mul z n), H, I.tok _, ⟨_, rfl⟩, q⟩
  · have e1 : decide (n < -(2 ^ 63 : Int)) = false := decide_eq_false (by omega)
    have e2 : decide (n ≥ 2 ^ 63) = false := decide_eq_false (by omega)
    rw [e1, e2, Bool.or_false]
  · have hq : (1000 : Int) ≤ (2 ^ 63 - 1) / n := by
      refine Int.le_ediv_of_mul_le (by omega) ?_
      omega
    omega
  · exact notLong (Nat.le_trans (Nat.mul_le_mul h1 (show n.toNat ≤ 1000 by omega)) (by decide))
theorem ok_mul : OpOk K oMul (fun x y H Q => (rI CMul fun i j => .int (i * j)) x y H Q ∨ (fun x y H Q => ∃ z n, x = .str z ∧ y = .int n ∧ (z.length ≤ 1000 ∧ 2 ≤ n ∧ n ≤ 1000) ∧ Q (.str (Txt.mul z n)) H) x y H Q) := by
  intro ρ H h a b c h' x y Q R ra rb e k
  unfold oMul at e
  split at e
  · split at e
    · rename_i hj
      cases e; cases ra; cases rb
      exact .inl ⟨_, _, rfl, rfl, hj, k ρ H _ Up.refl R (.int _)⟩
    · cases e
  · split at e
    · rename_i hj
      cases e; cases ra; cases rb
      exact .inr ⟨_, _, rfl, rfl, hj, k ρ H _ Up.refl R (.str _)⟩
    · cases e
  · cases e
theorem ok_pow : OpOk K oPow (rI CPow fun i j => .int (i ^ j.toNat)) := by
  intro ρ H h a b c h' x y Q R ra rb e k
  unfold oPow at e
  split at e
  · split at e
    · rename_i hj
      cases e; cases ra; cases rb
      exact ⟨_, _, rfl, rfl, hj, k ρ H _ Up.refl R (.int _)⟩
    · cases e
  · cases e
theorem ok_neg : UnOk K uNeg (rU fun i => .int (-i)) := by
  intro ρ H h a c h' x Q R ra e k
  unfold uNeg at e
  split at e
  · cases e; cases ra
    exact ⟨_, rfl, k ρ H _ Up.refl R (.int _)⟩
  · cases e
end
section
variable {X : Cx} {a b c e : Expr} {pos : Pos} {ma mb mc : ME}
theorem je_add (ha : JE X a ma) (hb : JE X b mb) : JE X (.BinOp a .Add b pos) (eOp oAdd ma mb) := je_op op_add3 ok_add ha hb
theorem je_sub (ha : JE X a ma) (hb : JE X b mb) : JE X (.BinOp a .Sub b pos) (eOp oSub ma mb) := je_op op_sub ok_sub ha hb
theorem je_mod (ha : JE X a ma) (hb : JE X b mb) : JE X (.BinOp a .Mod b pos) (eOp oMod ma mb) := je_op op_mod ok_mod ha hb
theorem je_div (ha : JE X a ma) (hb : JE X b mb) : JE X (.BinOp a .FloorDiv b pos) (eOp oDiv ma mb) := je_op op_fdiv ok_div ha hb
theorem je_mul (ha : JE X a ma) (hb : JE X b mb) : JE X (.BinOp a .Mult b pos) (eOp oMul ma mb) := je_op (op_mul.or op_mul_str) ok_mul ha hb
theorem je_pow (ha : JE X a ma) (hb : JE X b mb) : JE X (.BinOp a .Pow b pos) (eOp oPow ma mb) := je_op op_pow ok_pow ha hb
theorem je_neg (ha : JE X a ma) : JE X (.UnaryOp .USub a pos) (eUn uNeg ma) := je_un un_neg ok_neg ha
end
def cOrd (f : Int → Int → Bool) (g : List Nat → List Nat → Bool) (a b : A) (h : AHp) : Rs A := match a, b with
  | .int i, .int j => some (.bl (f i j), h)
  | .str x, .str y => some (.bl (g x.cps.toList y.cps.toList), h)
  | _, _ => none
def cLt := cOrd (fun i j => decide (i < j)) (fun x y => decide (x < y))
def cLe := cOrd (fun i j => decide (i ≤ j)) (fun x y => !decide (y < x))
def cGt := cOrd (fun i j => decide (j < i)) (fun x y => decide (y < x))
def cGe := cOrd (fun i j => decide (j ≤ i)) (fun x y => !decide (x < y))
section
variable {X : Cx} {K : PySem.W.Frag} {a b c e : Expr} {pos : Pos} {ma mb mc : ME}
theorem ok_ord {f : Int → Int → Bool} {g : List Nat → List Nat → Bool} : OpOk K (cOrd f g) (fun x y H Q => (rI0 fun i j => .bl (f i j)) x y H Q ∨ (fun x y H Q => ∃ i j, x = .str i ∧ y = .str j ∧ Q (.bl (g i.cps.toList j.cps.toList)) H) x y H Q) := by
  intro ρ H h a b c h' x y Q R ra rb e k
  unfold cOrd at e
  split at e
  · cases e; cases ra; cases rb
    exact .inl ⟨_, _, rfl, rfl, k ρ H _ Up.refl R (.bl _)⟩
  · cases e; cases ra; cases rb
    exact .inr ⟨_, _, rfl, rfl, k ρ H _ Up.refl R (.bl _)⟩
  · cases e
theorem op_lt2 : OpR X (compareOp .Lt) (fun x y H Q => (rI0 fun i j => .bl (decide (i < j))) x y H Q ∨ (fun x y H Q => ∃ i j, x = .str i ∧ y = .str j ∧ Q (.bl (decide (i.cps.toList < j.cps.toList))) H) x y H Q) := op_lt.or op_lt_str
theorem op_le2 : OpR X (compareOp .LtE) (fun x y H Q => (rI0 fun i j => .bl (decide (i ≤ j))) x y H Q ∨ (fun x y H Q => ∃ i j, x = .str i ∧ y = .str j ∧ Q (.bl (!decide (j.cps.toList < i.cps.toList))) H) x y H Q) := op_le.or op_le_str
theorem op_gt2 : OpR X (compareOp .Gt) (fun x y H Q => (rI0 fun i j => .bl (decide (j < i))) x y H Q ∨ (fun x y H Q => ∃ i j, x = .str i ∧ y = .str j ∧ Q (.bl (decide (j.cps.toList < i.cps.toList))) H) x y H Q) := op_gt.or op_gt_str
theorem op_ge2 : OpR X (compareOp .GtE) (fun x y H Q => (rI0 fun i j => .bl (decide (j ≤ i))) x y H Q ∨ (fun x y H Q => ∃ i j, x = .str i ∧ y = .str j ∧ Q (.bl (!decide (i.cps.toList < j.cps.toList))) H) x y H Q) := op_ge.or op_ge_str
theorem ok_lt : OpOk K cLt (fun x y H Q => (rI0 fun i j => .bl (decide (i < j))) x y H Q ∨ (fun x y H Q => ∃ i j, x = .str i ∧ y = .str j ∧ Q (.bl (decide (i.cps.toList < j.cps.toList))) H) x y H Q) := ok_ord
theorem ok_le : OpOk K cLe (fun x y H Q => (rI0 fun i j => .bl (decide (i ≤ j))) x y H Q ∨ (fun x y H Q => ∃ i j, x = .str i ∧ y = .str j ∧ Q (.bl (!decide (j.cps.toList < i.cps.toList))) H) x y H Q) := ok_ord (g := fun x y => !decide (y < x))
theorem ok_gt : OpOk K cGt (fun x y H Q => (rI0 fun i j => .bl (decide (j < i))) x y H Q ∨ (fun x y H Q => ∃ i j, x = .str i ∧ y = .str j ∧ Q (.bl (decide (j.cps.toList < i.cps.toList))) H) x y H Q) := ok_ord (f := fun i j => decide (j < i)) (g := fun x y => decide (y < x))
theorem ok_ge : OpOk K cGe (fun x y H Q => (rI0 fun i j => .bl (decide (j ≤ i))) x y H Q ∨ (fun x y H Q => ∃ i j, x = .str i ∧ y = .str j ∧ Q (.bl (!decide (i.cps.toList < j.cps.toList))) H) x y H Q) := ok_ord (f := fun i j => decide (j ≤ i)) (g := fun x y => !decide (x < y))
end
def flatA : A → Bool
  | .non => true | .bl _ => true | .int _ => true | .str _ => true
  | _ => false
def eqF : A → A → Bool
  | .non, .non => true
  | .bl a, .bl b => a == b
  | .bl a, .int b => (if a then 1 else 0) == b
  | .int a, .bl b => a == (if b then 1 else 0)
  | .int a, .int b => a == b
  | .str a, .str b => a == b
  | _, _ => false
def datL (f : A → Option PyData) : List A → Option (List PyData)
  | [] => some []
  | x :: xs => (f x).bind fun d => (datL f xs).bind fun ds => some (d :: ds)
def dat (h : AHp) : Nat → A → Option PyData
  | _, .non => some .none
  | _, .bl b => some (.bool b)
  | _, .int i => some (.int i)
  | _, .str x => some (.str x)
  | n + 1, .tup xs => (datL (dat h n) xs).bind fun ds => some (.tuple ds)
  | n + 1, .ro xs => (datL (dat h n) xs).bind fun ds => some (.list ds)
  | n + 1, .loc k => match h[k]? with
    | some (.lst xs) => (datL (dat h n) xs).bind fun ds => some (.list ds)
    | _ => none
  | _, _ => none
def seqA : A → AHp → Option (Bool × List A)
  | .tup xs, _ => some (true, xs)
  | .ro xs, _ => some (false, xs)
  | .loc n, h => match h[n]? with | some (.lst xs) => some (false, xs) | _ => none
  | _, _ => none
def eqD (h : AHp) (a b : A) : Option Bool := (dat h 60 a).bind fun d => (dat h 60 b).bind fun e => if SeqAt.shaped d = true ∧ SeqAt.shaped e = true then some (PyData.eqv d e) else none
def eqA (h : AHp) (a b : A) : Option Bool :=
  if flatA a = true ∧ flatA b = true then some (eqF a b) else
  if flatA a = true then (seqA b h).bind fun _ => some false else
  if flatA b = true then (seqA a h).bind fun _ => some false else eqD h a b
section
variable {X : Cx} {K : PySem.W.Frag} {pins : List (Addr × Obj)} {ρ : List Addr} {H : Hp} {h : AHp} {s : Shared} {σ : L2.St}
theorem rep_flat {a : A} {x : V} (r : Rep K ρ H a x) (f : flatA a = true) : flatV x = true := by cases r <;> first | rfl | cases f
theorem rep_eqF {a b : A} {x y : V} (ra : Rep K ρ H a x) (rb : Rep K ρ H b y) (fa : flatA a = true) (fb : flatA b = true) : eqV x y = eqF a b := by
  cases ra <;> first | cases fa | skip
  all_goals (cases rb <;> first | rfl | cases fb)
theorem seq_some {a : A} {x : V} {p : Bool × List A} (R : RelH K ρ H h) (r : Rep K ρ H a x) (e : seqA a h = some p) : ∃ q vs, x = .ref q ∧ Reps K ρ H p.2 vs ∧ ((p.1 = true ∧ SqT K H q vs) ∨ (p.1 = false ∧ SqL K H q vs)) := by
  cases r with
  | tup hs rs => cases e; exact ⟨_, _, rfl, rs, .inl ⟨rfl, hs⟩⟩
  | ro hs rs => cases e; exact ⟨_, _, rfl, rs, .inr ⟨rfl, hs.sq⟩⟩
  | @loc n q hn =>
    change (match h[n]? with | some (.lst xs) => some (false, xs) | _ => none) = some p at e
    split at e
    · rename_i xs hx
      cases e
      obtain ⟨vs, h1, h2⟩ := R.obj _ _ _ hn hx
      exact ⟨_, vs, rfl, h2, .inr ⟨rfl, SqL.of h1⟩⟩
    · cases e
  | _ => cases e
mutual
theorem dat_ok (R : RelH K ρ H h) : ∀ (n : Nat) (a : A) (x : V) (d : PyData), Rep K ρ H a x → dat h n a = some d → Dp K H x d
  | _, .non, _, _, r, e => by cases r; unfold dat at e; cases e; exact .non
  | _, .bl _, _, _, r, e => by cases r; unfold dat at e; cases e; exact .bl _
  | _, .int _, _, _, r, e => by cases r; unfold dat at e; cases e; exact .int _
  | _, .str _, _, _, r, e => by cases r; unfold dat at e; cases e; exact .str _
  | 0, .tup _, _, _, r, e => by cases e
  | 0, .loc _, _, _, r, e => by cases e
  | 0, .ro _, _, _, r, e => by cases e
  | 0, .ty _, _, _, r, e => by cases e
  | 0, .raw _, _, _, r, e => by cases e
  | _ + 1, .ty _, _, _, r, e => by cases e
  | _ + 1, .raw _, _, _, r, e => by cases e
  | n + 1, .tup xs, _, _, r, e => by
    cases r with
    | tup hs rs =>
      change (datL (dat h n) xs).bind _ = _ at e
      obtain ⟨ds, e1, e⟩ := bindS e
      cases e
      exact .tup hs (datL_ok R n xs _ ds rs e1)
  | n + 1, .ro xs, _, _, r, e => by
    cases r with
    | ro hs rs =>
      change (datL (dat h n) xs).bind _ = _ at e
      obtain ⟨ds, e1, e⟩ := bindS e
      cases e
      exact .lst hs.sq (datL_ok R n xs _ ds rs e1)
  | n + 1, .loc k, _, _, r, e => by
    cases r with
    | loc hn =>
      change (match h[k]? with
        | some (.lst xs) => (datL (dat h n) xs).bind fun ds => some (PyData.list ds)
        | _ => none) = _ at e
      split at e
      · rename_i xs hx
        obtain ⟨ds, e1, e⟩ := bindS e
        cases e
        obtain ⟨vs, h1, h2⟩ := R.obj _ _ _ hn hx
        exact .lst (SqL.of h1) (datL_ok R n xs _ ds h2 e1)
      · cases e
  termination_by n a => (n, 0)
theorem datL_ok (R : RelH K ρ H h) : ∀ (n : Nat) (xs : List A) (vs : List V) (ds : List PyData), Reps K ρ H xs vs → datL (dat h n) xs = some ds → DpAll K H vs ds
  | n, [], _, _, r, e => by cases r; cases e; exact .nil
  | n, x :: xs, _, _, r, e => by
    cases r with
    | cons r1 r2 =>
      change (dat h n x).bind _ = _ at e
      obtain ⟨d, e1, e⟩ := bindS e
      obtain ⟨ds, e2, e⟩ := bindS e
      cases e
      exact .cons (dat_ok R n x _ d r1 e1) (datL_ok R n xs _ ds r2 e2)
  termination_by n xs => (n, xs.length + 1)
end
theorem rcAt_V {Ar : Around} {y x : V} {u v : Value} (ry : RelV y u) (rx : RelV x v) (fy : flatV y = true) (fx : flatV x = true) : SeqAt.RcAt Ar s u v (eqV y x) ∧ SeqAt.RcNeAt Ar s u v (!eqV y x) := by
  cases y with
  | non =>
    cases ry
    cases x with
    | non => cases rx; exact ⟨SeqAt.RcAt.none_none, SeqAt.RcNeAt.none_none⟩
    | bl b => cases rx; exact ⟨SeqAt.RcAt.none_bool b, SeqAt.RcNeAt.none_bool b⟩
    | int b => obtain ⟨u, rfl⟩ := rx; exact ⟨SeqAt.RcAt.none_int b u, SeqAt.RcNeAt.none_int b u⟩
    | str b => obtain ⟨u, rfl⟩ := rx; exact ⟨SeqAt.RcAt.none_str b u, SeqAt.RcNeAt.none_str b u⟩
    | _ => exact absurd (show false = true from fx) Bool.false_ne_true
  | bl a =>
    cases ry
    cases x with
    | non => cases rx; exact ⟨SeqAt.RcAt.bool_none a, SeqAt.RcNeAt.bool_none a⟩
    | bl b => cases rx; exact ⟨SeqAt.RcAt.bool_bool a b, SeqAt.RcNeAt.bool_bool a b⟩
    | int b => obtain ⟨u, rfl⟩ := rx; exact ⟨SeqAt.RcAt.bool_int a b u, SeqAt.RcNeAt.bool_int a b u⟩
    | str b => obtain ⟨u, rfl⟩ := rx; exact ⟨SeqAt.RcAt.bool_str a b u, SeqAt.RcNeAt.bool_str a b u⟩
    | _ => exact absurd (show false = true from fx) Bool.false_ne_true
  | int a =>
    obtain ⟨t, rfl⟩ := ry
    cases x with
    | non => cases rx; exact ⟨SeqAt.RcAt.int_none a t, SeqAt.RcNeAt.int_none a t⟩
    | bl b => cases rx; exact ⟨SeqAt.RcAt.int_bool a t b, SeqAt.RcNeAt.int_bool a t b⟩
    | int b => obtain ⟨u, rfl⟩ := rx; exact ⟨SeqAt.RcAt.int_int a t b u, SeqAt.RcNeAt.int_int a t b u⟩
    | str b => obtain ⟨u, rfl⟩ := rx; exact ⟨SeqAt.RcAt.int_str a t b u, SeqAt.RcNeAt.int_str a t b u⟩
    | _ => exact absurd (show false = true from fx) Bool.false_ne_true
  | str a =>
    obtain ⟨t, rfl⟩ := ry
    cases x with
    | non => cases rx; exact ⟨SeqAt.RcAt.str_none a t, SeqAt.RcNeAt.str_none a t⟩
    | bl b => cases rx; exact ⟨SeqAt.RcAt.str_bool a t b, SeqAt.RcNeAt.str_bool a t b⟩
    | int b => obtain ⟨u, rfl⟩ := rx; exact ⟨SeqAt.RcAt.str_int a t b u, SeqAt.RcNeAt.str_int a t b u⟩
    | str b => obtain ⟨u, rfl⟩ := rx; exact ⟨SeqAt.RcAt.str_str a t b u, SeqAt.RcNeAt.str_str a t b u⟩
    | _ => exact absurd (show false = true from fx) Bool.false_ne_true
  | _ => exact absurd (show false = true from fy) Bool.false_ne_true
theorem fs_tuple {Ar : Around} {x : V} {u : Value} {l : Addr} {items : Array Value} (rx : RelV x u) (fx : flatV x = true) (hl : s.heap.IsTuple l items) (hu : Ar.units < cLine) : (SeqAt.RcAt Ar s u (.ref l) false ∧ SeqAt.EqAt Ar s u (.ref l) false ∧ SeqAt.RcNeAt Ar s u (.ref l) true) ∧ (SeqAt.RcAt Ar s (.ref l) u false ∧ SeqAt.EqAt Ar s (.ref l) u false ∧ SeqAt.RcNeAt Ar s (.ref l) u true) := by
  cases x with
  | non => cases rx; exact ⟨⟨SeqAt.RcAt.none_tuple hl hu, SeqAt.EqAt.none_tuple hl hu, SeqAt.RcNeAt.none_tuple hl hu⟩, ⟨SeqAt.RcAt.tuple_none hl hu, SeqAt.EqAt.tuple_none hl hu, SeqAt.RcNeAt.tuple_none hl hu⟩⟩
  | bl b => cases rx; exact ⟨⟨SeqAt.RcAt.bool_tuple b hl hu, SeqAt.EqAt.bool_tuple b hl hu, SeqAt.RcNeAt.bool_tuple b hl hu⟩, ⟨SeqAt.RcAt.tuple_bool b hl hu, SeqAt.EqAt.tuple_bool b hl hu, SeqAt.RcNeAt.tuple_bool b hl hu⟩⟩
  | int b => obtain ⟨t, rfl⟩ := rx; exact ⟨⟨SeqAt.RcAt.int_tuple b t hl hu, SeqAt.EqAt.int_tuple b t hl hu, SeqAt.RcNeAt.int_tuple b t hl hu⟩, ⟨SeqAt.RcAt.tuple_int b t hl hu, SeqAt.EqAt.tuple_int b t hl hu, SeqAt.RcNeAt.tuple_int b t hl hu⟩⟩
  | str b => obtain ⟨t, rfl⟩ := rx; exact ⟨⟨SeqAt.RcAt.str_tuple b t hl hu, SeqAt.EqAt.str_tuple b t hl hu, SeqAt.RcNeAt.str_tuple b t hl hu⟩, ⟨SeqAt.RcAt.tuple_str b t hl hu, SeqAt.EqAt.tuple_str b t hl hu, SeqAt.RcNeAt.tuple_str b t hl hu⟩⟩
  | _ => exact absurd (show false = true from fx) Bool.false_ne_true
theorem fs_list {Ar : Around} {x : V} {u : Value} {l : Addr} {items : Array Value} (rx : RelV x u) (fx : flatV x = true) (hl : s.heap.IsList l items) (hu : Ar.units < cLine) : (SeqAt.RcAt Ar s u (.ref l) false ∧ SeqAt.EqAt Ar s u (.ref l) false ∧ SeqAt.RcNeAt Ar s u (.ref l) true) ∧ (SeqAt.RcAt Ar s (.ref l) u false ∧ SeqAt.EqAt Ar s (.ref l) u false ∧ SeqAt.RcNeAt Ar s (.ref l) u true) := by
  cases x with
  | non => cases rx; exact ⟨⟨SeqAt.RcAt.none_list hl hu, SeqAt.EqAt.none_list hl hu, SeqAt.RcNeAt.none_list hl hu⟩, ⟨SeqAt.RcAt.list_none hl hu, SeqAt.EqAt.list_none hl hu, SeqAt.RcNeAt.list_none hl hu⟩⟩
  | bl b => cases rx; exact ⟨⟨SeqAt.RcAt.bool_list b hl hu, SeqAt.EqAt.bool_list b hl hu, SeqAt.RcNeAt.bool_list b hl hu⟩, ⟨SeqAt.RcAt.list_bool b hl hu, SeqAt.EqAt.list_bool b hl hu, SeqAt.RcNeAt.list_bool b hl hu⟩⟩
  | int b => obtain ⟨t, rfl⟩ := rx; exact ⟨⟨SeqAt.RcAt.int_list b t hl hu, SeqAt.EqAt.int_list b t hl hu, SeqAt.RcNeAt.int_list b t hl hu⟩, ⟨SeqAt.RcAt.list_int b t hl hu, SeqAt.EqAt.list_int b t hl hu, SeqAt.RcNeAt.list_int b t hl hu⟩⟩
  | str b => obtain ⟨t, rfl⟩ := rx; exact ⟨⟨SeqAt.RcAt.str_list b t hl hu, SeqAt.EqAt.str_list b t hl hu, SeqAt.RcNeAt.str_list b t hl hu⟩, ⟨SeqAt.RcAt.list_str b t hl hu, SeqAt.EqAt.list_str b t hl hu, SeqAt.RcNeAt.list_str b t hl hu⟩⟩
  | _ => exact absurd (show false = true from fx) Bool.false_ne_true
theorem eqA_rc (I : Inv X pins σ H s) (R : RelH X.K ρ H h) {a b : A} {x y : V} {u v : Value} {k : Bool} {Ar : Around} (hu : Ar.units + 64 < cLine) (ra : Rep X.K ρ H a x) (rb : Rep X.K ρ H b y) (rx : RelV x u) (ry : RelV y v) (e : eqA h a b = some k) :
    SeqAt.RcAt Ar s u v k ∧ SeqAt.EqAt Ar s u v k ∧ SeqAt.RcNeAt Ar s u v (!k) := by
  have hu0 : Ar.units < cLine := by omega
  unfold eqA at e
  split at e
  · rename_i hf
    cases e
    rw [← rep_eqF ra rb hf.1 hf.2]
    have z := rcAt_V (s := s) (Ar := Ar) rx ry (rep_flat ra hf.1) (rep_flat rb hf.2)
    exact ⟨z.1, eqAt_V rx ry (rep_flat ra hf.1) (rep_flat rb hf.2), z.2⟩
  · split at e
    · rename_i fa
      obtain ⟨p, e1, e⟩ := bindS e
      cases e
      obtain ⟨q, vs, rfl, rs, hs⟩ := seq_some R rb e1
      cases ry
      rcases hs with ⟨_, hs⟩ | ⟨_, hs⟩
      · obtain ⟨its, _, tp, _⟩ := I.tuple hs
        exact (fs_tuple rx (rep_flat ra fa) tp hu0).1
      · obtain ⟨its, _, tp, _⟩ := I.list hs
        exact (fs_list rx (rep_flat ra fa) tp.isList hu0).1
    · split at e
      · rename_i fa
        obtain ⟨p, e1, e⟩ := bindS e
        cases e
        obtain ⟨q, vs, rfl, rs, hs⟩ := seq_some R ra e1
        cases rx
        rcases hs with ⟨_, hs⟩ | ⟨_, hs⟩
        · obtain ⟨its, _, tp, _⟩ := I.tuple hs
          exact (fs_tuple ry (rep_flat rb fa) tp hu0).2
        · obtain ⟨its, _, tp, _⟩ := I.list hs
          exact (fs_list ry (rep_flat rb fa) tp.isList hu0).2
      · obtain ⟨d, e1, e⟩ := bindS e
        obtain ⟨d', e2, e⟩ := bindS e
        split at e
        · rename_i sh
          cases e
          obtain ⟨as, r1⟩ := Dp.reads I d x u (dat_ok R _ a x d ra e1) rx
          obtain ⟨bs, r2⟩ := Dp.reads I d' y v (dat_ok R _ b y d' rb e2) ry
          have rm := SeqAt.room_of_shaped (db := d') sh.1 hu
          exact ⟨fun prog w E Q q => SeqAt.compareEq_shaped r1 r2 sh.1 sh.2 hu q, SeqAt.eqAt_reads d d' Ar s u v as bs r1 r2 (SeqAt.canLay_of_shaped sh.1) (SeqAt.canLay_of_shaped sh.2) rm, fun prog w E Q q => SeqAt.compareNe_shaped r1 r2 sh.1 sh.2 hu q⟩
        · cases e
end
end Ab
set_option Elab.async false
set_option linter.all false
set_option maxRecDepth 100000
namespace Ab
open PySem PySem.Spec PyProof.Rows L2
set_option autoImplicit false
set_option relaxedAutoImplicit false
def rA (K : PySem.W.Frag) (f : A → A → AHp → Rs A) : R2 := fun x y H Q => ∃ ρ h a b c h', RelH K ρ H h ∧ Rep K ρ H a x ∧ Rep K ρ H b y ∧ f a b h = some (c, h') ∧ ∀ ρ' H' v, Up K ρ H ρ' H' → RelH K ρ' H' h' → Rep K ρ' H' c v → Q v H'
theorem ok_rA {K : PySem.W.Frag} {f : A → A → AHp → Rs A} : OpOk K f (rA K f) := fun ρ H h a b c h' x y Q R ra rb e k => ⟨ρ, h, a, b, c, h', R, ra, rb, e, k⟩
def cEq (a b : A) (h : AHp) : Rs A := (eqA h a b).bind fun k => some (.bl k, h)
def cNe (a b : A) (h : AHp) : Rs A := (eqA h a b).bind fun k => some (.bl (!k), h)
def anyA (h : AHp) (x : A) : List A → Option Bool
  | [] => some false
  | y :: ys => (eqA h y x).bind fun k => (anyA h x ys).bind fun l => some (k || l)
def cIn (a b : A) (h : AHp) : Rs A := match a, b with
  | .str x, .str y => if x.cps.size = 1 then some (.bl (y.cps.toList.contains (x.cps.getD 0 0)), h) else none
  | _, _ => (seqA b h).bind fun p => (anyA h a p.2).bind fun k => some (.bl k, h)
def cNi (a b : A) (h : AHp) : Rs A := match a, b with
  | .str x, .str y => if x.cps.size = 1 then some (.bl (!y.cps.toList.contains (x.cps.getD 0 0)), h) else none
  | _, _ => (seqA b h).bind fun p => (anyA h a p.2).bind fun k => some (.bl (!k), h)
section
variable {X : Cx} {K : PySem.W.Frag} {a b c e : Expr} {es : List Expr} {pos : Pos} {ma mb mc : ME}
theorem op_eqA (hu : X.A.units + 64 < cLine) : OpR X (compareOp .Eq) (rA X.K cEq) := by
  intro pins s σ H x y v u Q I rx ry h
  obtain ⟨ρ, h, a, b, c, h', R, ra, rb, e, k⟩ := h
  obtain ⟨z, e1, e⟩ := bindS e
  cases e
  exact (eqA_rc I R hu ra rb rx ry e1).1 _ _ _ _ ⟨.bl z, H, I, rfl, k ρ H _ Up.refl R (.bl z)⟩
theorem op_neA (hu : X.A.units + 64 < cLine) : OpR X (compareOp .NotEq) (rA X.K cNe) := by
  intro pins s σ H x y v u Q I rx ry h
  obtain ⟨ρ, h, a, b, c, h', R, ra, rb, e, k⟩ := h
  obtain ⟨z, e1, e⟩ := bindS e
  cases e
  exact (eqA_rc I R hu ra rb rx ry e1).2.2 _ _ _ _ ⟨.bl (!z), H, I, rfl, k ρ H _ Up.refl R (.bl _)⟩
variable {pins : List (Addr × Obj)} {ρ : List Addr} {H : Hp} {h : AHp} {s : Shared} {σ : L2.St} {Ar : Around}
theorem rep_flat_eq {a a' : A} {v : V} (r : Rep K ρ H a v) (r' : Rep K ρ H a' v) (f : flatA a = true) : a' = a := by
  cases r <;> first | cases f | skip
  all_goals (cases r'; rfl)
theorem eqA_det (I : Inv X pins σ H s) (R : RelH X.K ρ H h) {a a' x : A} {v : V} {u : Value} {k k' : Bool} (r : Rep X.K ρ H a v) (r' : Rep X.K ρ H a' v) (ru : RelV v u) (e : eqA h a x = some k) (e' : eqA h a' x = some k') : k = k' := by
  by_cases fa : flatA a = true
  · have := rep_flat_eq r r' fa
    subst this
    rw [e] at e'; cases e'; rfl
  by_cases fa' : flatA a' = true
  · have := rep_flat_eq r' r fa'
    subst this
    rw [e] at e'; cases e'; rfl
  unfold eqA at e e'
  rw [if_neg (fun z => fa z.1), if_neg fa] at e
  rw [if_neg (fun z => fa' z.1), if_neg fa'] at e'
  split at e
  · rename_i fx
    rw [if_pos fx] at e'
    obtain ⟨_, _, e⟩ := bindS e
    obtain ⟨_, _, e'⟩ := bindS e'
    cases e; cases e'; rfl
  · rename_i fx
    rw [if_neg fx] at e'
    obtain ⟨d, e1, e⟩ := bindS e
    obtain ⟨d2, e2, e⟩ := bindS e
    obtain ⟨d', e1', e'⟩ := bindS e'
    obtain ⟨d2', e2', e'⟩ := bindS e'
    rw [e2] at e2'; cases e2'
    obtain ⟨as, r1⟩ := Dp.reads I d v u (dat_ok R _ a v d r e1) ru
    obtain ⟨as', r1'⟩ := Dp.reads I d' v u (dat_ok R _ a' v d' r' e1') ru
    have := (Reads.unique r1 d' as' r1').1
    subst this
    rw [e] at e'; cases e'; rfl
open Classical in
noncomputable def fOf (K : PySem.W.Frag) (ρ : List Addr) (H : Hp) (h : AHp) (x : A) (y : Value) : Bool := decide (∃ (a : A) (w : V), Rep K ρ H a w ∧ RelV w y ∧ eqA h a x = some true)
theorem fOf_eq (I : Inv X pins σ H s) (R : RelH X.K ρ H h) {a x : A} {v : V} {u : Value} {k : Bool} (r : Rep X.K ρ H a v) (ru : RelV v u) (e : eqA h a x = some k) : fOf X.K ρ H h x u = k := by
  classical
  unfold fOf
  cases k with
  | true => exact decide_eq_true ⟨a, v, r, ru, e⟩
  | false =>
    refine decide_eq_false ?_
    intro z
    obtain ⟨a', w, r', rw', e'⟩ := z
    have := ru.inj rw'
    subst this
    exact absurd (eqA_det I R r r' ru e e') Bool.false_ne_true
theorem any_eqAt (I : Inv X pins σ H s) (R : RelH X.K ρ H h) (hu : Ar.units + 64 < cLine) {a : A} {x : V} {u : Value} (ra : Rep X.K ρ H a x) (rx : RelV x u) :
    ∀ {ys : List A} {vs : List V} {its : List Value} {k : Bool}, Reps X.K ρ H ys vs → Vals vs its → anyA h a ys = some k → (∀ y ∈ its, SeqAt.EqAt Ar s y u (fOf X.K ρ H h a y)) ∧ its.any (fOf X.K ρ H h a) = k
  | _, _, _, _, .nil, .nil, e => by cases e; exact ⟨fun y hy => absurd hy (by simp), rfl⟩
  | y :: ys, _, i :: its, k, .cons r rs, .cons v vs, e => by
    change (eqA h y a).bind _ = _ at e
    obtain ⟨k1, e1, e⟩ := bindS e
    obtain ⟨k2, e2, e⟩ := bindS e
    cases e
    obtain ⟨h1, h2⟩ := any_eqAt I R hu ra rx rs vs e2
    have f1 := fOf_eq I R r v e1
    refine ⟨fun z hz => ?_, by rw [List.any_cons, h2, f1]⟩
    rcases List.mem_cons.mp hz with rfl | hz
    · rw [f1]; exact (eqA_rc I R hu r ra v rx e1).2.1
    · exact h1 z hz
theorem op_inA (hu : X.A.units + 65 < cLine) : OpR X (compareOp .In) (rA X.K cIn) := by
  intro pins s σ H x y v u Q I rx ry h
  obtain ⟨ρ, h, a, b, c, h', R, ra, rb, e, k⟩ := h
  unfold cIn at e
  split at e
  · split at e
    · rename_i hx
      cases e; cases ra; cases rb
      rename_i x y
      obtain ⟨t, rfl⟩ := rx
      obtain ⟨t', rfl⟩ := ry
      have ex : x = ⟨#[x.cps.getD 0 0]⟩ := by
        obtain ⟨cs⟩ := x
        congr 1
        apply Array.ext
        · exact hx
        · intro i h1 h2
          have : i = 0 := by simpa using h2
          subst this
          simp [Array.getD, h1]
      have q := k ρ H (.bl _) Up.refl R (.bl _)
      generalize x.cps.getD 0 0 = cc at ex q
      subst ex
      refine PyProof.Rows.in_str (fin_bl I q ?_)
      rw [PySem.StrLaws.found_one]; simp
    · cases e
  · obtain ⟨p, e1, e⟩ := bindS e
    obtain ⟨kk, e2, e⟩ := bindS e
    cases e
    obtain ⟨q, vs, rfl, rs, hs⟩ := seq_some R rb e1
    cases ry
    rcases hs with ⟨_, hs⟩ | ⟨_, hs⟩
    · obtain ⟨its, rv, tp, _⟩ := I.tuple hs
      obtain ⟨h1, h2⟩ := any_eqAt (Ar := X.A.in1) I R (by show X.A.units + 1 + 64 < cLine; omega) ra rx rs rv e2
      refine SeqAt.in_tupleAt _ tp (fun w hw => h1 w (by simpa using hw)) ⟨.bl _, H, I, rfl, ?_⟩
      rw [List.any_toArray, h2]
      exact k ρ H _ Up.refl R (.bl _)
    · obtain ⟨its, rv, tp, _⟩ := I.list hs
      obtain ⟨h1, h2⟩ := any_eqAt (Ar := X.A.in1) I R (by show X.A.units + 1 + 64 < cLine; omega) ra rx rs rv e2
      refine SeqAt.in_listAt _ tp.isList (fun w hw => h1 w (by simpa using hw)) ⟨.bl _, H, I, rfl, ?_⟩
      rw [List.any_toArray, h2]
      exact k ρ H _ Up.refl R (.bl _)
theorem op_niA (hu : X.A.units + 65 < cLine) : OpR X (compareOp .NotIn) (rA X.K cNi) := by
  intro pins s σ H x y v u Q I rx ry h
  obtain ⟨ρ, h, a, b, c, h', R, ra, rb, e, k⟩ := h
  unfold cNi at e
  split at e
  · split at e
    · rename_i hx
      cases e; cases ra; cases rb
      rename_i x y
      obtain ⟨t, rfl⟩ := rx
      obtain ⟨t', rfl⟩ := ry
      have ex : x = ⟨#[x.cps.getD 0 0]⟩ := by
        obtain ⟨cs⟩ := x
        congr 1
        apply Array.ext
        · exact hx
        · intro i h1 h2
          have : i = 0 := by simpa using h2
          subst this
          simp [Array.getD, h1]
      have q := k ρ H (.bl _) Up.refl R (.bl _)
      generalize x.cps.getD 0 0 = cc at ex q
      subst ex
      refine PyProof.Rows.notIn_str (fin_bl I q ?_)
      rw [PySem.StrLaws.found_one]; simp
    · cases e
  · obtain ⟨p, e1, e⟩ := bindS e
    obtain ⟨kk, e2, e⟩ := bindS e
    cases e
    obtain ⟨q, vs, rfl, rs, hs⟩ := seq_some R rb e1
    cases ry
    rcases hs with ⟨_, hs⟩ | ⟨_, hs⟩
    · obtain ⟨its, rv, tp, _⟩ := I.tuple hs
      obtain ⟨h1, h2⟩ := any_eqAt (Ar := X.A.in1) I R (by show X.A.units + 1 + 64 < cLine; omega) ra rx rs rv e2
      refine SeqAt.notIn_tupleAt _ tp (fun w hw => h1 w (by simpa using hw)) ⟨.bl _, H, I, rfl, ?_⟩
      rw [List.any_toArray, h2]
      exact k ρ H _ Up.refl R (.bl _)
    · obtain ⟨its, rv, tp, _⟩ := I.list hs
      obtain ⟨h1, h2⟩ := any_eqAt (Ar := X.A.in1) I R (by show X.A.units + 1 + 64 < cLine; omega) ra rx rs rv e2
      refine SeqAt.notIn_listAt _ tp.isList (fun w hw => h1 w (by simpa using hw)) ⟨.bl _, H, I, rfl, ?_⟩
      rw [List.any_toArray, h2]
      exact k ρ H _ Up.refl R (.bl _)
def xIx (a b : A) (h : AHp) : Rs A := match a, b with
  | .str x, .int i => if x.length ≤ 100000 then (atI x.cps.toList i).bind fun c => some (.str ⟨#[c]⟩, h) else none
  | _, .int i => (seqA a h).bind fun p => (atI p.2 i).bind fun v => some (v, h)
  | _, _ => none
theorem atI_reps {xs : List A} {vs : List V} {i : Int} {c : A} (r : Reps K ρ H xs vs) (e : atI xs i = some c) : ∃ v, atI vs i = some v ∧ Rep K ρ H c v := by
  unfold atI at e ⊢
  obtain ⟨j, e1, e⟩ := bindS e
  obtain ⟨v, h1, h2⟩ := r.get e
  rw [← r.length, e1]
  exact ⟨v, h1, h2⟩
theorem ok_ix : OpOk K xIx (rIx K) := by
  intro ρ H h a b c h' x y Q R ra rb e k
  unfold xIx at e
  split at e
  · split at e
    · rename_i hl
      obtain ⟨cc, e1, e⟩ := bindS e
      cases e; cases ra; cases rb
      exact .inr (.inr ⟨_, _, cc, rfl, rfl, lim_le hl, e1, k ρ H _ Up.refl R (.str _)⟩)
    · cases e
  · obtain ⟨p, e1, e⟩ := bindS e
    obtain ⟨v, e2, e⟩ := bindS e
    cases e
    cases rb
    obtain ⟨q, vs, rfl, rs, hs⟩ := seq_some R ra e1
    obtain ⟨v, h1, h2⟩ := atI_reps rs e2
    rcases hs with ⟨_, hs⟩ | ⟨_, hs⟩
    · exact .inr (.inl ⟨q, vs, _, v, rfl, rfl, hs, h1, k ρ H _ Up.refl R h2⟩)
    · exact .inl ⟨q, vs, _, v, rfl, rfl, hs, h1, k ρ H _ Up.refl R h2⟩
  · cases e
def xSet (o i v : A) (h : AHp) : Option AHp := match o, i with
  | .loc n, .int k => match h[n]? with
    | some (.lst xs) => (ixN xs.length k).bind fun j => some (h.set n (.lst (xs.set j v)))
    | _ => none
  | _, _ => none
theorem ok_set : SetOk K xSet rSetL := by
  intro ρ H h a b c h' x y z Q R ra rb rc e k
  unfold xSet at e
  split at e
  · split at e
    · rename_i n i xs hx
      obtain ⟨j, e1, e⟩ := bindS e
      cases e
      obtain ⟨p, rfl, h1, vs, h2, r1⟩ := R.locAt hx ra
      cases rb
      obtain ⟨u, R'⟩ := R.store h1 hx (r1.set rc j)
      exact ⟨p, vs, _, j, rfl, rfl, h2, by rw [← r1.length]; exact e1, k ρ _ u R'⟩
    · cases e
  · cases e
theorem je_index (ha : JE X a ma) (hb : JE X b mb) (hs : PlainIx b := by exact fun _ _ => rfl) : JE X (.Subscript a b pos) (eOp xIx ma mb) := je_ix ix_seq ok_ix ha hb hs
def cutA {α : Type} (xs : List α) (lo hi : Option Int) : List α := (xs.drop (HT.sIx xs.length 0 lo)).take (HT.sIx xs.length xs.length hi - HT.sIx xs.length 0 lo)
def xSl (a : A) (lo hi : Option Int) (h : AHp) : Rs A := match a with
  | .str x => if x.length ≤ 100000 then some (.str (cutS x lo hi), h) else none
  | .loc n => match h[n]? with
    | some (.lst xs) => some (.loc h.length, h ++ [.lst (cutA xs lo hi)])
    | _ => none
  | .ro xs => some (.loc h.length, h ++ [.lst (cutA xs lo hi)])
  | .tup xs => if HT.sIx xs.length 0 lo = 0 ∧ HT.sIx xs.length xs.length hi = xs.length then none else some (.tup (cutA xs lo hi), h)
  | _ => none
theorem cut_reps {xs : List A} {vs : List V} {lo hi : Option Int} (r : Reps K ρ H xs vs) : Reps K ρ H (cutA xs lo hi) (cutV vs lo hi) := by
  unfold cutA cutV
  rw [r.length]
  exact (r.drop _).take _
def mNoPart : ASt → AHp → Rs (Option Int) := fun _ h => some (none, h)
def mPart (ma : ME) : ASt → AHp → Rs (Option Int) := fun τ h => (ma τ h).bind fun p => match p.1 with | .int i => some (some i, p.2) | _ => none
def tO (K : PySem.W.Frag) (m : ASt → AHp → Rs (Option Int)) : TO := fun σ H Q => ∃ ρ τ h a h', RelH K ρ H h ∧ RelS K ρ H σ τ ∧ m τ h = some (a, h') ∧ ∀ ρ' H', Up K ρ H ρ' H' → RelH K ρ' H' h' → Q a H'
structure JO (X : Cx) (e : Option Expr) (m : ASt → AHp → Rs (Option Int)) : Prop where
  pf : PO X e (tO X.K m)
theorem jo_none : JO X none mNoPart := ⟨fun pins s σ H Q I q => po_none pins s σ H Q I (by
  obtain ⟨ρ, τ, h, a, h', R, S, e, k⟩ := q
  cases e
  exact k ρ H Up.refl R)⟩
theorem jo_some (ha : JE X a ma) : JO X (some a) (mPart ma) := ⟨fun pins s σ H Q I q => po_some ha.pf pins s σ H Q I (by
  obtain ⟨ρ, τ, h, b, h', R, S, e, k⟩ := q
  obtain ⟨⟨x, h1⟩, e1, e⟩ := bindS e
  dsimp only at e
  split at e
  · cases e
    refine ⟨ρ, τ, h, _, _, R, S, e1, fun ρ1 H1 v1 u1 R1 r1 => ?_⟩
    cases r1
    exact ⟨_, rfl, k ρ1 H1 u1 R1⟩
  · cases e)⟩
def eSl (ma : ME) (ml mh : ASt → AHp → Rs (Option Int)) : ME := fun τ h => (ma τ h).bind fun p => (ml τ p.2).bind fun l => (mh τ l.2).bind fun u => xSl p.1 l.1 u.1 u.2
theorem je_slice {lo hi : Option Expr} {ml mh : ASt → AHp → Rs (Option Int)} {p2 : Pos} (ha : JE X a ma) (hl : JO X lo ml) (hu : JO X hi mh) : JE X (.Subscript a (.Slice lo hi none p2) pos) (eSl ma ml mh) := ⟨PE_imp (pe_slice (sl_list.or (sl_str.or sl_tup)) ha.pf hl.pf hu.pf) fun σ H Q q => by
  obtain ⟨ρ, τ, h, d, h', R, S, e, k⟩ := q
  obtain ⟨⟨x, h1⟩, e1, e⟩ := bindS e
  obtain ⟨⟨l, h2⟩, e2, e⟩ := bindS e
  obtain ⟨⟨u, h3⟩, e3, e⟩ := bindS e
  refine ⟨ρ, τ, h, x, h1, R, S, e1, fun ρ1 H1 v1 u1 R1 r1 => ⟨ρ1, τ, h1, l, h2, R1, S.up u1, e2, fun ρ2 H2 u2 R2 => ⟨ρ2, τ, h2, u, h3, R2, S.up (u1.trans u2), e3, fun ρ3 H3 u3 R3 => ?_⟩⟩⟩
  have r3 := r1.up (u2.trans u3)
  have uu := (u1.trans u2).trans u3
  unfold xSl at e
  dsimp only at e
  split at e
  · split at e
    · rename_i hx
      cases e; cases r3
      exact .inr (.inl ⟨_, rfl, lim_le hx, k ρ3 H3 _ uu R3 (.str _)⟩)
    · cases e
  · split at e
    · rename_i xs hx
      cases e
      obtain ⟨p, rfl, h1, vs, h2, rr⟩ := R3.locAt hx r3
      refine .inl ⟨p, vs, rfl, SqL.of h2, fun z hz => ?_⟩
      obtain ⟨u4, R4, r4⟩ := R3.alloc hz (cut_reps rr)
      exact k _ _ _ (uu.trans u4) R4 r4
    · cases e
  · cases e
    cases r3 with
    | ro hs rr =>
      refine .inl ⟨_, _, rfl, hs.sq, fun z hz => ?_⟩
      obtain ⟨u4, R4, r4⟩ := R3.alloc hz (cut_reps rr)
      exact k _ _ _ (uu.trans u4) R4 r4
  · split at e
    · cases e
    · rename_i hn
      cases e
      cases r3 with
      | tup hs rs =>
        refine .inr (.inr ⟨_, _, rfl, hs, by rw [← rs.length]; exact hn, fun z hz => ?_⟩)
        obtain ⟨u4, R4, r4⟩ := R3.tuple hz (cut_reps rs)
        exact k _ _ _ (uu.trans u4) R4 r4
  · cases e⟩
end
end Ab
set_option Elab.async false
set_option linter.all false
set_option maxRecDepth 100000
namespace Ab
open PySem PySem.Spec PyProof.Rows L2
set_option autoImplicit false
open PySem.AutoSeq1 in
section
variable {X : Cx} {K : PySem.W.Frag}
def rC (K : PySem.W.Frag) (F : MF) : List V → Hp → VK → Prop := fun vs H Q => ∃ ρ h as c h', RelH K ρ H h ∧ Reps K ρ H as vs ∧ F as h = some (c, h') ∧ ∀ ρ' H' v, Up K ρ H ρ' H' → RelH K ρ' H' h' → Rep K ρ' H' c v → Q v H'
theorem ok_rC {F : MF} : CallOk K F (rC K F) := fun ρ H h as c h' xs Q R r e k => ⟨ρ, h, as, c, h', R, r, e, k⟩
def bLen : MF := fun as h => match as with
  | [.str x] => if x.length ≤ 100000 then some (.int x.length, h) else none
  | [a] => (seqA a h).bind fun p => some (.int p.2.length, h)
  | _ => none
theorem ok_len : CallOk K bLen (fun xs H Q => (∃ p ys, xs = [.ref p] ∧ (SqL K H p ys ∨ SqT K H p ys) ∧ Q (.int ys.length) H) ∨ (∃ z, xs = [.str z] ∧ z.length ≤ sizeLine ∧ Q (.int z.length) H)) := by
  intro ρ H h as c h' xs Q R r e k
  unfold bLen at e
  split at e
  · split at e
    · rename_i hl
      cases e
      cases r with
      | cons r1 r2 =>
        cases r2; cases r1
        exact .inr ⟨_, rfl, lim_le hl, k ρ H _ Up.refl R (.int _)⟩
    · cases e
  · obtain ⟨p, e1, e⟩ := bindS e
    cases e
    cases r with
    | cons r1 r2 =>
      cases r2
      obtain ⟨q, vs, rfl, rs, hs⟩ := seq_some R r1 e1
      refine .inl ⟨q, vs, rfl, ?_, by rw [← rs.length]; exact k ρ H _ Up.refl R (.int _)⟩
      rcases hs with ⟨_, hs⟩ | ⟨_, hs⟩
      · exact .inr hs
      · exact .inl hs
  · cases e
theorem call_len2 : CallR X (.builtin "len") (fun xs H Q => (∃ p ys, xs = [.ref p] ∧ (SqL X.K H p ys ∨ SqT X.K H p ys) ∧ Q (.int ys.length) H) ∨ (∃ z, xs = [.str z] ∧ z.length ≤ sizeLine ∧ Q (.int z.length) H)) := call_len_seq.or call_len_str
def lstA : A → AHp → Option (List A)
  | .ro xs, _ => some xs
  | .loc n, h => match h[n]? with | some (.lst xs) => some xs | _ => none
  | _, _ => none
theorem lst_some {ρ : List Addr} {H : Hp} {h : AHp} {a : A} {x : V} {p : List A} (R : RelH K ρ H h) (r : Rep K ρ H a x) (e : lstA a h = some p) : ∃ q vs, x = .ref q ∧ Reps K ρ H p vs ∧ SqL K H q vs := by
  cases r with
  | ro hs rs => cases e; exact ⟨_, _, rfl, rs, hs.sq⟩
  | @loc n q hn =>
    change (match h[n]? with | some (.lst xs) => some xs | _ => none) = some p at e
    split at e
    · rename_i xs hx
      cases e
      obtain ⟨vs, h1, h2⟩ := R.obj _ _ _ hn hx
      exact ⟨_, vs, rfl, h2, SqL.of h1⟩
    · cases e
  | _ => cases e
def bMax2 : MF := fun as h => match as with
  | [.int i, .int j] => some (.int (if j > i then j else i), h)
  | _ => none
def bMin2 : MF := fun as h => match as with
  | [.int i, .int j] => some (.int (if j < i then j else i), h)
  | _ => none
def isiA : A → String → Option Bool
  | .non, t => if t = "str" ∨ t = "tuple" ∨ t = "bool" ∨ t = "int" ∨ t = "list" then some false else none
  | .bl _, t => if t = "str" ∨ t = "tuple" ∨ t = "list" then some false else if t = "bool" ∨ t = "int" then some true else none
  | .int _, t => if t = "str" ∨ t = "tuple" ∨ t = "bool" ∨ t = "list" then some false else if t = "int" then some true else none
  | .str _, t => if t = "tuple" ∨ t = "bool" ∨ t = "int" ∨ t = "list" then some false else if t = "str" then some true else none
  | .tup _, t => if t = "str" ∨ t = "bool" ∨ t = "int" ∨ t = "list" then some false else if t = "tuple" then some true else none
  | .ro _, t => if t = "str" ∨ t = "bool" ∨ t = "int" ∨ t = "tuple" then some false else if t = "list" then some true else none
  | .loc _, t => if t = "str" ∨ t = "bool" ∨ t = "int" ∨ t = "tuple" then some false else if t = "list" then some true else none
  | _, _ => none
def isLstO : AO → Bool
  | .lst _ => true
  | _ => false
def bIsi : MF := fun as h => match as with
  | [.loc n, .ty t] => (h[n]?).bind fun o => if isLstO o = true then (isiA (.loc n) t).bind fun b => some (.bl b, h) else none
  | [a, .ty t] => (isiA a t).bind fun b => some (.bl b, h)
  | _ => none
theorem call_isi : CallR X (.builtin "isinstance") (rC X.K bIsi) := by
  intro pins s σ H xs us Q I rv hh
  obtain ⟨ρ, h, as, c, h', R, r, e, k⟩ := hh
  have key : ∃ a t x u b, as = [a, .ty t] ∧ xs = [x, .ty t] ∧ us = [u, .type t] ∧ Rep X.K ρ H a x ∧ RelV x u ∧ isiA a t = some b ∧ c = .bl b ∧ h' = h ∧ (∀ n, a = .loc n → ∃ o, h[n]? = some o ∧ isLstO o = true) := by
    unfold bIsi at e
    split at e
    · rename_i n t
      obtain ⟨o, e0, e⟩ := bindS e
      have ho : isLstO o = true := by
        cases q : isLstO o with
        | true => rfl
        | false => rw [q, if_neg Bool.false_ne_true] at e; cases e
      rw [ho, if_pos rfl] at e
      obtain ⟨b, e1, e⟩ := bindS e
      cases e
      cases r with
      | cons r1 r2 =>
        cases r2 with
        | cons r2 r3 =>
          cases r3; cases r2
          cases rv with
          | cons v1 v2 =>
            cases v2 with
            | cons v2 v3 =>
              cases v3; cases v2
              exact ⟨_, _, _, _, b, rfl, rfl, rfl, r1, v1, e1, rfl, rfl, fun m hm => by cases hm; exact ⟨o, e0, ho⟩⟩
    · rename_i a t hne
      obtain ⟨b, e1, e⟩ := bindS e
      cases e
      cases r with
      | cons r1 r2 =>
        cases r2 with
        | cons r2 r3 =>
          cases r3; cases r2
          cases rv with
          | cons v1 v2 =>
            cases v2 with
            | cons v2 v3 =>
              cases v3; cases v2
              exact ⟨_, _, _, _, b, rfl, rfl, rfl, r1, v1, e1, rfl, rfl, fun m hm => by subst hm; exact (hne m rfl).elim⟩
    · cases e
  obtain ⟨a, t, x, u, b, rfl, rfl, rfl, ra, rx, e1, rfl, rfl, hloc⟩ := key
  have fin : ∀ tk : Nat, EP X pins σ Q (.bool b) { s with toks := tk } := fun tk => ⟨.bl b, H, I.tok _, rfl, k ρ H _ Up.refl R (.bl b)⟩
  have fin0 : EP X pins σ Q (.bool b) s := fin s.toks
  cases ra with
  | non =>
    cases rx
    simp only [isiA] at e1
    split at e1
    · rename_i ht
      cases e1
      rcases ht with rfl | rfl | rfl | rfl | rfl
      · exact IsiPair.NoneType_str (fin _)
      · exact IsiPair.NoneType_tuple (fin _)
      · exact IsiPair.NoneType_bool (fin _)
      · exact IsiPair.NoneType_int (fin _)
      · exact IsiPair.NoneType_list (fin _)
    · cases e1
  | bl bb =>
    cases rx
    simp only [isiA] at e1
    split at e1
    · rename_i ht
      cases e1
      rcases ht with rfl | rfl | rfl
      · exact IsiPair.bool_str (fin _)
      · exact IsiPair.bool_tuple (fin _)
      · exact IsiPair.bool_list (fin _)
    · split at e1
      · rename_i ht
        cases e1
        rcases ht with rfl | rfl
        · exact IsiPair.bool_bool fin0
        · exact IsiPair.bool_int fin0
      · cases e1
  | int bb =>
    obtain ⟨tk, rfl⟩ := rx
    simp only [isiA] at e1
    split at e1
    · rename_i ht
      cases e1
      rcases ht with rfl | rfl | rfl | rfl
      · exact IsiPair.int_str (fin _)
      · exact IsiPair.int_tuple (fin _)
      · exact IsiPair.int_bool (fin _)
      · exact IsiPair.int_list (fin _)
    · split at e1
      · rename_i ht
        cases e1
        subst ht
        exact IsiPair.int_int fin0
      · cases e1
  | str bb =>
    obtain ⟨tk, rfl⟩ := rx
    simp only [isiA] at e1
    split at e1
    · rename_i ht
      cases e1
      rcases ht with rfl | rfl | rfl | rfl
      · exact IsiPair.str_tuple (fin _)
      · exact IsiPair.str_bool (fin _)
      · exact IsiPair.str_int (fin _)
      · exact IsiPair.str_list (fin _)
    · split at e1
      · rename_i ht
        cases e1
        subst ht
        exact IsiPair.str_str fin0
      · cases e1
  | tup hs rs =>
    cases rx
    obtain ⟨its, r2, ⟨o, e2, hc2, n2, hd2⟩, z2⟩ := I.tuple hs
    simp only [isiA] at e1
    split at e1
    · rename_i ht
      cases e1
      rcases ht with rfl | rfl | rfl | rfl
      · exact IsiPair.tuple_str e2 hc2 (fin _)
      · exact IsiPair.tuple_bool e2 hc2 (fin _)
      · exact IsiPair.tuple_int e2 hc2 (fin _)
      · exact IsiPair.tuple_list e2 hc2 (fin _)
    · split at e1
      · rename_i ht
        cases e1
        subst ht
        exact IsiPair.tuple_tuple e2 hc2 fin0
      · cases e1
  | ro hro rs =>
    cases rx
    have hq := hro.sq
    obtain ⟨its, r2, ⟨o2, n2, e2, hc2, _, _⟩, z2⟩ := I.list hq
    simp only [isiA] at e1
    split at e1
    · rename_i ht
      cases e1
      rcases ht with rfl | rfl | rfl | rfl
      · exact IsiPair.list_str e2 hc2 (fin _)
      · exact IsiPair.list_bool e2 hc2 (fin _)
      · exact IsiPair.list_int e2 hc2 (fin _)
      · exact IsiPair.list_tuple e2 hc2 (fin _)
    · split at e1
      · rename_i ht
        cases e1
        subst ht
        exact IsiPair.list_list e2 hc2 fin0
      · cases e1
  | @loc n p hn =>
    cases rx
    obtain ⟨o, ho, hlo⟩ := hloc n rfl
    have hq : ∃ vs, SqL X.K H p vs := by
      have z := R.obj _ _ _ hn ho
      cases o with
      | lst xs => obtain ⟨vs, h1, _⟩ := z; exact ⟨vs, SqL.of h1⟩
      | ins C fs => exact absurd hlo Bool.false_ne_true
      | dic hf kvs => exact absurd hlo Bool.false_ne_true
      | clo ex xs => exact absurd hlo Bool.false_ne_true
    obtain ⟨vs, hq⟩ := hq
    obtain ⟨its, r2, ⟨o2, n2, e2, hc2, _, _⟩, z2⟩ := I.list hq
    simp only [isiA] at e1
    split at e1
    · rename_i ht
      cases e1
      rcases ht with rfl | rfl | rfl | rfl
      · exact IsiPair.list_str e2 hc2 (fin _)
      · exact IsiPair.list_bool e2 hc2 (fin _)
      · exact IsiPair.list_int e2 hc2 (fin _)
      · exact IsiPair.list_tuple e2 hc2 (fin _)
    · split at e1
      · rename_i ht
        cases e1
        subst ht
        exact IsiPair.list_list e2 hc2 fin0
      · cases e1
  | ty _ => cases e1
  | raw _ => cases e1
end
end Ab
set_option Elab.async false
set_option linter.all false
set_option maxRecDepth 100000
namespace Ab
open PySem PySem.Spec PyProof.Rows L2
set_option autoImplicit false
def isLst : A → AHp → Bool
  | .ro _, _ => true
  | .loc n, h => ((h[n]?).map isLstO).getD false
  | _, _ => false
def eMt (F : A → List A → AHp → Rs A) (mo : ME) (ms : MA) : ME := fun τ h => (mo τ h).bind fun p => if isLst p.1 p.2 = true then (ms τ p.2).bind fun q => F p.1 q.1 q.2 else none
def MtOk (K : PySem.W.Frag) (F : A → List A → AHp → Rs A) (r : V → List V → Hp → VK → Prop) : Prop := ∀ ρ H h o as c h' x xs (Q : VK), RelH K ρ H h → Rep K ρ H o x → Reps K ρ H as xs → F o as h = some (c, h') →
  (∀ ρ' H' v, Up K ρ H ρ' H' → RelH K ρ' H' h' → Rep K ρ' H' c v → Q v H') → r x xs H Q
section
variable {X : Cx} {K : PySem.W.Frag} {o e : Expr} {es : List Expr} {mo ma : ME} {ms : MA} {F : A → List A → AHp → Rs A} {r : V → List V → Hp → VK → Prop} {name : Str} {apos cpos pos : Pos} {id : String}
theorem tyV_lst {ρ : List Addr} {H : Hp} {h : AHp} {a : A} {x : V} (R : RelH K ρ H h) (ra : Rep K ρ H a x) (e : isLst a h = true) : tyV K "list" x H := by
  cases ra with
  | ro hs _ => exact .inl ⟨rfl, _, hs.sq⟩
  | @loc n p hn =>
    change ((h[n]?).map isLstO).getD false = true at e
    cases ho : h[n]? with
    | none => rw [ho] at e; cases e
    | some ob =>
      rw [ho] at e
      have z := R.obj _ _ _ hn ho
      cases ob with
      | lst xs => obtain ⟨vs, h1, _⟩ := z; exact .inl ⟨rfl, vs, SqL.of h1⟩
      | ins C fs => exact absurd e Bool.false_ne_true
      | dic hf kvs => exact absurd e Bool.false_ne_true
      | clo ex xs => exact absurd e Bool.false_ne_true
  | _ => cases e
theorem je_mt (slot : Slot "list" name id) (hty : typeOf (.builtin id) = pure (.type "method_descriptor")) (hm : MtR X id r) (ok : MtOk X.K F r) (ho : JE X o mo) (ha : JA X (e :: es) ms)
    (hbase : attributeBase o name X.env (eval o X.env) = eval o X.env := by rfl)
    (hfew : ((backTo cpos (starEach (e :: es) X.env)).all (fun x => !x.1) && (backToKw cpos (keywordEach [] X.env)).all (fun x => x.1.isSome)
      && decide ((e :: es).length + ([] : List Keyword).length + (if ([] : List Keyword).isEmpty then 0 else 1) < 30)) = true := by rfl)
    (hline : (apos.endLine == cpos.line) = true := by rfl) (hs : starEach (e :: es) X.env = (false, eval e X.env) :: starEach es X.env := by rfl) (hplain : (backTo cpos (starEach es X.env)).any (·.1) = false := by rfl) :
    JE X (.Call (.Attribute o name apos) (e :: es) [] cpos) (eMt F mo ms) := ⟨PE_imp (pe_bm PySem.F.plainAttrs_list slot hty hm ho.pf ha.pf hbase hfew hline hs hplain) fun σ H Q q => by
  obtain ⟨ρ, τ, h, d, h', R, S, e, k⟩ := q
  obtain ⟨⟨x, h1⟩, e1, e⟩ := bindS e
  dsimp only at e
  split at e
  · rename_i hl
    obtain ⟨⟨as, h2⟩, e2, e⟩ := bindS e
    refine ⟨ρ, τ, h, x, h1, R, S, e1, fun ρ1 H1 v1 u1 R1 r1 => ⟨tyV_lst R1 r1 hl, ρ1, τ, h1, as, h2, R1, S.up u1, e2, fun ρ2 H2 v2 u2 R2 r2 => ?_⟩⟩
    exact ok ρ2 H2 h2 x as d h' v1 v2 Q R2 (r1.up u2) r2 e fun ρ3 H3 v u3 R3 r3 => k ρ3 H3 v ((u1.trans u2).trans u3) R3 r3
  · cases e⟩
theorem je_mt0 (slot : Slot "list" name id) (hty : typeOf (.builtin id) = pure (.type "method_descriptor")) (hm : MtR X id r) (ok : MtOk X.K F r) (ho : JE X o mo)
    (hbase : attributeBase o name X.env (eval o X.env) = eval o X.env := by rfl) (hline : (apos.endLine == cpos.line) = true := by rfl) :
    JE X (.Call (.Attribute o name apos) [] [] cpos) (eMt F mo aNil) := ⟨PE_imp (pe_bm0 PySem.F.plainAttrs_list slot hty hm ho.pf hbase hline) fun σ H Q q => by
  obtain ⟨ρ, τ, h, d, h', R, S, e, k⟩ := q
  obtain ⟨⟨x, h1⟩, e1, e⟩ := bindS e
  dsimp only at e
  split at e
  · rename_i hl
    obtain ⟨⟨as, h2⟩, e2, e⟩ := bindS e
    cases e2
    refine ⟨ρ, τ, h, x, _, R, S, e1, fun ρ1 H1 v1 u1 R1 r1 => ⟨tyV_lst R1 r1 hl, ?_⟩⟩
    exact ok ρ1 H1 _ x [] d h' v1 [] Q R1 r1 .nil e fun ρ3 H3 v u3 R3 r3 => k ρ3 H3 v (u1.trans u3) R3 r3
  · cases e⟩
def fAppend (o : A) (as : List A) (h : AHp) : Rs A := match o, as with
  | .loc n, [v] => match h[n]? with
    | some (.lst xs) => if xs.length < 100000 then some (.non, h.set n (.lst (xs ++ [v]))) else none
    | _ => none
  | _, _ => none
theorem ok_append : MtOk K fAppend rAppend := by
  intro ρ H h o as c h' x xs Q R ro ra e k
  unfold fAppend at e
  split at e
  · split at e
    · rename_i ys hx
      split at e
      · rename_i hl
        cases e
        obtain ⟨p, rfl, h1, vs, h2, r1⟩ := R.locAt hx ro
        cases ra with
        | cons r2 rs =>
          cases rs
          obtain ⟨u, R'⟩ := R.store h1 hx (r1.append (.cons r2 .nil))
          exact ⟨p, vs, _, rfl, rfl, h2, by rw [← r1.length]; exact Nat.lt_of_lt_of_le hl (by decide), k ρ _ _ u R' .non⟩
      · cases e
    · cases e
  · cases e
def fPop (o : A) (as : List A) (h : AHp) : Rs A := match o, as with
  | .loc n, [] => match h[n]? with
    | some (.lst xs) => (xs[xs.length - 1]?).bind fun y => some (y, h.set n (.lst xs.dropLast))
    | _ => none
  | _, _ => none
theorem reps_dropLast {ρ : List Addr} {H : Hp} {xs : List A} {vs : List V} (r : Reps K ρ H xs vs) : Reps K ρ H xs.dropLast vs.dropLast := by
  rw [List.dropLast_eq_take, List.dropLast_eq_take, r.length]
  exact r.take _
theorem ok_pop : MtOk K fPop rPop := by
  intro ρ H h o as c h' x xs Q R ro ra e k
  unfold fPop at e
  split at e
  · split at e
    · rename_i ys hx
      obtain ⟨y, e1, e⟩ := bindS e
      cases e
      obtain ⟨p, rfl, h1, vs, h2, r1⟩ := R.locAt hx ro
      cases ra
      obtain ⟨v, h3, r3⟩ := r1.get e1
      obtain ⟨u, R'⟩ := R.store h1 hx (reps_dropLast r1)
      exact ⟨p, vs, v, rfl, rfl, h2, by rw [← r1.length]; exact h3, k ρ _ _ u R' (r3.up u)⟩
    · cases e
  · cases e
def eMs (F : A → List A → AHp → Rs A) (mo : ME) (ms : MA) : ME := fun τ h => (mo τ h).bind fun p => match p.1 with | .str _ => (ms τ p.2).bind fun q => F p.1 q.1 q.2 | _ => none
end
def itL (n : Nat) (len : Nat) : AIt := ⟨len, fun i h => (lstA (.loc n) h).bind fun xs => xs[i]?, fun h => match lstA (.loc n) h with | some xs => decide (xs.length ≤ len) | none => false⟩
def itT (xs : List A) : AIt := ⟨xs.length, fun i _ => xs[i]?, fun _ => true⟩
def itS (x : Str) : AIt := ⟨x.cps.size, fun i _ => (x.cps[i]?).bind fun c => some (.str ⟨#[c]⟩), fun _ => true⟩
def itR (lo : Int) (n : Nat) : AIt := ⟨n, fun i _ => if i < n then some (.int (lo + i)) else none, fun _ => true⟩
def iLst (ma : ME) : MI := fun τ h => (ma τ h).bind fun p => match p.1 with
  | .loc n => (lstA (.loc n) p.2).bind fun xs => some (itL n xs.length, p.2)
  | .ro xs => some (itT xs, p.2)
  | _ => none
def iStrM (ma : ME) : MI := fun τ h => (ma τ h).bind fun p => match p.1 with
  | .str x => some (itS x, p.2)
  | _ => none
def iRng1M (ms : MA) : MI := fun τ h => (ms τ h).bind fun p => match p.1 with
  | [.int j] => if -(2 ^ 62) ≤ j ∧ j < 2 ^ 62 then some (itR 0 j.toNat, p.2) else none
  | _ => none
section
variable {X : Cx} {K : PySem.W.Frag} {a b e tg : Expr} {ma : ME} {ms : MA} {p pos : Pos}
theorem it_list {ρ0 : List Addr} {H0 : Hp} {n len : Nat} {q : Addr} (hq : ρ0[n]? = some q) : ItOk K (Itl K q) (itL n len) ρ0 H0 := by
  intro ρ H h hp R
  have hq' := pre_get hp.pre hq
  refine ⟨fun i a e => ?_, fun e => ?_⟩
  · obtain ⟨xs, e1, e⟩ := bindS e
    obtain ⟨q', vs, eq, rs, hs⟩ := lst_some R (.loc hq') e1
    cases eq
    obtain ⟨v, h1, h2⟩ := rs.get e
    refine ⟨⟨vs, v, hs, h1⟩, fun x H' y => ?_⟩
    obtain ⟨rfl, y⟩ := y
    have := y vs hs
    rw [h1] at this; cases this
    exact ⟨Up.refl, R, h2⟩
  · change (match lstA (.loc n) h with | some xs => decide (xs.length ≤ len) | none => false) = true at e
    split at e
    · rename_i xs e1
      obtain ⟨q', vs, eq, rs, hs⟩ := lst_some R (.loc hq') e1
      cases eq
      exact ⟨vs, hs, by rw [← rs.length]; exact of_decide_eq_true e⟩
    · cases e
theorem it_rng {ρ0 : List Addr} {H0 : Hp} {lo : Int} {n : Nat} : ItOk K (Itr lo n) (itR lo n) ρ0 H0 := by
  intro ρ H h hp R
  refine ⟨fun i a e => ?_, fun _ => Nat.le_refl _⟩
  change (if i < n then some (A.int (lo + i)) else none) = some a at e
  split at e
  · rename_i hi
    cases e
    refine ⟨hi, fun x' H' y => ?_⟩
    obtain ⟨rfl, rfl⟩ := y
    exact ⟨Up.refl, R, .int _⟩
  · cases e
theorem it_ro {ρ0 : List Addr} {xs : List A} {q : Addr} {H0 : Hp} {vs : List V} (hs : RoL K H0 q vs) (rs : Reps K ρ0 H0 xs vs) : ItOk K (Itl K q) (itT xs) ρ0 H0 := by
  intro ρ H h hp R
  have hs' := (hp.ros _ _ hs).sq
  have rs' := rs.le hp
  refine ⟨fun i a e => ?_, fun _ => ⟨vs, hs', by rw [← rs.length]; exact Nat.le_refl _⟩⟩
  change xs[i]? = some a at e
  obtain ⟨v, h1, h2⟩ := rs'.get e
  refine ⟨⟨vs, v, hs', h1⟩, fun x H' y => ?_⟩
  obtain ⟨rfl, y⟩ := y
  have := y vs hs'
  rw [h1] at this; cases this
  exact ⟨Up.refl, R, h2⟩
theorem ji_list (ha : JE X a ma) : JI X tg a (iLst ma) := ⟨PI_imp (pi_list ha.pf) fun σ H R q => by
  obtain ⟨ρ, τ, h, it, h', Rh, S, e, k⟩ := q
  obtain ⟨⟨x, h1⟩, e1, e⟩ := bindS e
  dsimp only at e
  split at e
  · obtain ⟨xs, e2, e⟩ := bindS e
    cases e
    refine ⟨ρ, τ, h, _, _, Rh, S, e1, fun ρ1 H1 v1 u1 R1 r1 => ?_⟩
    obtain ⟨q', vs, rfl, rs, hs⟩ := lst_some R1 r1 e2
    cases r1 with
    | loc hn => exact ⟨q', rfl, ⟨vs, hs⟩, k ρ1 H1 _ u1 R1 (it_list hn)⟩
  · cases e
    refine ⟨ρ, τ, h, _, _, Rh, S, e1, fun ρ1 H1 v1 u1 R1 r1 => ?_⟩
    cases r1 with
    | ro hs rs => exact ⟨_, rfl, ⟨_, hs.sq⟩, k ρ1 H1 _ u1 R1 (it_ro hs rs)⟩
  · cases e⟩
theorem ji_rng1 (hm : X.mg "range" = none) (ha : JA X [a] ms) (hg : Gl X "range" := by rfl) (hs : starEach [a] X.env = [(false, eval a X.env)] := by rfl) : JI X tg (.Call (.Name "range" p) [a] [] pos) (iRng1M ms) := ⟨PI_imp (pi_range1 hg hm ha.pf hs) fun σ H R q => by
  obtain ⟨ρ, τ, h, it, h', Rh, S, e, k⟩ := q
  obtain ⟨⟨x, h1⟩, e1, e⟩ := bindS e
  dsimp only at e
  split at e
  · split at e
    · rename_i hj
      cases e
      refine ⟨ρ, τ, h, _, _, Rh, S, e1, fun ρ1 H1 v1 u1 R1 r1 => ?_⟩
      cases r1 with
      | cons r1 r2 =>
        cases r2; cases r1
        exact ⟨_, rfl, hj.1, hj.2, k ρ1 H1 _ u1 R1 it_rng⟩
    · cases e
  · cases e⟩
def lcL (it : AIt) (j : Nat) (mt : MT) (me : ME) (τ : ASt) : Nat → Nat → List A → AHp → Rs (List A)
  | 0, _, acc, h => if it.fin h = true then some (acc, h) else none
  | n + 1, k, acc, h => (it.get k h).bind fun a => (mt (τ.set j (some a)) h).bind fun b => if b.1 = true then (me (τ.set j (some a)) b.2).bind fun y => if acc.length < 100000 then lcL it j mt me τ n (k + 1) (acc ++ [y.1]) y.2 else none else lcL it j mt me τ n (k + 1) acc b.2
def mYes : MT := fun _ h => some (true, h)
def eLc (mi : MI) (j : Nat) (mt : MT) (me : ME) : ME := fun τ h => (mi τ h).bind fun p => (lcL p.1 j mt me (τ.set j none) p.1.n 0 [] p.2).bind fun q => some (.loc q.2.length, q.2 ++ [.lst q.1])
structure JTs (X : Cx) (ifs : List Expr) (m : MT) : Prop where
  pf : PTs X ifs (tT X.K m)
theorem jts_nil : JTs X [] mYes := ⟨fun pins s σ H Q I q => pts_nil pins s σ H Q I (by
  obtain ⟨ρ, τ, h, a, h', R, S, e, k⟩ := q
  cases e
  exact k ρ H Up.refl R)⟩
theorem jts_one {m : MT} (h : JT X a m) : JTs X [a] m := ⟨pts_one h.pf⟩
theorem set_none {ρ : List Addr} {H : Hp} {σ : L2.St} {τ : ASt} {j : Nat} (S : RelS K ρ H σ τ) : RelS K ρ H (σ.set j none) (τ.set j none) := by
  refine ⟨by rw [List.length_set, List.length_set, S.len], fun i a e => ?_⟩
  by_cases hij : j = i
  · subst hij
    have hl : j < (τ.set j none).length := (List.getElem?_eq_some_iff.mp e).1
    rw [List.length_set] at hl
    rw [List.getElem?_set_self hl] at e
    cases e
  · rw [List.getElem?_set_ne hij] at e ⊢
    exact S.get i a e
theorem imp_lc {mi : MI} {mt : MT} {me : ME} {j : Nat} (σ : L2.St) (H : Hp) (Q : VK) (q : tE K (eLc mi j mt me) σ H Q) : tLc (tI K mi) (gName j) (tT K mt) (tE K me) [j] σ H Q := by
  obtain ⟨ρ, τ, h, d, h', R, S, e, k⟩ := q
  obtain ⟨⟨it, h0⟩, e0, e⟩ := bindS e
  obtain ⟨⟨ls, h1⟩, e1, e⟩ := bindS e
  cases e
  refine ⟨ρ, τ, h, it, h0, R, S, e0, fun ρ0 H0 J u0 R0 okI D hD => ?_⟩
  have hDρ : D ∉ ρ0 := R0.notin hD
  obtain ⟨l0, R0'⟩ := R0.out (u := .lst []) hDρ (.inl hD)
  have U0 : Up K ρ0 H0 (ρ0 ++ [D]) (upd H0 D (.lst [])) := ⟨⟨⟨[D], rfl⟩, l0.tup, l0.ros, l0.frz⟩, fun p o n z => by rw [upd_ne (ne_of_none z hD)]; exact .inl z, fun p m n => by
    rcases List.mem_append.mp m with m | m
    · exact absurd m n
    · rw [List.mem_singleton.mp m]; exact hD⟩
  have Sw : RelS K ρ0 H0 (σ.set j none) (τ.set j none) := set_none (S.up u0)
  refine ⟨fun i n H2 => i + n = it.n ∧ ∃ ρ2 h2 acc vs, ρ0 <+: ρ2 ∧ D ∉ ρ2 ∧ Up K ρ0 H0 (ρ2 ++ [D]) H2 ∧ RelH K ρ2 H2 h2 ∧ H2 D = some (.lst vs) ∧ Reps K ρ2 H2 acc vs ∧ lcL it j mt me (τ.set j none) n i acc h2 = some (ls, h1),
    ⟨it.n, Nat.zero_add _, ρ0, h0, [], [], List.prefix_refl _, hDρ, U0, R0', upd_same, .nil, e1⟩, ?_⟩
  rintro i n H2 ⟨ei, ρ2, h2, acc, vs, p2, D2, U2, R2, HD, ra, e2⟩
  have L2' : Le K ρ0 H0 ρ2 H2 := ⟨p2, U2.tup, U2.ros, U2.frz⟩
  obtain ⟨okg, okf⟩ := okI ρ2 H2 h2 L2' R2
  cases n with
  | zero =>
    change (if it.fin h2 = true then some (acc, h2) else none) = _ at e2
    split at e2
    · rename_i hf
      cases e2
      have : i = it.n := by omega
      subst this
      exact .inl ⟨okf hf, k _ H2 _ (u0.trans U2) (R2.push D2 HD ra) (.loc (by rw [← R2.len]; simp))⟩
    · cases e2
  | succ n =>
    obtain ⟨a, e3, e2⟩ := bindS e2
    obtain ⟨⟨b, h3⟩, e4, e2⟩ := bindS e2
    obtain ⟨go, yl⟩ := okg i a e3
    refine .inr ⟨go, fun H5 => (i + 1) + n = it.n ∧ ∃ ρ2 h2 acc vs, ρ0 <+: ρ2 ∧ D ∉ ρ2 ∧ Up K ρ0 H0 (ρ2 ++ [D]) H5 ∧ RelH K ρ2 H5 h2 ∧ H5 D = some (.lst vs) ∧ Reps K ρ2 H5 acc vs ∧ lcL it j mt me (τ.set j none) n (i + 1) acc h2 = some (ls, h1), fun H5 z => ⟨n, Nat.lt_succ_self n, z⟩, fun x Hx yx => ?_⟩
    obtain ⟨ux, Rx, rx⟩ := yl x Hx yx
    have ew : (((σ.set j none).set j (some x)).set j none) = σ.set j none := by rw [List.set_set, List.set_set]
    refine And.intro ew ?_
    have Sx : RelS K ρ2 Hx ((σ.set j none).set j (some x)) ((τ.set j none).set j (some a)) := (Sw.le (Le.mk (p2) (fun p vs z => ux.tup _ _ (U2.tup _ _ z)) (fun p vs z => ux.ros _ _ (U2.ros _ _ z)) (fun p o y z => ux.frz _ _ _ (U2.frz _ _ _ z)))).set rx
    refine ⟨ρ2, _, h2, b, h3, Rx, Sx, e4, fun ρ3 H3 u3 R3 => ?_⟩
    have step : ∀ {ρa ρb : List Addr} {Ha Hb : Hp} (_ : ρ0 <+: ρa) (_ : D ∉ ρa) (_ : Up K ρ0 H0 (ρa ++ [D]) Ha) (_ : ∃ ws, Ha D = some (.lst ws)) (_ : Up K ρa Ha ρb Hb), ρ0 <+: ρb ∧ D ∉ ρb ∧ Up K ρ0 H0 (ρb ++ [D]) Hb ∧ Hb D = Ha D := by
      intro ρa ρb Ha Hb pa Da Ua Wa ub
      obtain ⟨ws, Wa⟩ := Wa
      have Db : D ∉ ρb := fun m => by have := ub.new D m Da; rw [Wa] at this; cases this
      refine ⟨pa.trans ub.pre, Db, ⟨⟨(pa.trans ub.pre).trans ⟨[D], rfl⟩, fun p vs z => ub.tup _ _ (Ua.tup _ _ z), fun p vs z => ub.ros _ _ (Ua.ros _ _ z), fun p o y z => ub.frz _ _ _ (Ua.frz _ _ _ z)⟩, fun p o n z => (Ua.oth p o n z).step fun o' z' => ub.oth p o' (fun m => ?_) z', fun p m n => ?_⟩, by rw [Wa]; exact (ub.oth D _ Da Wa).is nofun⟩
      · have := Ua.new p (List.mem_append_left _ m) n
        rw [z] at this; cases this
      · rcases List.mem_append.mp m with m | m
        · by_cases ma : p ∈ ρa
          · exact Ua.new p (List.mem_append_left _ ma) n
          · have z := ub.new p m ma
            cases q : H0 p with
            | none => rfl
            | some o => obtain ⟨o', z'⟩ := (Ua.oth p o n q).some; rw [z'] at z; cases z
        · rw [List.mem_singleton.mp m]; exact hD
    obtain ⟨p3, D3, U3, E3⟩ := step p2 D2 U2 ⟨vs, HD⟩ (ux.trans u3)
    rw [HD] at E3
    have ra3 : Reps K ρ3 H3 acc vs := ra.up (ux.trans u3)
    have S3 := Sx.up u3
    cases b with
    | false =>
      rw [if_neg Bool.false_ne_true] at e2
      refine iteF ?_
      exact ⟨by omega, ρ3, h3, acc, vs, p3, D3, U3, R3, E3, ra3, e2⟩
    | true =>
      rw [if_pos rfl] at e2
      refine iteT ?_
      obtain ⟨⟨y, h4⟩, e5, e2⟩ := bindS e2
      dsimp only at e2
      split at e2
      · rename_i hl
        refine ⟨ρ3, _, h3, y, h4, R3, S3, e5, fun ρ4 H4 v4 u4 R4 r4 => ?_⟩
        obtain ⟨p4, D4, U4, E4⟩ := step p3 D3 U3 ⟨vs, E3⟩ u4
        rw [E3] at E4
        have ra4 : Reps K ρ4 H4 acc vs := ra3.up u4
        refine ⟨vs, E4, by rw [← ra.length]; exact Nat.lt_of_lt_of_le hl (by decide), by omega, ρ4, h4, acc ++ [y], vs ++ [v4], p4, D4, ?_, ?_⟩
        · refine ⟨⟨U4.pre, fun p vs z => SqT_upd (.inr ⟨_, E4⟩) (U4.tup _ _ z), fun p vs z => RoL_upd (.inr ⟨_, E4⟩) (U4.ros _ _ z), fun p o y z => frz_upd (nf_lst E4) (U4.frz _ _ _ z)⟩, fun p o n z => by rw [upd_ne (ne_of_none z hD)]; exact U4.oth p o n z, U4.new⟩
        · obtain ⟨l5, R5⟩ := R4.out (u := .lst (vs ++ [v4])) D4 (.inr ⟨_, E4⟩)
          exact ⟨R5, upd_same, (ra4.append (.cons r4 .nil)).le l5, e2⟩
      · cases e2
theorem je_lc {elt iter : Expr} {ifs : List Expr} {scope : Scope} {x : Str} {tpos : Pos} {mi : MI} {mt : MT} {me : ME} (j : Nat) (hc : X.calm = true) (hN : X.N.Nodup) (hi : JI X (.Name x tpos) iter mi) (ok : BlkOk X.N X.env.scope scope [(x, j)])
    (hg : ∀ (s : Shared) (H : Hp) (C : Addr) (cl : List (Str × Addr)) (fp : List Addr), PG (X.blk s H scope (compEnvC scope cl C X.env) fp) (.Name x tpos) (gName j))
    (ht : ∀ (s : Shared) (H : Hp) (C : Addr) (cl : List (Str × Addr)) (fp : List Addr), JTs (X.blk s H scope (compEnvC scope cl C X.env) fp) ifs mt)
    (he : ∀ (s : Shared) (H : Hp) (C : Addr) (cl : List (Str × Addr)) (fp : List Addr), JE (X.blk s H scope (compEnvC scope cl C X.env) fp) elt me) (hs : ∀ x, foldedSetIterable iter X.env x = pure x := by intro _; rfl) :
    JE X (.ListComp elt [⟨.Name x tpos, iter, ifs, 0⟩] scope pos) (eLc mi j mt me) := ⟨PE_imp (pe_lc (own := [(x, j)]) (g := gName j) (tt := tT X.K mt) (te := tE X.K me) hc hN hi.pf ok hg (fun s H C cl fp => (ht s H C cl fp).pf) (fun s H C cl fp => (he s H C cl fp).pf) hs) imp_lc⟩
end
end Ab
set_option Elab.async false
set_option linter.all false
set_option maxRecDepth 100000
namespace Ab
open PySem PySem.Spec PyProof.Rows L2
set_option autoImplicit false
theorem u65 {k : Nat} {Ar : Around} (r : Room k Ar) : Ar.units + 65 < cLine := by have := r.un; omega
section
variable {X : Cx} {a b c e o i : Expr} {es : List Expr} {pos p : Pos} {ma mb mc mo mi : ME} {ms : MA} {k : Nat}
theorem je_eq (hr : Room k X.A) (ha : JE X a ma) (hb : JE X b mb) : JE X (.Compare a [.Eq] [b] pos) (eOp cEq ma mb) := je_cmp (op_eqA hr.units) ok_rA ha hb (nomark _)
theorem je_ne (hr : Room k X.A) (ha : JE X a ma) (hb : JE X b mb) : JE X (.Compare a [.NotEq] [b] pos) (eOp cNe ma mb) := je_cmp (op_neA hr.units) ok_rA ha hb (nomark _)
theorem je_in (hr : Room k X.A) (ha : JE X a ma) (hb : JE X b mb) (hm : behindInMarks .In b = false := by with_unfolding_all rfl) : JE X (.Compare a [.In] [b] pos) (eOp cIn ma mb) := je_cmp (op_inA (u65 hr)) ok_rA ha hb hm
theorem jt_eq (hr : Room k X.A) (ha : JE X a ma) (hb : JE X b mb) : JT X (.Compare a [.Eq] [b] pos) (mB (eOp cEq ma mb)) := jt_cmp (op_eqA hr.units) ok_rA ha hb (nomark _)
theorem jt_ne (hr : Room k X.A) (ha : JE X a ma) (hb : JE X b mb) : JT X (.Compare a [.NotEq] [b] pos) (mB (eOp cNe ma mb)) := jt_cmp (op_neA hr.units) ok_rA ha hb (nomark _)
theorem jt_in (hr : Room k X.A) (ha : JE X a ma) (hb : JE X b mb) (hm : behindInMarks .In b = false := by with_unfolding_all rfl) : JT X (.Compare a [.In] [b] pos) (mB (eOp cIn ma mb)) := jt_cmp (op_inA (u65 hr)) ok_rA ha hb hm
theorem jt_ni (hr : Room k X.A) (ha : JE X a ma) (hb : JE X b mb) (hm : behindInMarks .NotIn b = false := by with_unfolding_all rfl) : JT X (.Compare a [.NotIn] [b] pos) (mB (eOp cNi ma mb)) := jt_cmp (op_niA (u65 hr)) ok_rA ha hb hm
theorem jt_lt (hr : Room k X.A) (ha : JE X a ma) (hb : JE X b mb) : JT X (.Compare a [.Lt] [b] pos) (mB (eOp cLt ma mb)) := jt_cmp op_lt2 ok_lt ha hb (nomark _)
theorem jt_le (hr : Room k X.A) (ha : JE X a ma) (hb : JE X b mb) : JT X (.Compare a [.LtE] [b] pos) (mB (eOp cLe ma mb)) := jt_cmp op_le2 ok_le ha hb (nomark _)
theorem jt_gt (hr : Room k X.A) (ha : JE X a ma) (hb : JE X b mb) : JT X (.Compare a [.Gt] [b] pos) (mB (eOp cGt ma mb)) := jt_cmp op_gt2 ok_gt ha hb (nomark _)
theorem jt_ge (hr : Room k X.A) (ha : JE X a ma) (hb : JE X b mb) : JT X (.Compare a [.GtE] [b] pos) (mB (eOp cGe ma mb)) := jt_cmp op_ge2 ok_ge ha hb (nomark _)
theorem je_len (hm : X.mg "len" = none) (ha : JA X (e :: es) ms) (hg : Gl X "len" := by rfl)
    (he : starEach (e :: es) X.env = (false, eval e X.env) :: starEach es X.env := by rfl) (hpl : (backTo pos (starEach es X.env)).any (·.1) = false := by rfl) : JE X (.Call (.Name "len" p) (e :: es) [] pos) (eCall bLen ms) := je_callB call_len2 ok_len hm (by decide +kernel) ha hg (by decide) (by decide) he hpl
theorem je_isi (hm : X.mg "isinstance" = none) (ha : JA X (e :: es) ms) (hg : Gl X "isinstance" := by rfl)
    (he : starEach (e :: es) X.env = (false, eval e X.env) :: starEach es X.env := by rfl) (hpl : (backTo pos (starEach es X.env)).any (·.1) = false := by rfl) : JE X (.Call (.Name "isinstance" p) (e :: es) [] pos) (eCall bIsi ms) := je_callB call_isi ok_rC hm (by decide +kernel) ha hg (by decide) (by decide) he hpl
variable {apos cpos : Pos}
theorem je_append (ho : JE X o mo) (ha : JA X (e :: es) ms)
    (hbase : attributeBase o "append" X.env (eval o X.env) = eval o X.env := by rfl)
    (hfew : ((backTo cpos (starEach (e :: es) X.env)).all (fun x => !x.1) && (backToKw cpos (keywordEach [] X.env)).all (fun x => x.1.isSome)
      && decide ((e :: es).length + ([] : List Keyword).length + (if ([] : List Keyword).isEmpty then 0 else 1) < 30)) = true := by rfl)
    (hline : (apos.endLine == cpos.line) = true := by rfl) (hs : starEach (e :: es) X.env = (false, eval e X.env) :: starEach es X.env := by rfl) (hplain : (backTo cpos (starEach es X.env)).any (·.1) = false := by rfl) :
    JE X (.Call (.Attribute o "append" apos) (e :: es) [] cpos) (eMt fAppend mo ms) := je_mt PySem.F.slot_list_append PySem.F.type_list_append mt_append ok_append ho ha hbase hfew hline hs hplain
theorem je_pop0 (ho : JE X o mo) (hbase : attributeBase o "pop" X.env (eval o X.env) = eval o X.env := by rfl) (hline : (apos.endLine == cpos.line) = true := by rfl) :
    JE X (.Call (.Attribute o "pop" apos) [] [] cpos) (eMt fPop mo aNil) := je_mt0 PySem.F.slot_list_pop PySem.F.type_list_pop mt_pop ok_pop ho hbase hline
theorem js_setIx {pos' : Pos} (hv : JE X e ma) (ho : JE X o mo) (hi : JE X i mi)
    (hs : swapsWithSole [.Subscript o i pos'] e pos.line X.env = pure false := by rfl) (hw : swappedStores [.Subscript o i pos'] e X.env = pure none := by rfl)
    (h1 : (assignEach [.Subscript o i pos'] X.env).map (·.2) = [assign (.Subscript o i pos') X.env] := by rfl)
    (ha : ∀ v, assign (.Subscript o i pos') X.env v = (do
      let ov ← holding [v] (eval o X.env)
      let iv ← holding [v, ov] (eval i X.env)
      standAt pos'
      holding [v, ov, iv] (setItem ov iv v)
      release [v, ov, iv] []) := by intro _; rfl) : JS X (.Assign [.Subscript o i pos'] e pos) (sAsg ma (gIx mo mi xSet)) := js_asg hv (jg_sub ho hi set_list ok_set ha) hs hw h1
end
structure Fn (P : Program) (w : World) (K : PySem.W.Frag) (mg : Str → Option Value) (base : Heap) (k : Nat) (x : Str) (F : MF) (n : Nat) : Prop where
  ex : ∃ f fd ps, FnOk P w K mg base CX0 k f fd ps (spF K F n) ∧ Binds K fd ps [] ∧ PySem.W.keepIn K (.ref f) = true ∧ mg x = some (.ref f)
theorem je_fn {X : Cx} {e : Expr} {es : List Expr} {pos p : Pos} {ms : MA} {k n : Nat} {x : Str} {F : MF} (h : Fn X.prog X.w X.K X.mg X.base k x F n) (hr : Room k X.A) (ha : JA X (e :: es) ms)
    (hn : ∀ (τ : ASt) (h : AHp) (p : List A × AHp), ms τ h = some p → p.1.length = n := by repeat (first | exact len_nil | refine len_cons ?_))
    (hg : Gl X x := by rfl) (hdb : (x == ("__debug__" : Str)) = false := by decide) (he : starEach (e :: es) X.env = (false, eval e X.env) :: starEach es X.env := by rfl) (hpl : (backTo pos (starEach es X.env)).any (·.1) = false := by rfl) :
    JE X (.Call (.Name x p) (e :: es) [] pos) (eCall F ms) := by
  obtain ⟨f, fd, ps, h1, h2, h3, h4⟩ := h.ex
  exact je_call h1 hr h4 h3 h2 ha hn hg hdb he hpl
structure Def (K : PySem.W.Frag) (mg : Str → Option Value) (x : Str) (st : Stmt) (ps : List Str) : Prop where
  ex : ∃ f fd, Fun K x x st f fd ∧ Binds K fd ps [] ∧ mg x = some (.ref f)
theorem fn_mk {P : Program} {w : World} {K : PySem.W.Frag} {mg : Str → Option Value} {base : Heap} {x : Str} {st : Stmt} {N ps : List Str} {k n : Nat} {body : MS} (D : Def K mg x st ps) (S : FnScope N ps (defScope st)) (hn : ps.length = n)
    (hb : ∀ (f : Addr) (cdv : Value) (A : Around) (outer : List Env) (s : Shared) (H : Hp) (E : XK), Room k (A.deeper (envOfC x (defScope st) s.heap.objs.size f cdv)) → JB (cxOf CX0 P w K mg base N x (defScope st) f cdv A outer s H E).nox (defBody st) body) :
    Fn P w K mg base (k + 1) x (fnOf N.length body) n := by
  obtain ⟨f, fd, F, b, m⟩ := D.ex
  exact ⟨f, fd, ps, fn_ok F S hn (hb f), b, F.kp, m⟩
theorem fn_no {P : Program} {w : World} {K : PySem.W.Frag} {mg : Str → Option Value} {base : Heap} {x : Str} {st : Stmt} {ps : List Str} {k n : Nat} (D : Def K mg x st ps) : Fn P w K mg base k x (fun _ _ => none) n := by
  obtain ⟨f, fd, F, b, m⟩ := D.ex
  exact ⟨f, fd, ps, fn_zero, b, F.kp, m⟩
theorem Fn.mono {P : Program} {w : World} {K : PySem.W.Frag} {mg : Str → Option Value} {base : Heap} {x : Str} {k j n : Nat} {F : MF} (h : Fn P w K mg base k x F n) (hk : k ≤ j) : Fn P w K mg base j x F n := by
  obtain ⟨f, fd, ps, h1, h2, h3, h4⟩ := h.ex
  exact ⟨f, fd, ps, h1.mono hk, h2, h3, h4⟩
end Ab
set_option Elab.async false
set_option linter.all false
set_option maxRecDepth 100000
namespace Ab
open PySem PySem.Spec PyProof.Rows L2
set_option autoImplicit false
structure Cn (K : PySem.W.Frag) (mg : Str → Option Value) (x : Str) (a : A) : Prop where
  ex : ∃ v u, Cst K a v ∧ mg x = some u ∧ RelV v u
theorem je_cn {X : Cx} {x : Str} {a : A} {pos : Pos} (h : Cn X.K X.mg x a) (hg : Gl X x := by rfl) (hd : (x == ("__debug__" : Str)) = false := by decide) : JE X (.Name x pos) (eC a) := by
  obtain ⟨v, u, h1, h2, h3⟩ := h.ex
  exact je_glob h1 h2 h3 hg hd
theorem cn_str {K : PySem.W.Frag} {mg : Str → Option Value} {x i : Str} {t : Tok} (h : mg x = some (.str i t)) : Cn K mg x (.str i) := ⟨.str i, _, fun _ _ => .str i, h, ⟨t, rfl⟩⟩
theorem strs_rep {K : PySem.W.Frag} {ρ : List Addr} {H : Hp} : ∀ (xs : List Str), Reps K ρ H (xs.map A.str) (xs.map V.str)
  | [] => .nil
  | x :: r => .cons (.str x) (strs_rep r)
theorem cn_strs {K : PySem.W.Frag} {mg : Str → Option Value} {x : Str} {p : Addr} {xs : List Str} {oc : Value} {od : Option Addr} {its : Array Value} {n : Nat} {sl : Array (Option Value)} (h : mg x = some (.ref p)) (l : K.lookup p = some ⟨oc, od, .seq its n, sl⟩) (hc : oc = .type "tuple") (hz : its.size ≤ sizeLine) (hv : Vals (xs.map V.str) its.toList) : Cn K mg x (.tup (xs.map A.str)) :=
  ⟨.ref p, _, fun _ _ => .tup (.inr ⟨_, its, n, l, hc, rfl, hz, hv⟩) (strs_rep xs), h, rfl⟩
def spLaw (K : PySem.W.Frag) : Sp := fun vs H Q _ => ∃ (a : Addr) (ns : List Int), vs = [.ref a] ∧ RoL K H a (ns.map V.int) ∧ TabOk K H ∧ ns.length ≤ 63 ∧ ∀ H', Q (.bl true) H'
theorem law_imp {K : PySem.W.Frag} {F : MF} (hF : ∀ ns : List Int, ns.length ≤ 63 → ∃ h, F [.ro (ns.map A.int)] [] = some (.bl true, h)) : ∀ vs H Q E, spLaw K vs H Q E → spF K F 1 vs H Q E := by
  intro vs H Q E h
  obtain ⟨a, ns, rfl, hr, ht, hl, q⟩ := h
  obtain ⟨h', e⟩ := hF ns hl
  refine ⟨rfl, [], _, [], .bl true, h', ⟨rfl, List.nodup_nil, fun n p o e => by simp at e, ht⟩, .cons (.ro hr (Reps.ints ns)) .nil, e, fun ρ' H' v _ _ r => ?_⟩
  cases r
  exact q H'
def BMod (base : Heap) (mg : Str → Option Value) : Prop := ∃ bm o, mg "__builtins__" = some (.ref bm) ∧ bm ≠ builtinsNs ∧ bm ≠ mainGlobals ∧ base.get? bm = some o ∧ o.cls = .type "module" ∧ o.dict = some builtinsNs ∧ o.data = .plain
def OnlyT (ts : List Addr) (H : Hp) : Prop := ∀ b, (H b = none ∧ b ∉ ts) ∨ (∃ o xs, H b = some (.frz o (.lst xs)) ∧ b ∉ ts) ∨ (b ∈ ts ∧ H b = some (.tbl #[]))
theorem ro_ofT {K : PySem.W.Frag} {ts : List Addr} {H : Hp} {a : Addr} {xs : List V} (hO : OnlyT ts H) (h : SqL K H a xs) : RoL K H a xs := by
  rcases h with (h | ⟨o, h⟩) | h
  · rcases hO a with ⟨z, _⟩ | ⟨o, ys, z, _⟩ | ⟨_, z⟩ <;> (rw [h] at z; cases z)
  · exact .inl ⟨o, h⟩
  · exact .inr h
theorem law_callT {P : Program} {w : World} {K : PySem.W.Frag} {mg mb : Str → Option Value} {k : Nat} {fa a : Addr} {fd : FuncData} {x : Str} {sp : Sp} {s₁ : Shared} {vs : List Value} {ns : List Int} {ts : List Addr}
    (KX : K.In s₁.heap) (hns : s₁.heap.Ns mainGlobals mg) (hb : s₁.heap.Ns builtinsNs mb) (hbb : ∀ x : Str, x ≠ "__name__" → mb x = bootBuiltins x) (hlim : s₁.heap.NoLimit) (hg : s₁.gens = #[])
    (ha : s₁.heap.get? a = some { cls := .type "list", data := .seq vs.toArray }) (hi : IntsAre vs ns) (hl : ns.length ≤ sizeLine) (hr : Room k callerA)
    (hT : ∀ Q ∈ ts, s₁.heap.get? Q = some (PySem.W.tabObj #[]) ∧ isCodeTable s₁.heap Q) (hK : PySem.W.noTabs K = true) (hbm : BMod s₁.heap mg)
    (F : ∀ base : Heap, K.In base → base.Ns mainGlobals mg → BMod base mg → FnOk P w K mg base CX0 k fa fd [x] sp) (hbind : ∀ (s : Shared) (u : Value), BindsTo s fd ⟨[u], []⟩ [(x, u)])
    (hsp : ∀ H : Hp, OnlyT ts H → SqL K H a (ns.map V.int) → sp [.ref a] H (fun v _ => v = .bl true) fun _ _ _ => False) :
    codeAny (model P w) callerA (.call (.ref fa) ⟨[.ref a], []⟩) (fun r s' => r = .ok (.ret (.bool true)) ∧ OldK s₁.heap s'.heap ∧ s'.os = s₁.os ∧ AllBare s'.gens) s₁ := by
  have rv := vals_ints hi
  have lenV := hi.length
  have aT : a ∉ ts := fun m => by
    have e := (hT a m).1
    rw [ha] at e
    cases e
  have kT : ∀ b o, K.lookup b = some o → b ∉ ts := fun b o e m => by
    have e1 := KX b o e
    rw [(hT b m).1] at e1
    have h2 := List.all_eq_true.mp hK (b, o) (PySem.W.mem_of_lookupK e)
    cases e1
    exact absurd (show false = true from h2) Bool.false_ne_true
  have core : ∀ H : Hp, OnlyT ts H → SqL K H a (ns.map V.int) → HOk P w H s₁.heap → (∀ b, H b ≠ none → b = a ∨ b ∈ ts) → (H a ≠ none → K.lookup a = none) →
      codeAny (model P w) callerA (.call (.ref fa) ⟨[.ref a], []⟩) (fun r s' => r = .ok (.ret (.bool true)) ∧ OldK s₁.heap s'.heap ∧ s'.os = s₁.os ∧ AllBare s'.gens) s₁ := by
    intro H hO hS hok hA hKa
    have base_of : ∀ {b : Addr} {o : Obj}, s₁.heap.get? b = some o → H b = none → (hidT s₁.heap H).get? b = some o := fun e n => hidT_get e n
    have noA : ∀ {b : Addr} {o : Obj} {es : Array DictEntry} {ep : Nat}, s₁.heap.get? b = some o → o.data = .dict es ep → H b = none := fun {b o es ep} e d => by
      cases q : H b with
      | none => rfl
      | some u =>
        rcases hA b (by rw [q]; simp) with e' | e'
        · subst e'
          rw [ha] at e; cases e
          have d' : Data.seq vs.toArray _ = Data.dict es ep := d
          cases d'
        · rw [(hT b e').1] at e
          cases e
          have d' : Data.fields #[] = Data.dict es ep := d
          cases d'
    have nsK : ∀ {b : Addr} {m : Str → Option Value}, s₁.heap.Ns b m → (hidT s₁.heap H).Ns b m := fun {b m} ⟨o, es, ep, e, d, r⟩ => ⟨o, es, ep, base_of e (noA e d), d, r⟩
    have hKb : K.In (hidT s₁.heap H) := fun b o e => base_of (KX b o e) (by
      cases q : H b with
      | none => rfl
      | some u =>
        rcases hA b (by rw [q]; simp) with e' | e'
        · subst e'
          rw [hKa (by rw [q]; simp)] at e; cases e
        · exact absurd e' (kT b o e))
    have hM : Mod K mg (hidT s₁.heap H) := ⟨hKb, nsK hns, ⟨mb, nsK hb, hbb⟩, let ⟨mc, h1, h2⟩ := hlim; ⟨mc, nsK h1, h2⟩⟩
    have e0 : Env0 P w K mg (hidT s₁.heap H) callerA [] s₁ H := ⟨rfl, hM, fun b o e => of_hidT e, Nat.le_of_eq (hidT_size _ _), trivial, fun b hb => absurd (show b ∈ ([] : List Addr) from hb) (by simp), hok, .of_eq hg⟩
    have hBM : BMod (hidT s₁.heap H) mg := by
      obtain ⟨bm, ob, b1, b2, b3, b4, b5, b6, b7⟩ := hbm
      refine ⟨bm, ob, b1, b2, b3, base_of b4 ?_, b5, b6, b7⟩
      cases q : H bm with
      | none => rfl
      | some u =>
        rcases hA bm (by rw [q]; simp) with e' | e'
        · subst e'
          rw [ha] at b4; cases b4
          cases b7
        · rw [(hT bm e').1] at b4
          cases b4
          cases b7
    refine codeAny_mono ((F _ hKb (nsK hns) hBM).run callerA [] s₁ H ⟨[.ref a], []⟩ [.ref a] [.ref a] _ _ hr e0 (hbind s₁ (.ref a)) (.cons rfl .nil) (hsp H hO hS)) fun r s' h => ?_
    cases r with
    | error e => exact False.elim h
    | ok fl =>
      cases fl with
      | next => exact False.elim h
      | brk => exact False.elim h
      | cont => exact False.elim h
      | ret u =>
        obtain ⟨v, H', os, bare, un, hok', r', q⟩ := h
        have q' : v = .bl true := q
        subst q'
        obtain rfl : u = Value.bool true := r'
        have kp : ∀ b o, b ∉ ts → s₁.heap.get? b = some o → s'.heap.get? b = some o := fun b o hb e => by
          rcases hO b with ⟨z, _⟩ | ⟨ob, xs, z, _⟩ | ⟨z, _⟩
          · exact un.keep b o e z (by intro z; exact absurd (show b ∈ ([] : List Addr) from z) (by simp)) (by simp)
          · have z2 := un.frzs b ob _ z
            obtain ⟨e1, _⟩ := hok b _ z
            obtain ⟨e2, _⟩ := hok' b _ z2
            rw [e] at e1; cases e1
            exact e2
          · exact absurd z hb
        have tb : ∀ b, b ∈ ts → ∃ ps, s'.heap.get? b = some (PySem.W.tabObj ps) := fun b hb => by
          rcases hO b with ⟨_, z⟩ | ⟨_, _, _, z⟩ | ⟨_, z⟩
          · exact absurd hb z
          · exact absurd hb z
          · obtain ⟨more, z2⟩ := un.tbls b _ z
            exact ⟨_, hok' b _ z2⟩
        refine ⟨rfl, ⟨fun b o e => ?_, fun b o e => ?_⟩, os, bare⟩
        · by_cases hb : b ∈ ts
          · obtain ⟨ps, hP⟩ := tb b hb
            obtain ⟨h1, h2⟩ := hT b hb
            rw [e] at h1
            cases h1
            exact .inr (.inl ⟨h2, rfl, #[], ps, rfl, by rw [Array.empty_append]; exact hP⟩)
          · exact .inl (kp b o hb e)
        · by_cases hb : b ∈ ts
          · obtain ⟨ps, hP⟩ := tb b hb
            exact ⟨_, hP⟩
          · exact ⟨o, kp b o hb e⟩
  have tO : ∀ b ∈ ts, ObjOk P w (fun b => if b ∈ ts then some (.tbl #[]) else none) s₁.heap b (.tbl #[]) := fun b hb => (hT b hb).1
  cases hk : K.lookup a with
  | some o =>
    have e := KX a o hk
    rw [ha] at e
    cases e
    refine core (fun b => if b ∈ ts then some (.tbl #[]) else none) (fun b => ?_) (.inr ⟨_, vs.toArray, _, hk, rfl, rfl, rfl, by rw [List.size_toArray, lenV]; exact hl, by simpa using rv⟩) (fun b u z => ?_) (fun b z => ?_) fun z => absurd (if_neg aT) z
    · by_cases hb : b ∈ ts
      · exact .inr (.inr ⟨hb, if_pos hb⟩)
      · exact .inl ⟨if_neg hb, hb⟩
    · by_cases hb : b ∈ ts
      · have z' := (if_pos hb).symm.trans z
        cases z'
        exact (hT b hb).1
      · have z' := (if_neg hb).symm.trans z
        cases z'
    · by_cases hb : b ∈ ts
      · exact .inr hb
      · exact absurd (if_neg hb) z
  | none =>
    refine core (fun b => if b = a then some (.frz { cls := .type "list", data := .seq vs.toArray } (.lst (ns.map V.int))) else if b ∈ ts then some (.tbl #[]) else none) (fun b => ?_) (.inl (.inr ⟨{ cls := .type "list", data := .seq vs.toArray }, if_pos rfl⟩)) (fun b u z => ?_) (fun b z => ?_) fun _ => hk
    · by_cases hb : b = a
      · subst hb; exact .inr (.inl ⟨_, _, if_pos rfl, aT⟩)
      · by_cases hb2 : b ∈ ts
        · exact .inr (.inr ⟨hb2, (if_neg hb).trans (if_pos hb2)⟩)
        · exact .inl ⟨(if_neg hb).trans (if_neg hb2), hb2⟩
    · by_cases hb : b = a
      · have z' := (if_pos hb).symm.trans z
        cases z'
        subst hb
        exact ⟨ha, by rw [List.length_map]; exact hl, vs, _, rv, ha⟩
      · have z' := (if_neg hb).symm.trans z
        by_cases hb2 : b ∈ ts
        · have z2 := (if_pos hb2).symm.trans z'
          cases z2
          exact (hT b hb2).1
        · have z2 := (if_neg hb2).symm.trans z'
          cases z2
    · by_cases hb : b = a
      · exact .inl hb
      · by_cases hb2 : b ∈ ts
        · exact .inr hb2
        · exact absurd ((if_neg hb).trans (if_neg hb2)) z
def tabAll (K : PySem.W.Frag) (o : Obj) : Option (Str × Addr) := match o.data with
  | .func fd => if hasLam fd.body then (match fd.code with
    | .ref c => tabOf K o c
    | _ => none) else none
  | _ => none
theorem tabAll_of {K : PySem.W.Frag} {o : Obj} {c : Addr} {z : Str × Addr} (h : tabOf K o c = some z) : tabAll K o = some z := by
  have h0 := h
  unfold tabOf at h
  unfold tabAll
  split at h
  · rename_i fd hd
    split at h
    · rename_i hl
      split at h
      · rename_i c' hc
        split at h
        · rename_i e
          subst e
          simp only [hd, hl, if_true, hc]
          exact h0
        · cases h
      · cases h
    · cases h
  · cases h
def tabsIn (K : PySem.W.Frag) (ts : List Addr) : Bool := K.all fun p => match tabAll K p.2 with
  | some (_, P) => ts.contains P
  | none => true
theorem tabs_in {K : PySem.W.Frag} {ts : List Addr} (h : tabsIn K ts = true) {c P : Addr} {q : Str} (i : IsTab K c P q) : P ∈ ts := by
  obtain ⟨f, o, qn, l, t, _⟩ := i
  have z := List.all_eq_true.mp h (f, o) (PySem.W.mem_of_lookupK l)
  simp only [tabAll_of t] at z
  simpa using z
def tabUniq (K : PySem.W.Frag) : Bool := K.all fun p => match tabAll K p.2 with
  | none => true
  | some (q1, P1) => K.all fun r => match tabAll K r.2 with
    | none => true
    | some (q2, P2) => !(P1 == P2) || q1 == q2
theorem tab_uq {K : PySem.W.Frag} (h : tabUniq K = true) {c1 c2 P : Addr} {q1 q2 : Str} (i : IsTab K c1 P q1) (j : IsTab K c2 P q2) : q1 = q2 := by
  obtain ⟨f1, o1, n1, l1, t1, rfl⟩ := i
  obtain ⟨f2, o2, n2, l2, t2, rfl⟩ := j
  have z := List.all_eq_true.mp h (f1, o1) (PySem.W.mem_of_lookupK l1)
  simp only [tabAll_of t1] at z
  have z2 := List.all_eq_true.mp z (f2, o2) (PySem.W.mem_of_lookupK l2)
  simp only [tabAll_of t2] at z2
  have : n1 = n2 := by simpa using z2
  rw [this]
theorem walk {l : PySem.W.OpenLaw} {q : Program} {loose : List Str} {XP : (Str → Option Value) → Heap → Prop} {YP : World → Heap → Prop} {d : DefRec} {K : Params → PySem.W.Frag} {ts : List Addr} {k : Nat} {x : Str} (hn : l.most = some 63) (hdf : d.params.defaults = []) (hr : Room k callerA)
    (hY : ∀ (w : World) (h : Heap), YP w h → (K w.params).In h) (hT : ∀ (w : World) (h : Heap), YP w h → ∀ Q ∈ ts, h.get? Q = some (PySem.W.tabObj #[])) (hC : ∀ w : World, (ts.all fun Q => (K w.params).any fun p => PySem.W.codeHdIn (K w.params) p.1 Q) = true)
    (hN : ∀ w : World, PySem.W.noTabs (K w.params) = true) (hI : ∀ w : World, tabsIn (K w.params) ts = true) (hU : ∀ w : World, tabUniq (K w.params) = true)
    (F : ∀ (w : World) (mg : Str → Option Value) (fa : Addr) (h : Heap), (K w.params).In h → h.Ns mainGlobals mg → mg d.name = some (.ref fa) →
      ∃ fd : FuncData, (∀ (s : Shared) (u : Value), BindsTo s fd ⟨[u], []⟩ [(x, u)]) ∧ ∀ base : Heap, (K w.params).In base → base.Ns mainGlobals mg → BMod base mg → FnOk l.prog w (K w.params) mg base CX0 k fa fd [x] (spLaw (K w.params))) :
    PySem.W.WalkO q loose XP YP l.row.toRowW d [] (fun f vs => PySem.call f vs) := by
  refine Att.attach_call hn hdf fun w s₀ s₁ mg mb fa o pm cd doc a vs ns G Y ho hd hcd hmg hobj hints hlen hg => ?_
  have KX := hY w _ Y
  obtain ⟨fd, hb, hF⟩ := F w mg fa _ KX G.T.g hmg
  refine law_callT KX G.T.g G.T.b G.T.builtins G.T.nolimit hg hobj hints (Nat.le_trans hlen (by decide)) hr (fun Q m => ⟨hT w _ Y Q m, ?_⟩) (hN w) ?_ hF hb fun H hO hS => ?_
  · obtain ⟨⟨c, _⟩, _, e⟩ := List.any_eq_true.mp (List.all_eq_true.mp (hC w) Q m)
    exact ((PySem.W.codeHd_of_K KX e).tab (hT w _ Y Q m)).isCodeTable
  · obtain ⟨bm, ob, b1, b2, b3, b4, b5, b6⟩ := G.T.bmain
    refine ⟨bm, ob, b1, b2, fun q => ?_, b3, b4, b5, b6⟩
    obtain ⟨o, es, ep, e, hd, _⟩ := G.T.g
    rw [q, e] at b3; cases b3; rw [hd] at b6; cases b6
  · refine ⟨a, ns, rfl, ro_ofT hO hS, ⟨fun _ _ _ _ _ i j => tab_uq (hU w) i j, fun c P q i => ?_⟩, hlen, fun _ => rfl⟩
    have m := tabs_in (hI w) i
    rcases hO P with ⟨_, z⟩ | ⟨_, _, _, z⟩ | ⟨_, z⟩
    · exact absurd m z
    · exact absurd m z
    · exact ⟨#[], z, trivial, fun pos cv e => by cases e⟩
end Ab
set_option Elab.async false
set_option linter.all false
set_option maxRecDepth 100000
namespace Ab
open PySem PyProof.Rows L2
set_option autoImplicit false
section
variable {f g : A → A → AHp → Rs A} {ma mb mc : ME} {m m' : MT} {ms : MA} {τ τ' : ASt} {h h' : AHp} {a b c : A} {s t : MS} {as : List A}
theorem ev_bind {α β : Type} {x : α} {k : α → Option β} : Option.bind (some x) k = k x := id rfl
def k1 (f : A → A → AHp → Rs A) (mb : ME) (τ : ASt) : A × AHp → Rs A := fun p => (mb τ p.2).bind fun q => f p.1 q.1 q.2
def k2 (f : A → A → AHp → Rs A) (a : A) : A × AHp → Rs A := fun q => f a q.1 q.2
theorem ev_op : eOp f ma mb τ h = (ma τ h).bind (k1 f mb τ) := id rfl
theorem ev_k1 : k1 f mb τ (a, h) = (mb τ h).bind (k2 f a) := id rfl
theorem ev_k2 : k2 f a (b, h) = f a b h := id rfl
theorem ev_C : eC a τ h = some (a, h) := id rfl
def kVar (h : AHp) : Option (Option A) → Rs A
  | some (some a) => some (a, h)
  | _ => none
theorem ev_var {i : Nat} : eVar i τ h = kVar h (τ[i]?) := by
  unfold eVar kVar
  cases τ[i]? with
  | none => rfl
  | some o => cases o <;> rfl
theorem ev_kVar : kVar h (some (some a)) = some (a, h) := id rfl
def ku (f : A → AHp → Rs A) : A × AHp → Rs A := fun p => f p.1 p.2
theorem ev_un {f : A → AHp → Rs A} : eUn f ma τ h = (ma τ h).bind (ku f) := id rfl
theorem ev_ku {f : A → AHp → Rs A} : ku f (a, h) = f a h := id rfl
def kc1 (f g : A → A → AHp → Rs A) (mb mc : ME) (τ : ASt) : A × AHp → Rs A := fun p => (mb τ p.2).bind fun q => (f p.1 q.1 q.2).bind fun z => match z.1 with
  | .bl true => (mc τ z.2).bind fun w => g q.1 w.1 w.2
  | .bl false => some (.bl false, z.2)
  | _ => none
def kc2 (f g : A → A → AHp → Rs A) (mc : ME) (τ : ASt) (a : A) : A × AHp → Rs A := fun q => (f a q.1 q.2).bind fun z => match z.1 with
  | .bl true => (mc τ z.2).bind fun w => g q.1 w.1 w.2
  | .bl false => some (.bl false, z.2)
  | _ => none
def kc3 (g : A → A → AHp → Rs A) (mc : ME) (τ : ASt) (b : A) : A × AHp → Rs A := fun z => match z.1 with
  | .bl true => (mc τ z.2).bind fun w => g b w.1 w.2
  | .bl false => some (.bl false, z.2)
  | _ => none
theorem ev_chain : eChain f g ma mb mc τ h = (ma τ h).bind (kc1 f g mb mc τ) := id rfl
theorem ev_kc1 : kc1 f g mb mc τ (a, h) = (mb τ h).bind (kc2 f g mc τ a) := id rfl
theorem ev_kc2 : kc2 f g mc τ a (b, h) = (f a b h).bind (kc3 g mc τ b) := id rfl
theorem ev_kc3t : kc3 g mc τ b (.bl true, h) = (mc τ h).bind (k2 g b) := id rfl
theorem ev_kc3f : kc3 g mc τ b (.bl false, h) = some (.bl false, h) := id rfl
def kTr : A × AHp → Rs Bool := fun p => (tru p.1 p.2).bind fun b => some (b, p.2)
theorem ev_tru : mTru ma τ h = (ma τ h).bind kTr := id rfl
theorem ev_kTrb {b : Bool} : kTr (.bl b, h) = some (b, h) := id rfl
theorem ev_kTrl {n : Nat} {xs : List A} (e : h[n]? = some (.lst xs)) : kTr (.loc n, h) = some (!xs.isEmpty, h) := by
  unfold kTr tru; simp only [e]; rfl
theorem ev_kTri {i : Int} : kTr (.int i, h) = some (i != 0, h) := id rfl
def kB : A × AHp → Rs Bool := fun p => match p.1 with | .bl b => some (b, p.2) | _ => none
theorem ev_B : mB ma τ h = (ma τ h).bind kB := id rfl
theorem ev_kB {b : Bool} : kB (.bl b, h) = some (b, h) := id rfl
def kAnd (m : MT) (τ : ASt) : Bool × AHp → Rs Bool := fun p => if p.1 = true then m τ p.2 else some (false, p.2)
def kOr (m : MT) (τ : ASt) : Bool × AHp → Rs Bool := fun p => if p.1 = true then some (true, p.2) else m τ p.2
def kNot : Bool × AHp → Rs Bool := fun p => some (!p.1, p.2)
theorem ev_and : mAnd m m' τ h = (m τ h).bind (kAnd m' τ) := id rfl
theorem ev_or : mOr m m' τ h = (m τ h).bind (kOr m' τ) := id rfl
theorem ev_not : mNot m τ h = (m τ h).bind kNot := id rfl
theorem ev_kAt : kAnd m τ (true, h) = m τ h := id rfl
theorem ev_kAf : kAnd m τ (false, h) = some (false, h) := id rfl
theorem ev_kOt : kOr m τ (true, h) = some (true, h) := id rfl
theorem ev_kOf : kOr m τ (false, h) = m τ h := id rfl
theorem ev_kN {b : Bool} : kNot (b, h) = some (!b, h) := id rfl
def kEA (mb : ME) (τ : ASt) : A × AHp → Rs A := fun p => match p.1 with | .bl true => mb τ p.2 | .bl false => some (.bl false, p.2) | _ => none
def kEO (mb : ME) (τ : ASt) : A × AHp → Rs A := fun p => match p.1 with | .bl false => mb τ p.2 | .bl true => some (.bl true, p.2) | _ => none
def kEN : A × AHp → Rs A := fun p => match p.1 with | .bl b => some (.bl (!b), p.2) | _ => none
theorem ev_eand : eAnd ma mb τ h = (ma τ h).bind (kEA mb τ) := id rfl
theorem ev_eor : eOr ma mb τ h = (ma τ h).bind (kEO mb τ) := id rfl
theorem ev_enot : eNot ma τ h = (ma τ h).bind kEN := id rfl
theorem ev_kEAt : kEA mb τ (.bl true, h) = mb τ h := id rfl
theorem ev_kEAf : kEA mb τ (.bl false, h) = some (.bl false, h) := id rfl
theorem ev_kEOt : kEO mb τ (.bl true, h) = some (.bl true, h) := id rfl
theorem ev_kEOf : kEO mb τ (.bl false, h) = mb τ h := id rfl
theorem ev_kEN {b : Bool} : kEN (.bl b, h) = some (.bl (!b), h) := id rfl
def kEI (ma mb : ME) (τ : ASt) : Bool × AHp → Rs A := fun p => if p.1 = true then ma τ p.2 else mb τ p.2
theorem ev_eif : eIf m ma mb τ h = (m τ h).bind (kEI ma mb τ) := id rfl
theorem ev_kEIt : kEI ma mb τ (true, h) = ma τ h := id rfl
theorem ev_kEIf : kEI ma mb τ (false, h) = mb τ h := id rfl
def ka1 (ms : MA) (τ : ASt) : A × AHp → Rs (List A) := fun p => (ms τ p.2).bind fun q => some (p.1 :: q.1, q.2)
def ka2 (a : A) : List A × AHp → Rs (List A) := fun q => some (a :: q.1, q.2)
theorem ev_anil : aNil τ h = some ([], h) := id rfl
theorem ev_acons : aCons ma ms τ h = (ma τ h).bind (ka1 ms τ) := id rfl
theorem ev_ka1 : ka1 ms τ (a, h) = (ms τ h).bind (ka2 a) := id rfl
theorem ev_ka2 : ka2 a (as, h) = some (a :: as, h) := id rfl
def kTu : List A × AHp → Rs A := fun p => if p.1.length ≤ 100000 then some (.tup p.1, p.2) else none
def kLs : List A × AHp → Rs A := fun p => if p.1.length ≤ 100000 then some (.loc p.2.length, p.2 ++ [.lst p.1]) else none
theorem ev_tup : eTup ms τ h = (ms τ h).bind kTu := id rfl
theorem ev_lst : eLst ms τ h = (ms τ h).bind kLs := id rfl
theorem ev_kTu (e : as.length ≤ 100000) : kTu (as, h) = some (.tup as, h) := if_pos e
theorem ev_kLs (e : as.length ≤ 100000) : kLs (as, h) = some (.loc h.length, h ++ [.lst as]) := if_pos e
def kCa (F : MF) : List A × AHp → Rs A := fun p => F p.1 p.2
theorem ev_call {F : MF} : eCall F ms τ h = (ms τ h).bind (kCa F) := id rfl
theorem ev_kCa {F : MF} : kCa F (as, h) = F as h := id rfl
def kSq (t : MS) : Fl × AHp → Rs Fl := fun p => match p.1 with | .nx τ1 => t τ1 p.2 | f => some (f, p.2)
theorem ev_seq : sSeq s t τ h = (s τ h).bind (kSq t) := id rfl
theorem ev_kSn : kSq t (.nx τ, h) = t τ h := id rfl
theorem ev_kSr : kSq t (.rt a, h) = some (.rt a, h) := id rfl
theorem ev_kSb : kSq t (.bk τ, h) = some (.bk τ, h) := id rfl
theorem ev_kSc : kSq t (.ct τ, h) = some (.ct τ, h) := id rfl
theorem ev_nx : sNx τ h = some (.nx τ, h) := id rfl
theorem ev_bk : sBk τ h = some (.bk τ, h) := id rfl
theorem ev_ct : sCt τ h = some (.ct τ, h) := id rfl
def kRt : A × AHp → Rs Fl := fun p => some (.rt p.1, p.2)
theorem ev_ret : sRet ma τ h = (ma τ h).bind kRt := id rfl
theorem ev_kRt : kRt (a, h) = some (.rt a, h) := id rfl
theorem ev_retN : sRetN τ h = some (.rt .non, h) := id rfl
def kIf (s t : MS) (τ : ASt) : Bool × AHp → Rs Fl := fun p => if p.1 = true then s τ p.2 else t τ p.2
theorem ev_if : sIf m s t τ h = (m τ h).bind (kIf s t τ) := id rfl
theorem ev_kIt : kIf s t τ (true, h) = s τ h := id rfl
theorem ev_kIf : kIf s t τ (false, h) = t τ h := id rfl
def kX (τ : ASt) : A × AHp → Rs Fl := fun p => some (.nx τ, p.2)
theorem ev_x : sX ma τ h = (ma τ h).bind (kX τ) := id rfl
theorem ev_kX : kX τ (a, h) = some (.nx τ, h) := id rfl
def kAs (g : MG) (τ : ASt) : A × AHp → Rs Fl := fun p => (g p.1 τ p.2).bind fun q => some (.nx q.1, q.2)
def kAs2 : ASt × AHp → Rs Fl := fun q => some (.nx q.1, q.2)
theorem ev_asg {g : MG} : sAsg ma g τ h = (ma τ h).bind (kAs g τ) := id rfl
theorem ev_kAs {g : MG} : kAs g τ (a, h) = (g a τ h).bind kAs2 := id rfl
theorem ev_kAs2 : kAs2 (τ, h) = some (.nx τ, h) := id rfl
theorem ev_gN {i : Nat} : gN i a τ h = some (τ.set i (some a), h) := id rfl
theorem ev_gT {i j : Nat} : gT i j (.tup [a, b]) τ h = some ((τ.set i (some a)).set j (some b), h) := id rfl
theorem ev_gT3 {i j k : Nat} : gT3 i j k (.tup [a, b, c]) τ h = some (((τ.set i (some a)).set j (some b)).set k (some c), h) := id rfl
def kG1 (mi : ME) (f : A → A → A → AHp → Option AHp) (a : A) (τ : ASt) : A × AHp → Option (ASt × AHp) := fun p => (mi τ p.2).bind fun q => (f p.1 q.1 a q.2).bind fun h' => some (τ, h')
def kG2 (f : A → A → A → AHp → Option AHp) (a o : A) (τ : ASt) : A × AHp → Option (ASt × AHp) := fun q => (f o q.1 a q.2).bind fun h' => some (τ, h')
def kG3 (τ : ASt) : AHp → Option (ASt × AHp) := fun h' => some (τ, h')
theorem ev_gIx {mo mi : ME} {f : A → A → A → AHp → Option AHp} : gIx mo mi f a τ h = (mo τ h).bind (kG1 mi f a τ) := id rfl
theorem ev_kG1 {mi : ME} {f : A → A → A → AHp → Option AHp} : kG1 mi f a τ (b, h) = (mi τ h).bind (kG2 f a b τ) := id rfl
theorem ev_kG2 {f : A → A → A → AHp → Option AHp} : kG2 f a b τ (c, h) = (f b c a h).bind (kG3 τ) := id rfl
theorem ev_kG3 : kG3 τ h = some (τ, h) := id rfl
def kFn : Fl × AHp → Rs A := fun p => match p.1 with
  | .rt a => some (a, p.2)
  | .nx _ => some (.non, p.2)
  | _ => none
theorem ev_kFr : kFn (.rt a, h) = some (a, h) := id rfl
theorem ev_kFn : kFn (.nx τ, h) = some (.non, h) := id rfl
def kFo (g : MG) (s : MS) (τ : ASt) : AIt × AHp → Rs Fl := fun p => forL p.1 g s p.1.n 0 τ p.2
theorem ev_for {mi : MI} {g : MG} : sFor mi g s τ h = (mi τ h).bind (kFo g s τ) := id rfl
theorem ev_kFo {it : AIt} {g : MG} : kFo g s τ (it, h) = forL it g s it.n 0 τ h := id rfl
def kMt1 (F : A → List A → AHp → Rs A) (ms : MA) (τ : ASt) : A × AHp → Rs A := fun p => if isLst p.1 p.2 = true then (ms τ p.2).bind fun q => F p.1 q.1 q.2 else none
def kMt2 (F : A → List A → AHp → Rs A) (o : A) : List A × AHp → Rs A := fun q => F o q.1 q.2
theorem ev_mt {F : A → List A → AHp → Rs A} : eMt F ma ms τ h = (ma τ h).bind (kMt1 F ms τ) := id rfl
theorem ev_kMt1 {F : A → List A → AHp → Rs A} {n : Nat} {xs : List A} (e : h[n]? = some (.lst xs)) : kMt1 F ms τ (.loc n, h) = (ms τ h).bind (kMt2 F (.loc n)) := by
  unfold kMt1 isLst; simp only [e]; rfl
theorem ev_kMt2 {F : A → List A → AHp → Rs A} : kMt2 F a (as, h) = F a as h := id rfl
def kMs1 (F : A → List A → AHp → Rs A) (ms : MA) (τ : ASt) : A × AHp → Rs A := fun p => match p.1 with | .str _ => (ms τ p.2).bind fun q => F p.1 q.1 q.2 | _ => none
theorem ev_ms {F : A → List A → AHp → Rs A} : eMs F ma ms τ h = (ma τ h).bind (kMs1 F ms τ) := id rfl
theorem ev_kMs1 {F : A → List A → AHp → Rs A} {x : Str} : kMs1 F ms τ (.str x, h) = (ms τ h).bind (kMt2 F (.str x)) := id rfl
def kSl1 (ml mh : ASt → AHp → Rs (Option Int)) (τ : ASt) : A × AHp → Rs A := fun p => (ml τ p.2).bind fun l => (mh τ l.2).bind fun u => xSl p.1 l.1 u.1 u.2
def kSl2 (mh : ASt → AHp → Rs (Option Int)) (τ : ASt) (a : A) : Option Int × AHp → Rs A := fun l => (mh τ l.2).bind fun u => xSl a l.1 u.1 u.2
def kSl3 (a : A) (l : Option Int) : Option Int × AHp → Rs A := fun u => xSl a l u.1 u.2
variable {ml mh : ASt → AHp → Rs (Option Int)} {lo hi : Option Int}
theorem ev_sl : eSl ma ml mh τ h = (ma τ h).bind (kSl1 ml mh τ) := id rfl
theorem ev_kSl1 : kSl1 ml mh τ (a, h) = (ml τ h).bind (kSl2 mh τ a) := id rfl
theorem ev_kSl2 : kSl2 mh τ a (lo, h) = (mh τ h).bind (kSl3 a lo) := id rfl
theorem ev_kSl3 : kSl3 a lo (hi, h) = xSl a lo hi h := id rfl
theorem ev_noPart : mNoPart τ h = some (none, h) := id rfl
def kPt : A × AHp → Rs (Option Int) := fun p => match p.1 with | .int i => some (some i, p.2) | _ => none
theorem ev_part : mPart ma τ h = (ma τ h).bind kPt := id rfl
theorem ev_kPt {i : Int} : kPt (.int i, h) = some (some i, h) := id rfl
def kR1 : List A × AHp → Rs AIt := fun p => match p.1 with
  | [.int j] => if -(2 ^ 62) ≤ j ∧ j < 2 ^ 62 then some (itR 0 j.toNat, p.2) else none
  | _ => none
theorem ev_rng1 : iRng1M ms τ h = (ms τ h).bind kR1 := id rfl
theorem ev_kR1 {j : Int} (e : -(2 ^ 62) ≤ j ∧ j < 2 ^ 62) : kR1 ([.int j], h) = some (itR 0 j.toNat, h) := if_pos e
def kIS : A × AHp → Rs AIt := fun p => match p.1 with
  | .str x => some (itS x, p.2)
  | _ => none
theorem ev_istr : iStrM ma τ h = (ma τ h).bind kIS := id rfl
theorem ev_kIS {x : Str} : kIS (.str x, h) = some (itS x, h) := id rfl
def kIL : A × AHp → Rs AIt := fun p => match p.1 with
  | .loc n => (lstA (.loc n) p.2).bind fun xs => some (itL n xs.length, p.2)
  | .ro xs => some (itT xs, p.2)
  | _ => none
theorem ev_ilst : iLst ma τ h = (ma τ h).bind kIL := id rfl
theorem ev_kILr {xs : List A} : kIL (.ro xs, h) = some (itT xs, h) := id rfl
theorem ev_kILl {n : Nat} {xs : List A} (e : h[n]? = some (.lst xs)) : kIL (.loc n, h) = some (itL n xs.length, h) := by
  unfold kIL lstA; simp only [e]; rfl
def kLc (j : Nat) (mt : MT) (me : ME) (τ : ASt) : AIt × AHp → Rs A := fun p => (lcL p.1 j mt me (τ.set j none) p.1.n 0 [] p.2).bind fun q => some (.loc q.2.length, q.2 ++ [.lst q.1])
def kLc2 : List A × AHp → Rs A := fun q => some (.loc q.2.length, q.2 ++ [.lst q.1])
theorem ev_lc {mi : MI} {j : Nat} {mt : MT} {me : ME} : eLc mi j mt me τ h = (mi τ h).bind (kLc j mt me τ) := id rfl
theorem ev_kLc {it : AIt} {j : Nat} {mt : MT} {me : ME} : kLc j mt me τ (it, h) = (lcL it j mt me (τ.set j none) it.n 0 [] h).bind kLc2 := id rfl
theorem ev_kLc2 : kLc2 (as, h) = some (.loc h.length, h ++ [.lst as]) := id rfl
theorem ev_yes : mYes τ h = some (true, h) := id rfl
theorem v_addI {i j : Int} : oAdd (.int i) (.int j) h = some (.int (i + j), h) := id rfl
theorem v_addS {x y : Str} (e : x.length + y.length ≤ 100000) : oAdd (.str x) (.str y) h = some (.str (x ++ y), h) := if_pos e
theorem v_addL {m n : Nat} {xs ys : List A} (e1 : h[m]? = some (.lst xs)) (e2 : h[n]? = some (.lst ys)) (e : xs.length + ys.length ≤ 100000) : oAdd (.loc m) (.loc n) h = some (.loc h.length, h ++ [.lst (xs ++ ys)]) := by
  show (match h[m]?, h[n]? with
    | some (AO.lst xs), some (AO.lst ys) => if xs.length + ys.length ≤ 100000 then some (A.loc h.length, h ++ [AO.lst (xs ++ ys)]) else none
    | _, _ => none) = _
  rw [e1, e2]; exact if_pos e
theorem v_sub {i j : Int} : oSub (.int i) (.int j) h = some (.int (i - j), h) := id rfl
theorem v_mod {i j : Int} (e : 0 < j) : oMod (.int i) (.int j) h = some (.int (i % j), h) := if_pos e
theorem v_div {i j : Int} (e : 0 < j ∧ j < 1073741824) : oDiv (.int i) (.int j) h = some (.int (i / j), h) := if_pos e
theorem v_mulL {i j : Int} (e : -(2 ^ 64) < i) (e2 : i < 2 ^ 64) : oMul (.int i) (.int j) h = some (.int (i * j), h) := if_pos (.inl ⟨e, e2⟩)
theorem v_mulR {i j : Int} (e : -(2 ^ 64) < j) (e2 : j < 2 ^ 64) : oMul (.int i) (.int j) h = some (.int (i * j), h) := if_pos (.inr ⟨e, e2⟩)
theorem v_pow {i j : Int} (e : 0 ≤ j ∧ j ≤ 1000000 ∧ i.natAbs < 2 ^ 64) : oPow (.int i) (.int j) h = some (.int (i ^ j.toNat), h) := if_pos e
theorem v_neg {i : Int} : uNeg (.int i) h = some (.int (-i), h) := id rfl
theorem v_lt {i j : Int} : cLt (.int i) (.int j) h = some (.bl (decide (i < j)), h) := id rfl
theorem v_le {i j : Int} : cLe (.int i) (.int j) h = some (.bl (decide (i ≤ j)), h) := id rfl
theorem v_gt {i j : Int} : cGt (.int i) (.int j) h = some (.bl (decide (j < i)), h) := id rfl
theorem v_ge {i j : Int} : cGe (.int i) (.int j) h = some (.bl (decide (j ≤ i)), h) := id rfl
theorem v_eqI {i j : Int} : cEq (.int i) (.int j) h = some (.bl (i == j), h) := id rfl
theorem v_neI {i j : Int} : cNe (.int i) (.int j) h = some (.bl (!(i == j)), h) := id rfl
theorem v_eqS {i j : Str} : cEq (.str i) (.str j) h = some (.bl (i == j), h) := id rfl
theorem v_neS {i j : Str} : cNe (.str i) (.str j) h = some (.bl (!(i == j)), h) := id rfl
theorem v_neB {i j : Bool} : cNe (.bl i) (.bl j) h = some (.bl (!(i == j)), h) := id rfl
theorem v_eqB {i j : Bool} : cEq (.bl i) (.bl j) h = some (.bl (i == j), h) := id rfl
theorem v_ixL {n : Nat} {i : Int} {xs : List A} {v : A} (e : h[n]? = some (.lst xs)) (e2 : atI xs i = some v) : xIx (.loc n) (.int i) h = some (v, h) := by
  show ((match h[n]? with | some (.lst xs) => some (false, xs) | _ => none).bind fun p : Bool × List A => (atI p.2 i).bind fun v => some (v, h)) = _
  rw [e]; show (atI xs i).bind _ = _; rw [e2]; rfl
theorem v_ixT {i : Int} {xs : List A} {v : A} (e2 : atI xs i = some v) : xIx (.tup xs) (.int i) h = some (v, h) := by
  show (atI xs i).bind _ = _; rw [e2]; rfl
theorem v_ixR {i : Int} {xs : List A} {v : A} (e2 : atI xs i = some v) : xIx (.ro xs) (.int i) h = some (v, h) := by
  show (atI xs i).bind _ = _; rw [e2]; rfl
theorem v_ixS {i : Int} {x : Str} {c : Nat} (e : x.length ≤ 100000) (e2 : atI x.cps.toList i = some c) : xIx (.str x) (.int i) h = some (.str ⟨#[c]⟩, h) := by
  show (if x.length ≤ 100000 then (atI x.cps.toList i).bind fun c => some (A.str ⟨#[c]⟩, h) else none) = _
  rw [if_pos e, e2]; rfl
theorem v_set {n j : Nat} {k : Int} {xs : List A} (e : h[n]? = some (.lst xs)) (e2 : ixN xs.length k = some j) : xSet (.loc n) (.int k) a h = some (h.set n (.lst (xs.set j a))) := by
  show (match h[n]? with | some (.lst xs) => (ixN xs.length k).bind fun j => some (h.set n (AO.lst (xs.set j a))) | _ => none) = _
  rw [e]; show (ixN xs.length k).bind _ = _; rw [e2]; rfl
theorem v_lenL {n : Nat} {xs : List A} (e : h[n]? = some (.lst xs)) : bLen [.loc n] h = some (.int xs.length, h) := by
  show ((match h[n]? with | some (.lst xs) => some (false, xs) | _ => none).bind fun p : Bool × List A => some (A.int p.2.length, h)) = _
  rw [e]; rfl
theorem v_lenT {xs : List A} : bLen [.tup xs] h = some (.int xs.length, h) := id rfl
theorem v_lenR {xs : List A} : bLen [.ro xs] h = some (.int xs.length, h) := id rfl
theorem v_lenS {x : Str} (e : x.length ≤ 100000) : bLen [.str x] h = some (.int x.length, h) := if_pos e
theorem v_max {i j : Int} : bMax2 [.int i, .int j] h = some (.int (if j > i then j else i), h) := id rfl
theorem v_min {i j : Int} : bMin2 [.int i, .int j] h = some (.int (if j < i then j else i), h) := id rfl
theorem v_append {n : Nat} {xs : List A} (e : h[n]? = some (.lst xs)) (e2 : xs.length < 100000) : fAppend (.loc n) [a] h = some (.non, h.set n (.lst (xs ++ [a]))) := by
  show (match h[n]? with | some (.lst xs) => if xs.length < 100000 then some (A.non, h.set n (AO.lst (xs ++ [a]))) else none | _ => none) = _
  rw [e]; exact if_pos e2
theorem v_pop {n : Nat} {xs : List A} (e : h[n]? = some (.lst (xs ++ [a]))) : fPop (.loc n) [] h = some (a, h.set n (.lst xs)) := by
  show (match h[n]? with | some (.lst xs) => (xs[xs.length - 1]?).bind fun y => some (y, h.set n (AO.lst xs.dropLast)) | _ => none) = _
  rw [e]; simp
theorem v_slS {x : Str} (e : x.length ≤ 100000) : xSl (.str x) lo hi h = some (.str (cutS x lo hi), h) := if_pos e
end
end Ab
set_option Elab.async false
set_option linter.all false
set_option maxRecDepth 100000
namespace Ab
open PySem PySem.Spec PyProof.Rows L2
set_option autoImplicit false
section
variable {X : Cx} {K : PySem.W.Frag} {a b c e o i : Expr} {es : List Expr} {pos p : Pos} {ma mb mc mo mi : ME} {ms : MA} {k : Nat} {apos cpos : Pos}
def itV (n len : Nat) : AIt := ⟨len, fun i h => if i < len then (lstA (.loc n) h).bind fun xs => xs[len - 1 - i]? else none, fun _ => true⟩
def iReversed (ms : MA) : MI := fun τ h => (ms τ h).bind fun p => match p.1 with
  | [.loc n] => (lstA (.loc n) p.2).bind fun xs => some (itV n xs.length, p.2)
  | _ => none
def kIV : List A × AHp → Rs AIt := fun p => match p.1 with
  | [.loc n] => (lstA (.loc n) p.2).bind fun xs => some (itV n xs.length, p.2)
  | _ => none
theorem ev_irev {τ : ASt} {h : AHp} : iReversed ms τ h = (ms τ h).bind kIV := id rfl
theorem ev_kIV {h : AHp} {n : Nat} {xs : List A} (e : h[n]? = some (.lst xs)) : kIV ([.loc n], h) = some (itV n xs.length, h) := by
  unfold kIV lstA; simp only [e]; rfl
theorem ji_reversed {tg : Expr} (hm : X.mg "reversed" = none) (ha : JA X [a] ms) (hg : Gl X "reversed" := by rfl) (hs : starEach [a] X.env = [(false, eval a X.env)] := by rfl) : JI X tg (.Call (.Name "reversed" p) [a] [] pos) (iReversed ms) := ⟨PI_imp (pi_reversed hg hm ha.pf hs) fun σ H R q => by
  obtain ⟨ρ, τ, h, it, h', Rh, S, e, k⟩ := q
  obtain ⟨⟨x, h1⟩, e1, e⟩ := bindS e
  dsimp only at e
  split at e
  · rename_i n
    obtain ⟨xs, e2, e⟩ := bindS e
    cases e
    refine ⟨ρ, τ, h, _, _, Rh, S, e1, fun ρ1 H1 v1 u1 R1 r1 => ?_⟩
    cases r1 with
    | cons r1 r2 =>
      cases r2
      obtain ⟨q', vs, rfl, rs, hs⟩ := lst_some R1 r1 e2
      cases r1 with
      | loc hn =>
        refine ⟨q', vs, rfl, hs, k ρ1 H1 _ u1 R1 ?_⟩
        rw [← rs.length]
        intro ρ2 H2 h2 hp R2
        have hq' := pre_get hp.pre hn
        refine ⟨fun i a e => ?_, fun _ => Nat.le_refl _⟩
        change (if i < xs.length then (lstA (.loc n) h2).bind fun ys => ys[xs.length - 1 - i]? else none) = some a at e
        split at e
        · rename_i hi
          obtain ⟨ys, e3, e⟩ := bindS e
          obtain ⟨q2, vs2, eq, rs2, hs2⟩ := lst_some R2 (.loc hq') e3
          cases eq
          obtain ⟨v, h3, h4⟩ := rs2.get e
          refine ⟨⟨hi, vs2, v, hs2, h3⟩, fun x H' y => ?_⟩
          obtain ⟨rfl, y⟩ := y
          have := y vs2 hs2
          rw [h3] at this; cases this
          exact ⟨Up.refl, R2, h4⟩
        · cases e
  · cases e⟩
end
end Ab
set_option Elab.async false
set_option linter.all false
set_option maxRecDepth 100000
namespace Ab
open PySem PySem.Spec PyProof.Rows L2
set_option autoImplicit false
section
variable {X : Cx} {K : PySem.W.Frag} {a b c e o i : Expr} {es : List Expr} {pos p : Pos} {ma mb mc mo mi : ME} {ms : MA} {k : Nat} {apos cpos : Pos}
end
end Ab
set_option Elab.async false
set_option linter.all false
set_option maxRecDepth 100000
namespace Ab
open PySem PySem.Spec PyProof.Rows L2
set_option autoImplicit false
section
variable {X : Cx} {K : PySem.W.Frag} {a b c e o i : Expr} {es : List Expr} {pos p p2 p3 p4 : Pos} {ma mb mc mo mi : ME} {ms : MA} {k : Nat} {apos cpos : Pos} {te : TE}
end
end Ab
set_option Elab.async false
set_option linter.all false
set_option maxRecDepth 100000
namespace Ab
open PySem PySem.Spec PyProof.Rows L2
set_option autoImplicit false
section
variable {X : Cx} {K : PySem.W.Frag} {e : Expr} {pos p : Pos} {ms : MA}
end
end Ab
set_option Elab.async false
set_option linter.all false
set_option maxRecDepth 100000
namespace Ab
open PySem PySem.Spec PyProof.Rows L2
set_option autoImplicit false
section
variable {X : Cx} {K : PySem.W.Frag} {a b c e o i : Expr} {es : List Expr} {pos p apos cpos : Pos} {ma mb mc mo mi : ME} {ms : MA}
end
end Ab
set_option Elab.async false
set_option linter.all false
set_option maxRecDepth 100000
namespace Ab
open PySem PySem.Spec PyProof.Rows L2
set_option autoImplicit false
section
variable {prog : Program} {w : World} {A : Around} {E : Value → Shared → Prop} {s : Shared} {R : Result → Shared → Prop} {I : Addr} {fp wr : List Addr} {n : Nat} {P : Nat → Value → Prop} {St : Nat → Heap → Prop}
end
end Ab
set_option Elab.async false
set_option linter.all false
set_option maxRecDepth 100000
namespace Ab
open PySem PySem.Spec PyProof.Rows L2
set_option autoImplicit false
section
variable {X : Cx} {K : PySem.W.Frag} {a b e : Expr} {es : List Expr} {pos p p2 p3 p4 : Pos} {ma : ME} {ms : MA} {k : Nat}
end
end Ab
set_option Elab.async false
set_option linter.all false
set_option maxRecDepth 100000
namespace Ab
open PySem PySem.Spec PyProof.Rows L2
set_option autoImplicit false
set_option relaxedAutoImplicit false
def putA (f : Str) (v : A) : List (Str × A) → List (Str × A)
  | [] => [(f, v)]
  | (g, x) :: r => if g = f then (g, v) :: r else (g, x) :: putA f v r
section
variable {K : PySem.W.Frag} {ρ ρ' : List Addr} {H H' : Hp} {h : AHp} {p C dx : Addr} {n : Nat}
end
def fldA (C : Addr) (a : A) (f : Str) (h : AHp) : Option A := match a with
  | .loc n => match h[n]? with
    | some (.ins D fs) => if D = C then fs.lookup f else none
    | _ => none
  | _ => none
def setA (C : Addr) (a : A) (f : Str) (v : A) (h : AHp) : Option AHp := match a with
  | .loc n => match h[n]? with
    | some (.ins D fs) => if D = C ∧ fs.length < 900 then some (h.set n (.ins C (putA f v fs))) else none
    | _ => none
  | _ => none
def isInsA (C : Addr) (a : A) (m : Str) (h : AHp) : Bool := match a with
  | .loc n => match h[n]? with
    | some (.ins D fs) => decide (D = C) && (fs.lookup m).isNone
    | _ => false
  | _ => false
def eFld (C : Addr) (ma : ME) (f : Str) : ME := fun τ h => (ma τ h).bind fun p => (fldA C p.1 f p.2).bind fun v => some (v, p.2)
def sFldM (C : Addr) (mo mv : ME) (f : Str) : MS := fun τ h => (mv τ h).bind fun v => (mo τ v.2).bind fun o => (setA C o.1 f v.1 o.2).bind fun h' => some (.nx τ, h')
def eMth (C : Addr) (m : Str) (F : MF) (mo : ME) (ms : MA) : ME := fun τ h => (mo τ h).bind fun p => if isInsA C p.1 m p.2 = true then (ms τ p.2).bind fun q => F (p.1 :: q.1) q.2 else none
def eMake (C : Addr) (F : MF) (ms : MA) : ME := fun τ h => (ms τ h).bind fun q => (F (.loc q.2.length :: q.1) (q.2 ++ [.ins C []])).bind fun r => match r.1 with
  | .non => some (.loc q.2.length, r.2)
  | _ => none
section
variable {X : Cx} {e o value : Expr} {es : List Expr} {ma mo mv : ME} {ms : MA} {f m x : Str} {C g : Addr} {pos pos' apos p : Pos} {k n : Nat} {F : MF} {fd : FuncData} {ps : List Str}
end
end Ab
set_option Elab.async false
set_option linter.all false
set_option maxRecDepth 100000
namespace Ab
open PySem PySem.Spec PyProof.Rows L2
set_option autoImplicit false
set_option relaxedAutoImplicit false
section
variable {P : Program} {w : World}
def isM (P : Program) (w : World) (h : Heap) : MK → Value → Prop
  | .inl x, v => ∃ t, v = .str x t
  | .inr ks, v => ∃ a, v = .ref a ∧ IsTupleKey (mixKind P w) h ks a
def hashM (P : Program) (w : World) : MK → Int
  | .inl x => hashStr w x
  | .inr ks => tupleKeyHash (mixKind P w) ks
theorem isM_inj {h : Heap} {x y : MK} {v : Value} (a : isM P w h x v) (b : isM P w h y v) : x = y := by
  cases x with
  | inl x =>
    obtain ⟨t, rfl⟩ := a
    cases y with
    | inl y => obtain ⟨u, e⟩ := b; injection e with e _; rw [e]
    | inr ks => obtain ⟨q, e, _⟩ := b; cases e
  | inr ks =>
    obtain ⟨q, rfl, k1⟩ := a
    cases y with
    | inl y => obtain ⟨u, e⟩ := b; cases e
    | inr ls => obtain ⟨q', e, k2⟩ := b; injection e with e; subst e; rw [k1.inj k2]
variable {A : Around} {E : Value → Shared → Prop} {s : Shared}
theorem tupKey_isTuple {h : Heap} {ks : List Key} {a : Addr} (k : IsTupleKey (mixKind P w) h ks a) : ∃ its, h.IsTuple a its := by
  obtain ⟨o, its, n, ho, hc, hd, _⟩ := k
  exact ⟨its, o, ho, hc, n, hd⟩
theorem eqM {x y : MK} {u v : Value} {Q : Bool → Shared → Prop} (hu : A.units < cLine) (a : isM P w s.heap x u) (b : isM P w s.heap y v) (q : Q (decide (x = y)) s) : wpAny (model P w) A (eqBool u v) Q E s := by
  cases x with
  | inl x =>
    obtain ⟨t, rfl⟩ := a
    cases y with
    | inl y =>
      obtain ⟨t', rfl⟩ := b
      refine wpAny_eqBool_str ?_
      have : decide (x = y) = decide ((Sum.inl x : MK) = Sum.inl y) := by simp
      rw [this]; exact q
    | inr ks =>
      obtain ⟨l, rfl, k⟩ := b
      obtain ⟨its, ht⟩ := tupKey_isTuple k
      exact SeqAt.EqAt.str_tuple x t ht hu P w E Q (by simpa using q)
  | inr ks =>
    obtain ⟨l, rfl, k⟩ := a
    cases y with
    | inl y =>
      obtain ⟨t, rfl⟩ := b
      obtain ⟨its, ht⟩ := tupKey_isTuple k
      exact SeqAt.EqAt.tuple_str y t ht hu P w E Q (by simpa using q)
    | inr ls =>
      obtain ⟨l', rfl, k'⟩ := b
      refine wpAny_eqBool_tuple hu k k' ?_
      have : decide (ks = ls) = decide ((Sum.inr ks : MK) = Sum.inr ls) := by simp
      rw [this]; exact q
theorem quietM {x : MK} {v : Value} {Q : Bool → Shared → Prop} (a : isM P w s.heap x v) (q : Q true s) : wpAny (model P w) A (eqIsQuiet 8 v) Q E s := by
  cases x with
  | inl x => obtain ⟨t, rfl⟩ := a; exact wpAny_pure q
  | inr ks => obtain ⟨l, rfl, k⟩ := a; exact wpAny_eqIsQuiet_tuple k q
theorem hash_okM {x : MK} {v : Value} {Q : Int → Shared → Prop} (hu : A.units < cLine) (a : isM P w s.heap x v) (q : ∀ tk, Q (hashM P w x) { s with toks := tk }) : wpAny (model P w) A (pyHash v) Q E s := by
  cases x with
  | inl x => obtain ⟨t, rfl⟩ := a; exact wpAny_pyHash_str (q _)
  | inr ks => obtain ⟨l, rfl, k⟩ := a; exact wpAny_pyHash_tuple hu k (q _)
def entM (P : Program) (w : World) (x : MK × Value × Value) : DictEntry := ⟨hashM P w x.1, x.2.1, x.2.2⟩
theorem tellM {x : MK} {v : Value} {stored : List Value} {Q : Bool → Shared → Prop} (a : isM P w s.heap x v) (hst : ∀ u ∈ stored, ∃ k, isM P w s.heap k u) (q : Q false s) : wpAny (model P w) A (tableMayTell v stored) Q E s := by
  unfold tableMayTell
  split
  · exact wpAny_pure q
  · refine wpAny_bind (quietM a ?_); simp only [Bool.not_true, Bool.false_eq_true, if_false]; refine wpAny_bind ?_
    refine wpAny_forIn_list _ (fun rest r s1 => s1 = s ∧ r = (none, ()) ∧ ∀ u ∈ rest, ∃ k, isM P w s.heap k u) _ ?_ ?_ _ _ ⟨rfl, rfl, hst⟩
    · rintro y rest r s1 ⟨rfl, rfl, hr⟩; obtain ⟨k, hk⟩ := hr y List.mem_cons_self
      refine wpAny_bind (quietM hk ?_); simp only [Bool.not_true, Bool.false_eq_true, if_false]; exact wpAny_pure ⟨rfl, rfl, fun u hu => hr u (List.mem_cons_of_mem _ hu)⟩
    · rintro r s1 ⟨rfl, rfl, _⟩; exact wpAny_pure q
theorem at_entM {es : Array DictEntry} {xs : List (MK × Value × Value)} (he : es.toList = xs.map (entM P w)) (j : Nat) : es[j]? = (xs[j]?).map (entM P w) := by rw [← Array.getElem?_toList, he, List.getElem?_map]
theorem mem_entM {es : Array DictEntry} {xs : List (MK × Value × Value)} (he : es.toList = xs.map (entM P w)) : ∀ e ∈ es, ∃ x ∈ xs, e = entM P w x := fun e hin => by
  have z : e ∈ xs.map (entM P w) := he ▸ Array.mem_toList_iff.mpr hin
  obtain ⟨x, hx, q⟩ := List.mem_map.mp z; exact ⟨x, hx, q.symm⟩
theorem uniqM {xs : List (MK × Value × Value)} (hn : (xs.map (·.1)).Nodup) {i j : Nat} {k : MK} {p q : Value × Value} (hi : xs[i]? = some (k, p)) (hj : xs[j]? = some (k, q)) : i = j := by
  have a : (xs.map (·.1))[i]? = some k := by rw [List.getElem?_map, hi]; rfl
  have b : (xs.map (·.1))[j]? = some k := by rw [List.getElem?_map, hj]; rfl
  exact nd_ix hn a b
theorem foundM {d : Addr} {o : Obj} {es : Array DictEntry} {ep : Nat} {xs : List (MK × Value × Value)} {x : Str} {t : Tok} {Q : Option Nat → Shared → Prop} (hu : A.units < cLine) (ho : s.heap.get? d = some o) (hd : o.data = .dict es ep) (he : es.toList = xs.map (entM P w)) (his : ∀ y ∈ xs, isM P w s.heap y.1 y.2.1)
    (hnone : (∀ (j : Nat) (p : Value × Value), xs[j]? ≠ some (.inl x, p)) → Q none s) (hsome : ∀ (j : Nat) (p : Value × Value), xs[j]? = some (.inl x, p) → Q (some j) s) : wpAny (model P w) A (foundByValue d (.str x t) es x) Q E s := by
  unfold foundByValue
  cases hf : es.findIdx? (·.key.isStr x) with
  | none =>
    refine wpAny_pure (hnone fun j p hj => ?_)
    have z := Array.findIdx?_eq_none_iff.mp hf
    have ej : es[j]? = some (entM P w (.inl x, p)) := by rw [at_entM he, hj]; rfl
    obtain ⟨u, hu'⟩ := his _ (List.mem_of_getElem? hj)
    have := z _ (Array.mem_of_getElem? ej)
    rw [show (entM P w (.inl x, p)).key = p.1 from rfl, hu'] at this
    simp [Value.isStr] at this
  | some i =>
    obtain ⟨hi, hk, _⟩ := Array.findIdx?_eq_some_iff_getElem.mp hf
    have ei : es[i]? = some es[i] := Array.getElem?_eq_getElem hi
    have ei2 := ei
    rw [at_entM he] at ei2
    obtain ⟨⟨y, yk, yv⟩, hy, ey⟩ := Option.map_eq_some_iff.mp ei2
    have iy := his _ (List.mem_of_getElem? hy)
    have ky : es[i].key = yk := by rw [← ey]; rfl
    rw [ky] at hk
    have ex : y = .inl x := by
      cases y with
      | inl z =>
        obtain ⟨u, hz⟩ := iy
        have hz : yk = .str z u := hz
        rw [hz] at hk
        have : z = x := by simpa [Value.isStr] using hk
        rw [this]
      | inr ks =>
        obtain ⟨l, hz, _⟩ := iy
        have hz : yk = .ref l := hz
        rw [hz] at hk; exact absurd hk (by simp [Value.isStr])
    subst ex
    show wpAny _ _ (match es[i]? with | some e => _ | _ => _) _ _ _
    rw [ei]
    show wpAny _ _ (dictEpoch d _ >>= _) _ _ _
    refine wpAny_bind (wpAny_dictEpoch ho hd (wpAny_bind (eqM (x := .inl x) (y := .inl x) hu (by rw [ky]; exact iy) ⟨t, rfl⟩ (wpAny_bind (wpAny_dictEpoch ho hd ?_)))))
    show wpAny _ _ (if (ep != ep) = true then _ else _) _ E _; rw [if_neg (by simp), decide_eq_true rfl]
    show wpAny _ _ (if true = true then _ else _) _ E _; rw [if_pos rfl]
    exact wpAny_bind (wpAny_rule (wpAny_pure (hsome i _ hy)))
theorem plainM {d : Addr} {o : Obj} {es : Array DictEntry} {ep : Nat} {xs : List (MK × Value × Value)} {k : MK} {kv : Value} {Q : Option Nat → Shared → Prop} (hu : A.units < cLine) (hkey : isM P w s.heap k kv) (ho : s.heap.get? d = some o) (hd : o.data = .dict es ep) (he : es.toList = xs.map (entM P w)) (his : ∀ y ∈ xs, isM P w s.heap y.1 y.2.1)
    (hnone : (∀ (j : Nat) (p : Value × Value), xs[j]? ≠ some (k, p)) → Q none s) (hsome : ∀ (j : Nat) (p : Value × Value), xs[j]? = some (k, p) → Q (some j) s) : wpAny (model P w) A (dictWalkPlain d kv (hashM P w k) es (placesWithHash es.size (fun i => es[i]?.map (·.hash)) (hashM P w k))) Q E s := by
  have hsz : es.size = xs.length := by rw [← Array.length_toList, he, List.length_map]
  have hask : ∀ (j : Nat) (p : Value × Value), xs[j]? = some (k, p) → ((es[j]?.map (·.hash)) == some (hashM P w k)) = true := fun j p hj => by rw [at_entM he, hj]; simp [entM]
  unfold dictWalkPlain
  refine wpAny_bind ?_
  refine wpAny_forIn_list _ (fun rest b s1 => s1 = s ∧ b = (none, ()) ∧ ∃ i, rest = (List.range' i (es.size - i)).filter (fun i => (es[i]?.map (·.hash)) == some (hashM P w k)) ∧ i ≤ es.size ∧ ∀ (j : Nat) (p : Value × Value), j < i → xs[j]? ≠ some (k, p)) _ ?_ ?_ _ _
    ⟨rfl, rfl, 0, by rw [placesWithHash, List.range_eq_range', Nat.sub_zero], Nat.zero_le _, fun _ _ z => absurd z (Nat.not_lt_zero _)⟩
  · rintro y rest b s1 ⟨rfl, rfl, i, hr, hi, hno⟩
    obtain ⟨hiy, hyn, hpy, hskip, hrest⟩ := filter_range'_cons _ _ _ _ _ hr.symm
    have lt : y < es.size := by omega
    have hrest2 : rest = (List.range' (y + 1) (es.size - (y + 1))).filter (fun i => (es[i]?.map (·.hash)) == some (hashM P w k)) := by rw [hrest]; congr 2; omega
    obtain ⟨⟨k', u, v⟩, hkv⟩ : ∃ q, xs[y]? = some q := ⟨xs[y]'(by rw [← hsz]; exact lt), List.getElem?_eq_getElem _⟩
    have ik : isM P w s1.heap k' u := his _ (List.mem_of_getElem? hkv)
    have ey : es[y]? = some ⟨hashM P w k', u, v⟩ := by rw [at_entM he, hkv]; rfl
    have stay : k' ≠ k → ∀ (j : Nat) (p : Value × Value), j < y + 1 → xs[j]? ≠ some (k, p) := fun ne j p hj e => by
      rcases Nat.lt_or_ge j i with z | z
      · exact hno j p z e
      · rcases Nat.lt_or_ge j y with z2 | z2
        · have := hskip j z z2; rw [hask j p e] at this; exact absurd this (by decide)
        · have : j = y := by omega
          subst this; rw [hkv] at e; injection e with e; injection e with e; exact ne e
    rw [ey]; dsimp only
    by_cases hh : (hashM P w k' == hashM P w k) = true
    · rw [if_pos hh]
      refine wpAny_bind (wpAny_dictEpoch ho hd (wpAny_bind (eqM (x := k') (y := k) hu ik hkey (wpAny_bind (wpAny_dictEpoch ho hd ?_)))))
      show wpAny _ _ (if (ep != ep) = true then _ else _) _ E _; rw [if_neg (by simp)]
      by_cases hkk : k' = k
      · rw [decide_eq_true hkk]; subst hkk
        show wpAny _ _ (if true = true then _ else _) _ E _; rw [if_pos rfl]
        exact wpAny_bind (wpAny_rule (wpAny_pure (wpAny_pure (hsome y _ hkv))))
      · rw [decide_eq_false hkk]
        show wpAny _ _ (if false = true then _ else _) _ E _; rw [if_neg Bool.false_ne_true]
        exact wpAny_bind (wpAny_rule (wpAny_pure ⟨rfl, rfl, y + 1, hrest2, lt, stay hkk⟩))
    · rw [if_neg hh]
      exact wpAny_pure ⟨rfl, rfl, y + 1, hrest2, lt, stay fun z => hh (by rw [z]; simp)⟩
  · rintro b s1 ⟨rfl, rfl, i, hr, hi, hno⟩
    refine wpAny_pure (hnone fun j p hj => ?_)
    rcases Nat.lt_or_ge j i with z | z
    · exact hno j p z hj
    · have hl : j < es.size := by rw [hsz]; exact (List.getElem?_eq_some_iff.mp hj).1
      have z2 := List.filter_eq_nil_iff.mp hr.symm j (List.mem_range'_1.mpr ⟨z, by omega⟩)
      exact z2 (hask j p hj)
theorem findM {d : Addr} {o : Obj} {es : Array DictEntry} {ep : Nat} {xs : List (MK × Value × Value)} {k : MK} {kv : Value} {Q : Option Nat → Shared → Prop} (hu : A.units < cLine) (hkey : isM P w s.heap k kv) (ho : s.heap.get? d = some o) (hd : o.data = .dict es ep) (he : es.toList = xs.map (entM P w)) (his : ∀ y ∈ xs, isM P w s.heap y.1 y.2.1) (hn : (xs.map (·.1)).Nodup)
    (hnone : (∀ (j : Nat) (p : Value × Value), xs[j]? ≠ some (k, p)) → Q none s) (hsome : ∀ (j : Nat) (p : Value × Value), xs[j]? = some (k, p) → Q (some j) s) : wpAny (model P w) A (dictFind d kv (hashM P w k)) Q E s := by
  have hsz : es.size = xs.length := by rw [← Array.length_toList, he, List.length_map]
  have hask : ∀ (j : Nat) (p : Value × Value), xs[j]? = some (k, p) → ((es[j]?.map (·.hash)) == some (hashM P w k)) = true := fun j p hj => by rw [at_entM he, hj]; simp [entM]
  have hst : ∀ u ∈ (placesWithHash es.size (fun i => es[i]?.map (·.hash)) (hashM P w k)).filterMap (fun i => es[i]?.map (·.key)), ∃ k', isM P w s.heap k' u := fun u hv => by
    obtain ⟨i, _, hi⟩ := List.mem_filterMap.mp hv
    cases hei : es[i]? with
    | none => rw [hei] at hi; cases hi
    | some e =>
      rw [hei] at hi
      obtain rfl : e.key = u := by simpa using hi
      obtain ⟨x, hx, rfl⟩ := mem_entM he e (Array.mem_of_getElem? hei)
      exact ⟨x.1, his x hx⟩
  have walk : wpAny (model P w) A (dictWalkPlain d kv (hashM P w k) es (placesWithHash es.size (fun i => es[i]?.map (·.hash)) (hashM P w k))) Q E s := plainM hu hkey ho hd he his hnone hsome
  unfold dictFind; (try with_reducible refine wpAny_holding ?_)
  refine wpAny_bind (wpAny_dictEntries ho hd ?_)
  cases k with
  | inl x =>
    obtain ⟨t, rfl⟩ := hkey
    dsimp only
    by_cases ha : (es.all fun e => isExactStrKey e.key) = true
    · rw [if_pos ha]
      exact foundM hu ho hd he his hnone hsome
    · rw [if_neg ha]
      by_cases hb : ((Value.str x t :: (placesWithHash es.size (fun i => es[i]?.map (·.hash)) (hashM P w (.inl x))).filterMap (fun i => es[i]?.map (·.key))).all carriedByValue) = true
      · rw [if_pos hb]; exact walk
      rw [if_neg hb]
      by_cases h1 : (((placesWithHash es.size (fun i => es[i]?.map (·.hash)) (hashM P w (.inl x))).filterMap (fun i => es[i]?.map (·.key))) == [Value.str x t]) = true <;>
      (first | rw [if_pos h1] | rw [if_neg h1]) <;> (first | refine wpAny_bind (wpAny_pure ?_) | refine wpAny_bind (tellM (x := .inl x) ⟨t, rfl⟩ hst ?_)) <;> (
      rw [if_neg (by simp)]
      refine wpAny_bind ?_
      refine wpAny_forIn_list _ (fun rest b s1 => s1 = s ∧ ∃ i hit, b = (none, hit) ∧ rest = (List.range' i (es.size - i)).filter (fun i => (es[i]?.map (·.hash)) == some (hashM P w (Sum.inl x : MK))) ∧ i ≤ es.size ∧ ((hit = none ∧ ∀ (j : Nat) (p : Value × Value), j < i → xs[j]? ≠ some ((Sum.inl x : MK), p)) ∨ ∃ (j : Nat) (p : Value × Value), hit = some j ∧ j < i ∧ xs[j]? = some ((Sum.inl x : MK), p))) _ ?_ ?_ _ _
        ⟨rfl, 0, none, rfl, by rw [placesWithHash, List.range_eq_range', Nat.sub_zero], Nat.zero_le _, .inl ⟨rfl, fun _ _ z => absurd z (Nat.not_lt_zero _)⟩⟩
      · rintro y rest b s1 ⟨rfl, i, hit, rfl, hr, hi, hH⟩
        obtain ⟨hiy, hyn, hpy, hskip, hrest⟩ := filter_range'_cons _ _ _ _ _ hr.symm
        have lt : y < es.size := by omega
        have hrest2 : rest = (List.range' (y + 1) (es.size - (y + 1))).filter (fun i => (es[i]?.map (·.hash)) == some (hashM P w (Sum.inl x : MK))) := by rw [hrest]; congr 2; omega
        obtain ⟨⟨k', u, v⟩, hkv⟩ : ∃ q, xs[y]? = some q := ⟨xs[y]'(by rw [← hsz]; exact lt), List.getElem?_eq_getElem _⟩
        have ik : isM P w s1.heap k' u := his _ (List.mem_of_getElem? hkv)
        have ey : es[y]? = some ⟨hashM P w k', u, v⟩ := by rw [at_entM he, hkv]; rfl
        have hHx : (hit = none ∧ ∀ (j : Nat) (p : Value × Value), j < y → xs[j]? ≠ some ((Sum.inl x : MK), p)) ∨ ∃ (j : Nat) (p : Value × Value), hit = some j ∧ j < y ∧ xs[j]? = some ((Sum.inl x : MK), p) := by
          rcases hH with ⟨h0, hno⟩ | ⟨j, p, h1, hji, hj⟩
          · refine .inl ⟨h0, fun j p hjx hj => ?_⟩
            rcases Nat.lt_or_ge j i with z | z
            · exact hno j p z hj
            · have := hskip j z hjx; rw [hask j p hj] at this; exact absurd this (by decide)
          · exact .inr ⟨j, p, h1, by omega, hj⟩
        have stay : ¬ k' = (Sum.inl x : MK) → ((hit = none ∧ ∀ (j : Nat) (p : Value × Value), j < y + 1 → xs[j]? ≠ some ((Sum.inl x : MK), p)) ∨ ∃ (j : Nat) (p : Value × Value), hit = some j ∧ j < y + 1 ∧ xs[j]? = some ((Sum.inl x : MK), p)) := by
          intro ne
          rcases hHx with ⟨h0, hno⟩ | ⟨j, p, h1, hjx, hj⟩
          · refine .inl ⟨h0, fun j p hjx hj => ?_⟩
            rcases Nat.lt_or_ge j y with z | z
            · exact hno j p z hj
            · have : j = y := by omega
              subst this; rw [hkv] at hj; injection hj with hj; injection hj with hj; exact ne hj
          · exact .inr ⟨j, p, h1, by omega, hj⟩
        rw [ey]; dsimp only
        by_cases hh : (hashM P w k' == hashM P w (Sum.inl x : MK)) = true
        · rw [if_pos hh]
          refine wpAny_bind (wpAny_dictEpoch ho hd (wpAny_bind (eqM (x := k') (y := (Sum.inl x : MK)) hu ik ⟨t, rfl⟩ (wpAny_bind (wpAny_dictEpoch ho hd ?_)))))
          show wpAny _ _ (if (ep != ep) = true then _ else _) _ E _; rw [if_neg (by simp)]
          by_cases hkk : k' = (Sum.inl x : MK)
          · rw [decide_eq_true hkk]; subst hkk
            rcases hHx with ⟨rfl, _⟩ | ⟨j, p, _, hjx, hj⟩
            · (first | rw [if_pos rfl] | skip); simp only [Option.isSome_none, Bool.false_eq_true, if_false]
              (first | refine wpAny_bind (wpAny_pure ?_) | skip); refine wpAny_bind (wpAny_rule ?_); split
              · exact wpAny_pure (wpAny_pure (hsome y _ hkv))
              · exact wpAny_pure ⟨rfl, y + 1, some y, rfl, hrest2, lt, .inr ⟨y, _, rfl, Nat.lt_succ_self y, hkv⟩⟩
            · exact absurd (uniqM hn hj hkv) (by omega)
          · rw [decide_eq_false hkk]; simp only [Bool.false_eq_true, if_false]
            refine wpAny_bind (wpAny_rule ?_); (first | rw [if_neg (by simp)] | skip)
            first
              | exact wpAny_pure ⟨rfl, y + 1, hit, rfl, hrest2, lt, stay hkk⟩
              | exact wpAny_bind (wpAny_pure (wpAny_pure ⟨rfl, y + 1, hit, rfl, hrest2, lt, stay hkk⟩))
        · rw [if_neg hh]
          exact wpAny_pure ⟨rfl, y + 1, hit, rfl, hrest2, lt, stay fun z => hh (by rw [z]; simp)⟩
      · rintro b s1 ⟨rfl, i, hit, rfl, hr, hi, hH⟩
        rcases hH with ⟨rfl, hno⟩ | ⟨j, p, rfl, _, hj⟩
        · refine wpAny_pure (hnone fun j p hj => ?_)
          rcases Nat.lt_or_ge j i with z | z
          · exact hno j p z hj
          · have hl : j < es.size := by rw [hsz]; exact (List.getElem?_eq_some_iff.mp hj).1
            have z2 := List.filter_eq_nil_iff.mp hr.symm j (List.mem_range'_1.mpr ⟨z, by omega⟩)
            exact z2 (hask j p hj)
        · exact wpAny_pure (hsome j p hj))
  | inr ks =>
    obtain ⟨a, rfl, hk⟩ := hkey
    dsimp only
    have nany : ¬ (es.any fun e => e.key == Value.ref a && e.hash != hashM P w (.inr ks)) = true := by
      rw [← Array.any_toList, List.any_eq_true]
      rintro ⟨e, hin, hc⟩
      obtain ⟨x, hx, rfl⟩ := mem_entM he e (Array.mem_toList_iff.mp hin)
      simp only [entM, Bool.and_eq_true, beq_iff_eq, bne_iff_ne, ne_eq] at hc
      have := his x hx
      rw [hc.1] at this
      have ek := isM_inj (y := .inr ks) this ⟨a, rfl, hk⟩
      exact hc.2 (by rw [ek])
    rw [if_neg (show ¬ ((Value.ref a :: (placesWithHash es.size (fun i => es[i]?.map (·.hash)) (hashM P w (.inr ks))).filterMap (fun i => es[i]?.map (·.key))).all carriedByValue) = true by simp [carriedByValue]), if_neg nany]
    by_cases h1 : (((placesWithHash es.size (fun i => es[i]?.map (·.hash)) (hashM P w (.inr ks))).filterMap (fun i => es[i]?.map (·.key))) == [Value.ref a]) = true <;>
    (first | rw [if_pos h1] | rw [if_neg h1]) <;> (first | refine wpAny_bind (wpAny_pure ?_) | refine wpAny_bind (tellM (x := .inr ks) ⟨a, rfl, hk⟩ hst ?_)) <;> (
      rw [if_neg (by simp)]
      refine wpAny_bind ?_
      refine wpAny_forIn_list _ (fun rest b s1 => s1 = s ∧ ∃ i hit, b = (none, hit) ∧ rest = (List.range' i (es.size - i)).filter (fun i => (es[i]?.map (·.hash)) == some (hashM P w (Sum.inr ks : MK))) ∧ i ≤ es.size ∧ ((hit = none ∧ ∀ (j : Nat) (p : Value × Value), j < i → xs[j]? ≠ some ((Sum.inr ks : MK), p)) ∨ ∃ (j : Nat) (p : Value × Value), hit = some j ∧ j < i ∧ xs[j]? = some ((Sum.inr ks : MK), p))) _ ?_ ?_ _ _
        ⟨rfl, 0, none, rfl, by rw [placesWithHash, List.range_eq_range', Nat.sub_zero], Nat.zero_le _, .inl ⟨rfl, fun _ _ z => absurd z (Nat.not_lt_zero _)⟩⟩
      · rintro y rest b s1 ⟨rfl, i, hit, rfl, hr, hi, hH⟩
        obtain ⟨hiy, hyn, hpy, hskip, hrest⟩ := filter_range'_cons _ _ _ _ _ hr.symm
        have lt : y < es.size := by omega
        have hrest2 : rest = (List.range' (y + 1) (es.size - (y + 1))).filter (fun i => (es[i]?.map (·.hash)) == some (hashM P w (Sum.inr ks : MK))) := by rw [hrest]; congr 2; omega
        obtain ⟨⟨k', u, v⟩, hkv⟩ : ∃ q, xs[y]? = some q := ⟨xs[y]'(by rw [← hsz]; exact lt), List.getElem?_eq_getElem _⟩
        have ik : isM P w s1.heap k' u := his _ (List.mem_of_getElem? hkv)
        have ey : es[y]? = some ⟨hashM P w k', u, v⟩ := by rw [at_entM he, hkv]; rfl
        have hHx : (hit = none ∧ ∀ (j : Nat) (p : Value × Value), j < y → xs[j]? ≠ some ((Sum.inr ks : MK), p)) ∨ ∃ (j : Nat) (p : Value × Value), hit = some j ∧ j < y ∧ xs[j]? = some ((Sum.inr ks : MK), p) := by
          rcases hH with ⟨h0, hno⟩ | ⟨j, p, h1, hji, hj⟩
          · refine .inl ⟨h0, fun j p hjx hj => ?_⟩
            rcases Nat.lt_or_ge j i with z | z
            · exact hno j p z hj
            · have := hskip j z hjx; rw [hask j p hj] at this; exact absurd this (by decide)
          · exact .inr ⟨j, p, h1, by omega, hj⟩
        have stay : ¬ k' = (Sum.inr ks : MK) → ((hit = none ∧ ∀ (j : Nat) (p : Value × Value), j < y + 1 → xs[j]? ≠ some ((Sum.inr ks : MK), p)) ∨ ∃ (j : Nat) (p : Value × Value), hit = some j ∧ j < y + 1 ∧ xs[j]? = some ((Sum.inr ks : MK), p)) := by
          intro ne
          rcases hHx with ⟨h0, hno⟩ | ⟨j, p, h1, hjx, hj⟩
          · refine .inl ⟨h0, fun j p hjx hj => ?_⟩
            rcases Nat.lt_or_ge j y with z | z
            · exact hno j p z hj
            · have : j = y := by omega
              subst this; rw [hkv] at hj; injection hj with hj; injection hj with hj; exact ne hj
          · exact .inr ⟨j, p, h1, by omega, hj⟩
        rw [ey]; dsimp only
        by_cases hh : (hashM P w k' == hashM P w (Sum.inr ks : MK)) = true
        · rw [if_pos hh]
          refine wpAny_bind (wpAny_dictEpoch ho hd (wpAny_bind (eqM (x := k') (y := (Sum.inr ks : MK)) hu ik ⟨a, rfl, hk⟩ (wpAny_bind (wpAny_dictEpoch ho hd ?_)))))
          show wpAny _ _ (if (ep != ep) = true then _ else _) _ E _; rw [if_neg (by simp)]
          by_cases hkk : k' = (Sum.inr ks : MK)
          · rw [decide_eq_true hkk]; subst hkk
            rcases hHx with ⟨rfl, _⟩ | ⟨j, p, _, hjx, hj⟩
            · (first | rw [if_pos rfl] | skip); simp only [Option.isSome_none, Bool.false_eq_true, if_false]
              (first | refine wpAny_bind (wpAny_pure ?_) | skip); refine wpAny_bind (wpAny_rule ?_); split
              · exact wpAny_pure (wpAny_pure (hsome y _ hkv))
              · exact wpAny_pure ⟨rfl, y + 1, some y, rfl, hrest2, lt, .inr ⟨y, _, rfl, Nat.lt_succ_self y, hkv⟩⟩
            · exact absurd (uniqM hn hj hkv) (by omega)
          · rw [decide_eq_false hkk]; simp only [Bool.false_eq_true, if_false]
            refine wpAny_bind (wpAny_rule ?_); (first | rw [if_neg (by simp)] | skip)
            first
              | exact wpAny_pure ⟨rfl, y + 1, hit, rfl, hrest2, lt, stay hkk⟩
              | exact wpAny_bind (wpAny_pure (wpAny_pure ⟨rfl, y + 1, hit, rfl, hrest2, lt, stay hkk⟩))
        · rw [if_neg hh]
          exact wpAny_pure ⟨rfl, y + 1, hit, rfl, hrest2, lt, stay fun z => hh (by rw [z]; simp)⟩
      · rintro b s1 ⟨rfl, i, hit, rfl, hr, hi, hH⟩
        rcases hH with ⟨rfl, hno⟩ | ⟨j, p, rfl, _, hj⟩
        · refine wpAny_pure (hnone fun j p hj => ?_)
          rcases Nat.lt_or_ge j i with z | z
          · exact hno j p z hj
          · have hl : j < es.size := by rw [hsz]; exact (List.getElem?_eq_some_iff.mp hj).1
            have z2 := List.filter_eq_nil_iff.mp hr.symm j (List.mem_range'_1.mpr ⟨z, by omega⟩)
            exact z2 (hask j p hj)
        · exact wpAny_pure (hsome j p hj))
def DictM (P : Program) (w : World) (h : Heap) (d : Addr) (xs : List (MK × Value × Value)) : Prop := ∃ o es ep, h.get? d = some o ∧ o.ExactDict ∧ o.data = .dict es ep ∧ es.toList = xs.map (entM P w) ∧ (xs.map (·.1)).Nodup
def KeysM (P : Program) (w : World) (h : Heap) (xs : List (MK × Value × Value)) : Prop := ∀ y ∈ xs, isM P w h y.1 y.2.1
def atM (xs : List (MK × Value × Value)) (k : MK) : Option Value := (xs.find? fun x => decide (x.1 = k)).map (·.2.2)
theorem atM_some {xs : List (MK × Value × Value)} (hn : (xs.map (·.1)).Nodup) {j : Nat} {k : MK} {p : Value × Value} (h : xs[j]? = some (k, p)) : atM xs k = some p.2 := by
  unfold atM
  cases hf : xs.find? fun x => decide (x.1 = k) with
  | none =>
    have := List.find?_eq_none.mp hf _ (List.mem_of_getElem? h)
    simp at this
  | some y =>
    have m := List.mem_of_find?_eq_some hf
    have e0 : decide (y.1 = k) = true := List.find?_some (p := fun x : MK × Value × Value => decide (x.1 = k)) hf
    have e := of_decide_eq_true e0
    obtain ⟨i, hi⟩ := List.mem_iff_getElem?.mp m
    obtain ⟨yk, yp⟩ := y
    have e : yk = k := e
    subst e
    have := uniqM hn h hi
    subst this
    rw [h] at hi; cases hi; rfl
theorem atM_none {xs : List (MK × Value × Value)} {k : MK} (h : ∀ (j : Nat) (p : Value × Value), xs[j]? ≠ some (k, p)) : atM xs k = none := by
  unfold atM
  cases hf : xs.find? fun x => decide (x.1 = k) with
  | none => rfl
  | some y =>
    have m := List.mem_of_find?_eq_some hf
    have e0 : decide (y.1 = k) = true := List.find?_some (p := fun x : MK × Value × Value => decide (x.1 = k)) hf
    have e := of_decide_eq_true e0
    obtain ⟨i, hi⟩ := List.mem_iff_getElem?.mp m
    obtain ⟨yk, yp⟩ := y
    have e : yk = k := e
    subst e
    exact absurd hi (h i yp)
variable {d : Addr} {xs : List (MK × Value × Value)} {k : MK} {kv : Value}
theorem DictM.typeIs (m : DictM P w s.heap d xs) : s.TypeIs (.ref d) "dict" := let ⟨o, _, _, ho, hc, _⟩ := m; ⟨o, ho, hc.1⟩
theorem getM {Q : Option Value → Shared → Prop} (hu : A.units < cLine) (hkey : isM P w s.heap k kv) (m : DictM P w s.heap d xs) (ks : KeysM P w s.heap xs) (q : ∀ tk, Q (atM xs k) { s with toks := tk }) : wpAny (model P w) A (dictGet d kv) Q E s := by
  obtain ⟨o, es, ep, ho, _, hd, he, hn⟩ := m
  unfold dictGet; (try with_reducible refine wpAny_holding ?_)
  refine wpAny_bind (hash_okM hu hkey fun tk => wpAny_bind (findM (s := { s with toks := tk }) hu hkey ho hd he ks hn ?_ ?_))
  · intro no; have q := q tk; rw [atM_none no] at q; exact wpAny_pure q
  · intro j p hj; have q := q tk; rw [atM_some hn hj] at q
    refine wpAny_bind (wpAny_dictEntries (s := { s with toks := tk }) ho hd ?_); rw [at_entM he, hj]; exact wpAny_pure q
end
end Ab
set_option Elab.async false
set_option linter.all false
set_option maxRecDepth 100000
namespace Ab
open PySem PySem.Spec PyProof.Rows L2
set_option autoImplicit false
set_option relaxedAutoImplicit false
section
variable {X : Cx} {pins : List (Addr × Obj)} {σ : L2.St} {H : Hp} {s : Shared}
theorem keyV.isM {k : MK} {v : V} {u : Value} (I : Inv X pins σ H s) (x : keyV X.K H k v) (r : RelV v u) : isM X.prog X.w s.heap k u := by
  cases k with
  | inl x' =>
    obtain rfl : v = .str x' := x
    exact r
  | inr ks =>
    obtain ⟨a, rfl, hs⟩ := x
    obtain rfl : u = Value.ref a := r
    obtain ⟨its, rv, ⟨o, h1, h2, n, h3⟩, _⟩ := I.tuple hs
    exact ⟨a, rfl, o, its.toArray, n, h1, h2, h3, by simpa using items_are rv⟩
theorem DicOk.keysM {xs : List (MK × Value × Value)} (I : Inv X pins σ H s) (x : DicOk X.K H xs) : KeysM X.prog X.w s.heap xs := fun y hy => by
  obtain ⟨v, r, k⟩ := x y hy
  exact k.isM I r
theorem dicM {p : Addr} {xs : List (MK × Value × Value)} (I : Inv X pins σ H s) (e : H p = some (DicT (hashM X.prog X.w) p xs)) : DictM X.prog X.w s.heap p xs := (I.hok p _ e).1
theorem dic_ok {P : Program} {w : World} {H' : Hp} {h' : Heap} {hf : MK → Int} {p : Addr} {xs : List (MK × Value × Value)} (m : DictF hf h' p xs) : ObjOk P w H' h' p (DicT hf p xs) := by
  obtain ⟨o, es, ep, ho, hc, hd, he, hn⟩ := m
  refine ⟨⟨o, es, ep, ho, hc, hd, he, hn⟩, ⟨o, ho⟩, fun h1 h2 z k => ?_⟩
  obtain ⟨o, es, ep, ho, hc, hd, he, hn⟩ := z
  exact ⟨o, es, ep, k _ ho, hc, hd, he, hn⟩
def tDNewM (hf : MK → Int) : TE := fun _ H Q => ∀ p, H p = none → (p == sysModules) = false → Q (.ref p) (upd H p (DicT hf p []))
theorem pe_dnewM {pos : Pos} : PE X (.Dict [] [] pos) (tDNewM (hashM X.prog X.w)) := fun pins s σ H Q I h =>
  wpAny_Dict_empty ⟨.ref s.heap.objs.size, _, I.laid (a := s.heap.objs.size) (o := DicT (hashM X.prog X.w) s.heap.objs.size []) (t' := s.toks) (fun _ _ q => Heap.get?_push_of_some _ q) (Nat.le_refl _) (dic_ok ⟨_, #[], 0, Heap.get?_push_size _ rfl, ⟨rfl, rfl, rfl⟩, rfl, rfl, List.nodup_nil⟩), rfl, h _ (I.hok.fresh (Nat.le_refl _)) (beq_eq_false_iff_ne.mpr (Ne.symm (Nat.ne_of_lt I.big)))⟩
end
def keyA1 : A → Option Key
  | .int i => some (.inl i)
  | .str x => some (.inr x)
  | _ => none
def keysA : List A → Option (List Key)
  | [] => some []
  | a :: r => (keyA1 a).bind fun k => (keysA r).bind fun ks => some (k :: ks)
def keyA : A → Option MK
  | .str x => some (.inl x)
  | .tup xs => (keysA xs).map .inr
  | _ => none
def findA (kvs : List (MK × A)) (k : MK) : Option A := (kvs.find? fun x => decide (x.1 = k)).map (·.2)
section
variable {K : PySem.W.Frag} {ρ : List Addr} {H : Hp} {h : AHp} {p : Addr} {n : Nat} {hf : MK → Int}
theorem keysA_reps : ∀ {xs : List A} {ks : List Key} {vs : List V}, keysA xs = some ks → Reps K ρ H xs vs → vs = ks.map kV
  | [], _, _, e, r => by cases e; cases r; rfl
  | a :: xs, ks, _, e, .cons r rs => by
    obtain ⟨k, e1, e⟩ := bindS e
    obtain ⟨ks', e2, e⟩ := bindS e
    cases e
    rw [keysA_reps e2 rs, List.map_cons]
    congr 1
    unfold keyA1 at e1
    split at e1
    · cases e1; cases r; rfl
    · cases e1; cases r; rfl
    · cases e1
theorem keyA_rep {a : A} {v : V} {k : MK} (e : keyA a = some k) (r : Rep K ρ H a v) : keyV K H k v := by
  unfold keyA at e
  split at e
  · cases e; cases r; exact rfl
  · obtain ⟨ks, e1, e⟩ := Option.map_eq_some_iff.mp e
    subst e
    cases r with
    | tup hs rs => exact ⟨_, rfl, by rw [← keysA_reps e1 rs]; exact hs⟩
  · cases e
theorem find_none : ∀ {xs : List (MK × Value × Value)} {kvs : List (MK × A)} {k : MK}, xs.map (·.1) = kvs.map Prod.fst → findA kvs k = none → atM xs k = none
  | [], _, _, _, _ => rfl
  | _ :: _, [], _, n, _ => by cases n
  | (a, b, c) :: xs, (a', b') :: kvs, k, n, e => by
    rw [List.map_cons, List.map_cons] at n
    injection n with n1 n2
    have n1 : a = a' := n1
    subst n1
    unfold findA at e
    unfold atM
    rw [List.find?_cons] at e ⊢
    by_cases q : a = k
    · rw [show decide ((a, b').1 = k) = true from decide_eq_true q] at e
      cases e
    · rw [show decide ((a, b').1 = k) = false from decide_eq_false q] at e
      rw [show decide ((a, b, c).1 = k) = false from decide_eq_false q]
      exact find_none n2 e
theorem find_some : ∀ {xs : List (MK × Value × Value)} {kvs : List (MK × A)} {vs : List V} {k : MK} {a : A}, xs.map (·.1) = kvs.map Prod.fst → Vals vs (xs.map (·.2.2)) → Reps K ρ H (kvs.map Prod.snd) vs → findA kvs k = some a → ∃ v u, atM xs k = some u ∧ RelV v u ∧ Rep K ρ H a v
  | [], [], _, _, _, _, _, _, e => by cases e
  | [], _ :: _, _, _, _, n, _, _, _ => by cases n
  | _ :: _, [], _, _, _, n, _, _, _ => by cases n
  | (a, b, c) :: xs, (a', b') :: kvs, _, k, d, n, w, r, e => by
    rw [List.map_cons, List.map_cons] at n
    injection n with n1 n2
    have n1 : a = a' := n1
    subst n1
    rw [List.map_cons] at r
    rw [List.map_cons] at w
    cases r with
    | cons r1 r2 =>
      cases w with
      | cons w1 w2 =>
        unfold findA at e
        unfold atM
        rw [List.find?_cons] at e ⊢
        by_cases q : a = k
        · rw [show decide ((a, b').1 = k) = true from decide_eq_true q] at e
          rw [show decide ((a, b, c).1 = k) = true from decide_eq_true q]
          cases e
          exact ⟨_, c, rfl, w1, r1⟩
        · rw [show decide ((a, b').1 = k) = false from decide_eq_false q] at e
          rw [show decide ((a, b, c).1 = k) = false from decide_eq_false q]
          exact find_some n2 w2 r2 e
theorem SqT_updE {q : Addr} {ts : List V} {φ : Heap → Prop} {o : HO} (hp : H p = some (.ext φ)) (z : SqT K H q ts) : SqT K (upd H p o) q ts := by
  rcases z with (z | ⟨ob, z⟩) | z
  · refine .inl (.inl ?_)
    rw [upd_ne]; exact z
    intro e; subst e; rw [z] at hp; cases hp
  · refine .inl (.inr ⟨ob, ?_⟩)
    rw [upd_ne]; exact z
    intro e; subst e; rw [z] at hp; cases hp
  · exact .inr z
theorem RoL_updE {q : Addr} {ts : List V} {φ : Heap → Prop} {o : HO} (hp : H p = some (.ext φ)) (z : RoL K H q ts) : RoL K (upd H p o) q ts := by
  rcases z with ⟨ob, z⟩ | z
  · refine .inl ⟨ob, ?_⟩
    rw [upd_ne]; exact z
    intro e; subst e; rw [z] at hp; cases hp
  · exact .inr z
theorem RelH.allocD (r : RelH K ρ H h) (hp : H p = none) (hs : (p == sysModules) = false) :
    Up K ρ H (ρ ++ [p]) (upd H p (DicT hf p [])) ∧ RelH K (ρ ++ [p]) (upd H p (DicT hf p [])) (h ++ [.dic hf []]) ∧ Rep K (ρ ++ [p]) (upd H p (DicT hf p [])) (.loc h.length) (.ref p) := by
  have u : Up K ρ H (ρ ++ [p]) (upd H p (DicT hf p [])) := ⟨⟨⟨[p], rfl⟩, fun q ws z => SqT_upd (.inl hp) z, fun q ws z => RoL_upd (.inl hp) z, fun q o y z => frz_upd (nf_none hp) z⟩, fun q o n z => by rw [upd_ne (ne_of_none z hp)]; exact .inl z, fun q m n => by
    rcases List.mem_append.mp m with m | m
    · exact absurd m n
    · rw [List.mem_singleton.mp m]; exact hp⟩
  refine ⟨u, ⟨by simp [r.len], ?_, fun n q o e1 e2 => ?_, r.tb.to u.toLe fun P ps z => tbl_upd (nt_none hp) z⟩, .loc (by rw [← r.len]; simp)⟩
  · rw [List.nodup_append]
    refine ⟨r.nd, by simp, fun a ha b hb => ?_⟩
    have : b = p := by simpa using hb
    subst this
    intro e; subst e
    exact r.notin hp ha
  · by_cases hn : n < ρ.length
    · rw [List.getElem?_append_left hn] at e1
      rw [List.getElem?_append_left (by rw [← r.len]; exact hn)] at e2
      have mq := List.mem_of_getElem? e1
      refine (r.obj n q o e1 e2).up u ?_
      have q1 : q ≠ p := fun e => r.notin hp (by rw [← e]; exact mq)
      rw [upd_ne q1]
    · have hn2 : n = ρ.length := by
        have := (List.getElem?_eq_some_iff.mp e1).1
        rw [List.length_append, List.length_singleton] at this
        omega
      subst hn2
      have e3 : q = p := by simpa using e1.symm
      have e4 : o = .dic hf [] := by rw [r.len] at e2; simpa using e2.symm
      subst e3 e4
      exact ⟨hs, [], [], upd_same, rfl, (fun y m => absurd m (by simp)), .nil, .nil⟩
end
open Classical in
open Classical in
open Classical in
def eDnew (hf : MK → Int) : ME := fun _ h => some (.loc h.length, h ++ [.dic hf []])
section
variable {K : PySem.W.Frag} {hf : MK → Int}
end
section
variable {X : Cx} {a b e o i value : Expr} {ma mb mo mi mv : ME} {pos pos' : Pos} {k : Nat}
theorem u1 {k : Nat} {Ar : Around} (r : Room k Ar) : Ar.units + 1 < cLine := by have := r.un; omega
theorem je_dnew : JE X (.Dict [] [] pos) (eDnew (hashM X.prog X.w)) := ⟨PE_imp pe_dnewM fun σ H Q q => by
  obtain ⟨ρ, τ, h, d, h', R, S, e, k⟩ := q
  cases e
  intro p hp hs
  obtain ⟨u, R1, r1⟩ := R.allocD (hf := hashM X.prog X.w) hp hs
  exact k _ _ _ u R1 r1⟩
end
end Ab
set_option Elab.async false
set_option linter.all false
set_option maxRecDepth 100000
namespace Ab
open PySem PySem.Spec PyProof.Rows L2
set_option autoImplicit false
section
variable {X : Cx} {K : PySem.W.Frag} {a b c e e2 o i : Expr} {es : List Expr} {pos p p2 p3 p4 tpos : Pos} {ma mb mc mo mi : ME} {ms : MA} {k n : Nat} {apos cpos : Pos} {te : TE} {elts : List Expr} {kk : Nat}
def itE (n len : Nat) : AIt := ⟨len, fun i h => (lstA (.loc n) h).bind fun xs => (xs[i]?).bind fun x => some (.tup [.int (i : Nat), x]), fun h => match lstA (.loc n) h with | some xs => decide (xs.length ≤ len) | none => false⟩
def kIE : List A × AHp → Rs AIt := fun p => match p.1 with
  | [.loc n] => (lstA (.loc n) p.2).bind fun xs => some (itE n xs.length, p.2)
  | _ => none
def iEnumerate (ms : MA) : MI := fun τ h => (ms τ h).bind fun p => match p.1 with
  | [.loc n] => (lstA (.loc n) p.2).bind fun xs => some (itE n xs.length, p.2)
  | _ => none
theorem ev_ienum {τ : ASt} {h : AHp} : iEnumerate ms τ h = (ms τ h).bind kIE := id rfl
def itZ (m n len : Nat) : AIt := ⟨len, fun i h => (lstA (.loc m) h).bind fun xs => (lstA (.loc n) h).bind fun ys => (xs[i]?).bind fun x => (ys[i]?).bind fun y => some (.tup [x, y]),
  fun h => match lstA (.loc m) h, lstA (.loc n) h with | some xs, some ys => decide (xs.length ≤ len ∨ ys.length ≤ len) | _, _ => false⟩
def kIZ : List A × AHp → Rs AIt := fun p => match p.1 with
  | [.loc m, .loc n] => (lstA (.loc m) p.2).bind fun xs => (lstA (.loc n) p.2).bind fun ys => some (itZ m n (min xs.length ys.length), p.2)
  | _ => none
def iZipM (ms : MA) : MI := fun τ h => (ms τ h).bind fun p => match p.1 with
  | [.loc m, .loc n] => (lstA (.loc m) p.2).bind fun xs => (lstA (.loc n) p.2).bind fun ys => some (itZ m n (min xs.length ys.length), p.2)
  | _ => none
theorem ev_izip {τ : ASt} {h : AHp} : iZipM ms τ h = (ms τ h).bind kIZ := id rfl
inductive Ents (w : World) : List DictEntry → List (Str × Addr) → Prop
  | nil : Ents w [] []
  | cons {x : Str} {t : Tok} {a : Addr} {hh : Int} {es : List DictEntry} {kvs : List (Str × Addr)} : hh = hashStr w x → Ents w es kvs → Ents w (⟨hh, .str x t, .ref a⟩ :: es) ((x, a) :: kvs)
structure KDict (w : World) (K : PySem.W.Frag) (mg : Str → Option Value) (D : Str) (kvs : List (Str × Addr)) : Prop where
  ex : ∃ (p : Addr) (es : Array DictEntry) (ep : Nat), mg D = some (.ref p) ∧ K.lookup p = some ⟨.type "dict", none, .dict es ep, #[]⟩ ∧ (p == sysModules) = false ∧ Ents w es.toList kvs ∧ (kvs.map (·.1)).Nodup
def eInD (kvs : List (Str × Addr)) (ma : ME) : ME := fun τ h => (ma τ h).bind fun p => match p.1 with | .str x => some (.bl (kvs.lookup x).isSome, p.2) | _ => none
def eGetD (kvs : List (Str × Addr)) (ma : ME) : ME := fun τ h => (ma τ h).bind fun p => match p.1 with | .str x => (kvs.lookup x).bind fun a => some (.raw a, p.2) | _ => none
def kInD (kvs : List (Str × Addr)) : A × AHp → Rs A := fun p => match p.1 with | .str x => some (.bl (kvs.lookup x).isSome, p.2) | _ => none
def kGetD (kvs : List (Str × Addr)) : A × AHp → Rs A := fun p => match p.1 with | .str x => (kvs.lookup x).bind fun a => some (.raw a, p.2) | _ => none
theorem ev_inD {kvs : List (Str × Addr)} {τ : ASt} {h : AHp} : eInD kvs ma τ h = (ma τ h).bind (kInD kvs) := id rfl
theorem ev_getD {kvs : List (Str × Addr)} {τ : ASt} {h : AHp} : eGetD kvs ma τ h = (ma τ h).bind (kGetD kvs) := id rfl
theorem ev_kInD {kvs : List (Str × Addr)} {x : Str} {h : AHp} : kInD kvs (.str x, h) = some (.bl (kvs.lookup x).isSome, h) := id rfl
theorem ev_kGetD {kvs : List (Str × Addr)} {x : Str} {h : AHp} : kGetD kvs (.str x, h) = (kvs.lookup x).bind fun a => some (.raw a, h) := id rfl
structure FnAt (P : Program) (w : World) (K : PySem.W.Frag) (mg : Str → Option Value) (base : Heap) (k : Nat) (f : Addr) (F : MF) (n : Nat) : Prop where
  ex : ∃ fd ps, FnOk P w K mg base CX0 k f fd ps (spF K F n) ∧ Binds K fd ps [] ∧ PySem.W.keepIn K (.ref f) = true
end
end Ab
set_option Elab.async false
set_option linter.all false
set_option maxRecDepth 100000
namespace Ab
open PySem PySem.Spec PyProof.Rows L2
set_option autoImplicit false
set_option relaxedAutoImplicit false
section
variable {K : PySem.W.Frag}
end
def sAug (i : Nat) (f : A → A → AHp → Rs A) (me : ME) : MS := fun τ h => (eVar i τ h).bind fun p => (me τ p.2).bind fun q => (f p.1 q.1 q.2).bind fun r => some (.nx (τ.set i (some r.1)), r.2)
section
variable {X : Cx} {a b e o i : Expr} {ma mb me mo mi : ME} {pos pos' tpos : Pos}
end
section
variable {P : Program} {w : World} {K : PySem.W.Frag} {mg : Str → Option Value} {base : Heap}
structure MDef (K : PySem.W.Frag) (C : Addr) (m qual : Str) (st : Stmt) (ps : List Str) : Prop where
  ex : ∃ g fd, Meth K C m g ∧ Fun K m qual st g fd ∧ Binds K fd ps []
structure MFn (P : Program) (w : World) (K : PySem.W.Frag) (mg : Str → Option Value) (base : Heap) (k : Nat) (C : Addr) (m : Str) (F : MF) (n : Nat) : Prop where
  ex : ∃ g fd ps, Meth K C m g ∧ FnOk P w K mg base CX0 k g fd ps (spF K F n) ∧ Binds K fd ps []
theorem MFn.mono {C : Addr} {m : Str} {k j n : Nat} {F : MF} (h : MFn P w K mg base k C m F n) (hk : k ≤ j) : MFn P w K mg base j C m F n := by
  obtain ⟨g, fd, ps, h1, h2, h3⟩ := h.ex
  exact ⟨g, fd, ps, h1, h2.mono hk, h3⟩
structure Klass (K : PySem.W.Frag) (mg : Str → Option Value) (x : Str) (C : Addr) : Prop where
  cl : Cls K C
  mks : PySem.W.makesIn K C = true
  kp : PySem.W.keepIn K (.ref C) = true
  at_ : mg x = some (.ref C)
end
section
variable {X : Cx} {e o : Expr} {es : List Expr} {mo : ME} {ms : MA} {m x : Str} {C : Addr} {pos apos p : Pos} {k n : Nat} {F : MF}
end
section
variable {X : Cx} {pos : Pos}
end
end Ab
set_option Elab.async false
set_option linter.all false
set_option maxRecDepth 100000
namespace Ab
open PySem PySem.Spec PyProof.Rows L2
set_option autoImplicit false
section
variable {K : PySem.W.Frag} {ρ ρ' : List Addr} {H H' : Hp} {h : AHp}
theorem SqT_mono {p : Addr} {vs : List V} (k : ∀ b o, H b = some o → H' b = some o) (z : SqT K H p vs) : SqT K H' p vs := by
  rcases z with (z | ⟨o, z⟩) | z
  · exact .inl (.inl (k _ _ z))
  · exact .inl (.inr ⟨o, k _ _ z⟩)
  · exact .inr z
theorem RoL_mono {p : Addr} {vs : List V} (k : ∀ b o, H b = some o → H' b = some o) (z : RoL K H p vs) : RoL K H' p vs := by
  rcases z with ⟨o, z⟩ | z
  · exact .inl ⟨o, k _ _ z⟩
  · exact .inr z
theorem RelH.grow (r : RelH K ρ H h) (k : ∀ b o, H b = some o → H' b = some o) : Up K ρ H ρ H' ∧ RelH K ρ H' h := by
  have l : Le K ρ H ρ H' := ⟨List.prefix_refl _, fun p vs z => SqT_mono k z, fun p vs z => RoL_mono k z, fun p o y z => k _ _ z⟩
  refine ⟨⟨l, fun p o _ z => .inl (k _ _ z), fun p m n => absurd m n⟩, r.len, r.nd, fun n q o e1 e2 => (r.obj n q o e1 e2).le l ?_, r.tb.to l fun P ps z => k _ _ z⟩
  obtain ⟨u, hu⟩ := (r.obj n q o e1 e2).some
  rw [hu]; exact k _ _ hu
theorem RelH.notin' {p : Addr} {h2 : AHp} (_ : RelH K ρ H' h) (hp : H p = none) (_ : ∀ b o, H b = some o → H' b = some o) (r : RelH K ρ H h2) : p ∉ ρ := r.notin hp
theorem RelH.take {p : Addr} {o : AO} (r : RelH K ρ H h) (hn : p ∉ ρ) (x : ObjR K (ρ ++ [p]) H p o) : Le K ρ H (ρ ++ [p]) H ∧ RelH K (ρ ++ [p]) H (h ++ [o]) := by
  have l : Le K ρ H (ρ ++ [p]) H := ⟨⟨[p], rfl⟩, fun _ _ z => z, fun _ _ z => z, fun _ _ _ z => z⟩
  refine ⟨l, by simp [r.len], ?_, fun n q u e1 e2 => ?_, r.tb⟩
  · rw [List.nodup_append]
    refine ⟨r.nd, by simp, fun a ha b hb => ?_⟩
    have : b = p := by simpa using hb
    subst this
    intro e; subst e
    exact hn ha
  · by_cases hl : n < ρ.length
    · rw [List.getElem?_append_left hl] at e1
      rw [List.getElem?_append_left (by rw [← r.len]; exact hl)] at e2
      exact (r.obj n q u e1 e2).le l rfl
    · have hn2 : n = ρ.length := by
        have := (List.getElem?_eq_some_iff.mp e1).1
        rw [List.length_append, List.length_singleton] at this
        omega
      subst hn2
      have e3 : q = p := by simpa using e1.symm
      have e4 : u = o := by rw [r.len] at e2; simpa using e2.symm
      subst e3 e4
      exact x
end
open Classical in
noncomputable def frzC (cells : List (Str × Addr)) (h : Heap) (H : Hp) : Hp := fun b => match H b with
  | some o => some o
  | none => if ∃ x, cells.lookup x = some b then (h.get? b).map (fun o => HO.frz o (.own 0)) else none
section
variable {cells : List (Str × Addr)} {h : Heap} {H : Hp} {b : Addr}
theorem frzC_some {o : HO} (e : H b = some o) : frzC cells h H b = some o := by unfold frzC; rw [e]
theorem frzC_none (e : H b = none) (n : ∀ x, cells.lookup x ≠ some b) : frzC cells h H b = none := by
  unfold frzC; rw [e]
  exact if_neg fun ⟨x, z⟩ => n x z
open Classical in
theorem frzC_cell {x : Str} {o : Obj} (e : H b = none) (hc : cells.lookup x = some b) (ho : h.get? b = some o) : frzC cells h H b = some (.frz o (.own 0)) := by
  unfold frzC; rw [e]
  show (if _ then _ else _) = _
  rw [if_pos ⟨x, hc⟩, ho]; rfl
open Classical in
theorem frzC_inv {o : HO} (e : frzC cells h H b = some o) : H b = some o ∨ (H b = none ∧ ∃ x ob, cells.lookup x = some b ∧ h.get? b = some ob ∧ o = .frz ob (.own 0)) := by
  cases q : H b with
  | some u => rw [frzC_some q] at e; exact .inl e
  | none =>
    unfold frzC at e; rw [q] at e
    have e : (if ∃ x, cells.lookup x = some b then (h.get? b).map (fun o => HO.frz o (.own 0)) else none) = some o := e
    split at e
    · rename_i hx
      obtain ⟨x, hx⟩ := hx
      cases g : h.get? b with
      | none => rw [g] at e; cases e
      | some ob => rw [g] at e; cases e; exact .inr ⟨rfl, x, ob, hx, rfl, rfl⟩
    · cases e
end
section
variable {X : Cx} {pins : List (Addr × Obj)} {σ : L2.St} {H : Hp} {s : Shared}
theorem inv_freeze (I : Inv X pins σ H s) (hfn : ∀ x, X.fn x = false) (hab : ∀ x c, X.env.cells.lookup x = some c → X.s_0.heap.objs.size ≤ c) : Inv X pins σ (frzC X.env.cells s.heap H) s := by
  have cobj : ∀ x c, X.env.cells.lookup x = some c → ∃ o v, s.heap.get? c = some o ∧ o.data = .cell v := fun x c e => let ⟨v, o, ho, hd⟩ := I.cell x c e; ⟨o, v, ho, hd⟩
  refine ⟨I.ok, I.os, I.bare, ⟨I.base.keep, I.base.slot, fun b o e n hx => ?_, I.base.there, fun b xs e => frzC_some (I.base.tups b xs e), fun b o u e => frzC_some (I.base.frzs b o u e), fun b ps e => ?_⟩, I.loc, I.cell, ?_, fun x c e => ?_, fun p hp => ?_, fun b o e => ?_, I.len⟩
  · refine frzC_none (I.base.free b o e n hx) fun x z => ?_
    exact absurd (Nat.lt_of_lt_of_le (Heap.lt_size e) (hab x b z)) (Nat.lt_irrefl _)
  · obtain ⟨m, q⟩ := I.base.tbls b ps e
    exact ⟨m, frzC_some q⟩
  · exact frzC_none I.free fun x z => I.cne x _ z rfl
  · obtain ⟨o, v, ho, hd⟩ := cobj x c e
    rcases I.freeC x c e with q | ⟨_, o', y, q⟩
    · exact .inr ⟨hfn x, o, 0, frzC_cell q e ho⟩
    · exact .inr ⟨hfn x, o', y, frzC_some q⟩
  · obtain ⟨e, n, ne, nf, d⟩ := I.pin p hp
    refine ⟨e, frzC_none n fun x z => ?_, ne, nf, d⟩
    obtain ⟨o, v, ho, hd⟩ := cobj x _ z
    rw [e] at ho
    cases ho
    exact d v hd
  · rcases frzC_inv e with q | ⟨q, x, ob, hx, ho, rfl⟩
    · exact (I.hok b o q).stay (fun _ _ _ z => z) (fun _ z => frzC_some z) fun _ _ z => frzC_some z
    · exact ⟨ho, ob, ho⟩
end
section
variable {X : Cx} {pins : List (Addr × Obj)} {σ : L2.St} {H : Hp} {s : Shared} {ρ : List Addr} {h : AHp}
theorem tab_step {P c' : Addr} {ps more : Array Value} {h' : Heap} {oc : Obj} {tk : Nat} (I : Inv X pins σ H s) (R : RelH X.K ρ H h) (hP : H P = some (.tbl ps)) (hx : Heap.ExtBut P s.heap h') (hge : s.heap.objs.size ≤ c') (hoc : h'.get? c' = some oc)
    (htb : h'.get? P = some (PySem.W.tabObj (ps ++ more))) (tab : TabOk X.K (upd (upd H P (.tbl (ps ++ more))) c' (.frz oc (.own 0)))) :
    Inv X pins σ (upd (upd H P (.tbl (ps ++ more))) c' (.frz oc (.own 0))) { s with heap := h', toks := tk } ∧ Up X.K ρ H ρ (upd (upd H P (.tbl (ps ++ more))) c' (.frz oc (.own 0))) ∧ RelH X.K ρ (upd (upd H P (.tbl (ps ++ more))) c' (.frz oc (.own 0))) h := by
  have hn : H c' = none := I.hok.fresh hge
  have ncP : c' ≠ P := fun e => by rw [e, hP] at hn; cases hn
  have other : ∀ b o, H b = some o → (∀ ps, o ≠ .tbl ps) → upd (upd H P (.tbl (ps ++ more))) c' (.frz oc (.own 0)) b = some o := fun b o e nt => by
    rw [upd_ne (fun z => by rw [z, hn] at e; cases e), upd_ne (fun z => by rw [z, hP] at e; cases e; exact nt _ rfl)]; exact e
  have none_ : ∀ b, H b = none → b ≠ c' → upd (upd H P (.tbl (ps ++ more))) c' (.frz oc (.own 0)) b = none := fun b e nc => by
    rw [upd_ne nc, upd_ne (fun z => by rw [z, hP] at e; cases e)]; exact e
  have atP : upd (upd H P (.tbl (ps ++ more))) c' (.frz oc (.own 0)) P = some (.tbl (ps ++ more)) := by rw [upd_ne (Ne.symm ncP)]; exact upd_same
  have tbls : ∀ b qs, H b = some (.tbl qs) → ∃ m, upd (upd H P (.tbl (ps ++ more))) c' (.frz oc (.own 0)) b = some (.tbl (qs ++ m)) := fun b qs e => by
    by_cases hb : b = P
    · subst hb; rw [hP] at e; cases e
      exact ⟨more, atP⟩
    · refine ⟨#[], ?_⟩
      rw [upd_ne (fun z => by rw [z, hn] at e; cases e), upd_ne hb, e, Array.append_empty]
  have hok : HOk X.prog X.w (upd (upd H P (.tbl (ps ++ more))) c' (.frz oc (.own 0))) h' := fun b o e => by
    by_cases hb : b = c'
    · subst hb; rw [upd_same] at e; cases e
      exact ⟨hoc, oc, hoc⟩
    · rw [upd_ne hb] at e
      by_cases hb2 : b = P
      · subst hb2; rw [upd_same] at e; cases e
        exact htb
      · rw [upd_ne hb2] at e
        refine (I.hok b o e).stay (fun c v hc q => hx c v (fun z => ?_) q) (fun c q => other _ _ q nofun) fun c xs q => other _ _ q nofun
        rcases hc with rfl | hc
        · exact hb2 z
        · rw [z, hP] at hc; cases hc
  have l : Le X.K ρ H ρ (upd (upd H P (.tbl (ps ++ more))) c' (.frz oc (.own 0))) := by
    refine ⟨List.prefix_refl _, fun p vs z => ?_, fun p vs z => ?_, fun p o y z => other _ _ z nofun⟩
    · rcases z with (z | ⟨o, z⟩) | z
      · exact .inl (.inl (other _ _ z nofun))
      · exact .inl (.inr ⟨o, other _ _ z nofun⟩)
      · exact .inr z
    · rcases z with ⟨o, z⟩ | z
      · exact .inl ⟨o, other _ _ z nofun⟩
      · exact .inr z
  have notP : P ∉ ρ := fun m => by
    obtain ⟨n, hn', e⟩ := List.mem_iff_getElem.mp m
    have hn2 : n < h.length := by rw [← R.len]; exact hn'
    have z := R.obj n P h[n] (by simp [hn', e]) (by simp [hn2])
    cases q : h[n] with
    | lst xs => rw [q] at z; obtain ⟨vs, z, _⟩ := z; rw [hP] at z; cases z
    | ins C fs => rw [q] at z; obtain ⟨dx, vs, z, _⟩ := z; rw [hP] at z; cases z
    | dic hf kvs => rw [q] at z; obtain ⟨_, xs, vs, z, _⟩ := z; rw [hP] at z; cases z
    | clo e xs => rw [q] at z; obtain ⟨_, _, _, _, _, _, _, _, _, _, _, _, _, z, _⟩ := z; rw [hP] at z; cases z
  have u : Up X.K ρ H ρ (upd (upd H P (.tbl (ps ++ more))) c' (.frz oc (.own 0))) := by
    refine ⟨l, fun p o _ e => ?_, fun p m n => absurd m n⟩
    cases o with
    | tbl qs => obtain ⟨m, z⟩ := tbls p qs e; exact .inr ⟨qs, _, rfl, z⟩
    | _ => exact .inl (other _ _ e nofun)
  refine ⟨?_, u, R.len, R.nd, fun n q o e1 e2 => (R.obj n q o e1 e2).le l ?_, tab⟩
  · refine I.step (g' := s.gens) (d' := s.drawn) (ch := []) (fun _ z => nomatch z) (fun b o _ _ _ e n => hx b o (fun z => by rw [z, hP] at n; cases n) e) (fun b o _ _ _ e n => ⟨o.slots, hx b o (fun z => by rw [z, hP] at n; cases n) e⟩)
      (fun b o _ e n => none_ b n (Nat.ne_of_lt (Nat.lt_of_lt_of_le (Heap.lt_size e) hge))) (fun b o _ e => ?_) (fun b xs e => other _ _ e nofun) (fun b o u e => other _ _ e nofun) tbls (fun m hm => ?_) hok I.bare
    · by_cases hb : b = P
      · subst hb; exact ⟨_, htb⟩
      · exact ⟨o, hx b o hb e⟩
    · obtain ⟨o, es, ep, ho, r⟩ := hm
      exact ⟨o, es, ep, hx _ o (fun z => by have := I.free; rw [z, hP] at this; cases this) ho, r⟩
  · have nq : q ≠ P := fun e => notP (by rw [← e]; exact List.mem_of_getElem? e1)
    obtain ⟨w, hw⟩ := (R.obj n q o e1 e2).some
    rw [upd_ne (fun e => by rw [e, hn] at hw; cases hw), upd_ne nq]
end
theorem among_snoc {pos pos' : Pos} {c cv : Value} {l : List Value} (ht : TriplesOk l) : codeAmong pos (l ++ [rawInt pos'.line, rawInt pos'.col, c]) = some cv → codeAmong pos l = some cv ∨ cv = c := by
  fun_induction TriplesOk l with
  | case1 =>
    intro e
    simp only [List.nil_append, codeAmong, rawInt] at e
    split at e
    · cases e; exact .inr rfl
    · cases e
  | case2 a t b u x rest ih =>
    intro e
    simp only [List.cons_append, codeAmong] at e ⊢
    split at e
    · rename_i hc; rw [if_pos hc]; exact .inl e
    · rename_i hc; rw [if_neg hc]; exact ih ht e
  | case3 l h1 h2 => exact ht.elim
section
variable {X : Cx} {pins : List (Addr × Obj)} {σ : L2.St} {H : Hp} {s : Shared} {ρ : List Addr} {h : AHp} {c P : Addr} {q : Str} {args : Arguments} {body : Expr} {scope : Scope} {pos : Pos} {clos : List (Str × Addr)} {Q : Value → Shared → Prop} {E : Value → Shared → Prop} {M : Model} {A : Around}
theorem lam_made (I : Inv X pins σ H s) (R : RelH X.K ρ H h) (hcode : X.env.code = .ref c) (hC : PySem.W.codeHdIn X.K c P = true) (hq : IsTab X.K c P q) (hqe : X.env.qual ++ "<lambda>" = q) (hB : BMod X.base X.mg) (hcl : closureFor scope X.env = pure clos) (hdef : defaultsOf args X.env = ([], []))
    (fin : ∀ (c' : Addr) (ctv pm : Value) (H2 : Hp) (h2 : Heap) (tk : Nat), Inv X pins σ H2 { s with heap := h2, toks := tk } → Up X.K ρ H ρ H2 → RelH X.K ρ H2 h → CodeF H2 q (.ref c') →
      Q (.ref h2.objs.size) { s with heap := h2.push (PySem.W.kla_obj "<lambda>" q args body scope clos pm c' ctv), toks := tk }) :
    wpAny M A (eval (.Lambda args body scope pos) X.env) Q E s := by
  obtain ⟨ps, hP, tr, good⟩ := R.tb.tat c P q hq
  have hPh : s.heap.get? P = some (PySem.W.tabObj ps) := I.hok P _ hP
  have hC' : PySem.W.CodeHd s.heap c P := PySem.W.codeHd_of_K I.kIn hC
  have hg : s.heap.Ns mainGlobals X.mg := I.ok.mod.glob.keeps I.bk
  have untr : ∀ b o, X.K.lookup b = some o → H b = none := fun b o e => (I.bs b o (I.ok.mod.kin b o e)).2
  have hgP : mainGlobals ≠ P := fun e => by
    obtain ⟨o, es, ep, g, d, _⟩ := hg
    rw [e, hPh] at g; cases g; cases d
  obtain ⟨bm, ob, b1, b2, b3, b4, b5⟩ := hB
  have bP : bm ≠ P := fun e => by
    have z := (I.bs bm ob b4).2
    rw [e, hP] at z; cases z
  have hb : s.heap.BuiltinsAt X.mg P := ⟨bm, ob, b1, b2, b3, bP, (I.bs bm ob b4).1, b5⟩
  subst hqe
  refine PySem.W.kla_eval hdef ?_
  cases ha : codeAmong pos ps.toList with
  | none =>
    refine PySem.W.kla_makeFunction (mg := X.mg) hcl I.ok.glob hg hcode hC' hPh tr ha hgP hb fun c' ctv h' tk hx hge hlt hrec htb => ?_
    obtain ⟨c₂, oc, vs, t, e2, hoc, hd, hv⟩ := hrec
    cases e2
    have hn : H c' = none := I.hok.fresh hge
    have cF : ∀ H', (∀ b o y, H b = some (.frz o (.own y)) → H' b = some (.frz o (.own y))) → ∀ cv, CodeF H (X.env.qual ++ "<lambda>") cv → CodeF H' (X.env.qual ++ "<lambda>") cv := fun H' k cv ⟨c, oc, vs, t, y, e, hc, r⟩ => ⟨c, oc, vs, t, y, e, k _ _ _ hc, r⟩
    have tab : TabOk X.K (upd (upd H P (.tbl (ps ++ #[rawInt pos.line, rawInt pos.col, .ref c']))) c' (.frz oc (.own 0))) := by
      have fz : ∀ b o y, H b = some (.frz o (.own y)) → upd (upd H P (.tbl (ps ++ #[rawInt pos.line, rawInt pos.col, .ref c']))) c' (.frz oc (.own 0)) b = some (.frz o (.own y)) := fun b o y e => by
        rw [upd_ne (fun z => by rw [z, hn] at e; cases e), upd_ne (fun z => by rw [z, hP] at e; cases e)]; exact e
      refine ⟨R.tb.uq, fun c1 P1 q1 i1 => ?_⟩
      by_cases hp : P1 = P
      · subst hp
        have eq := R.tb.uq _ _ _ _ _ i1 hq
        subst eq
        refine ⟨ps ++ #[rawInt pos.line, rawInt pos.col, .ref c'], ?_, ?_, fun pos' cv e => ?_⟩
        · rw [upd_ne (fun z => by rw [z, hn] at hP; cases hP)]; exact upd_same
        · rw [Array.toList_append]; exact TriplesOk_snoc _ _ _ _ tr
        · rw [Array.toList_append] at e
          rcases among_snoc tr e with e | rfl
          · exact cF _ fz _ (good _ _ e)
          · exact ⟨c', oc, vs, t, 0, rfl, upd_same, hd, hv⟩
      · obtain ⟨ps1, hP1, tr1, g1⟩ := R.tb.tat c1 P1 q1 i1
        refine ⟨ps1, ?_, tr1, fun pos' cv e => ?_⟩
        · rw [upd_ne (fun z => by rw [z, hn] at hP1; cases hP1), upd_ne hp]; exact hP1
        · obtain ⟨c, oc, vs, t, y, e, hc, r⟩ := g1 pos' cv e
          exact ⟨c, oc, vs, t, y, e, fz _ _ _ hc, r⟩
    obtain ⟨I2, U2, R2⟩ := tab_step (tk := tk) I R hP hx hge hoc htb tab
    exact fin c' ctv _ _ h' tk I2 U2 R2 ⟨c', oc, vs, t, 0, rfl, upd_same, hd, hv⟩
  | some cv =>
    obtain ⟨c', oc, vs, t, y, rfl, hc, hd, hv⟩ := good pos cv ha
    refine PySem.W.kla_makeFunctionHit (mg := X.mg) hcl I.ok.glob hg hcode hC' hPh tr ha hb fun ctv h' tk hk hsz => ?_
    exact fin c' ctv _ H h' tk (I.kept hk) Up.refl R ⟨c', oc, vs, t, y, rfl, hc, hd, hv⟩
end
end Ab
set_option Elab.async false
set_option linter.all false
set_option maxRecDepth 100000
namespace Ab
open PySem PySem.Spec PyProof.Rows L2
set_option autoImplicit false
def capA : List (Str × Nat) → ASt → Option (List (Str × A))
  | [], _ => some []
  | (x, i) :: r, τ => match τ[i]? with
    | some (some a) => (capA r τ).bind fun xs => some ((x, a) :: xs)
    | _ => none
def eLam (e : Expr) (caps : List (Str × Nat)) : ME := fun τ h => (capA caps τ).bind fun xs => some (.loc h.length, h ++ [.clo e xs])
theorem capA_names {τ : ASt} : ∀ {caps : List (Str × Nat)} {xs : List (Str × A)}, capA caps τ = some xs → xs.map Prod.fst = caps.map Prod.fst
  | [], xs, e => by cases e; rfl
  | (x, i) :: r, xs, e => by
    unfold capA at e
    split at e
    · obtain ⟨ys, e1, e⟩ := bindS e
      cases e
      rw [List.map_cons, List.map_cons, capA_names e1]
    · cases e
theorem clo_snd {cells : List (Str × Addr)} {names : List (Str × NameKind)} : cloFrom cells names [] = ((cloFrom cells names []).map Prod.fst).map fun n => (n, (cells.lookup n).getD 0) := by
  rw [List.map_map]
  refine (List.map_id _).symm.trans (List.map_congr_left fun p hp => ?_)
  obtain ⟨n, c⟩ := p
  rcases cloFrom_mem hp with hp | ⟨_, e⟩
  · cases hp
  · show (n, c) = (n, (cells.lookup n).getD 0)
    rw [e]
section
variable {X : Cx} {pins : List (Addr × Obj)} {σ : L2.St} {τ : ASt} {H H3 : Hp} {s : Shared} {ρ : List Addr}
theorem caps_ok (I : Inv X pins σ H s) (S : RelS X.K ρ H σ τ) (hfz : ∀ x c, X.env.cells.lookup x = some c → ∃ o y, H c = some (.frz o (.own y))) (k3 : ∀ b o y, H b = some (.frz o (.own y)) → H3 b = some (.frz o (.own y))) :
    ∀ {caps : List (Str × Nat)} {xs : List (Str × A)}, capA caps τ = some xs → (∀ p ∈ caps, X.N[p.2]? = some p.1 ∧ X.env.scope.names.lookup p.1 = some .cell) →
      ∃ us vs, CapR H3 ((caps.map Prod.fst).map fun n => (n, (X.env.cells.lookup n).getD 0)) us ∧ Vals vs us ∧ Reps X.K ρ H (xs.map Prod.snd) vs
  | [], xs, e, _ => by cases e; exact ⟨[], [], .nil, .nil, .nil⟩
  | (x, i) :: r, xs, e, hc => by
    unfold capA at e
    split at e
    · rename_i a ha
      obtain ⟨ys, e1, e⟩ := bindS e
      cases e
      obtain ⟨us, vs, h1, h2, h3⟩ := caps_ok I S hfz k3 e1 fun p hp => hc p (List.mem_cons_of_mem _ hp)
      obtain ⟨hN, hk⟩ := hc (x, i) List.mem_cons_self
      obtain ⟨v, hv, rv⟩ := S.get i a ha
      obtain ⟨m, hn, hl⟩ := I.loc
      obtain ⟨u, ru, l⟩ := hl i x v hN hv (.inr (.inl hk))
      rcases l with ⟨l, _⟩ | ⟨_, c, e, o, ho, hd⟩
      · have l : X.env.scope.names.lookup x = some .local := l
        rw [hk] at l; cases l
      · obtain ⟨o', y, hz⟩ := hfz x c e
        obtain ⟨g, _⟩ := I.hok c _ hz
        rw [ho] at g; cases g
        refine ⟨u :: us, v :: vs, ?_, .cons ru h2, .cons rv h3⟩
        refine .cons ⟨o, y, ?_, hd⟩ h1
        show H3 ((X.env.cells.lookup x).getD 0) = _
        rw [e]
        exact k3 _ _ _ hz
    · cases e
end
section
variable {X : Cx} {args : Arguments} {body : Expr} {scope : Scope} {pos : Pos} {c P : Addr} {q : Str}
theorem je_lam {caps : List (Str × Nat)} (hfn : ∀ x, X.fn x = false) (hab : ∀ x c, X.env.cells.lookup x = some c → X.s_0.heap.objs.size ≤ c) (hcode : X.env.code = .ref c) (hC : PySem.W.codeHdIn X.K c P = true) (hq : IsTab X.K c P q) (hqe : X.env.qual ++ "<lambda>" = q) (hB : BMod X.base X.mg)
    (hfree : (scope.names.all fun y => !(y.2 == .free) || (X.env.scope.names.lookup y.1 == some .cell)) = true) (hnm : (cloFrom X.env.cells scope.names []).map Prod.fst = caps.map Prod.fst) (hcap : ∀ p ∈ caps, X.N[p.2]? = some p.1 ∧ X.env.scope.names.lookup p.1 = some .cell)
    (hdef : defaultsOf args X.env = ([], []) := by rfl) : JE X (.Lambda args body scope pos) (eLam (.Lambda args body scope pos) caps) := ⟨fun pins s σ H Q I hw => by
  obtain ⟨ρ, τ, h, d, h', R, S, e, k⟩ := hw
  obtain ⟨xs, e1, e⟩ := bindS e
  cases e
  have hfr : ∀ y ∈ scope.names, y.2 = .free → ∃ c, X.env.cells.lookup y.1 = some c := fun y hy ey => by
    have z := List.all_eq_true.mp hfree y hy
    rw [ey] at z
    exact I.ok.has _ (.inl (show X.env.scope.names.lookup y.1 = some .cell by simpa using z))
  have inj : ∀ x y c, (cloFrom X.env.cells scope.names []).lookup x = some c → (cloFrom X.env.cells scope.names []).lookup y = some c → x = y := fun x y c e1 e2 => by
    have lk : ∀ {x c}, (cloFrom X.env.cells scope.names []).lookup x = some c → X.env.cells.lookup x = some c := fun {x c} e => by
      rcases cloFrom_mem (PySem.mem_of_lookup e) with z | ⟨z1, z2⟩
      · cases z
      · obtain ⟨c2, z3⟩ := hfr _ z1 rfl
        have z3 : X.env.cells.lookup x = some c2 := z3
        rw [z3] at z2; rw [z3, z2]; rfl
    exact I.ok.inj x y c (lk e1) (lk e2)
  have I1 := inv_freeze I hfn hab
  obtain ⟨U1, R1⟩ := R.grow (H' := frzC X.env.cells s.heap H) fun b o e => frzC_some e
  refine lam_made I1 R1 hcode hC hq hqe hB (closure_ok hfr) hdef fun c' ctv pm H2 h2 tk I2 U2 R2 CF => ?_
  have hn : H2 h2.objs.size = none := I2.hok.fresh (Nat.le_refl _)
  have I3 := I2.laid (a := h2.objs.size) (o := .frz (PySem.W.kla_obj "<lambda>" q args body scope (cloFrom X.env.cells scope.names []) pm c' ctv) (.own 0)) (h' := h2.push (PySem.W.kla_obj "<lambda>" q args body scope (cloFrom X.env.cells scope.names []) pm c' ctv)) (t' := tk) (fun b u e => Heap.get?_push_of_some _ e) (Nat.le_refl _) ⟨Heap.get?_push_size _ rfl, _, Heap.get?_push_size _ rfl⟩
  generalize hH3 : upd H2 h2.objs.size (.frz (PySem.W.kla_obj "<lambda>" q args body scope (cloFrom X.env.cells scope.names []) pm c' ctv) (.own 0)) = H3 at I3
  have k3 : ∀ b o, H2 b = some o → H3 b = some o := fun b o e => by rw [← hH3, upd_ne (ne_of_none e hn)]; exact e
  obtain ⟨U3, R3⟩ := R2.grow k3
  have hfz : ∀ x c, X.env.cells.lookup x = some c → ∃ o y, frzC X.env.cells s.heap H c = some (.frz o (.own y)) := fun x c e => by
    rcases I1.freeC x c e with z | ⟨_, o, y, z⟩
    · obtain ⟨v, o, ho, _⟩ := I.cell x c e
      cases g : H c with
      | none => exact ⟨o, 0, frzC_cell g e ho⟩
      | some u => rw [frzC_some g] at z; cases z
    · exact ⟨o, y, z⟩
  obtain ⟨us, vs, cp, rv, rs⟩ := caps_ok (H3 := H3) I1 (S.up U1) hfz (fun b o y e => k3 _ _ (U2.frz _ _ _ e)) e1 hcap
  rw [← hnm, ← clo_snd] at cp
  have np : h2.objs.size ∉ ρ := R3.notin' hn k3 R2
  obtain ⟨l4, R4⟩ := R3.take (o := .clo (.Lambda args body scope pos) xs) np ⟨args, body, scope, pos, q, _, pm, c', ctv, 0, us, vs, rfl, by rw [← hH3]; exact upd_same, CF.le U3.toLe, cp, by rw [hnm, capA_names e1], inj, rv, ((rs.up U2).up U3).le ⟨⟨[_], rfl⟩, fun _ _ z => z, fun _ _ z => z, fun _ _ _ z => z⟩⟩
  refine ⟨.ref h2.objs.size, H3, I3, rfl, k _ _ _ (U1.trans (U2.trans ⟨⟨l4.pre, fun p vs z => l4.tup _ _ (U3.tup _ _ z), fun p vs z => l4.ros _ _ (U3.ros _ _ z), fun p o y z => l4.frz _ _ _ (U3.frz _ _ _ z)⟩, fun p o _ z => .inl (k3 _ _ z), fun p m n => ?_⟩)) R4 (.loc (by rw [← R.len]; simp))⟩
  rcases List.mem_append.mp m with m | m
  · exact absurd m n
  · rw [List.mem_singleton.mp m]; exact hn⟩
end
end Ab
set_option Elab.async false
set_option linter.all false
set_option maxRecDepth 100000
namespace Ab
open PySem PySem.Spec PyProof.Rows L2
set_option autoImplicit false
def cxLam (P : Program) (w : World) (K : PySem.W.Frag) (mg : Str → Option Value) (base : Heap) (N : List Str) (qual : Str) (scope : Scope) (p : Addr) (cd : Value) (cl : List (Str × Addr)) (A : Around) (outer : List Env) (s : Shared) (H : Hp) : Cx where
  prog := P
  w := w
  K := K
  mg := mg
  base := base
  A := A.deeper (PySem.W.envX qual scope s.heap.objs.size p cd cl)
  N := N
  s_0 := s
  H_0 := H
  env := PySem.W.envX qual scope s.heap.objs.size p cd cl
  outer := outer
  stack := PySem.W.envX qual scope s.heap.objs.size p cd cl :: outer
  ex := []
  calm := true
  fn := fun _ => false
  pn := []
  xe := fun _ _ => False
structure LamScope (ns ps : List Str) (args : Arguments) (body : Expr) (scope : Scope) : Prop where
  kind : scope.kind = .function
  co : scope.isCoroutine = false
  gen : scope.isGenerator = false
  nd : (ns ++ ps).Nodup
  nc : ∀ y ∈ scope.names, y.2 ≠ .cell
  fr : ∀ x ∈ ns, scope.names.lookup x = some .free
  lo : ∀ x ∈ ps, scope.names.lookup x = some .local
  al : ∀ y ∈ scope.names, y.2 = .free → y.1 ∈ ns
  bd : ∀ (qual : Str) (cl : List (Str × Addr)) (pm cdv ct : Value) (us : List Value), us.length = ps.length → bindArgs (PySem.W.kla_fn "<lambda>" qual args body scope cl pm cdv ct) ⟨us, []⟩ = pure (ps.zip us)
theorem cap_get {H : Hp} : ∀ {cl : List (Str × Addr)} {us : List Value} {i : Nat} {u : Value}, CapR H cl us → us[i]? = some u → ∃ y o z, cl[i]? = some y ∧ H y.2 = some (.frz o (.own z)) ∧ o.data = .cell (some u)
  | _, _, _, _, .nil, e => by simp at e
  | _, _, 0, _, .cons ⟨o, z, h, d⟩ _, e => by simp at e; subst e; exact ⟨_, o, z, rfl, h, d⟩
  | _, _, i + 1, u, .cons _ t, e => by
    obtain ⟨y, o, z, h1, h2, h3⟩ := cap_get (i := i) (u := u) t (by simpa using e)
    exact ⟨y, o, z, by simpa using h1, h2, h3⟩
theorem cap_mem {H : Hp} : ∀ {cl : List (Str × Addr)} {us : List Value} {y : Str × Addr}, CapR H cl us → y ∈ cl → ∃ o z u, H y.2 = some (.frz o (.own z)) ∧ o.data = .cell (some u)
  | _, _, y, .nil, e => by cases e
  | _, _, y, .cons ⟨o, z, h, d⟩ t, e => by
    rcases List.mem_cons.mp e with rfl | e
    · exact ⟨o, z, _, h, d⟩
    · exact cap_mem t e
theorem lookup_ix : ∀ {cl : List (Str × Addr)} {i : Nat} {y : Str × Addr}, (cl.map Prod.fst).Nodup → cl[i]? = some y → cl.lookup y.1 = some y.2
  | [], _, _, _, e => by simp at e
  | (n, a) :: r, 0, y, _, e => by simp at e; subst e; simp
  | (n, a) :: r, i + 1, y, nd, e => by
    have e : r[i]? = some y := by simpa using e
    rw [List.map_cons, List.nodup_cons] at nd
    rw [List.lookup_cons]
    have : (y.1 == n) = false := by
      rw [beq_eq_false_iff_ne]
      intro z
      exact nd.1 (by rw [← z]; exact List.mem_map.mpr ⟨y, List.mem_of_getElem? e, rfl⟩)
    rw [this]
    exact lookup_ix nd.2 e
theorem zip_rev_lookup : ∀ {ps : List Str} {bs : List Value} {j : Nat} {x : Str} {u : Value}, ps.Nodup → ps[j]? = some x → bs[j]? = some u → (ps.zip bs).reverse.lookup x = some u := by
  intro ps
  induction ps with
  | nil => intro bs j x u _ h _; simp at h
  | cons p r ih =>
    intro bs j x u nd h1 h2
    cases bs with
    | nil => simp at h2
    | cons b t =>
      rw [List.nodup_cons] at nd
      show (((p, b) :: r.zip t).reverse).lookup x = _
      rw [List.reverse_cons, List.lookup_append]
      cases j with
      | zero =>
        simp at h1 h2; subst h1; subst h2
        have : (r.zip t).reverse.lookup p = none := by
          rw [List.lookup_eq_none_iff]
          intro q hq
          have := (List.of_mem_zip (List.mem_reverse.mp hq)).1
          simp only [beq_eq_false_iff_ne, ne_eq, bne_iff_ne]
          intro z
          exact nd.1 (by rw [z]; exact this)
        rw [this]; simp
      | succ j =>
        rw [ih nd.2 (by simpa using h1) (by simpa using h2)]; rfl
theorem mem_fst {cl : List (Str × Addr)} {x : Str} (h : x ∈ cl.map Prod.fst) : ∃ c, cl.lookup x = some c := by
  obtain ⟨y, hy, e⟩ := List.mem_map.mp h
  obtain ⟨n, c⟩ := y
  have e : n = x := e
  subst e
  exact L2.mem_lookup hy
section
variable {P : Program} {w : World} {K : PySem.W.Frag} {mg : Str → Option Value} {base : Heap} {k : Nat}
theorem lam_run {A : Around} {outer : List Env} {s : Shared} {H : Hp} {p c' y : Addr} {qual : Str} {args : Arguments} {body : Expr} {scope : Scope} {cl : List (Str × Addr)} {pm ctv : Value} {ns ps : List Str} {us bs : List Value} {vs as : List V} {Q : VK} {t : TE}
    (S : LamScope ns ps args body scope) (e0 : Env0 P w K mg base A outer s H) (hr : Room (k + 1) A) (hp : H p = some (.frz (PySem.W.kla_obj "<lambda>" qual args body scope cl pm c' ctv) (.own y))) (CF : CodeF H qual (.ref c')) (cap : CapR H cl us) (hns : cl.map Prod.fst = ns)
    (inj : ∀ x y c, cl.lookup x = some c → cl.lookup y = some c → x = y) (rv : Vals vs us) (ra : Vals as bs) (hl : as.length = ps.length)
    (hb : PE (cxLam P w K mg base (ns ++ ps) qual scope p (.ref c') cl A outer s H) body t) (q : t ((vs ++ as).map some) H Q) :
    codeAny (model P w) A (.call (.ref p) ⟨bs, []⟩) (CR CX0 outer P w H s Q E0) s := by
  have ho : s.heap.get? p = some (PySem.W.kla_obj "<lambda>" qual args body scope cl pm c' ctv) := (e0.hok p _ hp).1
  have hcd : s.heap.CodeRec (.ref c') qual := by
    obtain ⟨c, oc, ws, t, z, e, hc, hd, hv⟩ := CF
    cases e
    exact ⟨c', oc, ws, t, rfl, (e0.hok c' _ hc).1, hd, hv⟩
  have hlb : bs.length = ps.length := by rw [← ra.length]; exact hl
  have hlv : vs.length = ns.length := by
    rw [rv.length, ← hns, List.length_map]
    exact (Paired.length cap).symm
  refine PySem.W.kla_callFunE hr.depth ho rfl S.co S.gen rfl hcd ?_
  rw [S.bd qual cl pm (.ref c') ctv bs hlb]
  refine wpAny_pure (wpAny_newFunctionEnv S.nc (fun x hx => S.lo x.1 (List.of_mem_zip hx).1) (fun h₁ hn₁ hsb => ⟨?_, ?_⟩) S.kind)
  · exact ((e0.mod.nolimit).keeps fun b o e => (e0.bs b o e).1).fresh _ hsb
  show codeAny _ _ (.expr body (PySem.W.envX qual scope s.heap.objs.size p (.ref c') cl)) _ _
  have hk₁ : ∀ b o, s.heap.get? b = some o → h₁.get? b = some o := fun b o e => hsb.extBut b o (Nat.ne_of_lt (Heap.lt_size e)) (Heap.get?_push_of_some _ e)
  have ndn : (cl.map Prod.fst).Nodup := by rw [hns]; exact (List.nodup_append.mp S.nd).1
  have cellAt : ∀ x c, cl.lookup x = some c → ∃ o z u, H c = some (.frz o (.own z)) ∧ o.data = .cell (some u) ∧ s.heap.get? c = some o := fun x c e => by
    obtain ⟨o, z, u, h1, h2⟩ := cap_mem cap (PySem.mem_of_lookup e)
    exact ⟨o, z, u, h1, h2, (e0.hok c _ h1).1⟩
  have I : Inv (cxLam P w K mg base (ns ++ ps) qual scope p (.ref c') cl A outer s H) [] ((vs ++ as).map some) H { s with heap := h₁, toks := s.toks + (ps.zip bs).length } := by
    have noA : ∀ b : Addr, b ∉ (cxLam P w K mg base (ns ++ ps) qual scope p (.ref c') cl A outer s H).ex := fun b z => absurd (show b ∈ ([] : List Addr) from z) (by simp)
    refine ⟨⟨e0.mod, S.kind, rfl, rfl, Nat.le_refl _, inj, fun x hx => ?_, fun x c z _ => (by cases z), fun _ => hr.hd, Around.frames_deeper e0.frames, .inr ⟨rfl, rfl⟩, fun b z => absurd z (noA b), e0.bs, e0.bsz, fun b _ _ => noA b, fun b z => absurd z (noA b), e0.funs, e0.frf⟩,
      rfl, e0.bare, Un.kept hk₁, ⟨_, hn₁, fun i x v h1 h2 h3 => ?_⟩, fun x c e => ?_, e0.hok.fresh (Nat.le_refl _), fun x c e => ?_, fun p hp => absurd (show p ∈ ([] : List (Addr × Obj)) from hp) (by simp), e0.hok.kept hk₁, ?_⟩
    · have hx : scope.names.lookup x = some .cell ∨ scope.names.lookup x = some .free := hx
      rcases hx with hx | hx
      · exact absurd rfl (S.nc _ (PySem.mem_of_lookup hx))
      · exact mem_fst (cl := cl) (by rw [hns]; exact S.al _ (PySem.mem_of_lookup hx) rfl)
    · rw [List.getElem?_map] at h2
      have h1 : (ns ++ ps)[i]? = some x := h1
      have hv : (vs ++ as)[i]? = some v := by
        cases g : (vs ++ as)[i]? with
        | none => rw [g] at h2; cases h2
        | some b => rw [g] at h2; cases h2; rfl
      by_cases hi : i < ns.length
      · rw [List.getElem?_append_left hi] at h1
        rw [List.getElem?_append_left (by omega)] at hv
        obtain ⟨u, hu, ru⟩ := rv.get hv
        obtain ⟨⟨n, c⟩, o, z, g1, g2, g3⟩ := cap_get cap hu
        have en : n = x := by
          have := congrArg (fun l => l[i]?) hns
          simp only [List.getElem?_map, g1, h1] at this
          simpa using this
        subst en
        exact ⟨u, ru, .inr ⟨.inr (S.fr n (List.mem_of_getElem? h1)), c, lookup_ix ndn g1, o, hk₁ _ _ (e0.hok c _ g2).1, g3⟩⟩
      · rw [List.getElem?_append_right (by omega)] at h1
        rw [List.getElem?_append_right (by omega)] at hv
        rw [hlv] at hv
        obtain ⟨u, hu, ru⟩ := ra.get hv
        exact ⟨u, ru, .inl ⟨S.lo x (List.mem_of_getElem? h1), zip_rev_lookup (List.nodup_append.mp S.nd).2.1 h1 hu⟩⟩
    · obtain ⟨o, z, u, h1, h2, h3⟩ := cellAt x c e
      exact ⟨some u, o, hk₁ _ _ h3, h2⟩
    · obtain ⟨o, z, u, h1, h2, h3⟩ := cellAt x c e
      exact .inr ⟨rfl, o, z, h1⟩
    · show _ = (ns ++ ps).length
      rw [List.length_map, List.length_append, List.length_append, hlv, hl]
  refine PySem.W.kla_codeExpr (wpAny_mono (hb [] _ _ H Q I q) (fun u s' z => ?_) fun e s' z => False.elim z)
  obtain ⟨v, H', J, r, q⟩ := z
  exact ⟨v, H', J.os, J.bare, J.base, J.hok, r, q⟩
end
def FnC (P : Program) (w : World) (K : PySem.W.Frag) (mg : Str → Option Value) (base : Heap) (k : Nat) (e : Expr) (ns : List Str) (F : List A → MF) (n : Nat) : Prop :=
  ∀ (A : Around) (outer : List Env) (s : Shared) (H : Hp) (p : Addr) (bs : List Value) (as : List V) (Q : VK), Room k A → Env0 P w K mg base A outer s H → Vals as bs → as.length = n →
    (∃ ρ h xs as' a h', RelH K ρ H h ∧ CloR K ρ H p e xs ∧ xs.map Prod.fst = ns ∧ Reps K ρ H as' as ∧ F (xs.map Prod.snd) as' h = some (a, h') ∧ ∀ ρ' H' v, Up K ρ H ρ' H' → RelH K ρ' H' h' → Rep K ρ' H' a v → Q v H') →
    codeAny (model P w) A (.call (.ref p) ⟨bs, []⟩) (CR CX0 outer P w H s Q E0) s
def lamOf (m : ME) : List A → MF := fun xs as h => m ((xs ++ as).map some) h
theorem relS_of {K : PySem.W.Frag} {ρ : List Addr} {H : Hp} {as : List A} {vs : List V} (r : Reps K ρ H as vs) : RelS K ρ H (vs.map some) (as.map some) := by
  refine ⟨by simp [r.length], fun i a e => ?_⟩
  rw [List.getElem?_map] at e
  cases g : as[i]? with
  | none => rw [g] at e; cases e
  | some b =>
    rw [g] at e; cases e
    obtain ⟨v, h1, h2⟩ := r.get g
    exact ⟨v, by rw [List.getElem?_map, h1]; rfl, h2⟩
section
variable {P : Program} {w : World} {K : PySem.W.Frag} {mg : Str → Option Value} {base : Heap} {k : Nat}
theorem fnC_mk {args : Arguments} {body : Expr} {scope : Scope} {pos : Pos} {ns ps : List Str} {m : ME} (S : LamScope ns ps args body scope)
    (hb : ∀ (qual : Str) (p : Addr) (cd : Value) (cl : List (Str × Addr)) (A : Around) (outer : List Env) (s : Shared) (H : Hp), Room k (A.deeper (PySem.W.envX qual scope s.heap.objs.size p cd cl)) → JE (cxLam P w K mg base (ns ++ ps) qual scope p cd cl A outer s H) body m) :
    FnC P w K mg base (k + 1) (.Lambda args body scope pos) ns (lamOf m) ps.length := by
  intro A outer s H p bs as Q hr e0 ra hl hq
  obtain ⟨ρ, h, xs, as', a, h', R, C, hn, rs, e, q⟩ := hq
  obtain ⟨args2, body2, scope2, pos2, qual, cl, pm, c', ctv, y, us, vs, e1, hp, CF, cap, nm, inj, rv, rx⟩ := C
  cases e1
  refine lam_run S e0 hr hp CF cap (nm.trans hn) inj rv ra hl (hb qual p (.ref c') cl A outer s H (hr.deeper _)).pf ?_
  exact ⟨ρ, (xs.map Prod.snd ++ as').map some, h, a, h', R, relS_of (rx.append rs), e, q⟩
theorem FnC.mono {j : Nat} {e : Expr} {ns : List Str} {F : List A → MF} {n : Nat} (h : FnC P w K mg base k e ns F n) (hk : k ≤ j) : FnC P w K mg base j e ns F n := fun A outer s H p bs as Q hr => h A outer s H p bs as Q (hr.mono hk)
end
open Classical in
noncomputable def eCallC (e : Expr) (ns : List Str) (F : List A → MF) (i : Nat) (ms : MA) : ME := fun τ h => match τ[i]? with
  | some (some (.loc j)) => (ms τ h).bind fun p => match p.2[j]? with
    | some (.clo e' xs) => if e' = e ∧ xs.map Prod.fst = ns then F (xs.map Prod.snd) p.1 p.2 else none
    | _ => none
  | _ => none
section
variable {X : Cx} {e : Expr} {es : List Expr} {pos p : Pos} {ms : MA} {k n : Nat} {x : Str}
theorem je_callC {i : Nat} {e0 : Expr} {ns : List Str} {F : List A → MF} (hF : FnC X.prog X.w X.K X.mg X.base k e0 ns F n) (hr : Room k X.A) (ha : JA X (e :: es) ms)
    (hn : ∀ (τ : ASt) (h : AHp) (p : List A × AHp), ms τ h = some p → p.1.length = n := by repeat (first | exact len_nil | refine len_cons ?_))
    (hN : X.N[i]? = some x := by rfl) (hv : Vis X.env.scope x := by first | exact Or.inl rfl | exact Or.inr (Or.inl rfl) | exact Or.inr (Or.inr rfl)) (hdb : (x == ("__debug__" : Str)) = false := by decide) (hcd : (x == ("__classdict__" : Str)) = false := by decide)
    (he : starEach (e :: es) X.env = (false, eval e X.env) :: starEach es X.env := by rfl) (hpl : (backTo pos (starEach es X.env)).any (·.1) = false := by rfl) : JE X (.Call (.Name x p) (e :: es) [] pos) (eCallC e0 ns F i ms) := ⟨fun pins s σ H Q I q => by
  obtain ⟨ρ, τ, h, d, h', R, S, e1, k1⟩ := q
  unfold eCallC at e1
  split at e1
  · rename_i j hx
    obtain ⟨⟨as, h1⟩, e3, eb⟩ := bindS e1
    obtain ⟨v, hv1, rv⟩ := S.get i _ hx
    cases rv with
    | @loc _ a hj =>
    dsimp only at eb
    split at eb
    · rename_i e' xs hc
      split at eb
      · rename_i he'
        obtain ⟨rfl, hns⟩ := he'
        refine wpAny_Call_Name_kw (thn (pe_var hN hv hdb hcd pins s σ H (fun v H1 => v = .ref a ∧ H1 = H) I ⟨_, hv1, rfl, rfl⟩) fun u s1 ⟨x1, H1, I1, rx, e4, e5⟩ => ?_)
        subst e4 e5
        cases rx
        show wpAny _ _ (callWith pos (.ref a) [] (backTo pos (starEach (e :: es) X.env)) []) _ _ _
        rw [he]
        refine PySem.W.callWith_of (by show ((false || (backTo pos (starEach es X.env)).any (·.1)) || false) = false; rw [hpl]; rfl) PySem.W.keeps_F (PySem.Calls.evalArgs_plain ?_)
        have key := ha.pf pos pins s1 σ H1 (fun vs H2 => vs.length = n ∧ ∃ ρ2 as', RelH X.K ρ2 H2 h1 ∧ CloR X.K ρ2 H2 a e' xs ∧ Reps X.K ρ2 H2 as' vs ∧ F (xs.map Prod.snd) as' h1 = some (d, h') ∧ ∀ ρ' H' v, Up X.K ρ2 H2 ρ' H' → RelH X.K ρ' H' h' → Rep X.K ρ' H' d v → Q v H') I1 ⟨ρ, τ, h, as, h1, R, S, e3, fun ρ1 H2 v1 u1 R1 r1 => ⟨by rw [← r1.length]; exact hn _ _ _ e3, ρ1, as, R1, R1.obj j a _ (pre_get u1.pre hj) hc, r1, eb, fun ρ' H' v u R' r' => k1 ρ' H' v (u1.trans u) R' r'⟩⟩
        rw [he] at key
        refine thn key fun us s2 ⟨vs, H2, I2, r, hl, ρ2, as', R2, C2, rs2, ef, kq⟩ => ⟨?_, ?_⟩
        · obtain ⟨_, _, _, _, _, _, _, _, _, _, _, _, _, hp, _⟩ := C2
          exact ⟨_, _, _, _, (I2.hok a _ hp).1⟩
        · show wpAny _ _ (call (.ref a) ([] ++ us)) _ _ _
          rw [List.nil_append]
          refine wpAny_call (codeAny_mono (hF X.A X.stack s2 H2 a us vs Q hr I2.env0 r hl ⟨ρ2, h1, xs, as', d, h', R2, C2, hns, rs2, ef, kq⟩) fun r s' hq => ?_)
          cases r with
          | error e => exact False.elim hq
          | ok fl =>
            cases fl with
            | ret u => exact I2.after hq
            | next => exact False.elim hq
            | brk => exact False.elim hq
            | cont => exact False.elim hq
      · cases eb
    · cases eb
  · cases e1⟩
end
abbrev cxL (P : Program) (w : World) (K : PySem.W.Frag) (mg : Str → Option Value) (base : Heap) (N : List Str) (qual : Str) (scope : Scope) (f : Addr) (cd : Value) (A : Around) (outer : List Env) (s : Shared) (H : Hp) (E : XK) : Cx := { cxOf CX0 P w K mg base N qual scope f cd A outer s H E with fn := fun _ => false }
theorem inv_slack {X : Cx} {pins : List (Addr × Obj)} {σ : L2.St} {H : Hp} {s : Shared} (I : Inv X pins σ H s) : Inv { X with fn := fun _ => false } pins σ H s :=
  ⟨⟨I.ok.mod, I.ok.kind, I.ok.glob, I.ok.blt, I.ok.above, I.ok.inj, I.ok.has, fun _ _ z _ => (by cases z), I.ok.hd, I.ok.frames, I.ok.stk, I.ok.exf, I.ok.bs, I.ok.bsz, I.ok.noex, I.ok.exfs, I.ok.funs, I.ok.frf⟩,
    I.os, I.bare, I.base, I.loc, I.cell, I.free, fun x c e => (I.freeC x c e).imp id fun z => ⟨rfl, z.2⟩, I.pin, I.hok, I.len⟩
theorem cells_above {n : Addr} {names : List (Str × NameKind)} {x : Str} {c : Addr} : ∀ {m : Nat} {acc : List (Str × Addr)}, (∀ q ∈ acc, n ≤ q.2) → n ≤ m → (cellsFrom m names acc).lookup x = some c → n ≤ c := by
  induction names with
  | nil => intro m acc ha _ e; exact ha _ (PySem.mem_of_lookup e)
  | cons y r ih =>
    intro m acc ha hm e
    obtain ⟨y, k⟩ := y
    unfold cellsFrom at e
    split at e
    · exact ih (fun q hq => (List.mem_cons.mp hq).elim (fun z => by rw [z]; exact hm) (ha q)) (Nat.le_succ_of_le hm) e
    · exact ih ha hm e
section
variable {P : Program} {w : World} {K : PySem.W.Frag} {mg : Str → Option Value} {base : Heap}
theorem isTab_of {f c Pt : Addr} {o : Obj} {fd : FuncData} {qual : Str} (lk : K.lookup f = some o) (hd : o.data = .func fd) (hc : fd.code = .ref c) (hl : hasLam fd.body = true) (h1 : PySem.W.codeIn K (.ref c) qual = true) (h2 : PySem.W.codeHdIn K c Pt = true) : IsTab K c Pt (qual ++ ".<locals>." ++ "<lambda>") := by
  refine ⟨f, o, qual, lk, ?_, rfl⟩
  unfold PySem.W.codeIn at h1
  unfold PySem.W.codeHdIn at h2
  dsimp only at h1
  split at h1
  · rename_i oc od vs sl ho
    split at h1
    · rename_i a n t r hv
      rw [ho] at h2
      split at h2
      · rename_i vs2 sl2 hk
        cases hk
        simp only [Bool.and_eq_true] at h2
        obtain ⟨⟨⟨⟨⟨e1, _⟩, _⟩, _⟩, _⟩, _⟩ := h2
        split at e1
        · rename_i P' h11
          have hP : P' = Pt := beq_iff_eq.mp e1
          subst hP
          have h1' : vs[1]? = some (.str qual t) := by rw [← Array.getElem?_toList, hv, ← beq_iff_eq.mp h1]; rfl
          unfold tabOf
          simp only [hd, hl, if_true, hc, ho, h1', h11]
        · cases e1
      · cases h2
    · cases h1
  · cases h1
structure Mkr (K : PySem.W.Frag) (f : Addr) : Prop where
  ex : ∃ (o : Obj) (fd : FuncData) (c Pt : Addr), K.lookup f = some o ∧ o.data = .func fd ∧ fd.code = .ref c ∧ PySem.W.codeHdIn K c Pt = true
theorem fnL_ok {x qual : Str} {st : Stmt} {f : Addr} {fd : FuncData} {N ps : List Str} {k n : Nat} {body : MS} (F : Fun K x qual st f fd) (M : Mkr K f) (hm : hasLam (.stmts (defBody st)) = true) (S : FnScope N ps (defScope st)) (hn : ps.length = n)
    (hb : ∀ (c Pt : Addr) (A : Around) (outer : List Env) (s : Shared) (H : Hp) (E : XK), PySem.W.codeHdIn K c Pt = true → IsTab K c Pt (qual ++ ".<locals>." ++ "<lambda>") → Room k (A.deeper (envOfC qual (defScope st) s.heap.objs.size f (.ref c))) → JB (cxL P w K mg base N qual (defScope st) f (.ref c) A outer s H E).nox (defBody st) body) :
    FnOk P w K mg base CX0 (k + 1) f fd ps (spF K (fnOf N.length body) n) := by
  obtain ⟨oc, od, kV, doc, pm, an, cdv, ct, osl, rfl, lk, hcd⟩ := F.ex
  obtain ⟨o, fd, c, Pt, lk2, hd, hc, hC⟩ := M.ex
  rw [lk] at lk2
  cases lk2
  cases hd
  have hc : cdv = .ref c := hc
  subst hc
  have hT := isTab_of lk rfl rfl hm hcd hC
  refine ⟨fun vs H Q E h => h.1.trans hn.symm, fun A outer s H args us vs Q E hr e0 hb' r hsp => ?_⟩
  have hl : vs.length = ps.length := hsp.1.trans hn.symm
  have KX : K.In s.heap := e0.mod.kin.keeps fun b o e => (e0.bs b o e).1
  have lim : s.heap.NoLimit := e0.mod.nolimit.keeps fun b o e => (e0.bs b o e).1
  have hkind : ∀ y ∈ ps.zip us, (defScope st).names.lookup y.1 = some .local ∨ ((defScope st).names.lookup y.1 = some .cell ∧ ((cellsFrom (s.heap.objs.size + 1) (defScope st).names []).lookup y.1).isSome = true) := fun ⟨n, v⟩ hy => by
    rcases S.par n (List.of_mem_zip hy).1 with q | q
    · exact .inl q
    · exact .inr ⟨q, PySem.W.cellsFrom_some _ _ _ (.inl q)⟩
  refine codeAny_call_function hr.depth (KX _ _ lk) rfl S.co S.gen rfl (PySem.W.codeRec_of KX hcd) (hb' _ _ _ _ ?_)
  refine wpAny_newFunctionEnv_cells S.kind hkind fun env he s1 x => ?_
  subst he
  refine ⟨lim.keeps x.toInCall.keep, codeAny_func ?_⟩
  have I0 : Inv (cxOf CX0 P w K mg base N qual (defScope st) f (.ref c) A outer s H E) [] (start N vs) H s1 := inv_start S hr.hd e0 hl r x
  have I : Inv (cxL P w K mg base N qual (defScope st) f (.ref c) A outer s H E) [] (start N vs) H s1 := inv_slack I0
  obtain ⟨_, ρ, as, h, a, h', R, ra, e, q⟩ := hsp
  obtain ⟨⟨fl, h1⟩, e1, e⟩ := bindS e
  have hw : tS K body { nx := fun _ H' => Q .non H', rt := Q } (start N vs) H := by
    refine ⟨ρ, _, h, fl, h1, R, start_rel ra, e1, fun ρ1 H1 u1 R1 => ?_⟩
    cases fl with
    | nx τ => cases e; exact fun σ _ => q ρ1 H1 .non u1 R1 .non
    | rt b => cases e; exact fun v rv => q ρ1 H1 v u1 R1 rv
    | bk τ => cases e
    | ct τ => cases e
  refine wpAny_mono ((hb c Pt A outer s H E hC hT (hr.deeper _)).pf.nox [] s1 (start N vs) H _ I hw) (fun fl s' hs => ?_) fun e s' hs => hs
  have fin : ∀ {σ' : L2.St} {H' : Hp} {v : V} {u : Value}, Inv (cxL P w K mg base N qual (defScope st) f (.ref c) A outer s H E) [] σ' H' s' → RelV v u → Q v H' → CE outer P w H s Q u s' :=
    fun {σ' H' v u} J rv q => ⟨v, H', J.os, J.bare, J.base, J.hok, rv, q⟩
  cases fl with
  | ret u =>
    obtain ⟨v, σ', H', J, rv, q⟩ := hs
    exact fin J rv q
  | next =>
    obtain ⟨σ', H', J, q⟩ := hs
    exact fin (v := V.non) (u := Value.none) J rfl q
  | brk =>
    obtain ⟨_, _, _, q⟩ := hs
    exact False.elim q
  | cont =>
    obtain ⟨_, _, _, q⟩ := hs
    exact False.elim q
structure MkD (K : PySem.W.Frag) (mg : Str → Option Value) (x : Str) : Prop where
  ex : ∃ f, mg x = some (.ref f) ∧ Mkr K f
theorem fnL_mk {x : Str} {st : Stmt} {N ps : List Str} {k n : Nat} {body : MS} (D : Def K mg x st ps) (M : MkD K mg x) (S : FnScope N ps (defScope st)) (hn : ps.length = n)
    (hb : ∀ (f c Pt : Addr) (A : Around) (outer : List Env) (s : Shared) (H : Hp) (E : XK), PySem.W.codeHdIn K c Pt = true → IsTab K c Pt (x ++ ".<locals>." ++ "<lambda>") → Room k (A.deeper (envOfC x (defScope st) s.heap.objs.size f (.ref c))) → JB (cxL P w K mg base N x (defScope st) f (.ref c) A outer s H E).nox (defBody st) body)
    (hm : hasLam (.stmts (defBody st)) = true := by rfl) : Fn P w K mg base (k + 1) x (fnOf N.length body) n := by
  obtain ⟨f, fd, F, b, m⟩ := D.ex
  obtain ⟨f', m', M⟩ := M.ex
  rw [m] at m'; cases m'
  exact ⟨f, fd, ps, fnL_ok F M hm S hn (hb f), b, F.kp, m⟩
structure MkM (K : PySem.W.Frag) (C : Addr) (m : Str) : Prop where
  ex : ∃ g, PySem.W.findIn K (.ref C) m = some (some (.ref g)) ∧ Mkr K g
end
def retArgs (st : Stmt) : List Expr := match defBody st with
  | [.Return (some (.Call _ args kws _)) _] => args ++ kws.map (·.value)
  | _ => []
def lamAt (st : Stmt) (k : Nat) : Expr := ((retArgs st).filter isLam).getD k (.Constant .none 0 ⟨0, 0, 0, 0⟩)
def lamArgs : Expr → Arguments
  | .Lambda a _ _ _ => a
  | _ => ⟨[], [], none, [], [], none, []⟩
def lamBody : Expr → Expr
  | .Lambda _ b _ _ => b
  | e => e
def lamScope : Expr → Scope
  | .Lambda _ _ s _ => s
  | _ => { kind := .function, names := [], isGenerator := false, isCoroutine := false }
def lamPos : Expr → Pos
  | .Lambda _ _ _ p => p
  | _ => ⟨0, 0, 0, 0⟩
theorem je_lamL {P : Program} {w : World} {K : PySem.W.Frag} {mg : Str → Option Value} {base : Heap} {N : List Str} {qual : Str} {sc : Scope} {f c Pt : Addr} {A : Around} {outer : List Env} {s : Shared} {H : Hp} {E : XK} {args : Arguments} {body : Expr} {scope : Scope} {pos : Pos} {caps : List (Str × Nat)}
    (hC : PySem.W.codeHdIn K c Pt = true) (hq : IsTab K c Pt (qual ++ ".<locals>." ++ "<lambda>")) (hB : BMod base mg)
    (hfree : (scope.names.all fun y => !(y.2 == .free) || (sc.names.lookup y.1 == some .cell)) = true) (hnm : ∀ cells, (cloFrom cells scope.names []).map Prod.fst = caps.map Prod.fst) (hcap : ∀ p ∈ caps, N[p.2]? = some p.1 ∧ sc.names.lookup p.1 = some .cell)
    (hdef : ∀ env, defaultsOf args env = ([], []) := by intro _; rfl) : JE (cxL P w K mg base N qual sc f (.ref c) A outer s H E).nox (.Lambda args body scope pos) (eLam (.Lambda args body scope pos) caps) :=
  je_lam (fun _ => rfl) (fun x c e => cells_above (names := sc.names) (fun q hq => by cases hq) (Nat.le_succ _) e) rfl hC hq rfl hB hfree (hnm _) hcap (hdef _)
end Ab
set_option Elab.async false
set_option linter.all false
set_option maxRecDepth 100000
namespace Ab
open PySem PySem.Spec PyProof.Rows L2
set_option autoImplicit false
section
variable {X : Cx} {p p2 pos pos2 : Pos} {a b c : Expr} {ms : MA}
def bigI (i : Int) : Prop := -(2 ^ 62) ≤ i ∧ i < 2 ^ 62
instance (i : Int) : Decidable (bigI i) := by unfold bigI; infer_instance
end
end Ab
set_option Elab.async false
set_option linter.all false
set_option maxRecDepth 100000
namespace Ab
open PySem PySem.Spec PyProof.Rows L2
set_option autoImplicit false
section
variable {X : Cx} {K : PySem.W.Frag} {a b c e o i : Expr} {es : List Expr} {pos p apos cpos : Pos} {ma mb mc mo mi : ME} {ms : MA}
end
end Ab
set_option Elab.async false
set_option linter.all false
set_option maxRecDepth 100000
namespace Ab
open PySem PySem.Spec PyProof.Rows L2
set_option autoImplicit false
abbrev MFs := Str → ME
section
variable {X : Cx} {K : PySem.W.Frag} {a b c e o i : Expr} {es : List Expr} {pos p apos cpos : Pos} {ma mb mc mo mi : ME} {ms : MA} {mf : MFs}
structure JFs (X : Cx) (es : List Expr) (mf : MFs) : Prop where
  pf : ∀ (acc : Str) (pins : List (Addr × Obj)) (s : Shared) (σ : L2.St) (H : Hp) (Q : VK), Inv X pins σ H s → tE X.K (mf acc) σ H Q →
    Joins (model X.prog X.w) X.A X.xe (evalEach es X.env) acc (fun out s₁ => out.length ≤ sizeLine ∧ EP X pins σ Q (.str out s₁.toks) { s₁ with toks := s₁.toks + 1 }) s
end
end Ab
set_option Elab.async false
set_option linter.all false
set_option maxRecDepth 100000
namespace Ab
open PySem PySem.Spec PyProof.Rows L2
set_option autoImplicit false
section
variable {X : Cx} {K : PySem.W.Frag} {a b c e e2 o i : Expr} {es : List Expr} {pos p p2 p3 p4 tpos : Pos} {ma mb mc mo mi : ME} {ms : MA} {k n : Nat} {apos cpos : Pos}
inductive EntsS (w : World) : List DictEntry → List (Str × Value) → List (Str × Str) → Prop
  | nil : EntsS w [] [] []
  | cons {x y : Str} {t t' : Tok} {hh : Int} {es : List DictEntry} {vs : List (Str × Value)} {kvs : List (Str × Str)} : hh = hashStr w x → EntsS w es vs kvs → EntsS w (⟨hh, .str x t, .str y t'⟩ :: es) ((x, .str y t') :: vs) ((x, y) :: kvs)
structure KDictS (w : World) (K : PySem.W.Frag) (mg : Str → Option Value) (D : Str) (kvs : List (Str × Str)) : Prop where
  ex : ∃ (p : Addr) (es : Array DictEntry) (ep : Nat) (vs : List (Str × Value)), mg D = some (.ref p) ∧ K.lookup p = some ⟨.type "dict", none, .dict es ep, #[]⟩ ∧ (p == sysModules) = false ∧ EntsS w es.toList vs kvs ∧ (kvs.map (·.1)).Nodup
end
end Ab
set_option Elab.async false
set_option linter.all false
set_option maxRecDepth 100000
namespace Ab
open PySem PySem.Spec PyProof.Rows L2
set_option autoImplicit false
def Kn (X : Cx) (pins : List (Addr × Obj)) (b : Addr) : Prop := (∃ o, X.s_0.heap.get? b = some o) ∨ (∃ p ∈ X.pn ++ pins, p.1 = b) ∨ ∃ y, X.env.cells.lookup y = some b
def Cov (l : List Env) (k : Addr → Prop) (H : Hp) (g B : Heap) : Prop := ∀ b o, b ∉ frs l → (k b ∨ (H b).isSome = true) → g.get? b = some o → B.get? b = some o
def CXx (P : Program) (w : World) (mg : Str → Option Value) : CXT := fun outer H s E e s' => ∃ (ea : Addr) (x : Str) (C : Addr) (H' : Hp) (B : Heap) (a0 : Value), e = .ref ea ∧ mg x = some (.ref C) ∧ s'.os = s.os ∧ AllBare s'.gens ∧
  Un (frs outer) [] H H' s.heap s'.heap ∧ HOk P w H' s'.heap ∧ Heap.FlyingW B outer ea (.ref C) a0 s'.heap ∧ Cov outer (fun b => ∃ o, s.heap.get? b = some o) H' s'.heap B ∧ E (.str x 0) none H'
def XP (X : Cx) (pins : List (Addr × Obj)) (E : Str → L2.St → Hp → Prop) (mk : Bool) (e : Value) (s' : Shared) : Prop :=
  ∃ (ea : Addr) (x : Str) (C : Addr) (σ : L2.St) (H' : Hp), e = .ref ea ∧ X.mg x = some (.ref C) ∧ E x σ H' ∧
    ((∃ (B : Heap) (a0 : Value), Inv X pins σ H' s' ∧ Heap.FlyingW B X.stack ea (.ref C) a0 s'.heap ∧ Cov X.stack (Kn X pins) H' s'.heap B) ∨
      (mk = true ∧ ∃ (h : Heap) (args : List Value), Inv X pins σ H' { s' with heap := h } ∧ Heap.MadeExcOf h s'.heap ea (.ref C) args))
end Ab
set_option Elab.async false
set_option linter.all false
set_option maxRecDepth 100000
namespace Ab
open PySem PySem.Spec PyProof.Rows L2
set_option autoImplicit false
abbrev MX := ASt → AHp → Option (Str × AHp)
abbrev MY := ASt → AHp → Option (Str × ASt × AHp)
abbrev RF := List A → AHp → Option (Str × AHp)
abbrev EK := Str → L2.St → Hp → Prop
def tX (K : PySem.W.Frag) (m : MX) (E : EK) (σ : L2.St) (H : Hp) : Prop := ∃ ρ τ h x h', RelH K ρ H h ∧ RelS K ρ H σ τ ∧ m τ h = some (x, h') ∧ ∀ ρ' H', Up K ρ H ρ' H' → RelH K ρ' H' h' → E x σ H'
def tY (K : PySem.W.Frag) (m : MY) (E : EK) (σ : L2.St) (H : Hp) : Prop := ∃ ρ τ h x τ' h', RelH K ρ H h ∧ RelS K ρ H σ τ ∧ m τ h = some (x, τ', h') ∧ ∀ ρ' H' σ', Up K ρ H ρ' H' → RelH K ρ' H' h' → RelS K ρ' H' σ' τ' → E x σ' H'
def NoV {α : Type} : α → Shared → Prop := fun _ _ => False
structure RE (X : Cx) (e : Expr) (m : MX) : Prop where
  pf : ∀ (pins : List (Addr × Obj)) (s : Shared) (σ : L2.St) (H : Hp) (E : EK) (mk : Bool), Inv X pins σ H s → tX X.K m E σ H → wpAny (model X.prog X.w) X.A (eval e X.env) NoV (XP X pins E mk) s
structure RA (X : Cx) (es : List Expr) (m : MX) : Prop where
  pf : ∀ (pos : Pos) (pins : List (Addr × Obj)) (s : Shared) (σ : L2.St) (H : Hp) (E : EK) (mk : Bool), Inv X pins σ H s → tX X.K m E σ H → wpAny (model X.prog X.w) X.A (spliced (backTo pos (starEach es X.env))) NoV (XP X pins E mk) s
structure RS (X : Cx) (mk : Bool) (st : Stmt) (m : MY) : Prop where
  pf : ∀ (pins : List (Addr × Obj)) (s : Shared) (σ : L2.St) (H : Hp) (E : EK), Inv X pins σ H s → tY X.K m E σ H → wpAny (model X.prog X.w) X.A (exec st X.env) NoV (XP X pins E mk) s
structure RB (X : Cx) (mk : Bool) (sts : List Stmt) (m : MY) : Prop where
  pf : ∀ (pins : List (Addr × Obj)) (s : Shared) (σ : L2.St) (H : Hp) (E : EK), Inv X pins σ H s → tY X.K m E σ H → wpAny (model X.prog X.w) X.A (execs sts X.env) NoV (XP X pins E mk) s
section
variable {X : Cx} {a b c e : Expr} {es : List Expr} {pos p : Pos} {st : Stmt} {sts body : List Stmt} {m : MT} {ma mb : ME} {ms : MA} {s : MS} {x1 x2 : MX} {y1 y2 : MY} {mk : Bool} {k n : Nat}
def spX (K : PySem.W.Frag) (R : RF) (n : Nat) : Sp := fun vs H _ E => vs.length = n ∧ ∃ ρ as h x h', RelH K ρ H h ∧ Reps K ρ H as vs ∧ R as h = some (x, h') ∧ ∀ ρ' H', Up K ρ H ρ' H' → RelH K ρ' H' h' → E (.str x 0) none H'
structure Rn (P : Program) (w : World) (K : PySem.W.Frag) (mg : Str → Option Value) (base : Heap) (k : Nat) (x : Str) (R : RF) (n : Nat) : Prop where
  ex : ∃ f fd ps, FnOk P w K mg base (CXx P w mg) k f fd ps (spX K R n) ∧ Binds K fd ps [] ∧ PySem.W.keepIn K (.ref f) = true ∧ mg x = some (.ref f)
theorem Rn.mono {P : Program} {w : World} {K : PySem.W.Frag} {mg : Str → Option Value} {base : Heap} {x : Str} {k j n : Nat} {R : RF} (h : Rn P w K mg base k x R n) (hk : k ≤ j) : Rn P w K mg base j x R n := by
  obtain ⟨f, fd, ps, h1, h2, h3, h4⟩ := h.ex
  exact ⟨f, fd, ps, h1.mono hk, h2, h3, h4⟩
structure RnAt (P : Program) (w : World) (K : PySem.W.Frag) (mg : Str → Option Value) (base : Heap) (k : Nat) (f : Addr) (R : RF) (n : Nat) : Prop where
  ex : ∃ fd ps, FnOk P w K mg base (CXx P w mg) k f fd ps (spX K R n) ∧ Binds K fd ps [] ∧ PySem.W.keepIn K (.ref f) = true
end
end Ab
set_option Elab.async false
set_option linter.all false
set_option maxRecDepth 100000
namespace Ab
open PySem PySem.Spec PyProof.Rows L2
set_option autoImplicit false
def vE : List Value := [.type "ValueError", .type "Exception", .type "BaseException", .type "object"]
structure Exc (K : PySem.W.Frag) (mg : Str → Option Value) (x : Str) : Prop where
  ex : ∃ C, mg x = some (.ref C) ∧ PySem.W.excIn K C vE "ValueError.__new__" = true
section
variable {X : Cx} {a b c e : Expr} {es : List Expr} {pos p np cpos : Pos} {st : Stmt} {sts body : List Stmt} {ms : MA} {s : MS} {x1 x2 : MX} {y1 y2 : MY} {k n : Nat} {x : Str}
end
end Ab
namespace Ab
open PySem PySem.Spec PyProof.Rows L2
set_option autoImplicit false
end Ab
namespace Ab
end Ab
set_option Elab.async false
set_option linter.all false
set_option maxRecDepth 100000
namespace Ab
open PySem PySem.Spec PyProof.Rows L2
set_option autoImplicit false
section
variable {α β γ : Type} {m : ASt → AHp → Option α} {ma mb : ME} {ms : MA} {F : MF} {R : RF} {x1 x2 : MX} {y1 y2 : MY} {s t : MS} {mt : MT} {g : MG} {f : A → A → AHp → Rs A}
end
end Ab
set_option Elab.async false
set_option linter.all false
set_option maxRecDepth 100000
namespace Ab
open PySem PySem.Spec PySem.Calls PyProof.Rows L2 PySem.W PySem.Builtin PySem.Builtin.ObjectAttr PySem.Builtin.Getset_descriptor
set_option autoImplicit false
structure ExAt (x D : Addr) (h : Heap) : Prop where
  ex : ∃ (o : Obj) (vs : Array Value), h.get? x = some o ∧ o.cls = .ref D ∧ o.data = .fields vs
theorem ExAt.type {x D : Addr} {h : Heap} {M : Model} (a : ExAt x D h) : Looks M h (typeOf (.ref x)) (.ref D) := by
  obtain ⟨o, vs, h1, h2, h3⟩ := a.ex
  exact h2 ▸ (Looks.ld h1).andThen .now
section
variable {prog : Program} {w : World} {A : Around} {E : Value → Shared → Prop} {s : Shared} {K : Frag} {x D : Addr}
end
structure ExKit (K : Frag) (D : Addr) : Prop where
  cls : (clsIn K D).isSome = true
  ga : findIn K (.ref D) "__getattribute__" = some (some (.builtin "BaseException.__getattribute__"))
  gt : findIn K (.ref D) "__getattr__" = some none
  cl : findIn K (.ref D) "__class__" = some (some (.builtin "object.__class__"))
  ob : mroIn K D (.type "object") = some true
  be : mroIn K D (.type "BaseException") = some true
end Ab
set_option Elab.async false
set_option linter.all false
set_option maxRecDepth 100000
namespace Ab
open PySem PySem.Spec PyProof.Rows L2
set_option autoImplicit false
section
variable {X : Cx} {ea D : Addr} {b : Bool}
variable {ce : Expr} {i : Nat} {x : Str} {p px pos tpos : Pos} {es : List Expr}
end
end Ab
set_option Elab.async false
set_option linter.all false
set_option maxRecDepth 100000
namespace Ab
open PySem PySem.Spec PyProof.Rows L2
set_option autoImplicit false
structure RoomH (k : Nat) (A : Around) : Prop where
  dp : A.depth + 3 * k + 5 < recursionLimit
  un : A.units + 16 * k + 200 < cLine
theorem RoomH.mono {j k : Nat} {A : Around} (r : RoomH k A) (h : j ≤ k) : RoomH j A := ⟨by have := r.dp; omega, by have := r.un; omega⟩
theorem RoomH.deep {k : Nat} {A : Around} (r : RoomH (k + 1) A) (env : Env) : RoomH k (A.deeper env) := ⟨by have := r.dp; show A.depth + 1 + 3 * k + 5 < _; omega, by have := r.un; show A.units + 3 + 16 * k + 200 < _; omega⟩
def Apart (ea : Addr) (ob : Obj) (outer : List Env) (s : Shared) (H : Hp) : Prop := s.heap.get? ea = some ob ∧ H ea = none ∧ ea ∉ frs outer
section
variable {P : Program} {w : World} {K : PySem.W.Frag} {mg : Str → Option Value} {base : Heap}
structure FnH (P : Program) (w : World) (K : PySem.W.Frag) (mg : Str → Option Value) (base : Heap) (k : Nat) (x : Str) (F : MF) (n : Nat) (ea : Addr) (ob : Obj) : Prop where
  ex : ∃ f fd ps, (∀ vs H Q E, spF K F n vs H Q E → vs.length = ps.length) ∧ (∀ (A : Around) (outer : List Env) (s : Shared) (H : Hp) (args : Args) (us : List Value) (vs : List V) (Q : VK) (E : XK), RoomH k A → Env0 P w K mg base A outer s H → Apart ea ob outer s H → BindsTo s fd args (ps.zip us) → Vals vs us → spF K F n vs H Q E →
    codeAny (model P w) A (.call (.ref f) args) (CR CX0 outer P w H s Q E) s) ∧ Binds K fd ps [] ∧ PySem.W.keepIn K (.ref f) = true ∧ mg x = some (.ref f)
end
section
variable {X : Cx}
end
end Ab
set_option Elab.async false
set_option linter.all false
set_option maxRecDepth 100000
namespace Ab
open PySem PySem.Spec PyProof.Rows L2
set_option autoImplicit false
section
variable {X : Cx} {ea : Addr} {ob : Obj} {pins : List (Addr × Obj)} {σ : L2.St} {H : Hp} {s : Shared}
end
structure ExB (K : PySem.W.Frag) (mg : Str → Option Value) (x c : Str) : Prop where
  ex : ∃ D C, mg x = some (.ref D) ∧ mg c = some (.ref C) ∧ PySem.W.exmOne K (.ref D) (.ref C) = some true
end Ab
set_option Elab.async false
set_option linter.all false
set_option maxRecDepth 100000
namespace Ab
open PySem PySem.Spec PyProof.Rows L2
set_option autoImplicit false
end Ab
set_option Elab.async false
set_option linter.all false
set_option maxRecDepth 100000
namespace Ab
open PySem PySem.Spec PyProof.Rows L2
set_option autoImplicit false
section
variable {X : Cx} {K : PySem.W.Frag} {a b c e o i : Expr} {es : List Expr} {pos p apos cpos : Pos} {ma mb mc mo mi : ME} {ms : MA}
end
end Ab
set_option Elab.async false
set_option linter.all false
set_option maxRecDepth 100000
namespace Ab
open PySem PySem.Spec PyProof.Rows L2
set_option autoImplicit false
section
variable {X : Cx} {K : PySem.W.Frag} {a b c e o i : Expr} {es : List Expr} {pos p apos cpos : Pos} {ma mb mc mo mi : ME} {ms : MA}
end
end Ab
namespace Ab
open PySem PySem.Spec PyProof.Rows L2
set_option autoImplicit false
end Ab
set_option Elab.async false
set_option linter.all false
set_option maxRecDepth 100000
namespace Ab
open PySem PySem.Spec PyProof.Rows L2
set_option autoImplicit false
end Ab
set_option Elab.async false
set_option linter.all false
set_option maxRecDepth 100000
namespace Ab
open PySem PySem.Spec PyProof.Rows L2
set_option autoImplicit false
set_option relaxedAutoImplicit false
section
variable {C : Addr} {f m : Str} {F : MF} {ma mo mv me mi : ME} {ms : MA} {τ : ASt} {h h' : AHp} {n : Nat} {fs : List (Str × A)} {a v : A} {as : List A} {hf : MK → Int}
def kFl (C : Addr) (f : Str) : A × AHp → Rs A := fun p => (fldA C p.1 f p.2).bind fun v => some (v, p.2)
theorem ev_fld : eFld C ma f τ h = (ma τ h).bind (kFl C f) := id rfl
def kMe2 (F : MF) (o : A) : List A × AHp → Rs A := fun q => F (o :: q.1) q.2
def kMe1 (C : Addr) (m : Str) (F : MF) (ms : MA) (τ : ASt) : A × AHp → Rs A := fun p => if isInsA C p.1 m p.2 = true then (ms τ p.2).bind (kMe2 F p.1) else none
theorem ev_mth : eMth C m F mo ms τ h = (mo τ h).bind (kMe1 C m F ms τ) := id rfl
theorem ev_kMe2 : kMe2 F a (as, h) = F (a :: as) h := id rfl
def kSf2 (C : Addr) (f : Str) (v : A) (τ : ASt) : A × AHp → Rs Fl := fun o => (setA C o.1 f v o.2).bind fun h' => some (.nx τ, h')
def kSf1 (C : Addr) (mo : ME) (f : Str) (τ : ASt) : A × AHp → Rs Fl := fun v => (mo τ v.2).bind (kSf2 C f v.1 τ)
theorem ev_sfld : sFldM C mo mv f τ h = (mv τ h).bind (kSf1 C mo f τ) := id rfl
theorem ev_kSf1 : kSf1 C mo f τ (v, h) = (mo τ h).bind (kSf2 C f v τ) := id rfl
def kMk (C : Addr) (F : MF) : List A × AHp → Rs A := fun q => (F (.loc q.2.length :: q.1) (q.2 ++ [.ins C []])).bind fun r => match r.1 with
  | .non => some (.loc q.2.length, r.2)
  | _ => none
theorem ev_make : eMake C F ms τ h = (ms τ h).bind (kMk C F) := id rfl
def kAu3 (i : Nat) (τ : ASt) : A × AHp → Rs Fl := fun r => some (.nx (τ.set i (some r.1)), r.2)
def kAu2 (i : Nat) (f : A → A → AHp → Rs A) (x : A) (τ : ASt) : A × AHp → Rs Fl := fun q => (f x q.1 q.2).bind (kAu3 i τ)
def kAu1 (i : Nat) (f : A → A → AHp → Rs A) (me : ME) (τ : ASt) : A × AHp → Rs Fl := fun p => (me τ p.2).bind (kAu2 i f p.1 τ)
theorem ev_aug {i : Nat} {f : A → A → AHp → Rs A} : sAug i f me τ h = (eVar i τ h).bind (kAu1 i f me τ) := id rfl
theorem ev_kAu1 {i : Nat} {f : A → A → AHp → Rs A} : kAu1 i f me τ (a, h) = (me τ h).bind (kAu2 i f a τ) := id rfl
theorem ev_kAu2 {i : Nat} {f : A → A → AHp → Rs A} : kAu2 i f a τ (v, h) = (f a v h).bind (kAu3 i τ) := id rfl
theorem ev_kAu3 {i : Nat} : kAu3 i τ (a, h) = some (.nx (τ.set i (some a)), h) := id rfl
end
end Ab
set_option Elab.async false
set_option linter.all false
set_option maxRecDepth 100000
namespace Ab
open PySem PySem.Spec PyProof.Rows L2
set_option autoImplicit false
section
variable {X : Cx} {K : PySem.W.Frag} {a b c e o i : Expr} {es : List Expr} {pos p p2 p3 p4 : Pos} {ma mb mc mo mi : ME} {ms : MA} {te : TE}
end
end Ab
set_option Elab.async false
set_option linter.all false
set_option maxRecDepth 100000
namespace Ab
open PySem PySem.Spec PyProof.Rows L2
set_option autoImplicit false
theorem nd_of_map {α β : Type} (f : α → β) : ∀ {l : List α}, (l.map f).Nodup → l.Nodup
  | [], _ => List.nodup_nil
  | a :: r, h => by
    rw [List.map_cons, List.nodup_cons] at h
    rw [List.nodup_cons]
    exact ⟨fun m => h.1 (List.mem_map.mpr ⟨a, m, rfl⟩), nd_of_map f h.2⟩
theorem nd_map {α β : Type} {f : α → β} (hf : ∀ a b, f a = f b → a = b) : ∀ {l : List α}, l.Nodup → (l.map f).Nodup
  | [], _ => List.nodup_nil
  | a :: r, h => by
    rw [List.nodup_cons] at h
    rw [List.map_cons, List.nodup_cons]
    refine ⟨fun m => ?_, nd_map hf h.2⟩
    obtain ⟨b, hb, e⟩ := List.mem_map.mp m
    rw [hf b a e] at hb
    exact h.1 hb
def sN : MK → Str
  | .inl x => x
  | .inr _ => Str.empty
def kvS (xs : List (MK × Value × Value)) : List (Str × Value) := xs.map fun y => (sN y.1, y.2.2)
def sKd (xs : List (MK × Value × Value)) : Prop := ∀ y ∈ xs, ∃ x t, y.1 = .inl x ∧ y.2.1 = .str x t
section
variable {P : Program} {w : World} {h : Heap} {d : Addr} {xs : List (MK × Value × Value)}
theorem kvS_inl (sk : sKd xs) : ((kvS xs).map (·.1)).map Sum.inl = xs.map (·.1) := by
  unfold kvS
  rw [List.map_map, List.map_map]
  apply List.map_congr_left
  intro y hy
  obtain ⟨x, t, e, _⟩ := sk y hy
  show Sum.inl (sN y.1) = y.1
  rw [e]; rfl
theorem pairs_of : ∀ {xs : List (MK × Value × Value)}, sKd xs → Pairs (PySem.strKind P w) (xs.map (entM P w)) (kvS xs)
  | [], _ => .nil
  | y :: r, sk => by
    obtain ⟨x, t, e1, e2⟩ := sk y (by simp)
    refine .cons ?_ rfl (pairs_of fun z hz => sk z (by simp [hz]))
    show (PySem.strKind P w).is (sN y.1) y.2.1 = true
    rw [e1, e2]; exact strKind_is P w x t
theorem dict_of (m : DictM P w h d xs) (sk : sKd xs) : h.DictOf (PySem.strKind P w) d (kvS xs) := by
  obtain ⟨o, es, ep, ho, hc, hd, he, hn⟩ := m
  refine ⟨o, es, ep, ho, hc, hd, fun e hin => ?_, by rw [he]; exact pairs_of sk, ?_⟩
  · obtain ⟨y, hy, rfl⟩ := mem_entM he e hin
    obtain ⟨x, t, e1, e2⟩ := sk y hy
    refine ⟨x, ?_, ?_⟩
    · show (PySem.strKind P w).is x y.2.1 = true
      rw [e2]; exact strKind_is P w x t
    · show hashM P w y.1 = hashStr w x
      rw [e1]; rfl
  · rw [← kvS_inl sk] at hn
    exact nd_of_map _ hn
theorem of_pairs {es : List DictEntry} {kvs : List (Str × Value)} (p : Pairs (PySem.strKind P w) es kvs) (ks : ∀ e ∈ es, ∃ k, (PySem.strKind P w).is k e.key = true ∧ e.hash = (PySem.strKind P w).hash k) : ∃ xs, es = xs.map (entM P w) ∧ kvS xs = kvs ∧ sKd xs := by
  induction p with
  | nil => exact ⟨[], rfl, rfl, fun y hy => absurd hy (by simp)⟩
  | @cons e kv es kvs h1 h2 _ ih =>
    obtain ⟨xs, e1, e2, sk⟩ := ih fun e he => ks e (by simp [he])
    obtain ⟨k, hk, hh⟩ := ks e (by simp)
    have ek : k = kv.1 := (PySem.strKind P w).inj _ _ _ hk h1
    subst ek
    obtain ⟨t, et⟩ := Value.isStrOf_shape h1
    refine ⟨(.inl kv.1, .str kv.1 t, kv.2) :: xs, ?_, ?_, ?_⟩
    · rw [List.map_cons, e1]
      congr 1
      cases e with
      | mk a b c =>
        dsimp only at et h2 hh
        rw [et, h2, hh]
        rfl
    · show (kv.1, kv.2) :: kvS xs = _
      rw [e2]
    · intro y hy
      rcases List.mem_cons.mp hy with rfl | hy
      · exact ⟨_, _, rfl, rfl⟩
      · exact sk y hy
theorem of_dict {kvs : List (Str × Value)} (m : h.DictOf (PySem.strKind P w) d kvs) : ∃ xs, DictM P w h d xs ∧ kvS xs = kvs ∧ sKd xs := by
  obtain ⟨o, es, ep, ho, hc, hd, hk, hp, hn⟩ := m
  obtain ⟨xs, e1, e2, sk⟩ := of_pairs hp fun e he => hk e (Array.mem_toList_iff.mp he)
  refine ⟨xs, ⟨o, es, ep, ho, hc, hd, e1, ?_⟩, e2, sk⟩
  rw [← kvS_inl sk, e2]
  exact nd_map (fun a b e => by injection e) hn
end
section
variable {X : Cx}
theorem DicOk.str {K : PySem.W.Frag} {H : Hp} {xs : List (MK × Value × Value)} (ok : DicOk K H xs) (sk : ∀ y ∈ xs, ∃ x, y.1 = .inl x) : sKd xs := fun y hy => by
  obtain ⟨x, e⟩ := sk y hy
  obtain ⟨v, r, kk⟩ := ok y hy
  rw [e] at kk
  have kk : v = .str x := kk
  rw [kk] at r
  obtain ⟨t, et⟩ := r
  exact ⟨x, t, e, et⟩
theorem sKd.ok {K : PySem.W.Frag} {H : Hp} {xs : List (MK × Value × Value)} (sk : sKd xs) : DicOk K H xs := fun y hy => by
  obtain ⟨x, t, e1, e2⟩ := sk y hy
  exact ⟨.str x, ⟨t, e2⟩, by rw [e1]; rfl⟩
def rSetS (hf : MK → Int) : V → V → V → Hp → (Hp → Prop) → Prop := fun o i v H Q => ∃ p xs x, o = .ref p ∧ H p = some (DicT hf p xs) ∧ sKd xs ∧ i = .str x ∧ xs.length ≤ sizeLine ∧ ∀ u xs', RelV v u → sKd xs' → kvS xs' = stored (kvS xs) x u → Q (upd H p (DicT hf p xs'))
theorem set_dicS : PSet X (rSetS (hashM X.prog X.w)) := by
  intro pins s σ H o i v ov iv u Q I ro ri rv h
  obtain ⟨p, xs, x, rfl, e, sk, rfl, hl, q⟩ := h
  obtain rfl : ov = Value.ref p := ro
  obtain ⟨t, rfl⟩ := ri
  refine wpAny_setItem_pairs (knd := PySem.strKind X.prog X.w) (k := x) (strKind_is _ _ x t) (dict_of (dicM I e) sk) (hsz := by unfold kvS; rw [List.length_map]; exact hl) fun h1 m1 sb => ?_
  obtain ⟨xs', m2, e2, sk2⟩ := of_dict m1
  refine ⟨_, ?_, q u xs' rv sk2 e2⟩
  have m3 : DictF (hashM X.prog X.w) h1 p xs' := m2
  exact d_write I (by rw [e]; exact True.intro) sb (let ⟨o, _, _, ho, _⟩ := m2; ⟨o, ho⟩) (dic_ok m3)
def rGetM (K : PySem.W.Frag) (hf : MK → Int) : V → List V → Hp → VK → Prop := fun o as H Q => ∃ p xs k i v, o = .ref p ∧ as = [i, v] ∧ (p == sysModules) = false ∧ H p = some (DicT hf p xs) ∧ DicOk K H xs ∧ keyV K H k i ∧ ((∃ u z, atM xs k = some u ∧ RelV z u ∧ Q z H) ∨ (atM xs k = none ∧ Q v H))
theorem mt_getM (hu : X.A.units + 1 < cLine) : MtR X "dict.get" (rGetM X.K (hashM X.prog X.w)) := by
  intro pins s σ H o as ov us Q I ro ra h
  obtain ⟨p, xs, k, i, v, rfl, rfl, hs, e, ok, ki, q⟩ := h
  obtain rfl : ov = Value.ref p := ro
  obtain ⟨iv, vv, rfl, ri, rv⟩ := ra.two
  have m := dicM I e
  refine wpAny_call_entry PySem.F.slot_dict_get m.typeIs PySem.F.entry_dict_get ?_ (PySem.F.args_dict_get_3 _ _ _)
  show wpAny _ _ (dictGet p iv >>= _) _ _ s
  refine wpAny_bind (getM (show X.A.units + 1 < cLine from hu) (ki.isM I ri) m (ok.keysM I) fun tk => ?_)
  rcases q with ⟨u, z, g1, g2, q⟩ | ⟨g1, q⟩
  · rw [g1]
    exact wpAny_pure ⟨u, rfl, ⟨z, H, I.tok _, g2, q⟩⟩
  · rw [g1]
    show wpAny _ _ (Builtin.Dict.missed p iv >>= _) _ _ _
    exact wpAny_bind (wpAny_missed_other hs (wpAny_pure ⟨vv, rfl, ⟨v, H, I.tok _, rv, q⟩⟩))
def rDictS (hf : MK → Int) : List V → Hp → VK → Prop := fun as H Q => ∃ p xs, as = [.ref p] ∧ (p == sysModules) = false ∧ H p = some (DicT hf p xs) ∧ sKd xs ∧ xs.length ≤ sizeLine ∧ ∀ q xs', H q = none → (q == sysModules) = false → sKd xs' → kvS xs' = kvS xs → Q (.ref q) (upd H q (DicT hf q xs'))
theorem cr_dictS : CallR X (.type "dict") (rDictS (hashM X.prog X.w)) := by
  intro pins s σ H as us Q I ra h
  obtain ⟨p, xs, rfl, hs, e, sk, hl, q⟩ := h
  obtain ⟨u, rfl, ru⟩ := ra.one
  obtain rfl : u = Value.ref p := ru
  refine kt_call_dict (knd := PySem.strKind X.prog X.w) hs (dict_of (dicM I e) sk) (by unfold kvS; rw [List.length_map]; exact hl) fun h' m' sb => ?_
  obtain ⟨xs', m2, e2, sk2⟩ := of_dict m'
  have m3 : DictF (hashM X.prog X.w) h' s.heap.objs.size xs' := m2
  refine ⟨.ref s.heap.objs.size, _, I.laid (a := s.heap.objs.size) (o := DicT (hashM X.prog X.w) s.heap.objs.size xs') (t' := s.toks) (fun b o g => ?_) (Nat.le_refl _) (dic_ok m3), rfl, q _ xs' (I.hok.fresh (Nat.le_refl _)) (beq_eq_false_iff_ne.mpr (Ne.symm (Nat.ne_of_lt I.big))) sk2 e2⟩
  refine (sb.2 b (fun z => ?_)).trans (Heap.get?_push_of_some _ g)
  rw [z] at g
  exact absurd (Heap.lt_size g) (Nat.lt_irrefl _)
end
end Ab
set_option Elab.async false
set_option linter.all false
set_option maxRecDepth 100000
namespace Ab
open PySem PySem.Spec PyProof.Rows L2
set_option autoImplicit false
section
variable {X : Cx}
theorem val_at {ka : List (Str × Value)} (hn : (ka.map (·.1)).Nodup) : ∀ p ∈ ka, valueAt ka p.1 = some p.2 := by
  induction ka with
  | nil => intro p hp; cases hp
  | cons y r ih =>
    intro p hp
    rw [List.map_cons, List.nodup_cons] at hn
    rcases List.mem_cons.mp hp with rfl | hp
    · unfold valueAt; simp [List.find?_cons]
    · have ne : ¬ y.1 = p.1 := fun e => hn.1 (by rw [e]; exact List.mem_map.mpr ⟨p, hp, rfl⟩)
      have := ih hn.2 p hp
      unfold valueAt at this ⊢
      rw [List.find?_cons, decide_eq_false ne]
      exact this
theorem hits_same {A : Around} {s : Shared} {ka : List (Str × Value)} : ∀ {r : List (Str × Value)}, (∀ p ∈ r, valueAt ka p.1 = some p.2) → PySem.W.KeqHits A s ka r true
  | [], _ => .nil
  | (k, v) :: r, H => by
    have := PySem.W.KeqHits.hit (A := A) (s := s) (k := k) (v := v) (H (k, v) (by simp)) (SeqAt.EqAt.same v) (hits_same (r := r) fun p hp => H p (by simp [hp]))
    simpa using this
def rNeS (hf : MK → Int) : R2 := fun x y H Q => ∃ p q xs ys, x = .ref p ∧ y = .ref q ∧ (p == sysModules) = false ∧ (q == sysModules) = false ∧ H p = some (DicT hf p xs) ∧ H q = some (DicT hf q ys) ∧ sKd xs ∧ sKd ys ∧ kvS xs = kvS ys ∧ Q (.bl false) H
theorem op_neS (hu : X.A.units < cLine) : OpR X (compareOp .NotEq) (rNeS (hashM X.prog X.w)) := by
  intro pins s σ H x y v u Q I rx ry h
  obtain ⟨p, q, xs, ys, rfl, rfl, hp, hq, e1, e2, k1, k2, ee, q0⟩ := h
  obtain rfl : v = Value.ref p := rx
  obtain rfl : u = Value.ref q := ry
  have d1 := dict_of (dicM I e1) k1
  have d2 := dict_of (dicM I e2) k2
  rw [ee] at d1
  have hn : ((kvS ys).map (·.1)).Nodup := let ⟨_, _, _, _, _, _, _, _, hn⟩ := d2; hn
  refine PySem.W.keq_ne (r := true) hp hq d1 d2 hu (fun _ => hits_same (val_at hn)) ?_
  refine ⟨.bl false, H, I, ?_, q0⟩
  show _ = Value.bool false
  simp
end
def isBl : A → Bool
  | .bl _ => true
  | _ => false
def isIn : MK → Bool
  | .inl _ => true
  | _ => false
def bV : A → Value
  | .bl b => .bool b
  | _ => .none
def strKv (kvs : List (MK × A)) : Bool := kvs.all fun x => isIn x.1 && isBl x.2
def kvB (kvs : List (MK × A)) : List (Str × Value) := kvs.map fun x => (sN x.1, bV x.2)
def putKv (kvs : List (MK × A)) (k : MK) (v : A) : List (MK × A) := if kvs.any (fun kv => kv.1 = k) then kvs.map (fun kv => if kv.1 = k then (kv.1, v) else kv) else kvs ++ [(k, v)]
theorem kv_both {kvs : List (MK × A)} (h : strKv kvs = true) : ∀ y ∈ kvs, (∃ x, y.1 = .inl x) ∧ ∃ b, y.2 = .bl b := by
  intro y hy
  have := List.all_eq_true.mp h y hy
  rw [Bool.and_eq_true] at this
  obtain ⟨k, a⟩ := y
  refine ⟨?_, ?_⟩
  · cases k with
    | inl x => exact ⟨x, rfl⟩
    | inr ks => exact absurd this.1 Bool.false_ne_true
  · cases a <;> first | exact ⟨_, rfl⟩ | exact absurd this.2 Bool.false_ne_true
section
variable {K : PySem.W.Frag} {ρ : List Addr} {H : Hp} {h : AHp} {n : Nat} {p : Addr} {hf : MK → Int}
theorem rel_to : ∀ {xs : List (MK × Value × Value)} {kvs : List (MK × A)} {vs : List V}, xs.map (·.1) = kvs.map Prod.fst → Vals vs (xs.map (·.2.2)) → Reps K ρ H (kvs.map Prod.snd) vs → strKv kvs = true → kvS xs = kvB kvs
  | [], [], _, _, _, _, _ => rfl
  | [], _ :: _, _, e, _, _, _ => by cases e
  | _ :: _, [], _, e, _, _, _ => by cases e
  | x :: xs, y :: kvs, vs, e, rv, rs, st => by
    rw [List.map_cons, List.map_cons] at e
    injection e with e1 e2
    have st' : (isIn y.1 && isBl y.2) = true ∧ strKv kvs = true := by
      have : ((isIn y.1 && isBl y.2) && strKv kvs) = true := st
      rwa [Bool.and_eq_true] at this
    rw [List.map_cons] at rv rs
    cases rv with
    | cons r1 r2 =>
      cases rs with
      | cons s1 s2 =>
        have ih := rel_to e2 r2 s2 st'.2
        obtain ⟨_, b, eb⟩ := kv_both st y (by simp)
        rw [eb] at s1
        cases s1
        have r1 : x.2.2 = .bool b := r1
        show (sN x.1, x.2.2) :: kvS xs = (sN y.1, bV y.2) :: kvB kvs
        rw [ih, e1, r1, eb]; rfl
theorem rel_key {xs : List (MK × Value × Value)} {kvs : List (MK × A)} (nm : xs.map (·.1) = kvs.map Prod.fst) (st : strKv kvs = true) : ∀ y ∈ xs, ∃ x, y.1 = .inl x := by
  intro y hy
  have : y.1 ∈ kvs.map Prod.fst := by rw [← nm]; exact List.mem_map.mpr ⟨y, hy, rfl⟩
  obtain ⟨z, hz, e⟩ := List.mem_map.mp this
  obtain ⟨⟨x, ex⟩, _⟩ := kv_both st z hz
  exact ⟨x, by rw [← e, ex]⟩
theorem rel_from : ∀ {xs : List (MK × Value × Value)} {kvs : List (MK × A)}, sKd xs → strKv kvs = true → kvS xs = kvB kvs → xs.map (·.1) = kvs.map Prod.fst ∧ ∃ vs, Vals vs (xs.map (·.2.2)) ∧ Reps K ρ H (kvs.map Prod.snd) vs
  | [], [], _, _, _ => ⟨rfl, [], .nil, .nil⟩
  | [], _ :: _, _, _, e => by cases e
  | _ :: _, [], _, _, e => by cases e
  | x :: xs, y :: kvs, sk, st, e => by
    have e : (sN x.1, x.2.2) :: kvS xs = (sN y.1, bV y.2) :: kvB kvs := e
    injection e with e1 e2
    injection e1 with e3 e4
    have st' : (isIn y.1 && isBl y.2) = true ∧ strKv kvs = true := by
      have : ((isIn y.1 && isBl y.2) && strKv kvs) = true := st
      rwa [Bool.and_eq_true] at this
    obtain ⟨nm, vs, rv, rs⟩ := rel_from (fun z hz => sk z (by simp [hz])) st'.2 e2
    obtain ⟨⟨a, ea⟩, b, eb⟩ := kv_both st y (by simp)
    obtain ⟨c, t, ec, _⟩ := sk x (by simp)
    refine ⟨?_, .bl b :: vs, ?_, ?_⟩
    · rw [List.map_cons, List.map_cons, nm]
      congr 1
      rw [ea, ec] at e3
      have e3 : c = a := e3
      show x.1 = y.1
      rw [ea, ec, e3]
    · rw [List.map_cons]
      refine .cons ?_ rv
      rw [eb] at e4
      exact e4
    · rw [List.map_cons, eb]
      exact .cons (.bl b) rs
theorem putKv_str {kvs : List (MK × A)} {x : Str} {b : Bool} (st : strKv kvs = true) : strKv (putKv kvs (.inl x) (.bl b)) = true := by
  unfold putKv
  split
  · refine List.all_eq_true.mpr fun y hy => ?_
    obtain ⟨z, hz, rfl⟩ := List.mem_map.mp hy
    have := List.all_eq_true.mp st z hz
    split
    · rename_i e
      rw [e]; rfl
    · exact this
  · unfold strKv
    rw [List.all_append]
    have : (kvs.all fun x => isIn x.1 && isBl x.2) = true := st
    rw [this]; rfl
theorem putKv_kvB {kvs : List (MK × A)} {x : Str} {b : Bool} (st : strKv kvs = true) : kvB (putKv kvs (.inl x) (.bl b)) = stored (kvB kvs) x (.bool b) := by
  have key : ∀ y ∈ kvs, (y.1 = .inl x ↔ sN y.1 = x) := fun y hy => by
    obtain ⟨⟨z, ez⟩, _⟩ := kv_both st y hy
    rw [ez]
    exact ⟨fun e => by injection e, fun e => by have e : z = x := e; rw [e]⟩
  have an : (kvB kvs).any (fun kv => kv.1 = x) = kvs.any (fun kv => kv.1 = .inl x) := by
    rw [Bool.eq_iff_iff, List.any_eq_true, List.any_eq_true]
    constructor
    · rintro ⟨z, hz, e⟩
      obtain ⟨y, hy, rfl⟩ := List.mem_map.mp hz
      exact ⟨y, hy, decide_eq_true ((key y hy).mpr (of_decide_eq_true e))⟩
    · rintro ⟨y, hy, e⟩
      exact ⟨_, List.mem_map.mpr ⟨y, hy, rfl⟩, decide_eq_true ((key y hy).mp (of_decide_eq_true e))⟩
  unfold putKv stored
  rw [an]
  split
  · unfold kvB
    rw [List.map_map, List.map_map]
    apply List.map_congr_left
    intro y hy
    show (sN (if y.1 = .inl x then (y.1, A.bl b) else y).1, bV (if y.1 = .inl x then (y.1, A.bl b) else y).2) = if sN y.1 = x then (sN y.1, Value.bool b) else (sN y.1, bV y.2)
    by_cases q : y.1 = .inl x
    · rw [if_pos q, if_pos ((key y hy).mp q)]; rfl
    · rw [if_neg q, if_neg fun z => q ((key y hy).mpr z)]
  · unfold kvB
    rw [List.map_append]; rfl
theorem RelH.putD {xs xs' : List (MK × Value × Value)} {kvs kvs' : List (MK × A)} {vs' : List V} (r : RelH K ρ H h) (hn : ρ[n]? = some p) (hh : h[n]? = some (.dic hf kvs)) (hs : (p == sysModules) = false) (hp : H p = some (DicT hf p xs)) (nm : xs'.map (·.1) = kvs'.map Prod.fst) (dk : sKd xs') (rv : Vals vs' (xs'.map (·.2.2))) (rs : Reps K ρ H (kvs'.map Prod.snd) vs') :
    Up K ρ H ρ (upd H p (DicT hf p xs')) ∧ RelH K ρ (upd H p (DicT hf p xs')) (h.set n (.dic hf kvs')) := by
  have up : Up K ρ H ρ (upd H p (DicT hf p xs')) := ⟨⟨List.prefix_refl _, fun q ws z => SqT_updE hp z, fun q ws z => RoL_updE hp z, fun q o y z => frz_upd (nf_ext hp) z⟩, fun q o m z => by rw [upd_ne (fun e => m (by rw [e]; exact List.mem_of_getElem? hn))]; exact .inl z, fun p m n => absurd m n⟩
  have hl : n < h.length := (List.getElem?_eq_some_iff.mp hh).1
  refine ⟨up, ⟨by rw [List.length_set]; exact r.len, r.nd, fun m q o e1 e2 => ?_, r.tb.to up.toLe fun P ps z => tbl_upd (nt_ext hp) z⟩⟩
  by_cases hm : n = m
  · subst hm
    rw [hn] at e1; cases e1
    rw [List.getElem?_set_self hl] at e2
    cases e2
    exact ⟨hs, xs', vs', upd_same, nm, dk.ok, rv, rs.up up⟩
  · rw [List.getElem?_set_ne hm] at e2
    refine (r.obj m q o e1 e2).up up (upd_ne fun e => ?_)
    subst e
    exact hm (nd_ix r.nd hn e1)
theorem RelH.makeD {xs' : List (MK × Value × Value)} {kvs' : List (MK × A)} {vs' : List V} (r : RelH K ρ H h) (hp : H p = none) (hs : (p == sysModules) = false) (nm : xs'.map (·.1) = kvs'.map Prod.fst) (dk : sKd xs') (rv : Vals vs' (xs'.map (·.2.2))) (rs : Reps K ρ H (kvs'.map Prod.snd) vs') :
    Up K ρ H (ρ ++ [p]) (upd H p (DicT hf p xs')) ∧ RelH K (ρ ++ [p]) (upd H p (DicT hf p xs')) (h ++ [.dic hf kvs']) ∧ Rep K (ρ ++ [p]) (upd H p (DicT hf p xs')) (.loc h.length) (.ref p) := by
  have u : Up K ρ H (ρ ++ [p]) (upd H p (DicT hf p xs')) := ⟨⟨⟨[p], rfl⟩, fun q ws z => SqT_upd (.inl hp) z, fun q ws z => RoL_upd (.inl hp) z, fun q o y z => frz_upd (nf_none hp) z⟩, fun q o n z => by rw [upd_ne (ne_of_none z hp)]; exact .inl z, fun q m n => by
    rcases List.mem_append.mp m with m | m
    · exact absurd m n
    · rw [List.mem_singleton.mp m]; exact hp⟩
  refine ⟨u, ⟨by simp [r.len], ?_, fun n q o e1 e2 => ?_, r.tb.to u.toLe fun P ps z => tbl_upd (nt_none hp) z⟩, .loc (by rw [← r.len]; simp)⟩
  · rw [List.nodup_append]
    refine ⟨r.nd, by simp, fun a ha b hb => ?_⟩
    have : b = p := by simpa using hb
    subst this
    intro e; subst e
    exact r.notin hp ha
  · by_cases hn : n < ρ.length
    · rw [List.getElem?_append_left hn] at e1
      rw [List.getElem?_append_left (by rw [← r.len]; exact hn)] at e2
      have mq := List.mem_of_getElem? e1
      refine (r.obj n q o e1 e2).up u ?_
      have q1 : q ≠ p := fun e => r.notin hp (by rw [← e]; exact mq)
      rw [upd_ne q1]
    · have hn2 : n = ρ.length := by
        have := (List.getElem?_eq_some_iff.mp e1).1
        rw [List.length_append, List.length_singleton] at this
        omega
      subst hn2
      have e3 : q = p := by simpa using e1.symm
      have e4 : o = .dic hf kvs' := by rw [r.len] at e2; simpa using e2.symm
      subst e3 e4
      exact ⟨hs, xs', vs', upd_same, nm, dk.ok, rv, rs.up u⟩
end
end Ab
set_option Elab.async false
set_option linter.all false
set_option maxRecDepth 100000
namespace Ab
open PySem PySem.Spec PyProof.Rows L2
set_option autoImplicit false
open Classical in
noncomputable def cNeS (hf : MK → Int) (a b : A) (h : AHp) : Rs A := match a, b with
  | .loc n, .loc m => match h[n]?, h[m]? with
    | some (.dic hf1 k1), some (.dic hf2 k2) => if hf1 = hf ∧ hf2 = hf ∧ k1 = k2 ∧ strKv k1 = true then some (.bl false, h) else none
    | _, _ => none
  | _, _ => none
open Classical in
noncomputable def fGetM (hf : MK → Int) (o : A) (as : List A) (h : AHp) : Rs A := match o, as with
  | .loc n, [i, v] => match h[n]? with
    | some (.dic hf' kvs) => if hf' = hf then (keyA i).bind fun k => some ((findA kvs k).getD v, h) else none
    | _ => none
  | _, _ => none
open Classical in
noncomputable def bDictS (hf : MK → Int) : MF := fun as h => match as with
  | [.loc n] => match h[n]? with
    | some (.dic hf' kvs) => if hf' = hf ∧ strKv kvs = true ∧ kvs.length ≤ 100000 then some (.loc h.length, h ++ [.dic hf kvs]) else none
    | _ => none
  | _ => none
open Classical in
noncomputable def xSetS (hf : MK → Int) (o i v : A) (h : AHp) : Option AHp := match o, i, v with
  | .loc n, .str x, .bl b => match h[n]? with
    | some (.dic hf' kvs) => if hf' = hf ∧ strKv kvs = true ∧ kvs.length ≤ 100000 then some (h.set n (.dic hf (putKv kvs (.inl x) (.bl b)))) else none
    | _ => none
  | _, _, _ => none
section
variable {K : PySem.W.Frag} {hf : MK → Int}
theorem ok_neS : OpOk K (cNeS hf) (rNeS hf) := by
  intro ρ H h a b c h' x y Q R ra rb e k
  unfold cNeS at e
  split at e
  · split at e
    · rename_i n m hf1 k1 hf2 k2 hx hy
      split at e
      · rename_i hh
        obtain ⟨q1, q2, q3, st⟩ := hh
        subst q1 q2 q3
        cases e
        obtain ⟨p, rfl, hq, hs, xs, vs, hp, nm, dk, rv, rs⟩ := R.locAt hx ra
        obtain ⟨p', rfl, hq', hs', xs', vs', hp', nm', dk', rv', rs'⟩ := R.locAt hy rb
        refine ⟨p, p', xs, xs', rfl, rfl, hs, hs', hp, hp', dk.str (rel_key nm st), dk'.str (rel_key nm' st), ?_, k ρ H _ Up.refl R (.bl false)⟩
        rw [rel_to nm rv rs st, rel_to nm' rv' rs' st]
      · cases e
    · cases e
  · cases e
theorem ok_getM : MtOk K (fGetM hf) (rGetM K hf) := by
  intro ρ H h o as c h' x xs Q R ro ra e k
  unfold fGetM at e
  split at e
  · split at e
    · rename_i n i v hf' kvs hx
      split at e
      · rename_i hh
        subst hh
        obtain ⟨k', e1, e⟩ := bindS e
        cases e
        obtain ⟨p, rfl, hq, hs, zs, vs, hp, nm, dk, rv, rs⟩ := R.locAt hx ro
        cases ra with
        | cons r1 r2 =>
          cases r2 with
          | cons r3 r4 =>
            cases r4
            refine ⟨p, zs, k', _, _, rfl, rfl, hs, hp, dk, keyA_rep e1 r1, ?_⟩
            cases f : findA kvs k' with
            | none =>
              rw [f] at k
              exact .inr ⟨find_none nm f, k ρ H _ Up.refl R r3⟩
            | some z =>
              rw [f] at k
              obtain ⟨v1, u1, g1, g2, g3⟩ := find_some nm rv rs f
              exact .inl ⟨u1, v1, g1, g2, k ρ H _ Up.refl R g3⟩
      · cases e
    · cases e
  · cases e
theorem ok_dictS : CallOk K (bDictS hf) (rDictS hf) := by
  intro ρ H h as c h' xs Q R ra e k
  unfold bDictS at e
  split at e
  · split at e
    · rename_i n hf' kvs hx
      split at e
      · rename_i hh
        obtain ⟨q1, st, hl⟩ := hh
        subst q1
        cases e
        cases ra with
        | cons r1 r2 =>
          cases r2
          obtain ⟨p, rfl, hq, hs, zs, vs, hp, nm, dk, rv, rs⟩ := R.locAt hx r1
          have ln : zs.length = kvs.length := by have := congrArg List.length nm; simpa using this
          refine ⟨p, zs, rfl, hs, hp, dk.str (rel_key nm st), by rw [ln]; exact Nat.le_trans hl (by decide), fun q xs' hq0 hqs sk' ee => ?_⟩
          rw [rel_to nm rv rs st] at ee
          obtain ⟨nm', vs', rv', rs'⟩ := rel_from (K := K) (ρ := ρ) (H := H) sk' st ee
          obtain ⟨u, R1, r1⟩ := R.makeD (hf := hf') hq0 hqs nm' sk' rv' rs'
          exact k _ _ _ u R1 r1
      · cases e
    · cases e
  · cases e
theorem ok_setS : SetOk K (xSetS hf) (rSetS hf) := by
  intro ρ H h a b c h' x y z Q R ra rb rc e k
  unfold xSetS at e
  split at e
  · split at e
    · rename_i hf' kvs hx
      split at e
      · rename_i hh
        obtain ⟨q1, st, hl⟩ := hh
        subst q1
        cases e
        obtain ⟨p, rfl, hq, hs, zs, vs, hp, nm, dk, rv, rs⟩ := R.locAt hx ra
        have ln : zs.length = kvs.length := by have := congrArg List.length nm; simpa using this
        cases rb
        cases rc
        refine ⟨p, zs, _, rfl, hp, dk.str (rel_key nm st), rfl, by rw [ln]; exact Nat.le_trans hl (by decide), fun u xs' ru sk' ee => ?_⟩
        have ru : u = .bool _ := ru
        rw [rel_to nm rv rs st, ru, ← putKv_kvB st] at ee
        obtain ⟨nm', vs', rv', rs'⟩ := rel_from (K := K) (ρ := ρ) (H := H) sk' (putKv_str st) ee
        obtain ⟨u1, R1⟩ := R.putD hq hx hs hp nm' sk' rv' rs'
        exact k ρ _ u1 R1
      · cases e
    · cases e
  · cases e
end
section
variable {X : Cx} {a b e o i : Expr} {es : List Expr} {ma mb mo mi : ME} {ms : MA} {pos p apos cpos : Pos} {k : Nat}
theorem jt_neS (hr : Room k X.A) (ha : JE X a ma) (hb : JE X b mb) : JT X (.Compare a [.NotEq] [b] pos) (mB (eOp (cNeS (hashM X.prog X.w)) ma mb)) := jt_cmp (op_neS (by have := u1 hr; omega)) ok_neS ha hb (nomark _)
theorem je_dictS (hm : X.mg "dict" = none) (ha : JA X (e :: es) ms) (hg : Gl X "dict" := by rfl)
    (he : starEach (e :: es) X.env = (false, eval e X.env) :: starEach es X.env := by rfl) (hpl : (backTo pos (starEach es X.env)).any (·.1) = false := by rfl) : JE X (.Call (.Name "dict" p) (e :: es) [] pos) (eCall (bDictS (hashM X.prog X.w)) ms) := je_callT cr_dictS ok_dictS hm (by decide +kernel) ha hg (by decide) (by decide) he hpl
theorem jg_setS (ho : JE X o mo) (hi : JE X i mi)
    (ha : ∀ v, assign (.Subscript o i pos) X.env v = (do
      let ov ← holding [v] (eval o X.env)
      let iv ← holding [v, ov] (eval i X.env)
      standAt pos
      holding [v, ov, iv] (setItem ov iv v)
      release [v, ov, iv] []) := by intro _; rfl) : JG X (.Subscript o i pos) (gIx mo mi (xSetS (hashM X.prog X.w))) := jg_sub ho hi set_dicS ok_setS ha
end
end Ab
set_option Elab.async false
set_option linter.all false
set_option maxRecDepth 100000
namespace Ab
open PySem PySem.Spec PyProof.Rows L2
set_option autoImplicit false
section
variable {X : Cx} {e : Expr} {pos p1 : Pos} {key : Str}
def tD1 (hf : MK → Int) (key : Str) (te : TE) : TE := fun σ H Q => ∀ p, H p = none → (p == sysModules) = false → te σ (upd H p (DicT hf p [])) (fun v H2 => H2 p = some (DicT hf p []) ∧ ∀ u xs', L2.RelV v u → sKd xs' → kvS xs' = [(key, u)] → Q (.ref p) (upd H2 p (DicT hf p xs')))
theorem pe_d1 {j : Nat} {te : TE} (he : PE X e te) (hsh : (evalEachOpt [some (.Constant (.str key) j p1)] X.env).zip ((evalEach [e] X.env).map fun v => do let x ← v; standAt pos; pure x) = [(eval (.Constant (.str key) j p1) X.env, (do let x ← eval e X.env; standAt pos; pure x : Sem Value))].map fun p => (some p.1, p.2) := by rfl) : PE X (.Dict [some (.Constant (.str key) j p1)] [e] pos) (tD1 (hashM X.prog X.w) key te) := by
  intro pins s σ H Q I h
  have fr : H s.heap.objs.size = none := I.hok.fresh (Nat.le_refl _)
  have ns : (s.heap.objs.size == sysModules) = false := beq_eq_false_iff_ne.mpr (Ne.symm (Nat.ne_of_lt I.big))
  have I1 := I.laid (a := s.heap.objs.size) (h' := s.heap.push { cls := .type "dict", data := .dict #[] }) (o := DicT (hashM X.prog X.w) s.heap.objs.size []) (t' := s.toks) (fun _ _ q => Heap.get?_push_of_some _ q) (Nat.le_refl _) (dic_ok ⟨_, #[], 0, Heap.get?_push_size _ rfl, ⟨rfl, rfl, rfl⟩, rfl, rfl, List.nodup_nil⟩)
  refine wpAny_Dict_pairs (knd := PySem.strKind X.prog X.w) hsh (by simp) (by simp) ?_
  show wpAny _ _ (eval (.Constant (.str key) j p1) X.env >>= _) _ _ _
  refine wpAny_bind (thn (pe_str (X := X) (x := key) (j := j) (pos := p1) pins _ σ _ (fun v H2 => v = .str key ∧ H2 = upd H s.heap.objs.size (DicT (hashM X.prog X.w) s.heap.objs.size [])) I1 ⟨rfl, rfl⟩) fun kv s1 ⟨x, H1, I2, r1, ex, eH⟩ => ?_)
  subst ex eH
  obtain ⟨t, rfl⟩ := r1
  refine wpAny_bind (wpAny_holding (wpAny_bind (thn (he pins s1 σ _ _ I2 (h _ fr ns)) fun u s2 ⟨v, H2, I3, r2, hp2, q2⟩ => wpAny_bind (wpAny_standAt (wpAny_pure ?_)))))
  refine wpAny_bind (wpAny_holding (wpAny_pure (wpAny_pure ?_)))
  refine ⟨[(key, u)], ⟨strKind_is _ _ key t, rfl, trivial⟩, dict_of (dicM I3 hp2) (fun y hy => absurd hy (by simp)), fun h' m' sb => ?_⟩
  have em : merged [] [(key, u)] = [(key, u)] := rfl
  rw [em] at m'
  obtain ⟨xs', m2, e2, sk2⟩ := of_dict m'
  have m3 : DictF (hashM X.prog X.w) h' s.heap.objs.size xs' := m2
  exact ⟨.ref s.heap.objs.size, _, d_write I3 (by rw [hp2]; exact True.intro) sb (let ⟨o, _, _, ho, _⟩ := m2; ⟨o, ho⟩) (dic_ok m3), rfl, q2 u xs' r2 sk2 e2⟩
open Classical in
noncomputable def eD1 (hf : MK → Int) (key : Str) (me : ME) : ME := fun τ h => (me τ (h ++ [.dic hf []])).bind fun p => match p.1 with
  | .bl b => if p.2[h.length]? = some (.dic hf []) then some (.loc h.length, p.2.set h.length (.dic hf [(.inl key, .bl b)])) else none
  | _ => none
theorem je_d1 {j : Nat} {me : ME} (he : JE X e me) (hsh : (evalEachOpt [some (.Constant (.str key) j p1)] X.env).zip ((evalEach [e] X.env).map fun v => do let x ← v; standAt pos; pure x) = [(eval (.Constant (.str key) j p1) X.env, (do let x ← eval e X.env; standAt pos; pure x : Sem Value))].map fun p => (some p.1, p.2) := by rfl) : JE X (.Dict [some (.Constant (.str key) j p1)] [e] pos) (eD1 (hashM X.prog X.w) key me) := ⟨PE_imp (pe_d1 he.pf hsh) fun σ H Q q => by
  obtain ⟨ρ, τ, h, d, h', R, S, e, k⟩ := q
  intro p hp hs
  obtain ⟨⟨x, h1⟩, e1, e⟩ := bindS e
  dsimp only at e
  split at e
  · split at e
    · rename_i b hh
      cases e
      obtain ⟨u, R1, r1⟩ := R.allocD (hf := hashM X.prog X.w) hp hs
      refine ⟨ρ ++ [p], τ, _, _, h1, R1, S.up u, e1, fun ρ2 H2 v2 u2 R2 r2 => ?_⟩
      have r3 := r1.up u2
      obtain ⟨p', ep, hn, hs', zs, vs, hp2, nm, dk, rv, rs⟩ := R2.locAt hh r3
      cases ep
      have z0 : zs = [] := by
        cases zs with
        | nil => rfl
        | cons a r => cases nm
      subst z0
      refine ⟨hp2, fun w xs' rw' sk ee => ?_⟩
      cases r2
      have rw' : w = .bool b := rw'
      rw [rw'] at ee
      obtain ⟨nm', vs', rv', rs'⟩ := rel_from (K := X.K) (ρ := ρ2) (H := H2) (kvs := [(.inl key, .bl b)]) sk rfl ee
      obtain ⟨u3, R3⟩ := R2.putD hn hh hs' hp2 nm' sk rv' rs'
      exact k _ _ _ ((u.trans u2).trans u3) R3 (r3.up u3)
    · cases e
  · cases e⟩
end
end Ab
set_option Elab.async false
set_option linter.all false
set_option maxRecDepth 100000
namespace Ab
open PySem PySem.Spec PyProof.Rows L2
set_option autoImplicit false
section
variable {X : Cx} {o e : Expr} {es : List Expr} {to : TE} {t : TA} {mo : ME} {ms : MA} {apos cpos : Pos} {k : Nat}
def tGetM (K : PySem.W.Frag) (hf : MK → Int) (to : TE) (t : TA) : TE := fun σ H Q => to σ H fun x H1 => (∃ p xs, x = .ref p ∧ H1 p = some (DicT hf p xs)) ∧ t σ H1 fun as H2 => rGetM K hf x as H2 Q
theorem pe_getM (hr : Room k X.A) (ho : PE X o to) (ha : PA X (e :: es) t)
    (hbase : attributeBase o "get" X.env (eval o X.env) = eval o X.env := by rfl)
    (hfew : ((backTo cpos (starEach (e :: es) X.env)).all (fun x => !x.1) && (backToKw cpos (keywordEach [] X.env)).all (fun x => x.1.isSome)
      && decide ((e :: es).length + ([] : List Keyword).length + (if ([] : List Keyword).isEmpty then 0 else 1) < 30)) = true := by rfl)
    (hline : (apos.endLine == cpos.line) = true := by rfl) (hs : starEach (e :: es) X.env = (false, eval e X.env) :: starEach es X.env := by rfl) (hplain : (backTo cpos (starEach es X.env)).any (·.1) = false := by rfl) :
    PE X (.Call (.Attribute o "get" apos) (e :: es) [] cpos) (tGetM X.K (hashM X.prog X.w) to t) := by
  intro pins s σ H Q I h
  refine wpAny_Call_method_late hbase hfew hline rfl (thn (ho pins s σ H _ I h) fun v s1 ⟨x, H1, I1, r1, ⟨p, xs, ex, hp⟩, q1⟩ => ?_)
  subst ex
  obtain rfl : v = Value.ref p := r1
  have m := dicM I1 hp
  refine ⟨"dict", "dict.get", PySem.F.plainAttrs_dict, PySem.F.slot_dict_get, PySem.F.type_dict_get, m.typeIs, fun a ea => ?_, ?_⟩
  · cases ea
    obtain ⟨o, _, _, ho, ex, _⟩ := m
    exact ⟨o, ho, ex.2.1⟩
  have hA := ha cpos pins s1 σ H1 _ I1 q1
  rw [hs] at hA ⊢
  refine Calls.callWith_builtin (by show (false || (backTo cpos (starEach es X.env)).any (·.1)) = false; rw [hplain] <;> rfl) (Calls.evalArgs_plain ?_)
  exact thn hA fun us s2 ⟨vs, H2, I2, r2, q2⟩ => mt_getM (u1 hr) pins s2 σ H2 (.ref p) vs (.ref p) us Q I2 rfl r2 q2
open Classical in
noncomputable def isDicO (hf : MK → Int) : A → AHp → Bool
  | .loc n, h => match h[n]? with
    | some (.dic hf' _) => decide (hf' = hf)
    | _ => false
  | _, _ => false
noncomputable def eGetM (hf : MK → Int) (mo : ME) (ms : MA) : ME := fun τ h => (mo τ h).bind fun p => if isDicO hf p.1 p.2 = true then (ms τ p.2).bind fun q => fGetM hf p.1 q.1 q.2 else none
theorem je_getM (hr : Room k X.A) (ho : JE X o mo) (ha : JA X (e :: es) ms)
    (hbase : attributeBase o "get" X.env (eval o X.env) = eval o X.env := by rfl)
    (hfew : ((backTo cpos (starEach (e :: es) X.env)).all (fun x => !x.1) && (backToKw cpos (keywordEach [] X.env)).all (fun x => x.1.isSome)
      && decide ((e :: es).length + ([] : List Keyword).length + (if ([] : List Keyword).isEmpty then 0 else 1) < 30)) = true := by rfl)
    (hline : (apos.endLine == cpos.line) = true := by rfl) (hs : starEach (e :: es) X.env = (false, eval e X.env) :: starEach es X.env := by rfl) (hplain : (backTo cpos (starEach es X.env)).any (·.1) = false := by rfl) :
    JE X (.Call (.Attribute o "get" apos) (e :: es) [] cpos) (eGetM (hashM X.prog X.w) mo ms) := ⟨PE_imp (pe_getM hr ho.pf ha.pf hbase hfew hline hs hplain) fun σ H Q q => by
  obtain ⟨ρ, τ, h, d, h', R, S, e, k⟩ := q
  obtain ⟨⟨x, h1⟩, e1, e⟩ := bindS e
  dsimp only at e
  split at e
  · rename_i hl
    obtain ⟨⟨as, h2⟩, e2, e⟩ := bindS e
    refine ⟨ρ, τ, h, x, h1, R, S, e1, fun ρ1 H1 v1 u1 R1 r1 => ⟨?_, ρ1, τ, h1, as, h2, R1, S.up u1, e2, fun ρ2 H2 v2 u2 R2 r2 => ?_⟩⟩
    · unfold isDicO at hl
      split at hl
      · split at hl
        · rename_i n hf' kvs hx
          have : hf' = hashM X.prog X.w := by simpa using hl
          subst this
          obtain ⟨p, rfl, hq, hs, xs, vs, hp, nm, dk, rv, rs⟩ := R1.locAt hx r1
          exact ⟨p, xs, rfl, hp⟩
        · cases hl
      · cases hl
    · exact ok_getM ρ2 H2 h2 x as d h' v1 v2 Q R2 (r1.up u2) r2 e fun ρ3 H3 v u3 R3 r3 => k ρ3 H3 v ((u1.trans u2).trans u3) R3 r3
  · cases e⟩
end
section
variable {hf : MK → Int} {h : AHp}
theorem v_neSS {n m : Nat} {kvs : List (MK × A)} (e1 : h[n]? = some (.dic hf kvs)) (e2 : h[m]? = some (.dic hf kvs)) (st : strKv kvs = true) : cNeS hf (.loc n) (.loc m) h = some (.bl false, h) := by
  unfold cNeS
  simp [e1, e2, st]
theorem v_dictS {n : Nat} {kvs : List (MK × A)} (e : h[n]? = some (.dic hf kvs)) (st : strKv kvs = true) (hl : kvs.length ≤ 100000) : bDictS hf [.loc n] h = some (.loc h.length, h ++ [.dic hf kvs]) := by
  unfold bDictS
  simp [e, st, hl]
theorem v_setS {n : Nat} {kvs : List (MK × A)} {x : Str} {b : Bool} (e : h[n]? = some (.dic hf kvs)) (st : strKv kvs = true) (hl : kvs.length ≤ 100000) : xSetS hf (.loc n) (.str x) (.bl b) h = some (h.set n (.dic hf (putKv kvs (.inl x) (.bl b)))) := by
  unfold xSetS
  simp [e, st, hl]
theorem v_getM {n : Nat} {kvs : List (MK × A)} {x : Str} {v : A} (e : h[n]? = some (.dic hf kvs)) : fGetM hf (.loc n) [.str x, v] h = some ((findA kvs (.inl x)).getD v, h) := by
  unfold fGetM
  simp only [e, if_true]
  rfl
theorem ev_getM {n : Nat} {kvs : List (MK × A)} {x : Str} {v : A} {mo : ME} {ms : MA} {τ : ASt} {h1 h2 : AHp} (e1 : mo τ h1 = some (.loc n, h1)) (g1 : h1[n]? = some (.dic hf kvs)) (e2 : ms τ h1 = some ([.str x, v], h2)) (g2 : h2[n]? = some (.dic hf kvs)) : eGetM hf mo ms τ h1 = some ((findA kvs (.inl x)).getD v, h2) := by
  unfold eGetM
  rw [e1, ev_bind]
  have : isDicO hf (.loc n) h1 = true := by unfold isDicO; simp [g1]
  show (if isDicO hf (.loc n) h1 = true then _ else _) = _
  rw [if_pos this, e2, ev_bind]
  exact v_getM g2
theorem ev_d1 {key : Str} {me : ME} {τ : ASt} {b : Bool} {h1 : AHp} (e : me τ (h ++ [.dic hf []]) = some (.bl b, h1)) (g : h1[h.length]? = some (.dic hf [])) : eD1 hf key me τ h = some (.loc h.length, h1.set h.length (.dic hf [(.inl key, .bl b)])) := by
  unfold eD1
  rw [e, ev_bind]
  simp [g]
end
end Ab
set_option Elab.async false
set_option linter.all false
set_option maxRecDepth 100000
noncomputable section
namespace Sh
open PySem PyProof.Rows L2 Ab
def c_NOUGHT : A := (.str "nought")
def c_SIGNS : A := (.tup ((["and", "or", "gives"] : List Str).map A.str))
def b_law_cell : MS := (sSeq (sIf (mB (eOp cLt (eVar 1) (eCall bLen (aCons (eVar 0) aNil)))) (sRet (eOp xIx (eVar 0) (eVar 1))) sNx) (sSeq (sAsg (eOp oMul (eVar 1) (eC (.int 7919))) (gN 2)) (sSeq (sIf (mB (eOp cGt (eCall bLen (aCons (eVar 0) aNil)) (eC (.int 0)))) (sAsg (eOp oAdd (eVar 2) (eOp oMod (eOp xIx (eVar 0) (eOp oMod (eVar 1) (eCall bLen (aCons (eVar 0) aNil)))) (eC (.int 65537)))) (gN 2)) sNx) (sSeq (sAsg (eOp oMod (eOp oMul (eVar 2) (eC (.int 48271))) (eC (.int 65537))) (gN 3)) (sRet (eOp oMod (eOp oDiv (eOp oMul (eVar 3) (eOp oAdd (eOp oAdd (eVar 3) (eOp oMul (eC (.int 2)) (eVar 1))) (eC (.int 1)))) (eC (.int 7))) (eC (.int 65521))))))))
def F_law_cell : MF := fnOf 4 (b_law_cell)
theorem ap_law_cell (a0 a1 : A) (h : AHp) : F_law_cell [a0, a1] h = (b_law_cell [some a0, some a1, none, none] h).bind kFn := id rfl
def b_law_bag : MS := (sSeq (sAsg (eCall F_law_cell (aCons (eVar 0) (aCons (eVar 1) aNil))) (gN 2)) (sSeq (sIf (mOr (mB (eOp cGe (eVar 2) (eOp oPow (eC (.int 10)) (eC (.int 18))))) (mB (eOp cLe (eVar 2) (eUn uNeg (eOp oPow (eC (.int 10)) (eC (.int 18))))))) (sRet (eLst (aCons (eVar 2) (aCons (eC (.int 0)) aNil)))) sNx) (sRet (eLst (aCons (eOp oMod (eVar 2) (eC (.int 2147483647))) (aCons (eOp oAdd (eVar 1) (eC (.int 1))) aNil))))))
def F_law_bag : MF := fnOf 3 (b_law_bag)
theorem ap_law_bag (a0 a1 : A) (h : AHp) : F_law_bag [a0, a1] h = (b_law_bag [some a0, some a1, none] h).bind kFn := id rfl
def b_law_take : MS := (sSeq (sIf (mB (eOp cEq (eOp xIx (eVar 0) (eC (.int 1))) (eC (.int 0)))) (sSeq (sAsg (eOp oMod (eOp xIx (eVar 0) (eC (.int 0))) (eVar 1)) (gN 2)) (sSeq (sAsg (eOp oDiv (eOp xIx (eVar 0) (eC (.int 0))) (eVar 1)) (gIx (eVar 0) (eC (.int 0)) xSet)) (sRet (eVar 2)))) sNx) (sSeq (sAsg (eOp oMod (eOp oAdd (eOp oAdd (eOp oMul (eOp xIx (eVar 0) (eC (.int 0))) (eC (.int 48271))) (eOp oMul (eOp oMul (eC (.int 7919)) (eOp xIx (eVar 0) (eC (.int 1)))) (eOp xIx (eVar 0) (eC (.int 1))))) (eC (.int 17))) (eC (.int 2147483647))) (gIx (eVar 0) (eC (.int 0)) xSet)) (sSeq (sAsg (eOp oAdd (eOp xIx (eVar 0) (eC (.int 1))) (eC (.int 1))) (gIx (eVar 0) (eC (.int 1)) xSet)) (sRet (eOp oMod (eOp oMod (eOp oMul (eOp xIx (eVar 0) (eC (.int 0))) (eC (.int 69621))) (eC (.int 2147483629))) (eVar 1))))))
def F_law_take : MF := fnOf 3 (b_law_take)
theorem ap_law_take (a0 a1 : A) (h : AHp) : F_law_take [a0, a1] h = (b_law_take [some a0, some a1, none] h).bind kFn := id rfl
def l1_law_names : MS := (sAsg (eOp oAdd (eVar 3) (eOp xIx (eVar 2) (eCall F_law_take (aCons (eVar 0) (aCons (eC (.int 26)) aNil))))) (gN 3))
def l2_law_names : MS := (sSeq (sAsg (eOp oAdd (eOp oAdd (eSl (eVar 3) mNoPart (mPart (eVar 6))) (eOp xIx (eVar 2) (eOp oMod (eOp oAdd (eVar 7) (eOp oMul (eC (.int 5)) (eVar 5))) (eC (.int 26))))) (eSl (eVar 3) (mPart (eVar 6)) mNoPart)) (gN 9)) (sIf (mAnd (mB (eOp cNi (eVar 9) (eLst (aCons (eC (.str "nought")) (aCons (eC (.str "and")) (aCons (eC (.str "or")) (aCons (eC (.str "gives")) aNil))))))) (mB (eOp cLt (eCall bLen (aCons (eVar 8) aNil)) (eVar 1)))) (sX (eMt fAppend (eVar 8) (aCons (eVar 9) aNil))) sNx))
def b_law_names : MS := (sSeq (sAsg (eC (.str "abcdefghijklmnopqrstuvwxyz")) (gN 2)) (sSeq (sAsg (eC (.str "")) (gN 3)) (sSeq (sAsg (eCall F_law_take (aCons (eVar 0) (aCons (eC (.int 8)) aNil))) (gN 4)) (sSeq (sFor (iRng1M (aCons (eVar 4) aNil)) (gN 5) l1_law_names) (sSeq (sAsg (eCall F_law_take (aCons (eVar 0) (aCons (eOp oAdd (eVar 4) (eC (.int 1))) aNil))) (gN 6)) (sSeq (sIf (mB (eOp cEq (eCall F_law_take (aCons (eVar 0) (aCons (eC (.int 5)) aNil))) (eC (.int 1)))) (sSeq (sAsg (eOp xIx (eLst (aCons (eC (.str "and")) (aCons (eC (.str "or")) (aCons (eC (.str "gives")) (aCons (eC (.str "nough")) aNil))))) (eCall F_law_take (aCons (eVar 0) (aCons (eC (.int 4)) aNil)))) (gN 3)) (sAsg (eCall bLen (aCons (eVar 3) aNil)) (gN 6))) sNx) (sSeq (sAsg (eCall F_law_take (aCons (eVar 0) (aCons (eC (.int 26)) aNil))) (gN 7)) (sSeq (sAsg (eLst aNil) (gN 8)) (sSeq (sFor (iRng1M (aCons (eC (.int 26)) aNil)) (gN 5) l2_law_names) (sRet (eVar 8)))))))))))
def F_law_names : MF := fnOf 10 (b_law_names)
theorem ap_law_names (a0 a1 : A) (h : AHp) : F_law_names [a0, a1] h = (b_law_names [some a0, some a1, none, none, none, none, none, none, none, none] h).bind kFn := id rfl
def b_law_statement (R : MF) : MS := (sSeq (sIf (mB (eOp cEq (eVar 2) (eC (.int 0)))) (sRet (eOp xIx (eOp oAdd (eOp oAdd (eVar 1) (eVar 1)) (eLst (aCons (eC (.str "nought")) aNil))) (eCall F_law_take (aCons (eVar 0) (aCons (eOp oAdd (eOp oMul (eC (.int 2)) (eCall bLen (aCons (eVar 1) aNil))) (eC (.int 1))) aNil))))) sNx) (sSeq (sAsg (eOp xIx (eLst (aCons (eC (.str "and")) (aCons (eC (.str "or")) (aCons (eC (.str "gives")) (aCons (eC (.str "gives")) (aCons (eC (.str "gives")) aNil)))))) (eCall F_law_take (aCons (eVar 0) (aCons (eC (.int 5)) aNil)))) (gN 3)) (sSeq (sAsg (eCall F_law_take (aCons (eVar 0) (aCons (eVar 2) aNil))) (gN 4)) (sSeq (sAsg (eCall R (aCons (eVar 0) (aCons (eVar 1) (aCons (eVar 4) aNil)))) (gN 5)) (sRet (eTup (aCons (eVar 3) (aCons (eVar 5) (aCons (eCall R (aCons (eVar 0) (aCons (eVar 1) (aCons (eOp oSub (eOp oSub (eVar 2) (eC (.int 1))) (eVar 4)) aNil)))) aNil)))))))))
def F_law_statement : Nat → MF
  | 0 => fun _ _ => none
  | n + 1 => fnOf 6 (b_law_statement (F_law_statement n))
theorem ap_law_statement (n : Nat) (a0 a1 a2 : A) (h : AHp) : F_law_statement (n + 1) [a0, a1, a2] h = (b_law_statement (F_law_statement n) [some a0, some a1, some a2, none, none, none] h).bind kFn := id rfl
end Sh
end
set_option Elab.async false
set_option linter.all false
set_option maxRecDepth 100000
namespace Sw
open PySem PyProof.Rows L2 Ab Sh
def l1_words : MS := (sSeq (sAsg (eMt fPop (eVar 2) aNil) (gN 3)) (sIf (mTru (eCall bIsi (aCons (eVar 3) (aCons (eC (.ty "tuple")) aNil)))) (sSeq (sAsg (eVar 3) (gT3 4 5 6)) (sSeq (sX (eMt fAppend (eVar 1) (aCons (eVar 4) aNil))) (sSeq (sX (eMt fAppend (eVar 2) (aCons (eVar 6) aNil))) (sX (eMt fAppend (eVar 2) (aCons (eVar 5) aNil)))))) (sX (eMt fAppend (eVar 1) (aCons (eVar 3) aNil)))))
def b_words : MS := (sSeq (sAsg (eLst aNil) (gN 1)) (sSeq (sAsg (eLst (aCons (eVar 0) aNil)) (gN 2)) (sSeq (whileL (mTru (eVar 2)) l1_words 100000) (sRet (eVar 1)))))
def F_words : MF := fnOf 7 b_words
theorem ap_words (a0 : A) (h : AHp) : F_words [a0] h = (b_words [some a0, none, none, none, none, none, none] h).bind kFn := id rfl
end Sw
set_option Elab.async false
set_option linter.all false
set_option maxRecDepth 100000
noncomputable section
namespace So
open PySem PyProof.Rows L2 Ab Sh Sw
def l1_folded (e0 : Expr) (n0 : List Str) (G0 : List A → MF) (e1 : Expr) (n1 : List Str) (G1 : List A → MF) : MS := (sIf (mB (eOp cIn (eVar 4) (eC c_SIGNS))) (sSeq (sAsg (eMt fPop (eVar 3) aNil) (gN 5)) (sSeq (sAsg (eMt fPop (eVar 3) aNil) (gN 6)) (sX (eMt fAppend (eVar 3) (aCons (eCallC e1 n1 G1 2 (aCons (eVar 4) (aCons (eVar 5) (aCons (eVar 6) aNil)))) aNil))))) (sX (eMt fAppend (eVar 3) (aCons (eCallC e0 n0 G0 1 (aCons (eVar 4) aNil)) aNil))))
def b_folded (e0 : Expr) (n0 : List Str) (G0 : List A → MF) (e1 : Expr) (n1 : List Str) (G1 : List A → MF) : MS := (sSeq (sAsg (eLst aNil) (gN 3)) (sSeq (sFor (iReversed (aCons (eCall F_words (aCons (eVar 0) aNil)) aNil)) (gN 4) (l1_folded e0 n0 G0 e1 n1 G1)) (sRet (eMt fPop (eVar 3) aNil))))
def F_folded (e0 : Expr) (n0 : List Str) (G0 : List A → MF) (e1 : Expr) (n1 : List Str) (G1 : List A → MF) : MF := fnOf 7 (b_folded e0 n0 G0 e1 n1 G1)
theorem ap_folded (e0 : Expr) (n0 : List Str) (G0 : List A → MF) (e1 : Expr) (n1 : List Str) (G1 : List A → MF) (a0 a1 a2 : A) (h : AHp) : F_folded e0 n0 G0 e1 n1 G1 [a0, a1, a2] h = (b_folded e0 n0 G0 e1 n1 G1 [some a0, some a1, some a2, none, none, none, none] h).bind kFn := id rfl
end So
end
set_option Elab.async false
set_option linter.all false
set_option maxRecDepth 100000
noncomputable section
namespace K47
open PySem PyProof.Rows L2 Ab Sh Sw So
def b_truth_by_sign : MS := (sSeq (sIf (mB (eOp cEq (eVar 0) (eC (.str "and")))) (sRet (eAnd (eVar 1) (eVar 2))) sNx) (sSeq (sIf (mB (eOp cEq (eVar 0) (eC (.str "or")))) (sRet (eOr (eVar 1) (eVar 2))) sNx) (sRet (eOr (eVar 2) (eNot (eVar 1))))))
def F_truth_by_sign : MF := fnOf 3 (b_truth_by_sign)
theorem ap_truth_by_sign (a0 a1 a2 : A) (h : AHp) : F_truth_by_sign [a0, a1, a2] h = (b_truth_by_sign [some a0, some a1, some a2] h).bind kFn := id rfl
def bl_is_true_0 (U : Nat → Addr) (hf : MK → Int) (L : Nat → Expr) : ME := (eAnd (eOp cNe (eVar 1) (eC c_NOUGHT)) (eGetM hf (eVar 0) (aCons (eVar 1) (aCons (eC (.bl false)) aNil))))
def G_is_true_0 (U : Nat → Addr) (hf : MK → Int) (L : Nat → Expr) : List A → MF := lamOf (bl_is_true_0 U hf L)
theorem gp_is_true_0 (U : Nat → Addr) (hf : MK → Int) (L : Nat → Expr) (c0 a0 : A) (h : AHp) : G_is_true_0 U hf L [c0] [a0] h = bl_is_true_0 U hf L [some c0, some a0] h := id rfl
def bl_is_true_1 (U : Nat → Addr) (hf : MK → Int) (L : Nat → Expr) : ME := (eCall F_truth_by_sign (aCons (eVar 0) (aCons (eVar 1) (aCons (eVar 2) aNil))))
def G_is_true_1 (U : Nat → Addr) (hf : MK → Int) (L : Nat → Expr) : List A → MF := lamOf (bl_is_true_1 U hf L)
theorem gp_is_true_1 (U : Nat → Addr) (hf : MK → Int) (L : Nat → Expr) (a0 a1 a2 : A) (h : AHp) : G_is_true_1 U hf L [] [a0, a1, a2] h = bl_is_true_1 U hf L [some a0, some a1, some a2] h := id rfl
def b_is_true (U : Nat → Addr) (hf : MK → Int) (L : Nat → Expr) : MS := (sRet (eCall (F_folded (L 4) ["setting"] (G_is_true_0 U hf L) (L 5) [] (G_is_true_1 U hf L)) (aCons (eVar 0) (aCons (eLam (L 4) [("setting", 1)]) (aCons (eLam (L 5) []) aNil)))))
def F_is_true (U : Nat → Addr) (hf : MK → Int) (L : Nat → Expr) : MF := fnOf 2 (b_is_true U hf L)
theorem ap_is_true (U : Nat → Addr) (hf : MK → Int) (L : Nat → Expr) (a0 a1 : A) (h : AHp) : F_is_true U hf L [a0, a1] h = (b_is_true U hf L [some a0, some a1] h).bind kFn := id rfl
def b_twice : MS := (sRet (eTup (aCons (eC (.str "gives")) (aCons (eTup (aCons (eC (.str "gives")) (aCons (eVar 0) (aCons (eC c_NOUGHT) aNil)))) (aCons (eC c_NOUGHT) aNil)))))
def F_twice : MF := fnOf 1 (b_twice)
theorem ap_twice (a0 : A) (h : AHp) : F_twice [a0] h = (b_twice [some a0] h).bind kFn := id rfl
def b_law_true (R : MF) : MS := (sSeq (sIf (mNot (mTru (eCall bIsi (aCons (eVar 0) (aCons (eC (.ty "tuple")) aNil))))) (sRet (eOp cIn (eVar 0) (eVar 1))) sNx) (sSeq (sAsg (eCall R (aCons (eOp xIx (eVar 0) (eC (.int 1))) (aCons (eVar 1) aNil))) (gN 2)) (sSeq (sAsg (eCall R (aCons (eOp xIx (eVar 0) (eC (.int 2))) (aCons (eVar 1) aNil))) (gN 3)) (sSeq (sIf (mB (eOp cEq (eOp xIx (eVar 0) (eC (.int 0))) (eC (.str "and")))) (sRet (eAnd (eVar 2) (eVar 3))) sNx) (sSeq (sIf (mB (eOp cEq (eOp xIx (eVar 0) (eC (.int 0))) (eC (.str "or")))) (sRet (eOr (eVar 2) (eVar 3))) sNx) (sRet (eOr (eVar 3) (eNot (eVar 2)))))))))
def F_law_true : Nat → MF
  | 0 => fun _ _ => none
  | n + 1 => fnOf 4 (b_law_true (F_law_true n))
theorem ap_law_true (n : Nat) (a0 a1 : A) (h : AHp) : F_law_true (n + 1) [a0, a1] h = (b_law_true (F_law_true n) [some a0, some a1, none, none] h).bind kFn := id rfl
def l1_law_setting (U : Nat → Addr) (hf : MK → Int) (L : Nat → Expr) : MS := (sSeq (sAsg (eCall F_law_take (aCons (eVar 0) (aCons (eC (.int 5)) aNil))) (gN 4)) (sIf (mB (eOp cLt (eVar 4) (eC (.int 4)))) (sAsg (eOp cEq (eOp oMod (eVar 4) (eC (.int 2))) (eC (.int 0))) (gIx (eVar 2) (eVar 3) (xSetS hf))) sNx))
def b_law_setting (U : Nat → Addr) (hf : MK → Int) (L : Nat → Expr) : MS := (sSeq (sAsg (eD1 hf "zz" (eOp cEq (eCall F_law_take (aCons (eVar 0) (aCons (eC (.int 2)) aNil))) (eC (.int 0)))) (gN 2)) (sSeq (sFor (iLst (eVar 1)) (gN 3) (l1_law_setting U hf L)) (sRet (eVar 2))))
def F_law_setting (U : Nat → Addr) (hf : MK → Int) (L : Nat → Expr) : MF := fnOf 5 (b_law_setting U hf L)
theorem ap_law_setting (U : Nat → Addr) (hf : MK → Int) (L : Nat → Expr) (a0 a1 : A) (h : AHp) : F_law_setting U hf L [a0, a1] h = (b_law_setting U hf L [some a0, some a1, none, none, none] h).bind kFn := id rfl
def e1_law (U : Nat → Addr) (hf : MK → Int) (L : Nat → Expr) : ME := (eCall (F_law_setting U hf L) (aCons (eCall F_law_bag (aCons (eVar 0) (aCons (eOp oAdd (eC (.int 1)) (eVar 4)) aNil))) (aCons (eVar 2) aNil)))
def e2_law (U : Nat → Addr) (hf : MK → Int) (L : Nat → Expr) : ME := (eVar 11)
def q3_law (U : Nat → Addr) (hf : MK → Int) (L : Nat → Expr) : MT := (mTru (eGetM hf (eVar 7) (aCons (eVar 11) (aCons (eC (.bl false)) aNil))))
def l4_law (U : Nat → Addr) (hf : MK → Int) (L : Nat → Expr) : MS := (sSeq (sAsg (eCall (bDictS hf) (aCons (eVar 7) aNil)) (gN 8)) (sSeq (sAsg (eCall (F_law_true 20) (aCons (eVar 6) (aCons (eLc (iLst (eVar 2)) 11 (q3_law U hf L) (e2_law U hf L)) aNil))) (gN 9)) (sSeq (sAsg (eCall (F_is_true U hf L) (aCons (eVar 6) (aCons (eVar 8) aNil))) (gN 10)) (sIf (mOr (mNot (mTru (eCall bIsi (aCons (eVar 10) (aCons (eC (.ty "bool")) aNil))))) (mOr (mB (eOp cNe (eVar 10) (eVar 9))) (mB (eOp (cNeS hf) (eVar 8) (eVar 7))))) (sRet (eC (.bl false))) sNx))))
def l5_law (U : Nat → Addr) (hf : MK → Int) (L : Nat → Expr) : MS := (sSeq (sAsg (eCall F_law_bag (aCons (eVar 0) (aCons (eOp oAdd (eC (.int 3)) (eVar 4)) aNil))) (gN 1)) (sSeq (sAsg (eCall F_law_take (aCons (eVar 1) (aCons (eC (.int 7)) aNil))) (gN 5)) (sSeq (sIf (mB (eOp cEq (eCall F_law_take (aCons (eVar 1) (aCons (eC (.int 4)) aNil))) (eC (.int 3)))) (sAsg (eC (.int 10)) (gN 5)) sNx) (sSeq (sAsg (eCall (F_law_statement 12) (aCons (eVar 1) (aCons (eVar 2) (aCons (eVar 5) aNil)))) (gN 6)) (sSeq (sIf (mB (eOp cNe (eCall F_twice (aCons (eVar 6) aNil)) (eTup (aCons (eC (.str "gives")) (aCons (eTup (aCons (eC (.str "gives")) (aCons (eVar 6) (aCons (eC (.str "nought")) aNil)))) (aCons (eC (.str "nought")) aNil)))))) (sRet (eC (.bl false))) sNx) (sFor (iLst (eVar 3)) (gN 7) (l4_law U hf L)))))))
def b_law (U : Nat → Addr) (hf : MK → Int) (L : Nat → Expr) : MS := (sSeq (sAsg (eCall F_law_bag (aCons (eVar 0) (aCons (eC (.int 0)) aNil))) (gN 1)) (sSeq (sAsg (eCall F_law_names (aCons (eVar 1) (aCons (eOp oAdd (eC (.int 1)) (eCall F_law_take (aCons (eVar 1) (aCons (eC (.int 4)) aNil)))) aNil))) (gN 2)) (sSeq (sAsg (eOp oAdd (eLc (iRng1M (aCons (eC (.int 2)) aNil)) 4 mYes (e1_law U hf L)) (eLst (aCons (eDnew hf) aNil))) (gN 3)) (sSeq (sFor (iRng1M (aCons (eC (.int 6)) aNil)) (gN 4) (l5_law U hf L)) (sRet (eC (.bl true)))))))
def F_law (U : Nat → Addr) (hf : MK → Int) (L : Nat → Expr) : MF := fnOf 12 (b_law U hf L)
theorem ap_law (U : Nat → Addr) (hf : MK → Int) (L : Nat → Expr) (a0 : A) (h : AHp) : F_law U hf L [a0] h = (b_law U hf L [some a0, none, none, none, none, none, none, none, none, none, none, none] h).bind kFn := id rfl
end K47
end
set_option Elab.async false
set_option linter.all false
set_option maxRecDepth 100000
namespace K47
open PySem PyProof.Rows L2 Ab Sh Sw So
def top (i : Nat) : Stmt := PySem.Challenge.pw_lesssay_k47_true_at_settings.main.body.getD i (.Pass ⟨0, 0, 0, 0⟩)
structure Blt (mg : Str → Option Value) : Prop where
  bool_ : mg "bool" = none
  dict_ : mg "dict" = none
  isinstance_ : mg "isinstance" = none
  len_ : mg "len" = none
  range_ : mg "range" = none
  reversed_ : mg "reversed" = none
  tuple_ : mg "tuple" = none
structure Cns (w : World) (K : PySem.W.Frag) (mg : Str → Option Value) (U : Nat → Addr) : Prop where
  dummy : True
  NOUGHT : Cn K mg "NOUGHT" c_NOUGHT
  SIGNS : Cn K mg "SIGNS" c_SIGNS
  mk_is_true : MkD K mg "is_true"
abbrev lx_is_true : Stmt := top 7
abbrev le_is_true_0 : Expr := lamAt lx_is_true 0
abbrev le_is_true_1 : Expr := lamAt lx_is_true 1
abbrev lamT : Nat → Expr := fun i => match i with
  | 4 => le_is_true_0
  | 5 => le_is_true_1
  | _ => .Constant .none 0 ⟨0, 0, 0, 0⟩
section
variable {P : Program} {w : World} {K : PySem.W.Frag} {mg : Str → Option Value} {base : Heap} {U : Nat → Addr}
abbrev s_words : Stmt := top 3
theorem sc_words : FnScope ["statement", "found", "waiting", "part", "sign", "one", "other"] ["statement"] (defScope s_words) := ⟨rfl, rfl, rfl, by decide +kernel, rfl, by decide +kernel, by decide +kernel⟩
theorem ok_words (D : Def K mg "words" s_words ["statement"]) (B : Blt mg) (C : Cns w K mg U) : Fn P w K mg base 1 "words" F_words 1 := by
  refine fn_mk (k := 0) (N := ["statement", "found", "waiting", "part", "sign", "one", "other"]) D sc_words rfl (fun f cdv A outer s H E hr => ?_)
  unfold b_words
  exact (jb_cons (js_set 1 sc_words.nd (je_lst ja_nil)) (jb_cons (js_set 2 sc_words.nd (je_lst (ja_cons (je_var 0) ja_nil))) (jb_cons (js_while 100000 (jt_val (je_var 2)) (jb_cons (js_set 3 sc_words.nd (je_pop0 (je_var 2))) (jb_one (js_if (jt_val (je_isi B.isinstance_ (ja_cons (je_var 3) (ja_cons (je_ty B.tuple_ (by decide +kernel)) ja_nil)))) (jb_cons (js_asg (je_var 3) (jg_tup3 4 5 6 rfl sc_words.nd)) (jb_cons (js_x (je_append (je_var 1) (ja_cons (je_var 4) ja_nil))) (jb_cons (js_x (je_append (je_var 2) (ja_cons (je_var 6) ja_nil))) (jb_one (js_x (je_append (je_var 2) (ja_cons (je_var 5) ja_nil))))))) (jb_one (js_x (je_append (je_var 1) (ja_cons (je_var 3) ja_nil)))))))) (jb_one (js_ret (je_var 1))))))
abbrev s_folded : Stmt := top 4
theorem sc_folded : FnScope ["statement", "of_word", "of_sign", "ready", "word", "one", "other"] ["statement", "of_word", "of_sign"] (defScope s_folded) := ⟨rfl, rfl, rfl, by decide +kernel, rfl, by decide +kernel, by decide +kernel⟩
theorem ok_folded (D : Def K mg "folded" s_folded ["statement", "of_word", "of_sign"]) (B : Blt mg) (C : Cns w K mg U) (c_words : Fn P w K mg base 1 "words" F_words 1) (k : Nat) (e0 : Expr) (n0 : List Str) (G0 : List A → MF) (e1 : Expr) (n1 : List Str) (G1 : List A → MF) (g0 : FnC P w K mg base k e0 n0 G0 1) (g1 : FnC P w K mg base k e1 n1 G1 3) : Fn P w K mg base (k + 1 + 1) "folded" (F_folded e0 n0 G0 e1 n1 G1) 3 := by
  refine fn_mk (k := k + 1) (N := ["statement", "of_word", "of_sign", "ready", "word", "one", "other"]) D sc_folded rfl (fun f cdv A outer s H E hr => ?_)
  unfold b_folded
  exact (jb_cons (js_set 3 sc_folded.nd (je_lst ja_nil)) (jb_cons (js_for rfl (ji_reversed B.reversed_ (ja_cons (je_fn c_words (hr.mono (by omega)) (ja_cons (je_var 0) ja_nil)) ja_nil)) (jg_name 4 sc_folded.nd) (jb_one (js_if (jt_in hr (je_var 4) (je_cn C.SIGNS)) (jb_cons (js_set 5 sc_folded.nd (je_pop0 (je_var 3))) (jb_cons (js_set 6 sc_folded.nd (je_pop0 (je_var 3))) (jb_one (js_x (je_append (je_var 3) (ja_cons (je_callC g1 (hr.mono (by omega)) (ja_cons (je_var 4) (ja_cons (je_var 5) (ja_cons (je_var 6) ja_nil)))) ja_nil)))))) (jb_one (js_x (je_append (je_var 3) (ja_cons (je_callC g0 (hr.mono (by omega)) (ja_cons (je_var 4) ja_nil)) ja_nil))))))) (jb_one (js_ret (je_pop0 (je_var 3))))))
abbrev s_truth_by_sign : Stmt := top 6
theorem sc_truth_by_sign : FnScope ["sign", "one", "other"] ["sign", "one", "other"] (defScope s_truth_by_sign) := ⟨rfl, rfl, rfl, by decide +kernel, rfl, by decide +kernel, by decide +kernel⟩
theorem ok_truth_by_sign (D : Def K mg "truth_by_sign" s_truth_by_sign ["sign", "one", "other"]) (B : Blt mg) (C : Cns w K mg U) : Fn P w K mg base 1 "truth_by_sign" F_truth_by_sign 3 := by
  refine fn_mk (k := 0) (N := ["sign", "one", "other"]) D sc_truth_by_sign rfl (fun f cdv A outer s H E hr => ?_)
  unfold b_truth_by_sign
  exact (jb_cons (js_if (jt_eq hr (je_var 0) je_str) (jb_one (js_ret (je_and (je_var 1) (je_one (je_var 2))))) jb_nil) (jb_cons (js_if (jt_eq hr (je_var 0) je_str) (jb_one (js_ret (je_or (je_var 1) (je_one (je_var 2))))) jb_nil) (jb_one (js_ret (je_or (je_var 2) (je_one (je_not (je_var 1))))))))
abbrev s_is_true : Stmt := top 7
theorem sc_is_true : FnScope ["statement", "setting"] ["statement", "setting"] (defScope s_is_true) := ⟨rfl, rfl, rfl, by decide +kernel, rfl, by decide +kernel, by decide +kernel⟩
theorem ls_is_true_0 : LamScope ["setting"] ["word"] (lamArgs le_is_true_0) (lamBody le_is_true_0) (lamScope le_is_true_0) := ⟨rfl, rfl, rfl, by decide +kernel, by decide +kernel, by decide +kernel, by decide +kernel, by decide +kernel, fun _ _ _ _ _ us hl => match us, hl with | [_], _ => rfl⟩
theorem ls_is_true_1 : LamScope [] ["sign", "one", "other"] (lamArgs le_is_true_1) (lamBody le_is_true_1) (lamScope le_is_true_1) := ⟨rfl, rfl, rfl, by decide +kernel, by decide +kernel, by decide +kernel, by decide +kernel, by decide +kernel, fun _ _ _ _ _ us hl => match us, hl with | [_, _, _], _ => rfl⟩
theorem ok_is_true (D : Def K mg "is_true" s_is_true ["statement", "setting"]) (B : Blt mg) (C : Cns w K mg U) (bm : BMod base mg) (c_truth_by_sign : Fn P w K mg base 1 "truth_by_sign" F_truth_by_sign 3) (h_folded : ∀ (k : Nat) (e0 : Expr) (n0 : List Str) (G0 : List A → MF) (e1 : Expr) (n1 : List Str) (G1 : List A → MF), FnC P w K mg base k e0 n0 G0 1 → FnC P w K mg base k e1 n1 G1 3 → Fn P w K mg base (k + 1 + 1) "folded" (F_folded e0 n0 G0 e1 n1 G1) 3) : Fn P w K mg base 5 "is_true" (F_is_true U (hashM P w) lamT) 2 := by
  have g0 : FnC P w K mg base 2 (lamT 4) ["setting"] (G_is_true_0 U (hashM P w) lamT) 1 := (fnC_mk (k := 0) (pos := lamPos le_is_true_0) ls_is_true_0 (fun qual p cd cl A outer s H hr => by unfold bl_is_true_0; exact (je_and (je_ne hr (je_var 1) (je_cn C.NOUGHT)) (je_one (je_getM hr (je_var 0) (ja_cons (je_var 1) (ja_cons je_bl ja_nil))))))).mono (by decide)
  have g1 : FnC P w K mg base 2 (lamT 5) [] (G_is_true_1 U (hashM P w) lamT) 3 := (fnC_mk (k := 1) (pos := lamPos le_is_true_1) ls_is_true_1 (fun qual p cd cl A outer s H hr => by unfold bl_is_true_1; exact (je_fn c_truth_by_sign (hr.mono (by omega)) (ja_cons (je_var 0) (ja_cons (je_var 1) (ja_cons (je_var 2) ja_nil)))))).mono (by decide)
  have c_folded := h_folded 2 _ _ _ _ _ _ g0 g1
  refine fnL_mk (k := 4) (N := ["statement", "setting"]) D C.mk_is_true sc_is_true rfl (fun f c Pt A outer s H E hC hT hr => ?_)
  unfold b_is_true
  exact (jb_one (js_ret (je_fn c_folded (hr.mono (by omega)) (ja_cons (je_var 0) (ja_cons (je_lamL hC hT bm (by decide +kernel) (fun _ => rfl) (by decide +kernel)) (ja_cons (je_lamL hC hT bm (by decide +kernel) (fun _ => rfl) (by decide +kernel)) ja_nil))))))
abbrev s_twice : Stmt := top 8
theorem sc_twice : FnScope ["statement"] ["statement"] (defScope s_twice) := ⟨rfl, rfl, rfl, by decide +kernel, rfl, by decide +kernel, by decide +kernel⟩
theorem ok_twice (D : Def K mg "twice" s_twice ["statement"]) (B : Blt mg) (C : Cns w K mg U) : Fn P w K mg base 1 "twice" F_twice 1 := by
  refine fn_mk (k := 0) (N := ["statement"]) D sc_twice rfl (fun f cdv A outer s H E hr => ?_)
  unfold b_twice
  exact (jb_one (js_ret (je_tup (ja_cons je_str (ja_cons (je_tup (ja_cons je_str (ja_cons (je_var 0) (ja_cons (je_cn C.NOUGHT) ja_nil)))) (ja_cons (je_cn C.NOUGHT) ja_nil))))))
abbrev s_law_cell : Stmt := top 10
theorem sc_law_cell : FnScope ["_law_script", "_law_k", "_law_seed", "_law_some"] ["_law_script", "_law_k"] (defScope s_law_cell) := ⟨rfl, rfl, rfl, by decide +kernel, rfl, by decide +kernel, by decide +kernel⟩
theorem ok_law_cell (D : Def K mg "_law_cell" s_law_cell ["_law_script", "_law_k"]) (B : Blt mg) (C : Cns w K mg U) : Fn P w K mg base 1 "_law_cell" F_law_cell 2 := by
  refine fn_mk (k := 0) (N := ["_law_script", "_law_k", "_law_seed", "_law_some"]) D sc_law_cell rfl (fun f cdv A outer s H E hr => ?_)
  unfold b_law_cell
  exact (jb_cons (js_if (jt_lt hr (je_var 1) (je_len B.len_ (ja_cons (je_var 0) ja_nil))) (jb_one (js_ret (je_index (je_var 0) (je_var 1)))) jb_nil) (jb_cons (js_set 2 sc_law_cell.nd (je_mul (je_var 1) je_int)) (jb_cons (js_if (jt_gt hr (je_len B.len_ (ja_cons (je_var 0) ja_nil)) je_int) (jb_one (js_set 2 sc_law_cell.nd (je_add (je_var 2) (je_mod (je_index (je_var 0) (je_mod (je_var 1) (je_len B.len_ (ja_cons (je_var 0) ja_nil)))) je_int)))) jb_nil) (jb_cons (js_set 3 sc_law_cell.nd (je_mod (je_mul (je_var 2) je_int) je_int)) (jb_one (js_ret (je_mod (je_div (je_mul (je_var 3) (je_add (je_add (je_var 3) (je_mul je_int (je_var 1))) je_int)) je_int) je_int)))))))
abbrev s_law_bag : Stmt := top 11
theorem sc_law_bag : FnScope ["_law_script", "_law_at", "_law_cell_here"] ["_law_script", "_law_at"] (defScope s_law_bag) := ⟨rfl, rfl, rfl, by decide +kernel, rfl, by decide +kernel, by decide +kernel⟩
theorem ok_law_bag (D : Def K mg "_law_bag" s_law_bag ["_law_script", "_law_at"]) (B : Blt mg) (C : Cns w K mg U) (c_law_cell : Fn P w K mg base 1 "_law_cell" F_law_cell 2) : Fn P w K mg base 2 "_law_bag" F_law_bag 2 := by
  refine fn_mk (k := 1) (N := ["_law_script", "_law_at", "_law_cell_here"]) D sc_law_bag rfl (fun f cdv A outer s H E hr => ?_)
  unfold b_law_bag
  exact (jb_cons (js_set 2 sc_law_bag.nd (je_fn c_law_cell (hr.mono (by omega)) (ja_cons (je_var 0) (ja_cons (je_var 1) ja_nil)))) (jb_cons (js_if (jt_w (jw_or (jt_ge hr (je_var 2) (je_pow je_int je_int)) (jw_or1 (jt_le hr (je_var 2) (je_neg (je_pow je_int je_int)))))) (jb_one (js_ret (je_lst (ja_cons (je_var 2) (ja_cons je_int ja_nil))))) jb_nil) (jb_one (js_ret (je_lst (ja_cons (je_mod (je_var 2) je_int) (ja_cons (je_add (je_var 1) je_int) ja_nil)))))))
abbrev s_law_take : Stmt := top 12
theorem sc_law_take : FnScope ["_law_bag_here", "_law_many", "_law_some"] ["_law_bag_here", "_law_many"] (defScope s_law_take) := ⟨rfl, rfl, rfl, by decide +kernel, rfl, by decide +kernel, by decide +kernel⟩
theorem ok_law_take (D : Def K mg "_law_take" s_law_take ["_law_bag_here", "_law_many"]) (B : Blt mg) (C : Cns w K mg U) : Fn P w K mg base 1 "_law_take" F_law_take 2 := by
  refine fn_mk (k := 0) (N := ["_law_bag_here", "_law_many", "_law_some"]) D sc_law_take rfl (fun f cdv A outer s H E hr => ?_)
  unfold b_law_take
  exact (jb_cons (js_if (jt_eq hr (je_index (je_var 0) je_int) je_int) (jb_cons (js_set 2 sc_law_take.nd (je_mod (je_index (je_var 0) je_int) (je_var 1))) (jb_cons (js_setIx (je_div (je_index (je_var 0) je_int) (je_var 1)) (je_var 0) je_int) (jb_one (js_ret (je_var 2))))) jb_nil) (jb_cons (js_setIx (je_mod (je_add (je_add (je_mul (je_index (je_var 0) je_int) je_int) (je_mul (je_mul je_int (je_index (je_var 0) je_int)) (je_index (je_var 0) je_int))) je_int) je_int) (je_var 0) je_int) (jb_cons (js_setIx (je_add (je_index (je_var 0) je_int) je_int) (je_var 0) je_int) (jb_one (js_ret (je_mod (je_mod (je_mul (je_index (je_var 0) je_int) je_int) je_int) (je_var 1)))))))
abbrev s_law_names : Stmt := top 13
theorem sc_law_names : FnScope ["_law_bag_here", "_law_many", "_law_small", "_law_word", "_law_long", "_law_k", "_law_at", "_law_first", "_law_found", "_law_name"] ["_law_bag_here", "_law_many"] (defScope s_law_names) := ⟨rfl, rfl, rfl, by decide +kernel, rfl, by decide +kernel, by decide +kernel⟩
theorem ok_law_names (D : Def K mg "_law_names" s_law_names ["_law_bag_here", "_law_many"]) (B : Blt mg) (C : Cns w K mg U) (c_law_take : Fn P w K mg base 1 "_law_take" F_law_take 2) : Fn P w K mg base 2 "_law_names" F_law_names 2 := by
  refine fn_mk (k := 1) (N := ["_law_bag_here", "_law_many", "_law_small", "_law_word", "_law_long", "_law_k", "_law_at", "_law_first", "_law_found", "_law_name"]) D sc_law_names rfl (fun f cdv A outer s H E hr => ?_)
  unfold b_law_names
  exact (jb_cons (js_set 2 sc_law_names.nd je_str) (jb_cons (js_set 3 sc_law_names.nd je_str) (jb_cons (js_set 4 sc_law_names.nd (je_fn c_law_take (hr.mono (by omega)) (ja_cons (je_var 0) (ja_cons je_int ja_nil)))) (jb_cons (js_for rfl (ji_rng1 B.range_ (ja_cons (je_var 4) ja_nil)) (jg_name 5 sc_law_names.nd) (jb_one (js_set 3 sc_law_names.nd (je_add (je_var 3) (je_index (je_var 2) (je_fn c_law_take (hr.mono (by omega)) (ja_cons (je_var 0) (ja_cons je_int ja_nil)))))))) (jb_cons (js_set 6 sc_law_names.nd (je_fn c_law_take (hr.mono (by omega)) (ja_cons (je_var 0) (ja_cons (je_add (je_var 4) je_int) ja_nil)))) (jb_cons (js_if (jt_eq hr (je_fn c_law_take (hr.mono (by omega)) (ja_cons (je_var 0) (ja_cons je_int ja_nil))) je_int) (jb_cons (js_set 3 sc_law_names.nd (je_index (je_lst (ja_cons je_str (ja_cons je_str (ja_cons je_str (ja_cons je_str ja_nil))))) (je_fn c_law_take (hr.mono (by omega)) (ja_cons (je_var 0) (ja_cons je_int ja_nil))))) (jb_one (js_set 6 sc_law_names.nd (je_len B.len_ (ja_cons (je_var 3) ja_nil))))) jb_nil) (jb_cons (js_set 7 sc_law_names.nd (je_fn c_law_take (hr.mono (by omega)) (ja_cons (je_var 0) (ja_cons je_int ja_nil)))) (jb_cons (js_set 8 sc_law_names.nd (je_lst ja_nil)) (jb_cons (js_for rfl (ji_rng1 B.range_ (ja_cons je_int ja_nil)) (jg_name 5 sc_law_names.nd) (jb_cons (js_set 9 sc_law_names.nd (je_add (je_add (je_slice (je_var 3) jo_none (jo_some (je_var 6))) (je_index (je_var 2) (je_mod (je_add (je_var 7) (je_mul je_int (je_var 5))) je_int))) (je_slice (je_var 3) (jo_some (je_var 6)) jo_none))) (jb_one (js_if (jt_w (jw_and (jt_ni hr (je_var 9) (je_lst (ja_cons je_str (ja_cons je_str (ja_cons je_str (ja_cons je_str ja_nil)))))) (jw_and1 (jt_lt hr (je_len B.len_ (ja_cons (je_var 8) ja_nil)) (je_var 1))))) (jb_one (js_x (je_append (je_var 8) (ja_cons (je_var 9) ja_nil)))) jb_nil)))) (jb_one (js_ret (je_var 8))))))))))))
abbrev s_law_statement : Stmt := top 14
theorem sc_law_statement : FnScope ["_law_bag_here", "_law_names_here", "_law_many", "_law_sign", "_law_near", "_law_one"] ["_law_bag_here", "_law_names_here", "_law_many"] (defScope s_law_statement) := ⟨rfl, rfl, rfl, by decide +kernel, rfl, by decide +kernel, by decide +kernel⟩
theorem ok_law_statement (D : Def K mg "_law_statement" s_law_statement ["_law_bag_here", "_law_names_here", "_law_many"]) (B : Blt mg) (C : Cns w K mg U) (c_law_take : Fn P w K mg base 1 "_law_take" F_law_take 2) : ∀ n, Fn P w K mg base (1 + n) "_law_statement" (F_law_statement n) 3
  | 0 => fn_no D
  | n + 1 => by
    have c_law_statement := ok_law_statement D B C c_law_take n
    refine fn_mk (k := 1 + n) (N := ["_law_bag_here", "_law_names_here", "_law_many", "_law_sign", "_law_near", "_law_one"]) D sc_law_statement rfl (fun f cdv A outer s H E hr => ?_)
    unfold b_law_statement
    exact (jb_cons (js_if (jt_eq hr (je_var 2) je_int) (jb_one (js_ret (je_index (je_add (je_add (je_var 1) (je_var 1)) (je_lst (ja_cons je_str ja_nil))) (je_fn c_law_take (hr.mono (by omega)) (ja_cons (je_var 0) (ja_cons (je_add (je_mul je_int (je_len B.len_ (ja_cons (je_var 1) ja_nil))) je_int) ja_nil)))))) jb_nil) (jb_cons (js_set 3 sc_law_statement.nd (je_index (je_lst (ja_cons je_str (ja_cons je_str (ja_cons je_str (ja_cons je_str (ja_cons je_str ja_nil)))))) (je_fn c_law_take (hr.mono (by omega)) (ja_cons (je_var 0) (ja_cons je_int ja_nil))))) (jb_cons (js_set 4 sc_law_statement.nd (je_fn c_law_take (hr.mono (by omega)) (ja_cons (je_var 0) (ja_cons (je_var 2) ja_nil)))) (jb_cons (js_set 5 sc_law_statement.nd (je_fn c_law_statement (hr.mono (by omega)) (ja_cons (je_var 0) (ja_cons (je_var 1) (ja_cons (je_var 4) ja_nil))))) (jb_one (js_ret (je_tup (ja_cons (je_var 3) (ja_cons (je_var 5) (ja_cons (je_fn c_law_statement (hr.mono (by omega)) (ja_cons (je_var 0) (ja_cons (je_var 1) (ja_cons (je_sub (je_sub (je_var 2) je_int) (je_var 4)) ja_nil)))) ja_nil))))))))))
abbrev s_law_true : Stmt := top 15
theorem sc_law_true : FnScope ["_law_statement_here", "_law_true_ones", "_law_near", "_law_far"] ["_law_statement_here", "_law_true_ones"] (defScope s_law_true) := ⟨rfl, rfl, rfl, by decide +kernel, rfl, by decide +kernel, by decide +kernel⟩
theorem ok_law_true (D : Def K mg "_law_true" s_law_true ["_law_statement_here", "_law_true_ones"]) (B : Blt mg) (C : Cns w K mg U) : ∀ n, Fn P w K mg base (0 + n) "_law_true" (F_law_true n) 2
  | 0 => fn_no D
  | n + 1 => by
    have c_law_true := ok_law_true D B C n
    refine fn_mk (k := 0 + n) (N := ["_law_statement_here", "_law_true_ones", "_law_near", "_law_far"]) D sc_law_true rfl (fun f cdv A outer s H E hr => ?_)
    unfold b_law_true
    exact (jb_cons (js_if (jt_not (jt_val (je_isi B.isinstance_ (ja_cons (je_var 0) (ja_cons (je_ty B.tuple_ (by decide +kernel)) ja_nil))))) (jb_one (js_ret (je_in hr (je_var 0) (je_var 1)))) jb_nil) (jb_cons (js_set 2 sc_law_true.nd (je_fn c_law_true (hr.mono (by omega)) (ja_cons (je_index (je_var 0) je_int) (ja_cons (je_var 1) ja_nil)))) (jb_cons (js_set 3 sc_law_true.nd (je_fn c_law_true (hr.mono (by omega)) (ja_cons (je_index (je_var 0) je_int) (ja_cons (je_var 1) ja_nil)))) (jb_cons (js_if (jt_eq hr (je_index (je_var 0) je_int) je_str) (jb_one (js_ret (je_and (je_var 2) (je_one (je_var 3))))) jb_nil) (jb_cons (js_if (jt_eq hr (je_index (je_var 0) je_int) je_str) (jb_one (js_ret (je_or (je_var 2) (je_one (je_var 3))))) jb_nil) (jb_one (js_ret (je_or (je_var 3) (je_one (je_not (je_var 2)))))))))))
abbrev s_law_setting : Stmt := top 16
theorem sc_law_setting : FnScope ["_law_bag_here", "_law_names_here", "_law_found", "_law_name", "_law_way"] ["_law_bag_here", "_law_names_here"] (defScope s_law_setting) := ⟨rfl, rfl, rfl, by decide +kernel, rfl, by decide +kernel, by decide +kernel⟩
theorem ok_law_setting (D : Def K mg "_law_setting" s_law_setting ["_law_bag_here", "_law_names_here"]) (B : Blt mg) (C : Cns w K mg U) (c_law_take : Fn P w K mg base 1 "_law_take" F_law_take 2) : Fn P w K mg base 2 "_law_setting" (F_law_setting U (hashM P w) lamT) 2 := by
  refine fn_mk (k := 1) (N := ["_law_bag_here", "_law_names_here", "_law_found", "_law_name", "_law_way"]) D sc_law_setting rfl (fun f cdv A outer s H E hr => ?_)
  unfold b_law_setting
  exact (jb_cons (js_set 2 sc_law_setting.nd (je_d1 (je_eq hr (je_fn c_law_take (hr.mono (by omega)) (ja_cons (je_var 0) (ja_cons je_int ja_nil))) je_int))) (jb_cons (js_for rfl (ji_list (je_var 1)) (jg_name 3 sc_law_setting.nd) (jb_cons (js_set 4 sc_law_setting.nd (je_fn c_law_take (hr.mono (by omega)) (ja_cons (je_var 0) (ja_cons je_int ja_nil)))) (jb_one (js_if (jt_lt hr (je_var 4) je_int) (jb_one (js_asg (je_eq hr (je_mod (je_var 4) je_int) je_int) (jg_setS (je_var 2) (je_var 3)))) jb_nil)))) (jb_one (js_ret (je_var 2)))))
abbrev s_law : Stmt := top 17
theorem sc_law : FnScope ["_law_script", "_law_bag_here", "_law_names_here", "_law_settings", "_law_k", "_law_many", "_law_statement_here", "_law_setting_here", "_law_handed", "_law_due", "_law_found", "_law_name"] ["_law_script"] (defScope s_law) := ⟨rfl, rfl, rfl, by decide +kernel, rfl, by decide +kernel, by decide +kernel⟩
theorem raw_law {f : Addr} {fd : FuncData} (F : Fun K "law" "law" s_law f fd) (B : Blt mg) (C : Cns w K mg U) (c_is_true : Fn P w K mg base 5 "is_true" (F_is_true U (hashM P w) lamT) 2) (c_twice : Fn P w K mg base 1 "twice" F_twice 1) (c_law_bag : Fn P w K mg base 2 "_law_bag" F_law_bag 2) (c_law_take : Fn P w K mg base 1 "_law_take" F_law_take 2) (c_law_names : Fn P w K mg base 2 "_law_names" F_law_names 2) (c_law_statement : Fn P w K mg base 13 "_law_statement" (F_law_statement 12) 3) (c_law_true : Fn P w K mg base 20 "_law_true" (F_law_true 20) 2) (c_law_setting : Fn P w K mg base 2 "_law_setting" (F_law_setting U (hashM P w) lamT) 2) : FnOk P w K mg base CX0 21 f fd ["_law_script"] (spF K (F_law U (hashM P w) lamT) 1) := by
  refine fn_ok (k := 20) (N := ["_law_script", "_law_bag_here", "_law_names_here", "_law_settings", "_law_k", "_law_many", "_law_statement_here", "_law_setting_here", "_law_handed", "_law_due", "_law_found", "_law_name"]) F sc_law rfl (fun cdv A outer s H E hr => ?_)
  unfold b_law
  exact (jb_cons (js_set 1 sc_law.nd (je_fn c_law_bag (hr.mono (by omega)) (ja_cons (je_var 0) (ja_cons je_int ja_nil)))) (jb_cons (js_set 2 sc_law.nd (je_fn c_law_names (hr.mono (by omega)) (ja_cons (je_var 1) (ja_cons (je_add je_int (je_fn c_law_take (hr.mono (by omega)) (ja_cons (je_var 1) (ja_cons je_int ja_nil)))) ja_nil)))) (jb_cons (js_set 3 sc_law.nd (je_add (je_lc 4 rfl sc_law.nd (ji_rng1 B.range_ (ja_cons je_int ja_nil)) (blkOk_by (own := [("_law_k", 4)]) (N := ["_law_script", "_law_bag_here", "_law_names_here", "_law_settings", "_law_k", "_law_many", "_law_statement_here", "_law_setting_here", "_law_handed", "_law_due", "_law_found", "_law_name"]) (sc := defScope s_law) (by decide +kernel)) (fun _ _ _ _ _ => pg_name (i := 4) sc_law.nd rfl (Or.inl rfl)) (fun _ _ _ _ _ => jts_nil) (fun _ _ _ _ _ => (je_fn c_law_setting (hr.mono (by omega)) (ja_cons (je_fn c_law_bag (hr.mono (by omega)) (ja_cons (je_var 0) (ja_cons (je_add je_int (je_var 4)) ja_nil))) (ja_cons (je_var 2) ja_nil))))) (je_lst (ja_cons je_dnew ja_nil)))) (jb_cons (js_for rfl (ji_rng1 B.range_ (ja_cons je_int ja_nil)) (jg_name 4 sc_law.nd) (jb_cons (js_set 1 sc_law.nd (je_fn c_law_bag (hr.mono (by omega)) (ja_cons (je_var 0) (ja_cons (je_add je_int (je_var 4)) ja_nil)))) (jb_cons (js_set 5 sc_law.nd (je_fn c_law_take (hr.mono (by omega)) (ja_cons (je_var 1) (ja_cons je_int ja_nil)))) (jb_cons (js_if (jt_eq hr (je_fn c_law_take (hr.mono (by omega)) (ja_cons (je_var 1) (ja_cons je_int ja_nil))) je_int) (jb_one (js_set 5 sc_law.nd je_int)) jb_nil) (jb_cons (js_set 6 sc_law.nd (je_fn c_law_statement (hr.mono (by omega)) (ja_cons (je_var 1) (ja_cons (je_var 2) (ja_cons (je_var 5) ja_nil))))) (jb_cons (js_if (jt_ne hr (je_fn c_twice (hr.mono (by omega)) (ja_cons (je_var 6) ja_nil)) (je_tup (ja_cons je_str (ja_cons (je_tup (ja_cons je_str (ja_cons (je_var 6) (ja_cons je_str ja_nil)))) (ja_cons je_str ja_nil))))) (jb_one (js_ret je_bl)) jb_nil) (jb_one (js_for rfl (ji_list (je_var 3)) (jg_name 7 sc_law.nd) (jb_cons (js_set 8 sc_law.nd (je_dictS B.dict_ (ja_cons (je_var 7) ja_nil))) (jb_cons (js_set 9 sc_law.nd (je_fn c_law_true (hr.mono (by omega)) (ja_cons (je_var 6) (ja_cons (je_lc 11 rfl sc_law.nd (ji_list (je_var 2)) (blkOk_by (own := [("_law_name", 11)]) (N := ["_law_script", "_law_bag_here", "_law_names_here", "_law_settings", "_law_k", "_law_many", "_law_statement_here", "_law_setting_here", "_law_handed", "_law_due", "_law_found", "_law_name"]) (sc := defScope s_law) (by decide +kernel)) (fun _ _ _ _ _ => pg_name (i := 11) sc_law.nd rfl (Or.inl rfl)) (fun _ _ _ _ _ => (jts_one (jt_val (je_getM hr (je_var 7) (ja_cons (je_var 11) (ja_cons je_bl ja_nil)))))) (fun _ _ _ _ _ => (je_var 11))) ja_nil)))) (jb_cons (js_set 10 sc_law.nd (je_fn c_is_true (hr.mono (by omega)) (ja_cons (je_var 6) (ja_cons (je_var 8) ja_nil)))) (jb_one (js_if (jt_w (jw_or (jt_not (jt_val (je_isi B.isinstance_ (ja_cons (je_var 10) (ja_cons (je_ty B.bool_ (by decide +kernel)) ja_nil))))) (jw_or (jt_ne hr (je_var 10) (je_var 9)) (jw_or1 (jt_neS hr (je_var 8) (je_var 7)))))) (jb_one (js_ret je_bl)) jb_nil))))))))))))) (jb_one (js_ret je_bl))))))
end
set_option maxHeartbeats 0 in
theorem all_mk {l : PySem.W.OpenLaw} {w : World} {K : PySem.W.Frag} {h : Heap} {mg : Str → Option Value} {fa f1 f2 f3 f4 f5 f6 f7 f8 f9 f10 f11 f12 f13 : Addr} (hF : ∀ (U : Nat → Addr) (hf : MK → Int) (L : Nat → Expr), ∀ ns : List Int, ns.length ≤ 63 → ∃ h, F_law U hf L [.ro (ns.map A.int)] [] = some (.bl true, h)) (X : K.In h) (G : h.Ns mainGlobals mg) (hfa : mg "law" = some (.ref fa))
    {od1 an1 od2 an2 od3 an3 od4 an4 od5 an5 od6 an6 od7 an7 od8 an8 od9 an9 od10 an10 od11 an11 od12 an12 od13 an13 : Option Addr} {sl1 sl2 sl3 sl4 sl5 sl6 sl7 sl8 sl9 sl10 sl11 sl12 sl13 : Array (Option Value)} {oc1 kV1 dc1 pm1 cd1 ct1 oc2 kV2 dc2 pm2 cd2 ct2 oc3 kV3 dc3 pm3 cd3 ct3 oc4 kV4 dc4 pm4 cd4 ct4 oc5 kV5 dc5 pm5 cd5 ct5 oc6 kV6 dc6 pm6 cd6 ct6 oc7 kV7 dc7 pm7 cd7 ct7 oc8 kV8 dc8 pm8 cd8 ct8 oc9 kV9 dc9 pm9 cd9 ct9 oc10 kV10 dc10 pm10 cd10 ct10 oc11 kV11 dc11 pm11 cd11 ct11 oc12 kV12 dc12 pm12 cd12 ct12 oc13 kV13 dc13 pm13 cd13 ct13 : Value} {t_NOUGHT : Tok} {p_SIGNS : Addr} {oc_SIGNS : Value} {od_SIGNS : Option Addr} {n_SIGNS : Nat} {sl_SIGNS : Array (Option Value)} {t_SIGNS0 t_SIGNS1 t_SIGNS2 : Tok} {cx_is_true px_is_true : Addr} {odc_is_true : Option Addr} {vsc_is_true : Array Value} {slc_is_true : Array (Option Value)}
    (a1 : PySem.W.nsIn K mainGlobals "words" = some (some (.ref f1))) (l1 : K.lookup f1 = some ⟨oc1, od1, .func (PySem.W.fnOf "words" "words" (defArgs s_words) (defBody s_words) (defScope s_words) .none kV1 dc1 pm1 an1 cd1 ct1), sl1⟩) (c1 : PySem.W.codeIn K cd1 "words" = true) (k1 : PySem.W.keepIn K (.ref f1) = true)
    (a2 : PySem.W.nsIn K mainGlobals "folded" = some (some (.ref f2))) (l2 : K.lookup f2 = some ⟨oc2, od2, .func (PySem.W.fnOf "folded" "folded" (defArgs s_folded) (defBody s_folded) (defScope s_folded) .none kV2 dc2 pm2 an2 cd2 ct2), sl2⟩) (c2 : PySem.W.codeIn K cd2 "folded" = true) (k2 : PySem.W.keepIn K (.ref f2) = true)
    (a3 : PySem.W.nsIn K mainGlobals "truth_by_sign" = some (some (.ref f3))) (l3 : K.lookup f3 = some ⟨oc3, od3, .func (PySem.W.fnOf "truth_by_sign" "truth_by_sign" (defArgs s_truth_by_sign) (defBody s_truth_by_sign) (defScope s_truth_by_sign) .none kV3 dc3 pm3 an3 cd3 ct3), sl3⟩) (c3 : PySem.W.codeIn K cd3 "truth_by_sign" = true) (k3 : PySem.W.keepIn K (.ref f3) = true)
    (a4 : PySem.W.nsIn K mainGlobals "is_true" = some (some (.ref f4))) (l4 : K.lookup f4 = some ⟨oc4, od4, .func (PySem.W.fnOf "is_true" "is_true" (defArgs s_is_true) (defBody s_is_true) (defScope s_is_true) .none kV4 dc4 pm4 an4 cd4 ct4), sl4⟩) (c4 : PySem.W.codeIn K cd4 "is_true" = true) (k4 : PySem.W.keepIn K (.ref f4) = true)
    (a5 : PySem.W.nsIn K mainGlobals "twice" = some (some (.ref f5))) (l5 : K.lookup f5 = some ⟨oc5, od5, .func (PySem.W.fnOf "twice" "twice" (defArgs s_twice) (defBody s_twice) (defScope s_twice) .none kV5 dc5 pm5 an5 cd5 ct5), sl5⟩) (c5 : PySem.W.codeIn K cd5 "twice" = true) (k5 : PySem.W.keepIn K (.ref f5) = true)
    (a6 : PySem.W.nsIn K mainGlobals "_law_cell" = some (some (.ref f6))) (l6 : K.lookup f6 = some ⟨oc6, od6, .func (PySem.W.fnOf "_law_cell" "_law_cell" (defArgs s_law_cell) (defBody s_law_cell) (defScope s_law_cell) .none kV6 dc6 pm6 an6 cd6 ct6), sl6⟩) (c6 : PySem.W.codeIn K cd6 "_law_cell" = true) (k6 : PySem.W.keepIn K (.ref f6) = true)
    (a7 : PySem.W.nsIn K mainGlobals "_law_bag" = some (some (.ref f7))) (l7 : K.lookup f7 = some ⟨oc7, od7, .func (PySem.W.fnOf "_law_bag" "_law_bag" (defArgs s_law_bag) (defBody s_law_bag) (defScope s_law_bag) .none kV7 dc7 pm7 an7 cd7 ct7), sl7⟩) (c7 : PySem.W.codeIn K cd7 "_law_bag" = true) (k7 : PySem.W.keepIn K (.ref f7) = true)
    (a8 : PySem.W.nsIn K mainGlobals "_law_take" = some (some (.ref f8))) (l8 : K.lookup f8 = some ⟨oc8, od8, .func (PySem.W.fnOf "_law_take" "_law_take" (defArgs s_law_take) (defBody s_law_take) (defScope s_law_take) .none kV8 dc8 pm8 an8 cd8 ct8), sl8⟩) (c8 : PySem.W.codeIn K cd8 "_law_take" = true) (k8 : PySem.W.keepIn K (.ref f8) = true)
    (a9 : PySem.W.nsIn K mainGlobals "_law_names" = some (some (.ref f9))) (l9 : K.lookup f9 = some ⟨oc9, od9, .func (PySem.W.fnOf "_law_names" "_law_names" (defArgs s_law_names) (defBody s_law_names) (defScope s_law_names) .none kV9 dc9 pm9 an9 cd9 ct9), sl9⟩) (c9 : PySem.W.codeIn K cd9 "_law_names" = true) (k9 : PySem.W.keepIn K (.ref f9) = true)
    (a10 : PySem.W.nsIn K mainGlobals "_law_statement" = some (some (.ref f10))) (l10 : K.lookup f10 = some ⟨oc10, od10, .func (PySem.W.fnOf "_law_statement" "_law_statement" (defArgs s_law_statement) (defBody s_law_statement) (defScope s_law_statement) .none kV10 dc10 pm10 an10 cd10 ct10), sl10⟩) (c10 : PySem.W.codeIn K cd10 "_law_statement" = true) (k10 : PySem.W.keepIn K (.ref f10) = true)
    (a11 : PySem.W.nsIn K mainGlobals "_law_true" = some (some (.ref f11))) (l11 : K.lookup f11 = some ⟨oc11, od11, .func (PySem.W.fnOf "_law_true" "_law_true" (defArgs s_law_true) (defBody s_law_true) (defScope s_law_true) .none kV11 dc11 pm11 an11 cd11 ct11), sl11⟩) (c11 : PySem.W.codeIn K cd11 "_law_true" = true) (k11 : PySem.W.keepIn K (.ref f11) = true)
    (a12 : PySem.W.nsIn K mainGlobals "_law_setting" = some (some (.ref f12))) (l12 : K.lookup f12 = some ⟨oc12, od12, .func (PySem.W.fnOf "_law_setting" "_law_setting" (defArgs s_law_setting) (defBody s_law_setting) (defScope s_law_setting) .none kV12 dc12 pm12 an12 cd12 ct12), sl12⟩) (c12 : PySem.W.codeIn K cd12 "_law_setting" = true) (k12 : PySem.W.keepIn K (.ref f12) = true)
    (a13 : PySem.W.nsIn K mainGlobals "law" = some (some (.ref f13))) (l13 : K.lookup f13 = some ⟨oc13, od13, .func (PySem.W.fnOf "law" "law" (defArgs s_law) (defBody s_law) (defScope s_law) .none kV13 dc13 pm13 an13 cd13 ct13), sl13⟩) (c13 : PySem.W.codeIn K cd13 "law" = true) (k13 : PySem.W.keepIn K (.ref f13) = true)
    (m_NOUGHT : PySem.W.nsIn K mainGlobals "NOUGHT" = some (some (.str "nought" t_NOUGHT)))
    (m_SIGNS : PySem.W.nsIn K mainGlobals "SIGNS" = some (some (.ref p_SIGNS))) (o_SIGNS : K.lookup p_SIGNS = some ⟨oc_SIGNS, od_SIGNS, .seq #[.str "and" t_SIGNS0, .str "or" t_SIGNS1, .str "gives" t_SIGNS2] n_SIGNS, sl_SIGNS⟩) (q_SIGNS : oc_SIGNS = .type "tuple")
    (qq_is_true : cd4 = .ref cx_is_true) (lc_is_true : K.lookup cx_is_true = some ⟨.type "code", odc_is_true, .fields vsc_is_true, slc_is_true⟩) (qp_is_true : vsc_is_true[11]? = some (.ref px_is_true)) (hc_is_true : PySem.W.codeHdIn K cx_is_true px_is_true = true)
    (z_bool : PySem.W.nsIn K mainGlobals "bool" = some none)
    (z_dict : PySem.W.nsIn K mainGlobals "dict" = some none)
    (z_isinstance : PySem.W.nsIn K mainGlobals "isinstance" = some none)
    (z_len : PySem.W.nsIn K mainGlobals "len" = some none)
    (z_range : PySem.W.nsIn K mainGlobals "range" = some none)
    (z_reversed : PySem.W.nsIn K mainGlobals "reversed" = some none)
    (z_tuple : PySem.W.nsIn K mainGlobals "tuple" = some none) :
    ∃ fd : FuncData, (∀ (s : Shared) (v : Value), BindsTo s fd ⟨[v], []⟩ [("_law_script", v)]) ∧ ∀ base : Heap, K.In base → base.Ns mainGlobals mg → BMod base mg → FnOk l.prog w K mg base CX0 21 fa fd ["_law_script"] (spLaw K) := by
  have e := hfa.symm.trans (PySem.W.mg_of X G a13)
  cases e
  have F1 := fun_mk (st := s_words) l1 c1 k1
  have b1 := F1.binds (ps := ["statement"]) fun _ _ _ _ _ _ us hl => match us, hl with | [_], _ => rfl
  have D1 : Def K mg "words" s_words ["statement"] := ⟨_, _, F1, b1, PySem.W.mg_of X G a1⟩
  have F2 := fun_mk (st := s_folded) l2 c2 k2
  have b2 := F2.binds (ps := ["statement", "of_word", "of_sign"]) fun _ _ _ _ _ _ us hl => match us, hl with | [_, _, _], _ => rfl
  have D2 : Def K mg "folded" s_folded ["statement", "of_word", "of_sign"] := ⟨_, _, F2, b2, PySem.W.mg_of X G a2⟩
  have F3 := fun_mk (st := s_truth_by_sign) l3 c3 k3
  have b3 := F3.binds (ps := ["sign", "one", "other"]) fun _ _ _ _ _ _ us hl => match us, hl with | [_, _, _], _ => rfl
  have D3 : Def K mg "truth_by_sign" s_truth_by_sign ["sign", "one", "other"] := ⟨_, _, F3, b3, PySem.W.mg_of X G a3⟩
  have F4 := fun_mk (st := s_is_true) l4 c4 k4
  have b4 := F4.binds (ps := ["statement", "setting"]) fun _ _ _ _ _ _ us hl => match us, hl with | [_, _], _ => rfl
  have D4 : Def K mg "is_true" s_is_true ["statement", "setting"] := ⟨_, _, F4, b4, PySem.W.mg_of X G a4⟩
  have F5 := fun_mk (st := s_twice) l5 c5 k5
  have b5 := F5.binds (ps := ["statement"]) fun _ _ _ _ _ _ us hl => match us, hl with | [_], _ => rfl
  have D5 : Def K mg "twice" s_twice ["statement"] := ⟨_, _, F5, b5, PySem.W.mg_of X G a5⟩
  have F6 := fun_mk (st := s_law_cell) l6 c6 k6
  have b6 := F6.binds (ps := ["_law_script", "_law_k"]) fun _ _ _ _ _ _ us hl => match us, hl with | [_, _], _ => rfl
  have D6 : Def K mg "_law_cell" s_law_cell ["_law_script", "_law_k"] := ⟨_, _, F6, b6, PySem.W.mg_of X G a6⟩
  have F7 := fun_mk (st := s_law_bag) l7 c7 k7
  have b7 := F7.binds (ps := ["_law_script", "_law_at"]) fun _ _ _ _ _ _ us hl => match us, hl with | [_, _], _ => rfl
  have D7 : Def K mg "_law_bag" s_law_bag ["_law_script", "_law_at"] := ⟨_, _, F7, b7, PySem.W.mg_of X G a7⟩
  have F8 := fun_mk (st := s_law_take) l8 c8 k8
  have b8 := F8.binds (ps := ["_law_bag_here", "_law_many"]) fun _ _ _ _ _ _ us hl => match us, hl with | [_, _], _ => rfl
  have D8 : Def K mg "_law_take" s_law_take ["_law_bag_here", "_law_many"] := ⟨_, _, F8, b8, PySem.W.mg_of X G a8⟩
  have F9 := fun_mk (st := s_law_names) l9 c9 k9
  have b9 := F9.binds (ps := ["_law_bag_here", "_law_many"]) fun _ _ _ _ _ _ us hl => match us, hl with | [_, _], _ => rfl
  have D9 : Def K mg "_law_names" s_law_names ["_law_bag_here", "_law_many"] := ⟨_, _, F9, b9, PySem.W.mg_of X G a9⟩
  have F10 := fun_mk (st := s_law_statement) l10 c10 k10
  have b10 := F10.binds (ps := ["_law_bag_here", "_law_names_here", "_law_many"]) fun _ _ _ _ _ _ us hl => match us, hl with | [_, _, _], _ => rfl
  have D10 : Def K mg "_law_statement" s_law_statement ["_law_bag_here", "_law_names_here", "_law_many"] := ⟨_, _, F10, b10, PySem.W.mg_of X G a10⟩
  have F11 := fun_mk (st := s_law_true) l11 c11 k11
  have b11 := F11.binds (ps := ["_law_statement_here", "_law_true_ones"]) fun _ _ _ _ _ _ us hl => match us, hl with | [_, _], _ => rfl
  have D11 : Def K mg "_law_true" s_law_true ["_law_statement_here", "_law_true_ones"] := ⟨_, _, F11, b11, PySem.W.mg_of X G a11⟩
  have F12 := fun_mk (st := s_law_setting) l12 c12 k12
  have b12 := F12.binds (ps := ["_law_bag_here", "_law_names_here"]) fun _ _ _ _ _ _ us hl => match us, hl with | [_, _], _ => rfl
  have D12 : Def K mg "_law_setting" s_law_setting ["_law_bag_here", "_law_names_here"] := ⟨_, _, F12, b12, PySem.W.mg_of X G a12⟩
  have F13 := fun_mk (st := s_law) l13 c13 k13
  have b13 := F13.binds (ps := ["_law_script"]) fun _ _ _ _ _ _ us hl => match us, hl with | [_], _ => rfl
  have D13 : Def K mg "law" s_law ["_law_script"] := ⟨_, _, F13, b13, PySem.W.mg_of X G a13⟩
  have B : Blt mg := ⟨PySem.W.mg_none_of X G z_bool, PySem.W.mg_none_of X G z_dict, PySem.W.mg_none_of X G z_isinstance, PySem.W.mg_none_of X G z_len, PySem.W.mg_none_of X G z_range, PySem.W.mg_none_of X G z_reversed, PySem.W.mg_none_of X G z_tuple⟩
  have C : Cns w K mg (fun _ => 0) := ⟨trivial, cn_str (PySem.W.mg_of X G m_NOUGHT), cn_strs (PySem.W.mg_of X G m_SIGNS) o_SIGNS q_SIGNS (by show 3 ≤ sizeLine; decide) (.cons ⟨_, rfl⟩ (.cons ⟨_, rfl⟩ (.cons ⟨_, rfl⟩ .nil))), ⟨_, PySem.W.mg_of X G a4, ⟨_, _, cx_is_true, px_is_true, l4, rfl, qq_is_true, hc_is_true⟩⟩⟩
  refine ⟨PySem.W.fnOf "law" "law" (defArgs s_law) (defBody s_law) (defScope s_law) .none kV13 dc13 pm13 an13 cd13 ct13, fun s v => .of_eq rfl, fun base _ _ bm => ?_⟩
  have c_words := ok_words (P := l.prog) (w := w) (base := base) D1 B C
  have h_folded := fun (k : Nat) (e0 : Expr) (n0 : List Str) (G0 : List A → MF) (e1 : Expr) (n1 : List Str) (G1 : List A → MF) (g0 : FnC l.prog w K mg base k e0 n0 G0 1) (g1 : FnC l.prog w K mg base k e1 n1 G1 3) => ok_folded (P := l.prog) (w := w) (base := base) D2 B C c_words k e0 n0 G0 e1 n1 G1 g0 g1
  have c_truth_by_sign := ok_truth_by_sign (P := l.prog) (w := w) (base := base) D3 B C
  have c_is_true := ok_is_true (P := l.prog) (w := w) (base := base) D4 B C bm c_truth_by_sign h_folded
  have c_twice := ok_twice (P := l.prog) (w := w) (base := base) D5 B C
  have c_law_cell := ok_law_cell (P := l.prog) (w := w) (base := base) D6 B C
  have c_law_bag := ok_law_bag (P := l.prog) (w := w) (base := base) D7 B C c_law_cell
  have c_law_take := ok_law_take (P := l.prog) (w := w) (base := base) D8 B C
  have c_law_names := ok_law_names (P := l.prog) (w := w) (base := base) D9 B C c_law_take
  have c_law_statement := (ok_law_statement (P := l.prog) (w := w) (base := base) D10 B C c_law_take 12).mono (j := 13) (by decide)
  have c_law_true := (ok_law_true (P := l.prog) (w := w) (base := base) D11 B C 20).mono (j := 20) (by decide)
  have c_law_setting := ok_law_setting (P := l.prog) (w := w) (base := base) D12 B C c_law_take
  exact (raw_law F13 B C c_is_true c_twice c_law_bag c_law_take c_law_names c_law_statement c_law_true c_law_setting).imp (law_imp (hF (fun _ => 0) (hashM l.prog w) lamT))
end K47
set_option Elab.async false
set_option linter.all false
set_option maxRecDepth 100000
namespace Sh
open PySem L2 Ab
set_option autoImplicit false
def Kp (bs : List Nat) (h h' : AHp) : Prop := h.length ≤ h'.length ∧ ∀ i, i < h.length → i ∉ bs → h'[i]? = h[i]?
theorem Kp.refl {bs : List Nat} {h : AHp} : Kp bs h h := ⟨Nat.le_refl _, fun _ _ _ => rfl⟩
theorem Kp.trans {bs : List Nat} {h h1 h2 : AHp} (a : Kp bs h h1) (b : Kp bs h1 h2) : Kp bs h h2 := ⟨Nat.le_trans a.1 b.1, fun i hi hb => (b.2 i (Nat.lt_of_lt_of_le hi a.1) hb).trans (a.2 i hi hb)⟩
theorem Kp.more {bs cs : List Nat} {h h' : AHp} (a : Kp bs h h') (s : ∀ i ∈ bs, i ∈ cs) : Kp cs h h' := ⟨a.1, fun i hi hb => a.2 i hi fun m => hb (s i m)⟩
theorem Kp.nil {bs : List Nat} {h h' : AHp} (a : Kp [] h h') : Kp bs h h' := a.more fun i m => absurd m (by simp)
theorem Kp.app {bs : List Nat} (h g : AHp) : Kp bs h (h ++ g) := ⟨by simp, fun i hi _ => by rw [List.getElem?_append_left hi]⟩
theorem Kp.set {h : AHp} (b : Nat) (o : AO) : Kp [b] h (h.set b o) := ⟨by simp, fun i _ hb => by rw [List.getElem?_set_ne (fun e => hb (by simp [e]))]⟩
theorem Kp.get {bs : List Nat} {h h' : AHp} (a : Kp bs h h') {i : Nat} {o : AO} (e : h[i]? = some o) (hb : i ∉ bs) : h'[i]? = some o := (a.2 i (List.getElem?_eq_some_iff.mp e).1 hb).trans e
theorem Kp.drop {bs : List Nat} {w : Nat} {h h1 h2 : AHp} (a : Kp bs h h1) (b : Kp (w :: bs) h1 h2) (hw : h.length ≤ w) : Kp bs h h2 := ⟨Nat.le_trans a.1 b.1, fun i hi hb => (b.2 i (Nat.lt_of_lt_of_le hi a.1) (by
  intro m
  rcases List.mem_cons.mp m with e | m
  · omega
  · exact hb m)).trans (a.2 i hi hb)⟩
theorem lt_of_get {h : AHp} {i : Nat} {o : AO} (e : h[i]? = some o) : i < h.length := (List.getElem?_eq_some_iff.mp e).1
theorem app_get (h : AHp) (o : AO) : (h ++ [o])[h.length]? = some o := by simp
theorem set_get {h : AHp} {b : Nat} {o o' : AO} (hb : h[b]? = some o) : (h.set b o')[b]? = some o' := by
  rw [List.getElem?_set_self (lt_of_get hb)]
theorem for_range {n : Nat} {g : MG} {s : MS} {h : AHp} {τ : ASt} (I : Nat → ASt → AHp → Prop) (h0 : I 0 τ h)
    (hs : ∀ i τ h, i < n → I i τ h → ∃ τ1 h1 τ2 h2, g (.int i) τ h = some (τ1, h1) ∧ s τ1 h1 = some (.nx τ2, h2) ∧ I (i + 1) τ2 h2) :
    ∃ τ' h', forL (itR 0 n) g s n 0 τ h = some (.nx τ', h') ∧ I n τ' h' := by
  have key : ∀ m k τ h, k + m = n → I k τ h → ∃ τ' h', forL (itR 0 n) g s m k τ h = some (.nx τ', h') ∧ I n τ' h' := by
    intro m
    induction m with
    | zero =>
      intro k τ h e i
      have : k = n := by omega
      subst this
      exact ⟨τ, h, rfl, i⟩
    | succ m ih =>
      intro k τ h e i
      obtain ⟨τ1, h1, τ2, h2, e1, e2, i2⟩ := hs k τ h (by omega) i
      obtain ⟨τ', h', e3, i3⟩ := ih (k + 1) τ2 h2 (by omega) i2
      refine ⟨τ', h', ?_, i3⟩
      show ((itR 0 n).get k h).bind _ = _
      have hg : (itR 0 n).get k h = some (.int k) := by
        show (if k < n then some (A.int (0 + (k : Int))) else none) = _
        rw [if_pos (by omega), Int.zero_add]
      rw [hg, ev_bind, e1, ev_bind, e2, ev_bind]
      exact e3
  exact key n 0 τ h (Nat.zero_add n) h0
def Bag (h : AHp) (b n : Nat) : Prop := ∃ x k : Int, h[b]? = some (.lst [.int x, .int k]) ∧ 0 ≤ k ∧ k ≤ n
theorem Bag.mono {h : AHp} {b n m : Nat} (x : Bag h b n) (e : n ≤ m) : Bag h b m := let ⟨x, k, h1, h2, h3⟩ := x; ⟨x, k, h1, h2, by omega⟩
theorem Bag.kp {h h' : AHp} {b n : Nat} {bs : List Nat} (x : Bag h b n) (k : Kp bs h h') (hb : b ∉ bs) : Bag h' b n := let ⟨x, q, h1, h2, h3⟩ := x; ⟨x, q, k.get h1 hb, h2, h3⟩
theorem Bag.lt {h : AHp} {b n : Nat} (x : Bag h b n) : b < h.length := let ⟨_, _, h1, _⟩ := x; lt_of_get h1
theorem take_spec {h : AHp} {b n : Nat} {m : Int} (B : Bag h b n) (hn : n ≤ 1000000) (h0 : 0 < m) (h1 : m < 1073741824) :
    ∃ r h', F_law_take [.loc b, .int m] h = some (.int r, h') ∧ 0 ≤ r ∧ r < m ∧ Bag h' b (n + 1) ∧ Kp [b] h h' ∧ h'.length = h.length := by
  obtain ⟨x, k, hb, hk0, hk1⟩ := B
  have i0 : xIx (.loc b) (.int 0) h = some (.int x, h) := v_ixL hb rfl
  have i1 : xIx (.loc b) (.int 1) h = some (.int k, h) := v_ixL hb rfl
  by_cases hk : k = 0
  · subst hk
    have s0 : xSet (.loc b) (.int 0) (.int (x / m)) h = some (h.set b (.lst [.int (x / m), .int 0])) := v_set (j := 0) hb rfl
    refine ⟨x % m, h.set b (.lst [.int (x / m), .int 0]), ?_, Int.emod_nonneg _ (by omega), Int.emod_lt_of_pos _ h0, ⟨x / m, 0, set_get hb, by omega, by omega⟩, Kp.set _ _, by simp⟩
    simp only [ap_law_take, b_law_take, ev_bind, ev_op, ev_k1, ev_k2, ev_C, ev_var, ev_kVar, ev_un, ev_ku, ev_chain, ev_kc1, ev_kc2, ev_kc3t, ev_kc3f, ev_tru, ev_kTrb, ev_kTri, ev_B, ev_kB, ev_and, ev_or, ev_not, ev_kAt, ev_kAf, ev_kOt, ev_kOf, ev_kN, ev_eand, ev_eor, ev_enot, ev_kEAt, ev_kEAf, ev_kEOt, ev_kEOf, ev_kEN, ev_eif, ev_kEIt, ev_kEIf, ev_anil, ev_acons, ev_ka1, ev_ka2, ev_tup, ev_lst, ev_call, ev_kCa, ev_seq, ev_kSn, ev_kSr, ev_kSb, ev_kSc, ev_nx, ev_bk, ev_ct, ev_ret, ev_kRt, ev_retN, ev_if, ev_kIt, ev_kIf, ev_x, ev_kX, ev_asg, ev_kAs, ev_kAs2, ev_gN, ev_gT, ev_gT3, ev_gIx, ev_kG1, ev_kG2, ev_kG3, ev_kFr, ev_kFn, ev_for, ev_kFo, ev_mt, ev_kMt2, ev_ms, ev_kMs1, ev_sl, ev_kSl1, ev_kSl2, ev_kSl3, ev_noPart, ev_part, ev_kPt, ev_rng1, ev_istr, ev_kIS, ev_ilst, ev_kILr, ev_lc, ev_kLc, ev_kLc2, ev_yes, ev_irev, List.getElem?_cons_zero, List.getElem?_cons_succ, List.set_cons_zero, List.set_cons_succ, v_addI, v_sub, v_neg, v_lt, v_le, v_gt, v_ge, v_eqI, v_neI, v_eqS, v_neS, v_neB, v_eqB, v_lenT, v_lenR, v_max, v_min, i0, i1, s0, v_mod h0, v_div ⟨h0, h1⟩, beq_self_eq_true]
  · have hkb : (k == 0) = false := by simp [hk]
    let y : Int := (x * 48271 + 7919 * k * k + 17) % 2147483647
    let h1' := h.set b (.lst [.int y, .int k])
    have g1 : h1'[b]? = some (.lst [.int y, .int k]) := set_get hb
    have s0 : xSet (.loc b) (.int 0) (.int y) h = some h1' := v_set (j := 0) hb rfl
    have j1 : xIx (.loc b) (.int 1) h1' = some (.int k, h1') := v_ixL g1 rfl
    have s1 : xSet (.loc b) (.int 1) (.int (k + 1)) h1' = some (h1'.set b (.lst [.int y, .int (k + 1)])) := v_set (j := 1) g1 rfl
    have g2 : (h1'.set b (.lst [.int y, .int (k + 1)]))[b]? = some (.lst [.int y, .int (k + 1)]) := set_get g1
    have l0 : xIx (.loc b) (.int 0) (h1'.set b (.lst [.int y, .int (k + 1)])) = some (.int y, h1'.set b (.lst [.int y, .int (k + 1)])) := v_ixL g2 rfl
    refine ⟨y * 69621 % 2147483629 % m, _, ?_, Int.emod_nonneg _ (by omega), Int.emod_lt_of_pos _ h0, ⟨y, k + 1, g2, by omega, by omega⟩, (Kp.set _ _).trans (Kp.set _ _), by simp [h1']⟩
    have m1 : ∀ h, oMul (.int x) (.int 48271) h = some (.int (x * 48271), h) := fun h => v_mulR (by omega) (by omega)
    have m2 : ∀ h, oMul (.int 7919) (.int k) h = some (.int (7919 * k), h) := fun h => v_mulL (by omega) (by omega)
    have m3 : ∀ h, oMul (.int (7919 * k)) (.int k) h = some (.int (7919 * k * k), h) := fun h => v_mulR (by omega) (by omega)
    have m4 : ∀ h, oMul (.int y) (.int 69621) h = some (.int (y * 69621), h) := fun h => v_mulR (by omega) (by omega)
    have d1 : ∀ (z : Int) h, oMod (.int z) (.int 2147483647) h = some (.int (z % 2147483647), h) := fun z h => v_mod (by omega)
    have d2 : ∀ (z : Int) h, oMod (.int z) (.int 2147483629) h = some (.int (z % 2147483629), h) := fun z h => v_mod (by omega)
    have s0' : xSet (.loc b) (.int 0) (.int ((x * 48271 + 7919 * k * k + 17) % 2147483647)) h = some h1' := s0
    simp only [ap_law_take, b_law_take, ev_bind, ev_op, ev_k1, ev_k2, ev_C, ev_var, ev_kVar, ev_un, ev_ku, ev_chain, ev_kc1, ev_kc2, ev_kc3t, ev_kc3f, ev_tru, ev_kTrb, ev_kTri, ev_B, ev_kB, ev_and, ev_or, ev_not, ev_kAt, ev_kAf, ev_kOt, ev_kOf, ev_kN, ev_eand, ev_eor, ev_enot, ev_kEAt, ev_kEAf, ev_kEOt, ev_kEOf, ev_kEN, ev_eif, ev_kEIt, ev_kEIf, ev_anil, ev_acons, ev_ka1, ev_ka2, ev_tup, ev_lst, ev_call, ev_kCa, ev_seq, ev_kSn, ev_kSr, ev_kSb, ev_kSc, ev_nx, ev_bk, ev_ct, ev_ret, ev_kRt, ev_retN, ev_if, ev_kIt, ev_kIf, ev_x, ev_kX, ev_asg, ev_kAs, ev_kAs2, ev_gN, ev_gT, ev_gT3, ev_gIx, ev_kG1, ev_kG2, ev_kG3, ev_kFr, ev_kFn, ev_for, ev_kFo, ev_mt, ev_kMt2, ev_ms, ev_kMs1, ev_sl, ev_kSl1, ev_kSl2, ev_kSl3, ev_noPart, ev_part, ev_kPt, ev_rng1, ev_istr, ev_kIS, ev_ilst, ev_kILr, ev_lc, ev_kLc, ev_kLc2, ev_yes, ev_irev, List.getElem?_cons_zero, List.getElem?_cons_succ, List.set_cons_zero, List.set_cons_succ, v_addI, v_sub, v_neg, v_lt, v_le, v_gt, v_ge, v_eqI, v_neI, v_eqS, v_neS, v_neB, v_eqB, v_lenT, v_lenR, v_max, v_min, i0, i1, hkb, m1, m2, m3, d1, s0', j1, s1, l0, m4, d2, v_mod h0]
theorem atI_int {ns : List Int} {k : Nat} (h : k < ns.length) : ∃ v, atI (ns.map A.int) (k : Int) = some (.int v) := by
  refine ⟨ns[k], atI_nat ?_⟩
  rw [List.getElem?_map, List.getElem?_eq_getElem h]; rfl
theorem cell_spec {ns : List Int} (h63 : ns.length ≤ 63) {k : Nat} (hk : k ≤ 1000) (h : AHp) : ∃ v, F_law_cell [.ro (ns.map A.int), .int k] h = some (.int v, h) := by
  have hl : (ns.map A.int).length = ns.length := List.length_map _
  by_cases c : k < ns.length
  · obtain ⟨v, e⟩ := atI_int c
    refine ⟨v, ?_⟩
    have c' : decide ((k : Int) < ((ns.map A.int).length : Int)) = true := decide_eq_true (by rw [hl]; omega)
    simp only [ap_law_cell, b_law_cell, ev_bind, ev_op, ev_k1, ev_k2, ev_C, ev_var, ev_kVar, ev_un, ev_ku, ev_chain, ev_kc1, ev_kc2, ev_kc3t, ev_kc3f, ev_tru, ev_kTrb, ev_kTri, ev_B, ev_kB, ev_and, ev_or, ev_not, ev_kAt, ev_kAf, ev_kOt, ev_kOf, ev_kN, ev_eand, ev_eor, ev_enot, ev_kEAt, ev_kEAf, ev_kEOt, ev_kEOf, ev_kEN, ev_eif, ev_kEIt, ev_kEIf, ev_anil, ev_acons, ev_ka1, ev_ka2, ev_tup, ev_lst, ev_call, ev_kCa, ev_seq, ev_kSn, ev_kSr, ev_kSb, ev_kSc, ev_nx, ev_bk, ev_ct, ev_ret, ev_kRt, ev_retN, ev_if, ev_kIt, ev_kIf, ev_x, ev_kX, ev_asg, ev_kAs, ev_kAs2, ev_gN, ev_gT, ev_gT3, ev_gIx, ev_kG1, ev_kG2, ev_kG3, ev_kFr, ev_kFn, ev_for, ev_kFo, ev_mt, ev_kMt2, ev_ms, ev_kMs1, ev_sl, ev_kSl1, ev_kSl2, ev_kSl3, ev_noPart, ev_part, ev_kPt, ev_rng1, ev_istr, ev_kIS, ev_ilst, ev_kILr, ev_lc, ev_kLc, ev_kLc2, ev_yes, ev_irev, List.getElem?_cons_zero, List.getElem?_cons_succ, List.set_cons_zero, List.set_cons_succ, v_addI, v_sub, v_neg, v_lt, v_le, v_gt, v_ge, v_eqI, v_neI, v_eqS, v_neS, v_neB, v_eqB, v_lenT, v_lenR, v_max, v_min, c', v_ixR e]
  · have c' : decide ((k : Int) < ((ns.map A.int).length : Int)) = false := decide_eq_false (by rw [hl]; omega)
    have m1 : ∀ h, oMul (.int (k : Int)) (.int 7919) h = some (.int (k * 7919), h) := fun h => v_mulR (by omega) (by omega)
    have m2 : ∀ (z : Int) h, oMul (.int z) (.int 48271) h = some (.int (z * 48271), h) := fun z h => v_mulR (by omega) (by omega)
    have m3 : ∀ h, oMul (.int 2) (.int (k : Int)) h = some (.int (2 * k), h) := fun h => v_mulL (by omega) (by omega)
    have m4 : ∀ (z w : Int) h, oMul (.int (z % 65537)) (.int w) h = some (.int (z % 65537 * w), h) := fun z w h => v_mulL (by omega) (by omega)
    have d1 : ∀ (z : Int) h, oMod (.int z) (.int 65537) h = some (.int (z % 65537), h) := fun z h => v_mod (by omega)
    have d2 : ∀ (z : Int) h, oMod (.int z) (.int 65521) h = some (.int (z % 65521), h) := fun z h => v_mod (by omega)
    have d3 : ∀ (z : Int) h, oDiv (.int z) (.int 7) h = some (.int (z / 7), h) := fun z h => v_div (by omega)
    by_cases c2 : 0 < ns.length
    · have c2' : decide ((0 : Int) < ((ns.map A.int).length : Int)) = true := decide_eq_true (by rw [hl]; omega)
      have em : (k : Int) % ((ns.map A.int).length : Int) = ((k % ns.length : Nat) : Int) := by rw [hl]; omega
      obtain ⟨v, e⟩ := atI_int (Nat.mod_lt k c2)
      have m5 : ∀ h, oMod (.int (k : Int)) (.int ((ns.map A.int).length : Int)) h = some (.int ((k % ns.length : Nat) : Int), h) := fun h => by rw [v_mod (by rw [hl]; omega), em]
      simp only [ap_law_cell, b_law_cell, ev_bind, ev_op, ev_k1, ev_k2, ev_C, ev_var, ev_kVar, ev_un, ev_ku, ev_chain, ev_kc1, ev_kc2, ev_kc3t, ev_kc3f, ev_tru, ev_kTrb, ev_kTri, ev_B, ev_kB, ev_and, ev_or, ev_not, ev_kAt, ev_kAf, ev_kOt, ev_kOf, ev_kN, ev_eand, ev_eor, ev_enot, ev_kEAt, ev_kEAf, ev_kEOt, ev_kEOf, ev_kEN, ev_eif, ev_kEIt, ev_kEIf, ev_anil, ev_acons, ev_ka1, ev_ka2, ev_tup, ev_lst, ev_call, ev_kCa, ev_seq, ev_kSn, ev_kSr, ev_kSb, ev_kSc, ev_nx, ev_bk, ev_ct, ev_ret, ev_kRt, ev_retN, ev_if, ev_kIt, ev_kIf, ev_x, ev_kX, ev_asg, ev_kAs, ev_kAs2, ev_gN, ev_gT, ev_gT3, ev_gIx, ev_kG1, ev_kG2, ev_kG3, ev_kFr, ev_kFn, ev_for, ev_kFo, ev_mt, ev_kMt2, ev_ms, ev_kMs1, ev_sl, ev_kSl1, ev_kSl2, ev_kSl3, ev_noPart, ev_part, ev_kPt, ev_rng1, ev_istr, ev_kIS, ev_ilst, ev_kILr, ev_lc, ev_kLc, ev_kLc2, ev_yes, ev_irev, List.getElem?_cons_zero, List.getElem?_cons_succ, List.set_cons_zero, List.set_cons_succ, v_addI, v_sub, v_neg, v_lt, v_le, v_gt, v_ge, v_eqI, v_neI, v_eqS, v_neS, v_neB, v_eqB, v_lenT, v_lenR, v_max, v_min, c', c2', m1, m2, m3, m4, m5, d1, d2, d3, v_ixR e]
      exact ⟨_, rfl⟩
    · have c2' : decide ((0 : Int) < ((ns.map A.int).length : Int)) = false := decide_eq_false (by rw [hl]; omega)
      simp only [ap_law_cell, b_law_cell, ev_bind, ev_op, ev_k1, ev_k2, ev_C, ev_var, ev_kVar, ev_un, ev_ku, ev_chain, ev_kc1, ev_kc2, ev_kc3t, ev_kc3f, ev_tru, ev_kTrb, ev_kTri, ev_B, ev_kB, ev_and, ev_or, ev_not, ev_kAt, ev_kAf, ev_kOt, ev_kOf, ev_kN, ev_eand, ev_eor, ev_enot, ev_kEAt, ev_kEAf, ev_kEOt, ev_kEOf, ev_kEN, ev_eif, ev_kEIt, ev_kEIf, ev_anil, ev_acons, ev_ka1, ev_ka2, ev_tup, ev_lst, ev_call, ev_kCa, ev_seq, ev_kSn, ev_kSr, ev_kSb, ev_kSc, ev_nx, ev_bk, ev_ct, ev_ret, ev_kRt, ev_retN, ev_if, ev_kIt, ev_kIf, ev_x, ev_kX, ev_asg, ev_kAs, ev_kAs2, ev_gN, ev_gT, ev_gT3, ev_gIx, ev_kG1, ev_kG2, ev_kG3, ev_kFr, ev_kFn, ev_for, ev_kFo, ev_mt, ev_kMt2, ev_ms, ev_kMs1, ev_sl, ev_kSl1, ev_kSl2, ev_kSl3, ev_noPart, ev_part, ev_kPt, ev_rng1, ev_istr, ev_kIS, ev_ilst, ev_kILr, ev_lc, ev_kLc, ev_kLc2, ev_yes, ev_irev, List.getElem?_cons_zero, List.getElem?_cons_succ, List.set_cons_zero, List.set_cons_succ, v_addI, v_sub, v_neg, v_lt, v_le, v_gt, v_ge, v_eqI, v_neI, v_eqS, v_neS, v_neB, v_eqB, v_lenT, v_lenR, v_max, v_min, c', c2', m1, m2, m3, m4, d1, d2, d3]
      exact ⟨_, rfl⟩
theorem bag_spec {ns : List Int} (h63 : ns.length ≤ 63) {k : Nat} (hk : k ≤ 1000) (h : AHp) : ∃ h', F_law_bag [.ro (ns.map A.int), .int k] h = some (.loc h.length, h') ∧ Bag h' h.length (k + 1) ∧ Kp [] h h' ∧ h'.length = h.length + 1 := by
  obtain ⟨v, e⟩ := cell_spec h63 hk h
  have p1 : ∀ h, oPow (.int 10) (.int 18) h = some (.int (10 ^ 18), h) := fun h => v_pow (by omega)
  have d1 : ∀ (z : Int) h, oMod (.int z) (.int 2147483647) h = some (.int (z % 2147483647), h) := fun z h => v_mod (by omega)
  have kl : ∀ (a b : A) (h : AHp), kLs ([a, b], h) = some (.loc h.length, h ++ [.lst [a, b]]) := fun a b h => ev_kLs (by simp)
  by_cases c : (10 ^ 18 : Int) ≤ v
  · have c' : decide ((10 ^ 18 : Int) ≤ v) = true := decide_eq_true c
    refine ⟨h ++ [.lst [.int v, .int 0]], ?_, ⟨v, 0, app_get _ _, by omega, by omega⟩, Kp.app _ _, by simp⟩
    simp only [ap_law_bag, b_law_bag, ev_bind, ev_op, ev_k1, ev_k2, ev_C, ev_var, ev_kVar, ev_un, ev_ku, ev_chain, ev_kc1, ev_kc2, ev_kc3t, ev_kc3f, ev_tru, ev_kTrb, ev_kTri, ev_B, ev_kB, ev_and, ev_or, ev_not, ev_kAt, ev_kAf, ev_kOt, ev_kOf, ev_kN, ev_eand, ev_eor, ev_enot, ev_kEAt, ev_kEAf, ev_kEOt, ev_kEOf, ev_kEN, ev_eif, ev_kEIt, ev_kEIf, ev_anil, ev_acons, ev_ka1, ev_ka2, ev_tup, ev_lst, ev_call, ev_kCa, ev_seq, ev_kSn, ev_kSr, ev_kSb, ev_kSc, ev_nx, ev_bk, ev_ct, ev_ret, ev_kRt, ev_retN, ev_if, ev_kIt, ev_kIf, ev_x, ev_kX, ev_asg, ev_kAs, ev_kAs2, ev_gN, ev_gT, ev_gT3, ev_gIx, ev_kG1, ev_kG2, ev_kG3, ev_kFr, ev_kFn, ev_for, ev_kFo, ev_mt, ev_kMt2, ev_ms, ev_kMs1, ev_sl, ev_kSl1, ev_kSl2, ev_kSl3, ev_noPart, ev_part, ev_kPt, ev_rng1, ev_istr, ev_kIS, ev_ilst, ev_kILr, ev_lc, ev_kLc, ev_kLc2, ev_yes, ev_irev, List.getElem?_cons_zero, List.getElem?_cons_succ, List.set_cons_zero, List.set_cons_succ, v_addI, v_sub, v_neg, v_lt, v_le, v_gt, v_ge, v_eqI, v_neI, v_eqS, v_neS, v_neB, v_eqB, v_lenT, v_lenR, v_max, v_min, e, p1, c', kl]
  · have c' : decide ((10 ^ 18 : Int) ≤ v) = false := decide_eq_false c
    by_cases c2 : v ≤ -(10 ^ 18 : Int)
    · have c2' : decide (v ≤ -(10 ^ 18 : Int)) = true := decide_eq_true c2
      refine ⟨h ++ [.lst [.int v, .int 0]], ?_, ⟨v, 0, app_get _ _, by omega, by omega⟩, Kp.app _ _, by simp⟩
      simp only [ap_law_bag, b_law_bag, ev_bind, ev_op, ev_k1, ev_k2, ev_C, ev_var, ev_kVar, ev_un, ev_ku, ev_chain, ev_kc1, ev_kc2, ev_kc3t, ev_kc3f, ev_tru, ev_kTrb, ev_kTri, ev_B, ev_kB, ev_and, ev_or, ev_not, ev_kAt, ev_kAf, ev_kOt, ev_kOf, ev_kN, ev_eand, ev_eor, ev_enot, ev_kEAt, ev_kEAf, ev_kEOt, ev_kEOf, ev_kEN, ev_eif, ev_kEIt, ev_kEIf, ev_anil, ev_acons, ev_ka1, ev_ka2, ev_tup, ev_lst, ev_call, ev_kCa, ev_seq, ev_kSn, ev_kSr, ev_kSb, ev_kSc, ev_nx, ev_bk, ev_ct, ev_ret, ev_kRt, ev_retN, ev_if, ev_kIt, ev_kIf, ev_x, ev_kX, ev_asg, ev_kAs, ev_kAs2, ev_gN, ev_gT, ev_gT3, ev_gIx, ev_kG1, ev_kG2, ev_kG3, ev_kFr, ev_kFn, ev_for, ev_kFo, ev_mt, ev_kMt2, ev_ms, ev_kMs1, ev_sl, ev_kSl1, ev_kSl2, ev_kSl3, ev_noPart, ev_part, ev_kPt, ev_rng1, ev_istr, ev_kIS, ev_ilst, ev_kILr, ev_lc, ev_kLc, ev_kLc2, ev_yes, ev_irev, List.getElem?_cons_zero, List.getElem?_cons_succ, List.set_cons_zero, List.set_cons_succ, v_addI, v_sub, v_neg, v_lt, v_le, v_gt, v_ge, v_eqI, v_neI, v_eqS, v_neS, v_neB, v_eqB, v_lenT, v_lenR, v_max, v_min, e, p1, c', c2', kl]
    · have c2' : decide (v ≤ -(10 ^ 18 : Int)) = false := decide_eq_false c2
      refine ⟨h ++ [.lst [.int (v % 2147483647), .int (k + 1)]], ?_, ⟨_, k + 1, app_get _ _, by omega, by omega⟩, Kp.app _ _, by simp⟩
      simp only [ap_law_bag, b_law_bag, ev_bind, ev_op, ev_k1, ev_k2, ev_C, ev_var, ev_kVar, ev_un, ev_ku, ev_chain, ev_kc1, ev_kc2, ev_kc3t, ev_kc3f, ev_tru, ev_kTrb, ev_kTri, ev_B, ev_kB, ev_and, ev_or, ev_not, ev_kAt, ev_kAf, ev_kOt, ev_kOf, ev_kN, ev_eand, ev_eor, ev_enot, ev_kEAt, ev_kEAf, ev_kEOt, ev_kEOf, ev_kEN, ev_eif, ev_kEIt, ev_kEIf, ev_anil, ev_acons, ev_ka1, ev_ka2, ev_tup, ev_lst, ev_call, ev_kCa, ev_seq, ev_kSn, ev_kSr, ev_kSb, ev_kSc, ev_nx, ev_bk, ev_ct, ev_ret, ev_kRt, ev_retN, ev_if, ev_kIt, ev_kIf, ev_x, ev_kX, ev_asg, ev_kAs, ev_kAs2, ev_gN, ev_gT, ev_gT3, ev_gIx, ev_kG1, ev_kG2, ev_kG3, ev_kFr, ev_kFn, ev_for, ev_kFo, ev_mt, ev_kMt2, ev_ms, ev_kMs1, ev_sl, ev_kSl1, ev_kSl2, ev_kSl3, ev_noPart, ev_part, ev_kPt, ev_rng1, ev_istr, ev_kIS, ev_ilst, ev_kILr, ev_lc, ev_kLc, ev_kLc2, ev_yes, ev_irev, List.getElem?_cons_zero, List.getElem?_cons_succ, List.set_cons_zero, List.set_cons_succ, v_addI, v_sub, v_neg, v_lt, v_le, v_gt, v_ge, v_eqI, v_neI, v_eqS, v_neS, v_neB, v_eqB, v_lenT, v_lenR, v_max, v_min, e, p1, c', c2', kl, d1]
end Sh
set_option Elab.async false
set_option linter.all false
set_option maxRecDepth 100000
namespace Sh
open PySem L2 Ab
set_option autoImplicit false
def cs (x : Str) : List Nat := x.cps.toList
theorem cs_app (x y : Str) : cs (x ++ y) = cs x ++ cs y := by
  show (x.cps ++ y.cps).toList = _
  rw [Array.toList_append]; rfl
theorem cs_len (x : Str) : x.length = (cs x).length := by show x.cps.size = x.cps.toList.length; simp
theorem len_app (x y : Str) : (x ++ y).length = x.length + y.length := by rw [cs_len, cs_len, cs_len, cs_app, List.length_append]
def Low (x : Str) : Prop := ∀ c ∈ cs x, 97 ≤ c ∧ c ≤ 122
theorem Low.app {x y : Str} (a : Low x) (b : Low y) : Low (x ++ y) := fun c m => by
  rw [cs_app] at m
  rcases List.mem_append.mp m with m | m
  · exact a c m
  · exact b c m
def alpha : Str := "abcdefghijklmnopqrstuvwxyz"
theorem alpha_at {r : Int} (h0 : 0 ≤ r) (h1 : r < 26) : atI (alpha).cps.toList r = some (97 + r.toNat) := by
  have key : ∀ n : Nat, n < 26 → atI (alpha).cps.toList (n : Int) = some (97 + n) := by decide +kernel
  have := key r.toNat (by omega)
  rwa [show ((r.toNat : Nat) : Int) = r by omega] at this
def one (c : Nat) : Str := ⟨#[c]⟩
theorem cs_one (c : Nat) : cs (one c) = [c] := rfl
theorem cut_to {x : Str} {n : Nat} (h1 : n ≤ x.length) : cs (cutS x none (some (n : Int))) = (cs x).take n := by
  show ((((x.cps.toList.drop (HT.sIx x.length 0 none)).take (HT.sIx x.length x.length (some (n : Int)) - HT.sIx x.length 0 none)).toArray).toList) = _
  rw [HT.sIx_nat, HT.sIx_none, List.drop_zero, Nat.sub_zero, Nat.min_eq_left h1]
  rfl
theorem cut_from {x : Str} {n : Nat} (h1 : n ≤ x.length) : cs (cutS x (some (n : Int)) none) = (cs x).drop n := by
  show ((((x.cps.toList.drop (HT.sIx x.length 0 (some (n : Int)))).take (HT.sIx x.length x.length none - HT.sIx x.length 0 (some (n : Int)))).toArray).toList) = _
  rw [HT.sIx_nat, HT.sIx_none, Nat.min_eq_left h1]
  have hl : x.length = x.cps.toList.length := cs_len x
  rw [List.take_of_length_le (by rw [List.length_drop]; omega)]
  rfl
theorem filter_len {α : Type} (p : α → Bool) : ∀ l : List α, (l.filter p).length + (l.filter fun x => !p x).length = l.length
  | [] => rfl
  | a :: r => by
    have ih := filter_len p r
    cases h : p a with
    | true => simp [h]; omega
    | false => simp [h]; omega
def res (x : Str) : Bool := ("nought" == x) || (("and" == x) || (("or" == x) || (("gives" == x) || false)))
structure IsLet (x : Str) : Prop where
  low : Low x
  lo : 1 ≤ x.length
  hi : x.length ≤ 8
  nr : res x = false
theorem res_same {x y : Str} (hx : res x = true) (hy : res y = true) (hl : x.length = y.length) : x = y := by
  simp only [res, Bool.or_eq_true, beq_iff_eq, Bool.or_false] at hx hy
  have l1 : ("nought" : Str).length = 6 := by decide +kernel
  have l2 : ("and" : Str).length = 3 := by decide +kernel
  have l3 : ("or" : Str).length = 2 := by decide +kernel
  have l4 : ("gives" : Str).length = 5 := by decide +kernel
  rcases hx with rfl | rfl | rfl | rfl <;> rcases hy with rfl | rfl | rfl | rfl <;> first | rfl | (exfalso; omega)
def cand (w : Str) (a : Nat) (f : Int) (k : Nat) : Str := (cutS w none (some (a : Int))) ++ one (97 + ((f + 5 * (k : Int)) % 26).toNat) ++ (cutS w (some (a : Int)) none)
theorem cand_cs {w : Str} {a : Nat} {f : Int} {k : Nat} (h : a ≤ w.length) : cs (cand w a f k) = (cs w).take a ++ (97 + ((f + 5 * (k : Int)) % 26).toNat) :: (cs w).drop a := by
  unfold cand
  rw [cs_app, cs_app, cut_to h, cut_from h, cs_one, List.append_assoc]
  rfl
theorem cand_len {w : Str} {a : Nat} {f : Int} {k : Nat} (h : a ≤ w.length) : (cand w a f k).length = w.length + 1 := by
  rw [cs_len, cand_cs h, cs_len] at *
  rw [List.length_append, List.length_take, List.length_cons, List.length_drop]
  omega
theorem cand_low {w : Str} {a : Nat} {f : Int} {k : Nat} (h : a ≤ w.length) (hw : Low w) : Low (cand w a f k) := fun c m => by
  rw [cand_cs h] at m
  rcases List.mem_append.mp m with m | m
  · exact hw c (List.mem_of_mem_take m)
  · rcases List.mem_cons.mp m with rfl | m
    · omega
    · exact hw c (List.mem_of_mem_drop m)
theorem cand_inj {w : Str} {a : Nat} {f : Int} {k l : Nat} (h : a ≤ w.length) (hk : k < 26) (hl : l < 26) (e : cand w a f k = cand w a f l) : k = l := by
  have e' := congrArg cs e
  rw [cand_cs h, cand_cs h] at e'
  have e2 := List.append_cancel_left e'
  injection e2 with e3 _
  omega
def cands (w : Str) (a : Nat) (f : Int) (i : Nat) : List Str := (List.range i).map (cand w a f)
def fnd (w : Str) (a : Nat) (f : Int) (m : Nat) (i : Nat) : List Str := ((cands w a f i).filter fun x => !res x).take m
theorem fnd_succ {w : Str} {a : Nat} {f : Int} {m i : Nat} : fnd w a f m (i + 1) = if res (cand w a f i) = false ∧ (fnd w a f m i).length < m then fnd w a f m i ++ [cand w a f i] else fnd w a f m i := by
  unfold fnd cands
  rw [List.range_succ, List.map_append, List.filter_append]
  cases hr : res (cand w a f i) with
  | true =>
    rw [if_neg (by simp)]
    simp [hr]
  | false =>
    have e1 : List.filter (fun x => !res x) (List.map (cand w a f) [i]) = [cand w a f i] := by simp [hr]
    rw [e1, List.length_take]
    by_cases hl : (List.filter (fun x => !res x) (List.map (cand w a f) (List.range i))).length < m
    · rw [if_pos ⟨rfl, by omega⟩, List.take_of_length_le (by rw [List.length_append, List.length_singleton]; omega), List.take_of_length_le (by omega)]
    · rw [if_neg (by omega), List.take_append_of_le_length (by omega)]
theorem cands_nd {w : Str} {a : Nat} {f : Int} (h : a ≤ w.length) : (cands w a f 26).Nodup := by
  unfold cands List.Nodup
  rw [List.pairwise_map]
  refine List.Pairwise.imp_of_mem ?_ (List.nodup_range (n := 26))
  intro x y hx hy hne e
  exact hne (cand_inj h (List.mem_range.mp hx) (List.mem_range.mp hy) e)
theorem len_le_one {α : Type} {l : List α} (hn : l.Nodup) (h : ∀ x ∈ l, ∀ y ∈ l, x = y) : l.length ≤ 1 := by
  match l, hn, h with
  | [], _, _ => exact Nat.zero_le _
  | [x], _, _ => exact Nat.le_refl _
  | x :: y :: r, hn, h =>
    have := h x (by simp) y (by simp)
    subst this
    exact absurd hn (by simp)
theorem fnd_len {w : Str} {a : Nat} {f : Int} {m : Nat} (h : a ≤ w.length) (hm : m ≤ 25) : (fnd w a f m 26).length = m := by
  have h1 : ((cands w a f 26).filter res).length ≤ 1 := by
    refine len_le_one ((cands_nd h).sublist List.filter_sublist) ?_
    intro x hx y hy
    obtain ⟨hx1, hx2⟩ := List.mem_filter.mp hx
    obtain ⟨hy1, hy2⟩ := List.mem_filter.mp hy
    obtain ⟨i, _, rfl⟩ := List.mem_map.mp hx1
    obtain ⟨j, _, rfl⟩ := List.mem_map.mp hy1
    exact res_same hx2 hy2 (by rw [cand_len h, cand_len h])
  have h2 := filter_len res (cands w a f 26)
  have h3 : (cands w a f 26).length = 26 := by unfold cands; simp
  unfold fnd
  rw [List.length_take]
  omega
theorem fnd_mem {w : Str} {a : Nat} {f : Int} {m i : Nat} (h : a ≤ w.length) (hw : Low w) (hl : w.length ≤ 7) {x : Str} (hx : x ∈ fnd w a f m i) : IsLet x := by
  obtain ⟨h1, h2⟩ := List.mem_filter.mp (List.mem_of_mem_take hx)
  obtain ⟨k, _, rfl⟩ := List.mem_map.mp h1
  exact ⟨cand_low h hw, by rw [cand_len h]; omega, by rw [cand_len h]; omega, by simpa using h2⟩
theorem fnd_nd {w : Str} {a : Nat} {f : Int} {m : Nat} (h : a ≤ w.length) : (fnd w a f m 26).Nodup := (cands_nd h).sublist ((List.take_sublist _ _).trans List.filter_sublist)
theorem itR_n {lo : Int} {n : Nat} : (itR lo n).n = n := id rfl
theorem anyA_strs {h : AHp} {x : Str} {ys : List Str} : anyA h (.str x) (ys.map A.str) = some (ys.any fun y => y == x) := by
  induction ys with
  | nil => rfl
  | cons y r ih =>
    show (eqA h (.str y) (.str x)).bind _ = _
    have : eqA h (.str y) (.str x) = some (y == x) := rfl
    rw [this, ev_bind, ih]; rfl
theorem v_niStrs {h : AHp} {n : Nat} {x : Str} {ys : List Str} (e : h[n]? = some (.lst (ys.map A.str))) : cNi (.str x) (.loc n) h = some (.bl (!(ys.any fun y => y == x)), h) := by
  show (seqA (.loc n) h).bind _ = _
  have : seqA (.loc n) h = some (false, ys.map A.str) := by unfold seqA; simp only [e]
  rw [this, ev_bind]
  show (anyA h (.str x) (ys.map A.str)).bind _ = _
  rw [anyA_strs]; rfl
def rl : List A := [.str "nought", .str "and", .str "or", .str "gives"]
theorem word_turn {h : AHp} {b n : Nat} {M L k : A} {w : Str} {r : List (Option A)} (B : Bag h b n) (hn : n ≤ 1000000) (hw : Low w) (hl : w.length ≤ 10) :
    ∃ w' h', l1_law_names (some (.loc b) :: some M :: some (.str alpha) :: some (.str w) :: some L :: some k :: r) h = some (.nx (some (.loc b) :: some M :: some (.str alpha) :: some (.str w') :: some L :: some k :: r), h') ∧ Low w' ∧ w'.length = w.length + 1 ∧ Bag h' b (n + 1) ∧ Kp [b] h h' := by
  obtain ⟨q, h', e, q0, q1, B', K', _⟩ := take_spec B hn (m := 26) (by omega) (by omega)
  have ea := alpha_at q0 q1
  have el : alpha.length ≤ 100000 := by decide +kernel
  refine ⟨w ++ one (97 + q.toNat), h', ?_, hw.app fun c m => ?_, by rw [len_app]; rfl, B', K'⟩
  · have ei : xIx (.str alpha) (.int q) h' = some (.str (one (97 + q.toNat)), h') := v_ixS el ea
    have hadd : oAdd (.str w) (.str (one (97 + q.toNat))) h' = some (.str (w ++ one (97 + q.toNat)), h') := v_addS (by show w.length + 1 ≤ _; omega)
    simp only [l1_law_names, ev_bind, ev_op, ev_k1, ev_k2, ev_C, ev_var, ev_kVar, ev_un, ev_ku, ev_chain, ev_kc1, ev_kc2, ev_kc3t, ev_kc3f, ev_tru, ev_kTrb, ev_kTri, ev_B, ev_kB, ev_and, ev_or, ev_not, ev_kAt, ev_kAf, ev_kOt, ev_kOf, ev_kN, ev_eand, ev_eor, ev_enot, ev_kEAt, ev_kEAf, ev_kEOt, ev_kEOf, ev_kEN, ev_eif, ev_kEIt, ev_kEIf, ev_anil, ev_acons, ev_ka1, ev_ka2, ev_tup, ev_lst, ev_call, ev_kCa, ev_seq, ev_kSn, ev_kSr, ev_kSb, ev_kSc, ev_nx, ev_bk, ev_ct, ev_ret, ev_kRt, ev_retN, ev_if, ev_kIt, ev_kIf, ev_x, ev_kX, ev_asg, ev_kAs, ev_kAs2, ev_gN, ev_gT, ev_gT3, ev_gIx, ev_kG1, ev_kG2, ev_kG3, ev_kFr, ev_kFn, ev_for, ev_kFo, ev_mt, ev_kMt2, ev_ms, ev_kMs1, ev_sl, ev_kSl1, ev_kSl2, ev_kSl3, ev_noPart, ev_part, ev_kPt, ev_rng1, ev_istr, ev_kIS, ev_ilst, ev_kILr, ev_lc, ev_kLc, ev_kLc2, ev_yes, List.getElem?_cons_zero, List.getElem?_cons_succ, List.set_cons_zero, List.set_cons_succ, v_addI, v_sub, v_neg, v_lt, v_le, v_gt, v_ge, v_eqI, v_neI, v_eqS, v_neS, v_neB, v_eqB, v_lenT, v_lenR, v_max, v_min, e, ei, hadd]
  · rw [cs_one] at m
    have : c = 97 + q.toNat := by simpa using m
    omega
theorem names_turn {h : AHp} {b f i m : Nat} {L : A} {w : Str} {a : Nat} {fi : Int} {nm : Option A} {xs : List Str} (ha : a ≤ w.length) (hl : w.length ≤ 10) (hi : i < 26) (hf : h[f]? = some (.lst (xs.map A.str))) (hx : xs.length ≤ 10) :
    ∃ h', l2_law_names [some (.loc b), some (.int m), some (.str alpha), some (.str w), some L, some (.int i), some (.int a), some (.int fi), some (.loc f), nm] h =
      some (.nx [some (.loc b), some (.int m), some (.str alpha), some (.str w), some L, some (.int i), some (.int a), some (.int fi), some (.loc f), some (.str (cand w a fi i))], h') ∧
      h'[f]? = some (.lst ((if res (cand w a fi i) = false ∧ xs.length < m then xs ++ [cand w a fi i] else xs).map A.str)) ∧ Kp [f] h h' := by
  have hr0 : 0 ≤ (fi + 5 * (i : Int)) % 26 := Int.emod_nonneg _ (by omega)
  have hr1 : (fi + 5 * (i : Int)) % 26 < 26 := Int.emod_lt_of_pos _ (by omega)
  have ea := alpha_at hr0 hr1
  have el : alpha.length ≤ 100000 := by decide +kernel
  have m5 : ∀ h, oMul (.int 5) (.int (i : Int)) h = some (.int (5 * i), h) := fun h => v_mulL (by omega) (by omega)
  have d1 : ∀ (z : Int) h, oMod (.int z) (.int 26) h = some (.int (z % 26), h) := fun z h => v_mod (by omega)
  have ei : ∀ h, xIx (.str alpha) (.int ((fi + 5 * (i : Int)) % 26)) h = some (.str (one (97 + ((fi + 5 * (i : Int)) % 26).toNat)), h) := fun h => v_ixS el ea
  have c1 : ∀ h, xSl (.str w) none (some (a : Int)) h = some (.str (cutS w none (some (a : Int))), h) := fun h => v_slS (by omega)
  have c2 : ∀ h, xSl (.str w) (some (a : Int)) none h = some (.str (cutS w (some (a : Int)) none), h) := fun h => v_slS (by omega)
  have l1 : (cutS w none (some (a : Int))).length ≤ 10 := by rw [cs_len, cut_to ha, List.length_take, ← cs_len]; omega
  have l2 : (cutS w (some (a : Int)) none).length ≤ 10 := by rw [cs_len, cut_from ha, List.length_drop, ← cs_len]; omega
  have a1 : ∀ h, oAdd (.str (cutS w none (some (a : Int)))) (.str (one (97 + ((fi + 5 * (i : Int)) % 26).toNat))) h = some (.str (cutS w none (some (a : Int)) ++ one (97 + ((fi + 5 * (i : Int)) % 26).toNat)), h) := fun h => v_addS (by show _ + 1 ≤ _; omega)
  have a2 : ∀ h, oAdd (.str (cutS w none (some (a : Int)) ++ one (97 + ((fi + 5 * (i : Int)) % 26).toNat))) (.str (cutS w (some (a : Int)) none)) h = some (.str (cand w a fi i), h) := fun h => v_addS (by rw [len_app]; show _ + 1 + _ ≤ _; omega)
  have hfl := lt_of_get hf
  have kl : kLs ([.str "nought", .str "and", .str "or", .str "gives"], h) = some (.loc h.length, h ++ [.lst rl]) := ev_kLs (by show 4 ≤ 100000; omega)
  have g1 : (h ++ [AO.lst rl])[f]? = some (.lst (xs.map A.str)) := by rw [List.getElem?_append_left hfl]; exact hf
  have ni : cNi (.str (cand w a fi i)) (.loc h.length) (h ++ [AO.lst rl]) = some (.bl (!res (cand w a fi i)), h ++ [.lst rl]) := v_niStrs (ys := ["nought", "and", "or", "gives"]) (app_get h (.lst rl))
  have ll : bLen [.loc f] (h ++ [AO.lst rl]) = some (.int (xs.map A.str).length, h ++ [.lst rl]) := v_lenL g1
  have lx : (xs.map A.str).length = xs.length := List.length_map _
  rw [lx] at ll
  cases hr : res (cand w a fi i) with
  | true =>
    rw [hr] at ni
    refine ⟨h ++ [.lst rl], ?_, ?_, Kp.app _ _⟩
    · simp only [l2_law_names, ev_bind, ev_op, ev_k1, ev_k2, ev_C, ev_var, ev_kVar, ev_un, ev_ku, ev_chain, ev_kc1, ev_kc2, ev_kc3t, ev_kc3f, ev_tru, ev_kTrb, ev_kTri, ev_B, ev_kB, ev_and, ev_or, ev_not, ev_kAt, ev_kAf, ev_kOt, ev_kOf, ev_kN, ev_eand, ev_eor, ev_enot, ev_kEAt, ev_kEAf, ev_kEOt, ev_kEOf, ev_kEN, ev_eif, ev_kEIt, ev_kEIf, ev_anil, ev_acons, ev_ka1, ev_ka2, ev_tup, ev_lst, ev_call, ev_kCa, ev_seq, ev_kSn, ev_kSr, ev_kSb, ev_kSc, ev_nx, ev_bk, ev_ct, ev_ret, ev_kRt, ev_retN, ev_if, ev_kIt, ev_kIf, ev_x, ev_kX, ev_asg, ev_kAs, ev_kAs2, ev_gN, ev_gT, ev_gT3, ev_gIx, ev_kG1, ev_kG2, ev_kG3, ev_kFr, ev_kFn, ev_for, ev_kFo, ev_mt, ev_kMt2, ev_ms, ev_kMs1, ev_sl, ev_kSl1, ev_kSl2, ev_kSl3, ev_noPart, ev_part, ev_kPt, ev_rng1, ev_istr, ev_kIS, ev_ilst, ev_kILr, ev_lc, ev_kLc, ev_kLc2, ev_yes, List.getElem?_cons_zero, List.getElem?_cons_succ, List.set_cons_zero, List.set_cons_succ, v_addI, v_sub, v_neg, v_lt, v_le, v_gt, v_ge, v_eqI, v_neI, v_eqS, v_neS, v_neB, v_eqB, v_lenT, v_lenR, v_max, v_min, m5, d1, ei, c1, c2, a1, a2, kl, ni, Bool.not_true]
    · rw [if_neg (by simp)]; exact g1
  | false =>
    rw [hr] at ni
    by_cases hm : xs.length < m
    · have c3 : decide ((xs.length : Int) < (m : Int)) = true := decide_eq_true (by omega)
      have ap : fAppend (.loc f) [.str (cand w a fi i)] (h ++ [AO.lst rl]) = some (.non, (h ++ [AO.lst rl]).set f (AO.lst (xs.map A.str ++ [A.str (cand w a fi i)]))) := v_append g1 (by rw [lx]; omega)
      have km : ∀ (F : A → List A → AHp → Rs A) (ms : MA) (τ : ASt), kMt1 F ms τ (.loc f, h ++ [.lst rl]) = (ms τ (h ++ [AO.lst rl])).bind (kMt2 F (.loc f)) := fun F ms τ => ev_kMt1 g1
      refine ⟨(h ++ [AO.lst rl]).set f (AO.lst (xs.map A.str ++ [A.str (cand w a fi i)])), ?_, ?_, (Kp.app _ _).trans (Kp.set _ _)⟩
      · simp only [l2_law_names, ev_bind, ev_op, ev_k1, ev_k2, ev_C, ev_var, ev_kVar, ev_un, ev_ku, ev_chain, ev_kc1, ev_kc2, ev_kc3t, ev_kc3f, ev_tru, ev_kTrb, ev_kTri, ev_B, ev_kB, ev_and, ev_or, ev_not, ev_kAt, ev_kAf, ev_kOt, ev_kOf, ev_kN, ev_eand, ev_eor, ev_enot, ev_kEAt, ev_kEAf, ev_kEOt, ev_kEOf, ev_kEN, ev_eif, ev_kEIt, ev_kEIf, ev_anil, ev_acons, ev_ka1, ev_ka2, ev_tup, ev_lst, ev_call, ev_kCa, ev_seq, ev_kSn, ev_kSr, ev_kSb, ev_kSc, ev_nx, ev_bk, ev_ct, ev_ret, ev_kRt, ev_retN, ev_if, ev_kIt, ev_kIf, ev_x, ev_kX, ev_asg, ev_kAs, ev_kAs2, ev_gN, ev_gT, ev_gT3, ev_gIx, ev_kG1, ev_kG2, ev_kG3, ev_kFr, ev_kFn, ev_for, ev_kFo, ev_mt, ev_kMt2, ev_ms, ev_kMs1, ev_sl, ev_kSl1, ev_kSl2, ev_kSl3, ev_noPart, ev_part, ev_kPt, ev_rng1, ev_istr, ev_kIS, ev_ilst, ev_kILr, ev_lc, ev_kLc, ev_kLc2, ev_yes, List.getElem?_cons_zero, List.getElem?_cons_succ, List.set_cons_zero, List.set_cons_succ, v_addI, v_sub, v_neg, v_lt, v_le, v_gt, v_ge, v_eqI, v_neI, v_eqS, v_neS, v_neB, v_eqB, v_lenT, v_lenR, v_max, v_min, m5, d1, ei, c1, c2, a1, a2, kl, ni, Bool.not_false, ll, c3, km, ap]
      · rw [if_pos ⟨rfl, hm⟩, set_get g1, List.map_append]; rfl
    · have c3 : decide ((xs.length : Int) < (m : Int)) = false := decide_eq_false (by omega)
      refine ⟨h ++ [.lst rl], ?_, ?_, Kp.app _ _⟩
      · simp only [l2_law_names, ev_bind, ev_op, ev_k1, ev_k2, ev_C, ev_var, ev_kVar, ev_un, ev_ku, ev_chain, ev_kc1, ev_kc2, ev_kc3t, ev_kc3f, ev_tru, ev_kTrb, ev_kTri, ev_B, ev_kB, ev_and, ev_or, ev_not, ev_kAt, ev_kAf, ev_kOt, ev_kOf, ev_kN, ev_eand, ev_eor, ev_enot, ev_kEAt, ev_kEAf, ev_kEOt, ev_kEOf, ev_kEN, ev_eif, ev_kEIt, ev_kEIf, ev_anil, ev_acons, ev_ka1, ev_ka2, ev_tup, ev_lst, ev_call, ev_kCa, ev_seq, ev_kSn, ev_kSr, ev_kSb, ev_kSc, ev_nx, ev_bk, ev_ct, ev_ret, ev_kRt, ev_retN, ev_if, ev_kIt, ev_kIf, ev_x, ev_kX, ev_asg, ev_kAs, ev_kAs2, ev_gN, ev_gT, ev_gT3, ev_gIx, ev_kG1, ev_kG2, ev_kG3, ev_kFr, ev_kFn, ev_for, ev_kFo, ev_mt, ev_kMt2, ev_ms, ev_kMs1, ev_sl, ev_kSl1, ev_kSl2, ev_kSl3, ev_noPart, ev_part, ev_kPt, ev_rng1, ev_istr, ev_kIS, ev_ilst, ev_kILr, ev_lc, ev_kLc, ev_kLc2, ev_yes, List.getElem?_cons_zero, List.getElem?_cons_succ, List.set_cons_zero, List.set_cons_succ, v_addI, v_sub, v_neg, v_lt, v_le, v_gt, v_ge, v_eqI, v_neI, v_eqS, v_neS, v_neB, v_eqB, v_lenT, v_lenR, v_max, v_min, m5, d1, ei, c1, c2, a1, a2, kl, ni, Bool.not_false, ll, c3]
      · rw [if_neg (by omega)]; exact g1
end Sh
set_option Elab.async false
set_option linter.all false
set_option maxRecDepth 100000
namespace Sh
open PySem L2 Ab
set_option autoImplicit false
theorem mem1 {i b : Nat} (z : i ∈ [b]) : i = b := by simpa using z
theorem low_nil : Low "" := fun c m => by
  have e : cs "" = [] := by decide +kernel
  rw [e] at m; cases m
theorem fnd_zero {w : Str} {a : Nat} {f : Int} {m : Nat} : fnd w a f m 0 = [] := by unfold fnd cands; simp
theorem alpha_eq : ("abcdefghijklmnopqrstuvwxyz" : Str) = alpha := id rfl
theorem kl0 (h : AHp) : kLs ([], h) = some (.loc h.length, h ++ [.lst []]) := ev_kLs (by simp)
theorem kl4 (a b c d : A) (h : AHp) : kLs ([a, b, c, d], h) = some (.loc h.length, h ++ [.lst [a, b, c, d]]) := ev_kLs (by simp)
theorem kt3 (a b c : A) (h : AHp) : kTu ([a, b, c], h) = some (.tup [a, b, c], h) := ev_kTu (by simp)
theorem names_tail {h : AHp} {b n m : Nat} {L : A} {k : Option A} {w : Str} {a : Nat} (B : Bag h b n) (hn : n ≤ 1000000) (hw : Low w) (hl : w.length ≤ 7) (ha : a ≤ w.length) (hm : m ≤ 10) (hm1 : 1 ≤ m) :
    ∃ (fi : Int) (h1 h3 : AHp) (τ' : ASt) (xs : List Str), F_law_take [.loc b, .int 26] h = some (.int fi, h1) ∧ forL (itR 0 26) (gN 5) l2_law_names 26 0 [some (.loc b), some (.int m), some (.str alpha), some (.str w), some L, k, some (.int a), some (.int fi), some (.loc h1.length), none] (h1 ++ [.lst []]) = some (.nx τ', h3) ∧
      τ'[8]? = some (some (.loc h1.length)) ∧ h3[h1.length]? = some (.lst (xs.map A.str)) ∧ xs.length = m ∧ xs.Nodup ∧ (∀ x ∈ xs, IsLet x) ∧ Bag h3 b (n + 1) ∧ Kp [b] h h3 ∧ h.length ≤ h1.length := by
  obtain ⟨fi, h1, e1, _, _, B1, K1, l1⟩ := take_spec B hn (m := 26) (by omega) (by omega)
  have hb := B1.lt
  obtain ⟨τ', h3, e3, k', nm', eτ, hf, K3⟩ := for_range (n := 26) (g := gN 5) (s := l2_law_names) (h := h1 ++ [AO.lst []]) (τ := [some (.loc b), some (.int m), some (.str alpha), some (.str w), some L, k, some (.int a), some (.int fi), some (.loc h1.length), none])
    (fun i τ h => ∃ k' nm', τ = [some (.loc b), some (.int m), some (.str alpha), some (.str w), some L, k', some (.int a), some (.int fi), some (.loc h1.length), nm'] ∧ h[h1.length]? = some (.lst ((fnd w a fi m i).map A.str)) ∧ Kp [h1.length] (h1 ++ [AO.lst []]) h)
    ⟨_, _, rfl, by rw [fnd_zero]; exact app_get h1 (.lst []), Kp.refl⟩ (by
      rintro i τ h hi ⟨k', nm', rfl, hf, K⟩
      have hlen : (fnd w a fi m i).length ≤ 10 := by unfold fnd; rw [List.length_take]; omega
      obtain ⟨h', e, hf', K'⟩ := names_turn (b := b) (m := m) (L := L) (nm := nm') ha (by omega) hi hf hlen
      refine ⟨_, h, _, h', rfl, e, _, _, rfl, ?_, K.trans K'⟩
      rw [hf', fnd_succ])
  refine ⟨fi, h1, h3, τ', fnd w a fi m 26, e1, e3, by rw [eτ]; rfl, hf, fnd_len ha (by omega), fnd_nd ha, fun x hx => fnd_mem ha hw hl hx, ?_, ?_, by omega⟩
  · refine (B1.kp (Kp.app (bs := []) h1 [AO.lst []]) (by simp)).kp K3 ?_
    intro z
    have := mem1 z
    omega
  · exact K1.trans ((Kp.app (bs := [b]) h1 [AO.lst []]).drop (K3.more (fun i z => by rw [mem1 z]; simp)) (Nat.le_refl _))
theorem four_words {r : Int} (h0 : 0 ≤ r) (h1 : r < 4) : ∃ w : Str, atI [A.str "and", A.str "or", A.str "gives", A.str "nough"] r = some (.str w) ∧ Low w ∧ w.length ≤ 5 := by
  have low : ∀ w : Str, ((cs w).all fun c => decide (97 ≤ c ∧ c ≤ 122)) = true → Low w := fun w h c m => by
    have := List.all_eq_true.mp h c m
    simpa using this
  rcases (by omega : r = 0 ∨ r = 1 ∨ r = 2 ∨ r = 3) with rfl | rfl | rfl | rfl
  · exact ⟨"and", rfl, low _ (by decide +kernel), by decide +kernel⟩
  · exact ⟨"or", rfl, low _ (by decide +kernel), by decide +kernel⟩
  · exact ⟨"gives", rfl, low _ (by decide +kernel), by decide +kernel⟩
  · exact ⟨"nough", rfl, low _ (by decide +kernel), by decide +kernel⟩
theorem names_spec {h : AHp} {b n m : Nat} (B : Bag h b n) (hn : n ≤ 900000) (hm : m ≤ 10) (hm1 : 1 ≤ m) :
    ∃ (l : Nat) (h' : AHp) (xs : List Str), F_law_names [.loc b, .int m] h = some (.loc l, h') ∧ h.length ≤ l ∧ h'[l]? = some (.lst (xs.map A.str)) ∧ xs.length = m ∧ xs.Nodup ∧ (∀ x ∈ xs, IsLet x) ∧ Bag h' b (n + 20) ∧ Kp [b] h h' := by
  obtain ⟨q, h1, e1, q0, q1, B1, K1, _⟩ := take_spec B (by omega) (m := 8) (by omega) (by omega)
  have r1 : kR1 ([.int q], h1) = some (itR 0 q.toNat, h1) := ev_kR1 (by omega)
  obtain ⟨τ2, h2, e2, w, k2', rfl, hw, hwl, B2, K2⟩ := for_range (n := q.toNat) (g := gN 5) (s := l1_law_names) (h := h1) (τ := [some (.loc b), some (.int m), some (.str alpha), some (.str ""), some (.int q), none, none, none, none, none])
    (fun i τ h => ∃ w k, τ = [some (.loc b), some (.int m), some (.str alpha), some (.str w), some (.int q), k, none, none, none, none] ∧ Low w ∧ w.length = i ∧ Bag h b (n + 1 + i) ∧ Kp [b] h1 h)
    ⟨_, _, rfl, low_nil, by decide +kernel, B1, Kp.refl⟩ (by
      rintro i τ h hi ⟨w, k, rfl, hw, hwl, B, K⟩
      obtain ⟨w', h', e, hw', hl', B', K'⟩ := word_turn (M := .int m) (L := .int q) (k := .int i) (r := [none, none, none, none]) B (by omega) hw (by omega)
      exact ⟨_, h, _, h', rfl, e, w', _, rfl, hw', by omega, B'.mono (by omega), K.trans K'⟩)
  obtain ⟨a, h3, e3, a0, a1, B3, K3, _⟩ := take_spec B2 (by omega) (m := q + 1) (by omega) (by omega)
  obtain ⟨c, h4, e4, c0, c1, B4, K4, _⟩ := take_spec B3 (by omega) (m := 5) (by omega) (by omega)
  by_cases hc : c = 1
  · subst hc
    have hb4 := B4.lt
    obtain ⟨r, h6, e6, r0', r1', B6, K6, l6⟩ := take_spec (h := h4 ++ [AO.lst [.str "and", .str "or", .str "gives", .str "nough"]]) (B4.kp (Kp.app (bs := []) _ _) (by simp)) (by omega) (m := 4) (by omega) (by omega)
    obtain ⟨w', ew, hw', hl'⟩ := four_words r0' r1'
    have g6 : h6[h4.length]? = some (.lst [.str "and", .str "or", .str "gives", .str "nough"]) := K6.get (app_get _ _) (fun z => by have := mem1 z; omega)
    have ix : xIx (.loc h4.length) (.int r) h6 = some (.str w', h6) := v_ixL g6 ew
    have ln : ∀ h, bLen [.str w'] h = some (.int w'.length, h) := fun h => v_lenS (by omega)
    obtain ⟨fi, h7, h8, τ', xs, e7, e8, ev8, g8, lx, nx, lx2, B8, K8, l8⟩ := names_tail (L := .int q) (k := k2') (a := w'.length) B6 (by omega) hw' (by omega) (Nat.le_refl _) hm hm1
    have r26 : kR1 ([.int 26], h7 ++ [AO.lst []]) = some (itR 0 26, h7 ++ [AO.lst []]) := ev_kR1 (by omega)
    have K14 : Kp [b] h h4 := (K1.trans K2).trans (K3.trans K4)
    refine ⟨h7.length, h8, xs, ?_, ?_, g8, lx, nx, lx2, B8.mono (by omega), ?_⟩
    · simp only [ap_law_names, b_law_names, ev_bind, ev_op, ev_k1, ev_k2, ev_C, ev_var, ev_kVar, ev_un, ev_ku, ev_chain, ev_kc1, ev_kc2, ev_kc3t, ev_kc3f, ev_tru, ev_kTrb, ev_kTri, ev_B, ev_kB, ev_and, ev_or, ev_not, ev_kAt, ev_kAf, ev_kOt, ev_kOf, ev_kN, ev_eand, ev_eor, ev_enot, ev_kEAt, ev_kEAf, ev_kEOt, ev_kEOf, ev_kEN, ev_eif, ev_kEIt, ev_kEIf, ev_anil, ev_acons, ev_ka1, ev_ka2, ev_tup, ev_lst, ev_call, ev_kCa, ev_seq, ev_kSn, ev_kSr, ev_kSb, ev_kSc, ev_nx, ev_bk, ev_ct, ev_ret, ev_kRt, ev_retN, ev_if, ev_kIt, ev_kIf, ev_x, ev_kX, ev_asg, ev_kAs, ev_kAs2, ev_gN, ev_gT, ev_gT3, ev_gIx, ev_kG1, ev_kG2, ev_kG3, ev_kFr, ev_kFn, ev_for, ev_kFo, ev_mt, ev_kMt2, ev_ms, ev_kMs1, ev_sl, ev_kSl1, ev_kSl2, ev_kSl3, ev_noPart, ev_part, ev_kPt, ev_rng1, ev_istr, ev_kIS, ev_ilst, ev_kILr, ev_lc, ev_kLc, ev_kLc2, ev_yes, ev_irev, List.getElem?_cons_zero, List.getElem?_cons_succ, List.set_cons_zero, List.set_cons_succ, v_addI, v_sub, v_neg, v_lt, v_le, v_gt, v_ge, v_eqI, v_neI, v_eqS, v_neS, v_neB, v_eqB, v_lenT, v_lenR, v_max, v_min, alpha_eq, e1, r1, itR_n, e2, e3, e4, beq_self_eq_true, kl4, e6, ix, ln, e7, kl0, r26, e8, ev8]
    · have := K14.1; have := K6.1; rw [List.length_append] at this; omega
    · exact K14.trans (((Kp.app (bs := [b]) _ _).trans K6).trans K8)
  · have hcb : (c == 1) = false := by simp [hc]
    obtain ⟨na, rfl⟩ : ∃ na : Nat, a = na := ⟨a.toNat, by omega⟩
    obtain ⟨fi, h7, h8, τ', xs, e7, e8, ev8, g8, lx, nx, lx2, B8, K8, l8⟩ := names_tail (L := .int q) (k := k2') (a := na) B4 (by omega) hw (by omega) (by omega) hm hm1
    have r26 : kR1 ([.int 26], h7 ++ [AO.lst []]) = some (itR 0 26, h7 ++ [AO.lst []]) := ev_kR1 (by omega)
    have K14 : Kp [b] h h4 := (K1.trans K2).trans (K3.trans K4)
    refine ⟨h7.length, h8, xs, ?_, ?_, g8, lx, nx, lx2, B8.mono (by omega), K14.trans K8⟩
    · simp only [ap_law_names, b_law_names, ev_bind, ev_op, ev_k1, ev_k2, ev_C, ev_var, ev_kVar, ev_un, ev_ku, ev_chain, ev_kc1, ev_kc2, ev_kc3t, ev_kc3f, ev_tru, ev_kTrb, ev_kTri, ev_B, ev_kB, ev_and, ev_or, ev_not, ev_kAt, ev_kAf, ev_kOt, ev_kOf, ev_kN, ev_eand, ev_eor, ev_enot, ev_kEAt, ev_kEAf, ev_kEOt, ev_kEOf, ev_kEN, ev_eif, ev_kEIt, ev_kEIf, ev_anil, ev_acons, ev_ka1, ev_ka2, ev_tup, ev_lst, ev_call, ev_kCa, ev_seq, ev_kSn, ev_kSr, ev_kSb, ev_kSc, ev_nx, ev_bk, ev_ct, ev_ret, ev_kRt, ev_retN, ev_if, ev_kIt, ev_kIf, ev_x, ev_kX, ev_asg, ev_kAs, ev_kAs2, ev_gN, ev_gT, ev_gT3, ev_gIx, ev_kG1, ev_kG2, ev_kG3, ev_kFr, ev_kFn, ev_for, ev_kFo, ev_mt, ev_kMt2, ev_ms, ev_kMs1, ev_sl, ev_kSl1, ev_kSl2, ev_kSl3, ev_noPart, ev_part, ev_kPt, ev_rng1, ev_istr, ev_kIS, ev_ilst, ev_kILr, ev_lc, ev_kLc, ev_kLc2, ev_yes, ev_irev, List.getElem?_cons_zero, List.getElem?_cons_succ, List.set_cons_zero, List.set_cons_succ, v_addI, v_sub, v_neg, v_lt, v_le, v_gt, v_ge, v_eqI, v_neI, v_eqS, v_neS, v_neB, v_eqB, v_lenT, v_lenR, v_max, v_min, alpha_eq, e1, r1, itR_n, e2, e3, e4, hcb, e7, kl0, r26, e8, ev8]
    · have := K14.1; omega
theorem mk_lst (as : List A) (h : AHp) (e : as.length ≤ 100000) : ∃ h1, kLs (as, h) = some (.loc h.length, h1) ∧ h1[h.length]? = some (.lst as) ∧ Kp [] h h1 ∧ h1.length = h.length + 1 := ⟨_, ev_kLs e, app_get _ _, Kp.app _ _, by simp⟩
theorem mk_add {h : AHp} {m n : Nat} {xs ys : List A} (e1 : h[m]? = some (.lst xs)) (e2 : h[n]? = some (.lst ys)) (e : xs.length + ys.length ≤ 100000) : ∃ h1, oAdd (.loc m) (.loc n) h = some (.loc h.length, h1) ∧ h1[h.length]? = some (.lst (xs ++ ys)) ∧ Kp [] h h1 ∧ h1.length = h.length + 1 := ⟨_, v_addL e1 e2 e, app_get _ _, Kp.app _ _, by simp⟩
inductive Stm (N : List Str) : Nat → A → Prop where
  | nou : Stm N 0 (.str "nought")
  | let {x : Str} : x ∈ N → Stm N 0 (.str x)
  | bin {s : Str} {i j : Nat} {a b : A} : (s = "and" ∨ s = "or" ∨ s = "gives") → Stm N i a → Stm N j b → Stm N (i + j + 1) (.tup [.str s, a, b])
theorem five_signs {r : Int} (h0 : 0 ≤ r) (h1 : r < 5) : ∃ w : Str, atI [A.str "and", A.str "or", A.str "gives", A.str "gives", A.str "gives"] r = some (.str w) ∧ (w = "and" ∨ w = "or" ∨ w = "gives") := by
  rcases (by omega : r = 0 ∨ r = 1 ∨ r = 2 ∨ r = 3 ∨ r = 4) with rfl | rfl | rfl | rfl | rfl
  · exact ⟨"and", rfl, .inl rfl⟩
  · exact ⟨"or", rfl, .inr (.inl rfl)⟩
  · exact ⟨"gives", rfl, .inr (.inr rfl)⟩
  · exact ⟨"gives", rfl, .inr (.inr rfl)⟩
  · exact ⟨"gives", rfl, .inr (.inr rfl)⟩
theorem stm_spec {b l : Nat} {N : List Str} (hN : N.length ≤ 100) (hbl : l ≠ b) : ∀ (fuel many n : Nat) (h : AHp), many < fuel → Bag h b n → h[l]? = some (.lst (N.map A.str)) → n + 10 * many + 5 ≤ 900000 →
    ∃ st h', F_law_statement fuel [.loc b, .loc l, .int many] h = some (st, h') ∧ Stm N many st ∧ Bag h' b (n + 10 * many + 5) ∧ Kp [b] h h' := by
  intro fuel
  induction fuel with
  | zero => intro many n h hf; omega
  | succ fuel ih =>
    intro many n h hf B hl hn
    have hb := B.lt
    have hll := lt_of_get hl
    by_cases hm : many = 0
    · subst hm
      have hz : (((0 : Nat) : Int) == 0) = true := rfl
      have lN : (N.map A.str).length = N.length := List.length_map _
      obtain ⟨h1, a1, g1, K1, n1⟩ := mk_add hl hl (by omega)
      obtain ⟨h2, a2, g2, K2, n2⟩ := mk_lst [.str "nought"] h1 (by simp)
      obtain ⟨h3, a3, g3, K3, n3⟩ := mk_add (K2.get g1 (by simp)) g2 (by simp; omega)
      have K03 : Kp [] h h3 := (K1.trans K2).trans K3
      have g3l : h3[l]? = some (.lst (N.map A.str)) := K03.get hl (by simp)
      have ll : bLen [.loc l] h3 = some (.int N.length, h3) := by rw [v_lenL g3l, lN]
      have m2 : ∀ h, oMul (.int 2) (.int (N.length : Int)) h = some (.int (2 * N.length), h) := fun h => v_mulL (by omega) (by omega)
      obtain ⟨r, h4, e4, r0, r1, B4, K4, l4⟩ := take_spec (B.kp K03 (by simp)) (by omega) (m := 2 * N.length + 1) (by omega) (by omega)
      have g4 := K4.get g3 (fun z => by have := mem1 z; omega)
      have key : ∃ st, atI (N.map A.str ++ N.map A.str ++ [.str "nought"]) r = some st ∧ Stm N 0 st := by
        obtain ⟨j, rfl⟩ : ∃ j : Nat, r = j := ⟨r.toNat, by omega⟩
        have hj : j < (N.map A.str ++ N.map A.str ++ [A.str "nought"]).length := by simp; omega
        refine ⟨(N.map A.str ++ N.map A.str ++ [A.str "nought"])[j], atI_nat (List.getElem?_eq_getElem hj), ?_⟩
        have hmem := List.getElem_mem hj
        rcases List.mem_append.mp hmem with q | q
        · have q' : (N.map A.str ++ N.map A.str ++ [A.str "nought"])[j] ∈ N.map A.str := by
            rcases List.mem_append.mp q with q | q <;> exact q
          obtain ⟨x, hx, ex⟩ := List.mem_map.mp q'
          rw [← ex]; exact .let hx
        · have := List.mem_singleton.mp q
          rw [this]; exact .nou
      obtain ⟨st, es, hst⟩ := key
      have ix : xIx (.loc h2.length) (.int r) h4 = some (st, h4) := v_ixL g4 es
      refine ⟨st, h4, ?_, hst, B4.mono (by omega), (K03.nil).trans K4⟩
      simp only [ap_law_statement, b_law_statement, ev_bind, ev_op, ev_k1, ev_k2, ev_C, ev_var, ev_kVar, ev_un, ev_ku, ev_chain, ev_kc1, ev_kc2, ev_kc3t, ev_kc3f, ev_tru, ev_kTrb, ev_kTri, ev_B, ev_kB, ev_and, ev_or, ev_not, ev_kAt, ev_kAf, ev_kOt, ev_kOf, ev_kN, ev_eand, ev_eor, ev_enot, ev_kEAt, ev_kEAf, ev_kEOt, ev_kEOf, ev_kEN, ev_eif, ev_kEIt, ev_kEIf, ev_anil, ev_acons, ev_ka1, ev_ka2, ev_tup, ev_lst, ev_call, ev_kCa, ev_seq, ev_kSn, ev_kSr, ev_kSb, ev_kSc, ev_nx, ev_bk, ev_ct, ev_ret, ev_kRt, ev_retN, ev_if, ev_kIt, ev_kIf, ev_x, ev_kX, ev_asg, ev_kAs, ev_kAs2, ev_gN, ev_gT, ev_gT3, ev_gIx, ev_kG1, ev_kG2, ev_kG3, ev_kFr, ev_kFn, ev_for, ev_kFo, ev_mt, ev_kMt2, ev_ms, ev_kMs1, ev_sl, ev_kSl1, ev_kSl2, ev_kSl3, ev_noPart, ev_part, ev_kPt, ev_rng1, ev_istr, ev_kIS, ev_ilst, ev_kILr, ev_lc, ev_kLc, ev_kLc2, ev_yes, ev_irev, List.getElem?_cons_zero, List.getElem?_cons_succ, List.set_cons_zero, List.set_cons_succ, v_addI, v_sub, v_neg, v_lt, v_le, v_gt, v_ge, v_eqI, v_neI, v_eqS, v_neS, v_neB, v_eqB, v_lenT, v_lenR, v_max, v_min, hz, a1, a2, a3, ll, m2, e4, ix]
    · have hz : ((many : Int) == 0) = false := by simp [hm]
      obtain ⟨h1, a1, g1, K1', n1⟩ := mk_lst [.str "and", .str "or", .str "gives", .str "gives", .str "gives"] h (by simp)
      have K1 : Kp [b] h h1 := K1'.nil
      obtain ⟨r, h2, e2, r0, r1, B2, K2, l2⟩ := take_spec (h := h1) (B.kp K1' (by simp)) (by omega) (m := 5) (by omega) (by omega)
      obtain ⟨w, ew, hw⟩ := five_signs r0 r1
      have g2 := K2.get g1 (fun z => by have := mem1 z; omega)
      have ix : xIx (.loc h.length) (.int r) h2 = some (.str w, h2) := v_ixL g2 ew
      obtain ⟨q, h3, e3, q0, q1, B3, K3, l3⟩ := take_spec B2 (by omega) (m := many) (by omega) (by omega)
      obtain ⟨near, rfl⟩ : ∃ near : Nat, q = near := ⟨q.toNat, by omega⟩
      have hnb : l ∉ [b] := by simpa using hbl
      obtain ⟨sa, h4, e4, s4, B4, K4⟩ := ih near (n + 2) h3 (by omega) B3 (K3.get (K2.get (K1.get hl hnb) hnb) hnb) (by omega)
      have eq : (many : Int) - 1 - (near : Int) = ((many - 1 - near : Nat) : Int) := by omega
      obtain ⟨sb, h5, e5, s5, B5, K5⟩ := ih (many - 1 - near) _ h4 (by omega) B4 (K4.get (K3.get (K2.get (K1.get hl hnb) hnb) hnb) hnb) (by omega)
      refine ⟨.tup [.str w, sa, sb], h5, ?_, ?_, B5.mono (by omega), (K1.trans K2).trans (K3.trans (K4.trans K5))⟩
      · simp only [ap_law_statement, b_law_statement, ev_bind, ev_op, ev_k1, ev_k2, ev_C, ev_var, ev_kVar, ev_un, ev_ku, ev_chain, ev_kc1, ev_kc2, ev_kc3t, ev_kc3f, ev_tru, ev_kTrb, ev_kTri, ev_B, ev_kB, ev_and, ev_or, ev_not, ev_kAt, ev_kAf, ev_kOt, ev_kOf, ev_kN, ev_eand, ev_eor, ev_enot, ev_kEAt, ev_kEAf, ev_kEOt, ev_kEOf, ev_kEN, ev_eif, ev_kEIt, ev_kEIf, ev_anil, ev_acons, ev_ka1, ev_ka2, ev_tup, ev_lst, ev_call, ev_kCa, ev_seq, ev_kSn, ev_kSr, ev_kSb, ev_kSc, ev_nx, ev_bk, ev_ct, ev_ret, ev_kRt, ev_retN, ev_if, ev_kIt, ev_kIf, ev_x, ev_kX, ev_asg, ev_kAs, ev_kAs2, ev_gN, ev_gT, ev_gT3, ev_gIx, ev_kG1, ev_kG2, ev_kG3, ev_kFr, ev_kFn, ev_for, ev_kFo, ev_mt, ev_kMt2, ev_ms, ev_kMs1, ev_sl, ev_kSl1, ev_kSl2, ev_kSl3, ev_noPart, ev_part, ev_kPt, ev_rng1, ev_istr, ev_kIS, ev_ilst, ev_kILr, ev_lc, ev_kLc, ev_kLc2, ev_yes, ev_irev, List.getElem?_cons_zero, List.getElem?_cons_succ, List.set_cons_zero, List.set_cons_succ, v_addI, v_sub, v_neg, v_lt, v_le, v_gt, v_ge, v_eqI, v_neI, v_eqS, v_neS, v_neB, v_eqB, v_lenT, v_lenR, v_max, v_min, hz, a1, e2, ix, e3, e4, eq, e5, kt3]
      · have := Stm.bin hw s4 s5
        rwa [show near + (many - 1 - near) + 1 = many by omega] at this
end Sh
set_option Elab.async false
set_option linter.all false
set_option maxRecDepth 100000
namespace Sh
open PySem L2 Ab
set_option autoImplicit false
inductive OkA (n : Nat) : Nat → A → Prop where
  | non {d : Nat} : OkA n d .non
  | bl {d : Nat} (b : Bool) : OkA n d (.bl b)
  | int {d : Nat} (i : Int) : OkA n d (.int i)
  | str {d : Nat} {x : Str} : x.length ≤ 1000 → OkA n d (.str x)
  | loc {d m : Nat} : m < n → OkA n d (.loc m)
  | tup {d : Nat} {xs : List A} : (∀ x ∈ xs, OkA n d x) → OkA n (d + 1) (.tup xs)
theorem OkA.mono {n m d : Nat} {a : A} (h : OkA n d a) (e : n ≤ m) : OkA m d a := by
  induction h with
  | non => exact .non
  | bl b => exact .bl b
  | int i => exact .int i
  | str h => exact .str h
  | loc h => exact .loc (by omega)
  | tup _ ih => exact .tup ih
theorem OkA.deep {n d e : Nat} {a : A} (h : OkA n d a) (q : d ≤ e) : OkA n e a := by
  induction h generalizing e with
  | non => exact .non
  | bl b => exact .bl b
  | int i => exact .int i
  | str h => exact .str h
  | loc h => exact .loc h
  | @tup d xs _ ih =>
    obtain ⟨e', rfl⟩ : ∃ e', e = e' + 1 := ⟨e - 1, by omega⟩
    exact .tup fun x hx => ih x hx (by omega)
def LH (n : Nat) (h : AHp) : Prop := ∀ i, i < n → ∃ xs, h[i]? = some (.lst xs)
theorem LH.zero {h : AHp} : LH 0 h := fun i hi => absurd hi (Nat.not_lt_zero _)
theorem LH.kp {n : Nat} {h h' : AHp} {bs : List Nat} (e : LH n h) (K : Kp bs h h') (hb : ∀ i ∈ bs, n ≤ i) : LH n h' := fun i hi => by
  obtain ⟨xs, g⟩ := e i hi
  exact ⟨xs, K.get g fun m => by have := hb i m; omega⟩
theorem OkA.get {n d m : Nat} {h : AHp} (o : OkA n d (.loc m)) (e : LH n h) : ∃ xs, h[m]? = some (.lst xs) := by
  cases o with
  | loc q => exact e m q
def isTup : A → Bool
  | .tup _ => true
  | _ => false
def isStr : A → Bool
  | .str _ => true
  | _ => false
def lowB (c : Nat) : Bool := decide (97 ≤ c) && decide (c ≤ 122)
def letB (x : Str) : Bool := !res x && (decide (1 ≤ x.length) && decide (x.length ≤ 8)) && (cs x).all lowB
def lett : A → Bool
  | .str x => letB x
  | _ => false
def sgn : A → Bool
  | .str x => ("and" == x) || (("or" == x) || (("gives" == x) || false))
  | _ => false
theorem v_inT {a : A} {ys : List A} {h : AHp} : cIn a (.tup ys) h = (anyA h a ys).bind fun k => some (.bl k, h) := by cases a <;> rfl
theorem v_inL {a : A} {n : Nat} {ys : List A} {h : AHp} (g : h[n]? = some (.lst ys)) : cIn a (.loc n) h = (anyA h a ys).bind fun k => some (.bl k, h) := by
  have e : seqA (.loc n) h = some (false, ys) := by unfold seqA; simp only [g]
  cases a <;> (show (seqA (.loc n) h).bind _ = _; rw [e]; rfl)
theorem eqA_strL {y : Str} {m : Nat} {xs : List A} {h : AHp} (g : h[m]? = some (.lst xs)) : eqA h (.str y) (.loc m) = some false := by
  have e : seqA (.loc m) h = some (false, xs) := by unfold seqA; simp only [g]
  show (seqA (.loc m) h).bind _ = _
  rw [e]; rfl
theorem anyA_cons {h : AHp} {x y : A} {ys : List A} {k l : Bool} (e1 : eqA h y x = some k) (e2 : anyA h x ys = some l) : anyA h x (y :: ys) = some (k || l) := by
  show (eqA h y x).bind _ = _
  rw [e1, ev_bind, e2]; rfl
theorem any_none {n d : Nat} {a : A} {h : AHp} (o : OkA n d a) (e : LH n h) (hs : isStr a = false) : ∀ ys : List Str, anyA h a (ys.map A.str) = some false
  | [] => rfl
  | y :: r => by
    have e1 : eqA h (.str y) a = some false := by
      cases o with
      | str q => exact absurd hs (by show ¬ true = false; decide)
      | loc q =>
        obtain ⟨xs, g⟩ := (OkA.loc (d := d) q).get e
        exact eqA_strL g
      | _ => rfl
    exact anyA_cons e1 (any_none o e hs r)
theorem v_inSigns {n d : Nat} {a : A} {h : AHp} (o : OkA n d a) (e : LH n h) : cIn a c_SIGNS h = some (.bl (sgn a), h) := by
  show cIn a (.tup (([("and" : Str), "or", "gives"]).map A.str)) h = _
  rw [v_inT]
  cases ha : isStr a with
  | false =>
    rw [any_none o e ha]
    have : sgn a = false := by cases a <;> first | rfl | exact absurd ha (by show ¬ true = false; decide)
    rw [this]; rfl
  | true =>
    obtain ⟨x, rfl⟩ : ∃ x, a = .str x := by cases a <;> first | exact ⟨_, rfl⟩ | exact absurd ha Bool.false_ne_true
    rw [anyA_strs]; rfl
end Sh
set_option Elab.async false
set_option linter.all false
set_option maxRecDepth 100000
namespace Sh
open PySem L2 Ab
set_option autoImplicit false
def isNou : A → Bool
  | .str x => x == "nought"
  | _ => false
def leafB (a : A) : Bool := isNou a || lett a
def isSt : A → Bool
  | .tup [s, a, b] => sgn s && (isSt a && isSt b)
  | .tup _ => false
  | a => leafB a
termination_by a => sizeOf a
decreasing_by all_goals (simp_wf; omega)
def sz : A → Nat
  | .tup [_, a, b] => 1 + (sz a + sz b)
  | _ => 1
termination_by a => sizeOf a
decreasing_by all_goals (simp_wf; omega)
theorem sz_pos (a : A) : 1 ≤ sz a := by
  unfold sz
  split <;> omega
theorem isSt_leaf {a : A} (h : isTup a = false) : isSt a = leafB a := by
  cases a with
  | tup xs => exact absurd h (by show ¬ true = false; decide)
  | _ => unfold isSt; rfl
theorem isSt_3 (s a b : A) : isSt (.tup [s, a, b]) = (sgn s && (isSt a && isSt b)) := by rw [isSt]
theorem sz_3 (s a b : A) : sz (.tup [s, a, b]) = 1 + (sz a + sz b) := by rw [sz]
theorem while_more {m : MT} {s : MS} : ∀ {k : Nat} {τ : ASt} {h : AHp} {r : Fl × AHp} (j : Nat), whileL m s k τ h = some r → whileL m s (k + j) τ h = some r
  | 0, _, _, _, _, e => by cases e
  | k + 1, τ, h, r, j, e => by
    rw [show k + 1 + j = (k + j) + 1 by omega]
    change (m τ h).bind _ = _ at e
    show (m τ h).bind _ = _
    obtain ⟨⟨b, h1⟩, e1, e⟩ := bindS e
    rw [e1, ev_bind]
    cases b with
    | false => exact e
    | true =>
      change (s τ h1).bind _ = _ at e
      show (s τ h1).bind _ = _
      obtain ⟨⟨f, h2⟩, e2, e⟩ := bindS e
      rw [e2, ev_bind]
      cases f with
      | nx τ1 => exact while_more j e
      | ct τ1 => exact while_more j e
      | bk τ1 => exact e
      | rt a => exact e
end Sh
set_option Elab.async false
set_option linter.all false
set_option maxRecDepth 100000
namespace Sh
open PySem L2 Ab
set_option autoImplicit false
theorem IsLet.letB {x : Str} (h : IsLet x) : letB x = true := by
  unfold Sh.letB
  rw [h.nr, decide_eq_true h.lo, decide_eq_true h.hi]
  simp only [Bool.not_false, Bool.true_and]
  refine List.all_eq_true.mpr fun c m => ?_
  unfold lowB
  rw [decide_eq_true (h.low c m).1, decide_eq_true (h.low c m).2]; rfl
theorem stm_ok {N : List Str} (hN : ∀ x ∈ N, IsLet x) {k : Nat} {a : A} (s : Stm N k a) : isSt a = true ∧ (∀ n, OkA n k a) ∧ sz a = 2 * k + 1 := by
  induction s with
  | nou => exact ⟨by rw [isSt_leaf rfl]; rfl, fun n => .str (by decide +kernel), by rw [sz]; intro x a b e; cases e⟩
  | @«let» x hx =>
    have hl := hN x hx
    refine ⟨by rw [isSt_leaf rfl]; unfold leafB; rw [show lett (.str x) = Sh.letB x from rfl, hl.letB, Bool.or_true], fun n => .str (by have := hl.hi; omega), by rw [sz]; intro x a b e; cases e⟩
  | @bin s i j a b hs _ _ iha ihb =>
    obtain ⟨a1, a2, a3⟩ := iha
    obtain ⟨b1, b2, b3⟩ := ihb
    have sg : sgn (.str s) = true := by rcases hs with rfl | rfl | rfl <;> decide +kernel
    have ls : s.length ≤ 1000 := by rcases hs with rfl | rfl | rfl <;> decide +kernel
    refine ⟨by rw [isSt_3, sg, a1, b1]; rfl, fun n => .tup fun x hx => ?_, by rw [sz_3, a3, b3]; omega⟩
    simp only [List.mem_cons, List.mem_singleton, List.not_mem_nil, or_false] at hx
    rcases hx with rfl | rfl | rfl
    · exact .str ls
    · exact (a2 n).deep (by omega)
    · exact (b2 n).deep (by omega)
end Sh
set_option Elab.async false
set_option linter.all false
set_option maxRecDepth 100000
namespace Sh
open PySem L2 Ab
set_option autoImplicit false
end Sh
set_option Elab.async false
set_option linter.all false
set_option maxRecDepth 100000
namespace Sw
open PySem L2 Ab Sh
set_option autoImplicit false
theorem kp_drop2 {bs : List Nat} {f w : Nat} {h h1 h2 : AHp} (a : Kp bs h h1) (b : Kp (f :: w :: bs) h1 h2) (hf : h.length ≤ f) (hw : h.length ≤ w) : Kp bs h h2 := ⟨Nat.le_trans a.1 b.1, fun i hi hb => (b.2 i (Nat.lt_of_lt_of_le hi a.1) (by
  intro m
  rcases List.mem_cons.mp m with e | m
  · omega
  · rcases List.mem_cons.mp m with e | m
    · omega
    · exact hb m)).trans (a.2 i hi hb)⟩
def wordsL : A → List Str
  | .tup [.str s, a, b] => s :: (wordsL a ++ wordsL b)
  | .str x => [x]
  | _ => []
termination_by a => sizeOf a
decreasing_by all_goals (simp_wf; omega)
theorem words_3 (s : Str) (a b : A) : wordsL (.tup [.str s, a, b]) = s :: (wordsL a ++ wordsL b) := by rw [wordsL]
theorem words_str (x : Str) : wordsL (.str x) = [x] := by rw [wordsL]
theorem words_turn {N : List Str} {f w : Nat} {a0 x : A} {r : ASt} {ws : List A} {fs : List Str} {h : AHp} {k : Nat} (hr : r.length = 4) (hfw : f ≠ w) (gf : h[f]? = some (.lst (fs.map A.str))) (gw : h[w]? = some (.lst (ws ++ [x]))) (s : Stm N k x) (l1 : fs.length ≤ 50000) (l2 : ws.length ≤ 50000) :
    ∃ r' h' ys zs, l1_words (some a0 :: some (.loc f) :: some (.loc w) :: r) h = some (.nx (some a0 :: some (.loc f) :: some (.loc w) :: r'), h') ∧ r'.length = 4 ∧ h'[f]? = some (.lst ((fs ++ zs).map A.str)) ∧ h'[w]? = some (.lst (ws ++ ys)) ∧ Kp [f, w] h h' ∧ (ys.map sz).sum < sz x ∧ zs ++ (ys.reverse.flatMap wordsL) = wordsL x ∧ ys.length ≤ 2 ∧ zs.length = 1 ∧ (∀ y ∈ ys, ∃ j, Stm N j y) := by
  match r, hr with
  | [r1, r2, r3, r4], _ =>
  have kmw : ∀ (F : A → List A → AHp → Rs A) (ms : MA) (τ : ASt), kMt1 F ms τ (.loc w, h) = (ms τ h).bind (kMt2 F (.loc w)) := fun F ms τ => ev_kMt1 gw
  have pp : fPop (.loc w) [] h = some (x, h.set w (.lst ws)) := v_pop gw
  obtain ⟨h1, eh1⟩ : ∃ h1, h1 = h.set w (.lst ws) := ⟨_, rfl⟩
  rw [← eh1] at pp
  have gw1 : h1[w]? = some (.lst ws) := by rw [eh1]; exact set_get gw
  have K1 : Kp [w] h h1 := by rw [eh1]; exact Kp.set _ _
  have gf1 := K1.get gf (by simpa using hfw)
  have kmf : ∀ (F : A → List A → AHp → Rs A) (ms : MA) (τ : ASt), kMt1 F ms τ (.loc f, h1) = (ms τ h1).bind (kMt2 F (.loc f)) := fun F ms τ => ev_kMt1 gf1
  have K1' : Kp [f, w] h h1 := K1.more (by simp)
  have lm : (fs.map A.str).length = fs.length := List.length_map _
  have leaf : ∀ y : Str, x = .str y → ∃ r' h' ys zs, l1_words (some a0 :: some (.loc f) :: some (.loc w) :: [r1, r2, r3, r4]) h = some (.nx (some a0 :: some (.loc f) :: some (.loc w) :: r'), h') ∧ r'.length = 4 ∧ h'[f]? = some (.lst ((fs ++ zs).map A.str)) ∧ h'[w]? = some (.lst (ws ++ ys)) ∧ Kp [f, w] h h' ∧ (ys.map sz).sum < sz x ∧ zs ++ (ys.reverse.flatMap wordsL) = wordsL x ∧ ys.length ≤ 2 ∧ zs.length = 1 ∧ (∀ y ∈ ys, ∃ j, Stm N j y) := by
    rintro y rfl
    have it : ∀ h, bIsi [.str y, .ty "tuple"] h = some (.bl false, h) := fun h => rfl
    have ap : fAppend (.loc f) [.str y] h1 = some (.non, h1.set f (.lst (fs.map A.str ++ [.str y]))) := v_append gf1 (by omega)
    refine ⟨[some (.str y), r2, r3, r4], h1.set f (.lst (fs.map A.str ++ [.str y])), [], [y], ?_, rfl, ?_, ?_, K1'.trans ((Kp.set f _).more (by simp)), by have := sz_pos (.str y); simp; omega, by rw [words_str]; rfl, by simp, rfl, fun z hz => by cases hz⟩
    · simp only [l1_words, ev_bind, ev_op, ev_k1, ev_k2, ev_C, ev_var, ev_kVar, ev_un, ev_ku, ev_chain, ev_kc1, ev_kc2, ev_kc3t, ev_kc3f, ev_tru, ev_kTrb, ev_kTri, ev_B, ev_kB, ev_and, ev_or, ev_not, ev_kAt, ev_kAf, ev_kOt, ev_kOf, ev_kN, ev_eand, ev_eor, ev_enot, ev_kEAt, ev_kEAf, ev_kEOt, ev_kEOf, ev_kEN, ev_eif, ev_kEIt, ev_kEIf, ev_anil, ev_acons, ev_ka1, ev_ka2, ev_tup, ev_lst, ev_call, ev_kCa, ev_seq, ev_kSn, ev_kSr, ev_kSb, ev_kSc, ev_nx, ev_bk, ev_ct, ev_ret, ev_kRt, ev_retN, ev_if, ev_kIt, ev_kIf, ev_x, ev_kX, ev_asg, ev_kAs, ev_kAs2, ev_gN, ev_gT, ev_gT3, ev_gIx, ev_kG1, ev_kG2, ev_kG3, ev_kFr, ev_kFn, ev_for, ev_kFo, ev_mt, ev_kMt2, ev_ms, ev_kMs1, ev_sl, ev_kSl1, ev_kSl2, ev_kSl3, ev_noPart, ev_part, ev_kPt, ev_rng1, ev_istr, ev_kIS, ev_ilst, ev_kILr, ev_lc, ev_kLc, ev_kLc2, ev_yes, ev_irev, List.getElem?_cons_zero, List.getElem?_cons_succ, List.set_cons_zero, List.set_cons_succ, v_addI, v_sub, v_neg, v_lt, v_le, v_gt, v_ge, v_eqI, v_neI, v_eqS, v_neS, v_neB, v_eqB, v_lenT, v_lenR, v_max, v_min, kmw, pp, it, kmf, ap]
    · rw [set_get gf1, List.map_append]; rfl
    · rw [List.append_nil]; exact (Kp.set f _).get gw1 (by simpa using Ne.symm hfw)
  cases s with
  | nou => exact leaf _ rfl
  | «let» _ => exact leaf _ rfl
  | @bin s i j a b hs sa sb =>
    have it : ∀ h, bIsi [.tup [.str s, a, b], .ty "tuple"] h = some (.bl true, h) := fun h => rfl
    have ap : fAppend (.loc f) [.str s] h1 = some (.non, h1.set f (.lst (fs.map A.str ++ [.str s]))) := v_append gf1 (by omega)
    obtain ⟨h2, eh2⟩ : ∃ h2, h2 = h1.set f (.lst (fs.map A.str ++ [.str s])) := ⟨_, rfl⟩
    rw [← eh2] at ap
    have gf2 : h2[f]? = some (.lst (fs.map A.str ++ [.str s])) := by rw [eh2]; exact set_get gf1
    have K2 : Kp [f] h1 h2 := by rw [eh2]; exact Kp.set _ _
    have gw2 := K2.get gw1 (by simpa using Ne.symm hfw)
    have kmw2 : ∀ (F : A → List A → AHp → Rs A) (ms : MA) (τ : ASt), kMt1 F ms τ (.loc w, h2) = (ms τ h2).bind (kMt2 F (.loc w)) := fun F ms τ => ev_kMt1 gw2
    have ap2 : fAppend (.loc w) [b] h2 = some (.non, h2.set w (.lst (ws ++ [b]))) := v_append gw2 (by omega)
    obtain ⟨h3, eh3⟩ : ∃ h3, h3 = h2.set w (.lst (ws ++ [b])) := ⟨_, rfl⟩
    rw [← eh3] at ap2
    have gw3 : h3[w]? = some (.lst (ws ++ [b])) := by rw [eh3]; exact set_get gw2
    have K3 : Kp [w] h2 h3 := by rw [eh3]; exact Kp.set _ _
    have gf3 := K3.get gf2 (by simpa using hfw)
    have kmw3 : ∀ (F : A → List A → AHp → Rs A) (ms : MA) (τ : ASt), kMt1 F ms τ (.loc w, h3) = (ms τ h3).bind (kMt2 F (.loc w)) := fun F ms τ => ev_kMt1 gw3
    have ap3 : fAppend (.loc w) [a] h3 = some (.non, h3.set w (.lst (ws ++ [b] ++ [a]))) := v_append gw3 (by simp; omega)
    refine ⟨[some (.tup [.str s, a, b]), some (.str s), some a, some b], h3.set w (.lst (ws ++ [b] ++ [a])), [b, a], [s], ?_, rfl, ?_, ?_, ?_, by rw [sz_3]; simp; omega, by rw [words_3]; simp, by simp, rfl, ?_⟩
    · simp only [l1_words, ev_bind, ev_op, ev_k1, ev_k2, ev_C, ev_var, ev_kVar, ev_un, ev_ku, ev_chain, ev_kc1, ev_kc2, ev_kc3t, ev_kc3f, ev_tru, ev_kTrb, ev_kTri, ev_B, ev_kB, ev_and, ev_or, ev_not, ev_kAt, ev_kAf, ev_kOt, ev_kOf, ev_kN, ev_eand, ev_eor, ev_enot, ev_kEAt, ev_kEAf, ev_kEOt, ev_kEOf, ev_kEN, ev_eif, ev_kEIt, ev_kEIf, ev_anil, ev_acons, ev_ka1, ev_ka2, ev_tup, ev_lst, ev_call, ev_kCa, ev_seq, ev_kSn, ev_kSr, ev_kSb, ev_kSc, ev_nx, ev_bk, ev_ct, ev_ret, ev_kRt, ev_retN, ev_if, ev_kIt, ev_kIf, ev_x, ev_kX, ev_asg, ev_kAs, ev_kAs2, ev_gN, ev_gT, ev_gT3, ev_gIx, ev_kG1, ev_kG2, ev_kG3, ev_kFr, ev_kFn, ev_for, ev_kFo, ev_mt, ev_kMt2, ev_ms, ev_kMs1, ev_sl, ev_kSl1, ev_kSl2, ev_kSl3, ev_noPart, ev_part, ev_kPt, ev_rng1, ev_istr, ev_kIS, ev_ilst, ev_kILr, ev_lc, ev_kLc, ev_kLc2, ev_yes, ev_irev, List.getElem?_cons_zero, List.getElem?_cons_succ, List.set_cons_zero, List.set_cons_succ, v_addI, v_sub, v_neg, v_lt, v_le, v_gt, v_ge, v_eqI, v_neI, v_eqS, v_neS, v_neB, v_eqB, v_lenT, v_lenR, v_max, v_min, kmw, pp, it, kmf, ap, kmw2, ap2, kmw3, ap3]
    · rw [List.map_append]; exact (Kp.set w _).get gf3 (by simpa using hfw)
    · rw [set_get gw3]; simp
    · exact ((K1'.trans (K2.more (by simp))).trans (K3.more (by simp))).trans ((Kp.set w _).more (by simp))
    · intro y hy
      simp only [List.mem_cons, List.not_mem_nil, or_false] at hy
      rcases hy with rfl | rfl
      · exact ⟨_, sb⟩
      · exact ⟨_, sa⟩
theorem words_loop {N : List Str} {f w : Nat} {a0 : A} (hfw : f ≠ w) : ∀ (fuel : Nat) (ws : List A) (fs : List Str) (h : AHp) (r : ASt), r.length = 4 → h[f]? = some (.lst (fs.map A.str)) → h[w]? = some (.lst ws) → (∀ x ∈ ws, ∃ k, Stm N k x) → (ws.map sz).sum < fuel → ws.length + 2 * fuel ≤ 50000 → fs.length + fuel ≤ 50000 →
    ∃ r' h', whileL (mTru (eVar 2)) l1_words fuel (some a0 :: some (.loc f) :: some (.loc w) :: r) h = some (.nx (some a0 :: some (.loc f) :: some (.loc w) :: r'), h') ∧ h'[f]? = some (.lst ((fs ++ ws.reverse.flatMap wordsL).map A.str)) ∧ Kp [f, w] h h' := by
  intro fuel
  induction fuel with
  | zero => intro ws fs h r _ _ _ _ hf; omega
  | succ fuel ih =>
    intro ws fs h r hr gf gw ok hf hl hl2
    have tr : mTru (eVar 2) (some a0 :: some (.loc f) :: some (.loc w) :: r) h = some (!ws.isEmpty, h) := by simp only [ev_bind, ev_op, ev_k1, ev_k2, ev_C, ev_var, ev_kVar, ev_un, ev_ku, ev_chain, ev_kc1, ev_kc2, ev_kc3t, ev_kc3f, ev_tru, ev_kTrb, ev_kTri, ev_B, ev_kB, ev_and, ev_or, ev_not, ev_kAt, ev_kAf, ev_kOt, ev_kOf, ev_kN, ev_eand, ev_eor, ev_enot, ev_kEAt, ev_kEAf, ev_kEOt, ev_kEOf, ev_kEN, ev_eif, ev_kEIt, ev_kEIf, ev_anil, ev_acons, ev_ka1, ev_ka2, ev_tup, ev_lst, ev_call, ev_kCa, ev_seq, ev_kSn, ev_kSr, ev_kSb, ev_kSc, ev_nx, ev_bk, ev_ct, ev_ret, ev_kRt, ev_retN, ev_if, ev_kIt, ev_kIf, ev_x, ev_kX, ev_asg, ev_kAs, ev_kAs2, ev_gN, ev_gT, ev_gT3, ev_gIx, ev_kG1, ev_kG2, ev_kG3, ev_kFr, ev_kFn, ev_for, ev_kFo, ev_mt, ev_kMt2, ev_ms, ev_kMs1, ev_sl, ev_kSl1, ev_kSl2, ev_kSl3, ev_noPart, ev_part, ev_kPt, ev_rng1, ev_istr, ev_kIS, ev_ilst, ev_kILr, ev_lc, ev_kLc, ev_kLc2, ev_yes, ev_irev, List.getElem?_cons_zero, List.getElem?_cons_succ, List.set_cons_zero, List.set_cons_succ, v_addI, v_sub, v_neg, v_lt, v_le, v_gt, v_ge, v_eqI, v_neI, v_eqS, v_neS, v_neB, v_eqB, v_lenT, v_lenR, v_max, v_min, ev_kTrl gw]
    rcases List.eq_nil_or_concat ws with rfl | ⟨init, x, rfl⟩
    · refine ⟨r, h, ?_, by simpa using gf, Kp.refl⟩
      show (mTru (eVar 2) (some a0 :: some (.loc f) :: some (.loc w) :: r) h).bind _ = _
      rw [tr]; rfl
    · have ws' : init.concat x = init ++ [x] := List.concat_eq_append
      rw [ws'] at gw tr ok hf hl ⊢
      have ne : (!(init ++ [x]).isEmpty) = true := by simp
      rw [ne] at tr
      have il : init.length ≤ 50000 := by rw [List.length_append] at hl; omega
      obtain ⟨k, sx⟩ := ok x (by simp)
      obtain ⟨r1, h1, ys, zs, e1, hr1, gf1, gw1, K1, s1, w1, l1, lz, o1⟩ := words_turn (a0 := a0) hr hfw gf gw sx (by omega) il
      have hsum : ((init ++ ys).map sz).sum < fuel := by
        rw [List.map_append, List.sum_append] at hf ⊢
        have : ((List.map sz [x]).sum) = sz x := by simp
        omega
      have okn : ∀ y ∈ init ++ ys, ∃ k, Stm N k y := fun y hy => by
        rcases List.mem_append.mp hy with hy | hy
        · exact ok y (List.mem_append_left _ hy)
        · exact o1 y hy
      obtain ⟨r2, h2, e2, gf2, K2⟩ := ih (init ++ ys) (fs ++ zs) h1 r1 hr1 gf1 gw1 okn hsum (by rw [List.length_append] at hl ⊢; simp at hl; omega) (by rw [List.length_append]; omega)
      refine ⟨r2, h2, ?_, ?_, K1.trans K2⟩
      · show (mTru (eVar 2) (some a0 :: some (.loc f) :: some (.loc w) :: r) h).bind _ = _
        rw [tr, ev_bind]
        show (if true = true then (l1_words (some a0 :: some (.loc f) :: some (.loc w) :: r) h).bind _ else _) = _
        rw [if_pos rfl, e1]
        exact e2
      · rw [gf2]
        congr 3
        rw [List.reverse_append, List.flatMap_append, List.reverse_append, List.flatMap_append, List.append_assoc, ← List.append_assoc zs, w1]
        simp
theorem words_spec {N : List Str} {k : Nat} {a : A} {h : AHp} (s : Stm N k a) (hs : sz a ≤ 10000) : ∃ l h', F_words [a] h = some (.loc l, h') ∧ h.length ≤ l ∧ h'[l]? = some (.lst ((wordsL a).map A.str)) ∧ Kp [] h h' := by
  obtain ⟨h1, a1, g1, K1, n1⟩ := mk_lst [] h (by simp)
  obtain ⟨h2, a2, g2, K2, n2⟩ := mk_lst [a] h1 (by simp)
  obtain ⟨r', h3, e3, g3, K3⟩ := words_loop (N := N) (f := h.length) (w := h1.length) (a0 := a) (by omega) 20000 [a] [] h2 [none, none, none, none] rfl (K2.get g1 (by simp)) g2 (fun x hx => by rw [List.mem_singleton.mp hx]; exact ⟨k, s⟩) (by simp; omega) (by simp) (by simp)
  have e3 := while_more 80000 e3
  refine ⟨h.length, h3, ?_, Nat.le_refl _, by rw [g3]; simp, ?_⟩
  · simp only [ap_words, b_words, ev_bind, ev_op, ev_k1, ev_k2, ev_C, ev_var, ev_kVar, ev_un, ev_ku, ev_chain, ev_kc1, ev_kc2, ev_kc3t, ev_kc3f, ev_tru, ev_kTrb, ev_kTri, ev_B, ev_kB, ev_and, ev_or, ev_not, ev_kAt, ev_kAf, ev_kOt, ev_kOf, ev_kN, ev_eand, ev_eor, ev_enot, ev_kEAt, ev_kEAf, ev_kEOt, ev_kEOf, ev_kEN, ev_eif, ev_kEIt, ev_kEIf, ev_anil, ev_acons, ev_ka1, ev_ka2, ev_tup, ev_lst, ev_call, ev_kCa, ev_seq, ev_kSn, ev_kSr, ev_kSb, ev_kSc, ev_nx, ev_bk, ev_ct, ev_ret, ev_kRt, ev_retN, ev_if, ev_kIt, ev_kIf, ev_x, ev_kX, ev_asg, ev_kAs, ev_kAs2, ev_gN, ev_gT, ev_gT3, ev_gIx, ev_kG1, ev_kG2, ev_kG3, ev_kFr, ev_kFn, ev_for, ev_kFo, ev_mt, ev_kMt2, ev_ms, ev_kMs1, ev_sl, ev_kSl1, ev_kSl2, ev_kSl3, ev_noPart, ev_part, ev_kPt, ev_rng1, ev_istr, ev_kIS, ev_ilst, ev_kILr, ev_lc, ev_kLc, ev_kLc2, ev_yes, ev_irev, List.getElem?_cons_zero, List.getElem?_cons_succ, List.set_cons_zero, List.set_cons_succ, v_addI, v_sub, v_neg, v_lt, v_le, v_gt, v_ge, v_eqI, v_neI, v_eqS, v_neS, v_neB, v_eqB, v_lenT, v_lenR, v_max, v_min, a1, a2, e3]
  · exact kp_drop2 (K1.trans K2) K3 (Nat.le_refl _) (by omega)
end Sw
set_option Elab.async false
set_option linter.all false
set_option maxRecDepth 100000
namespace Sw
open PySem L2 Ab Sh
set_option autoImplicit false
theorem rngq {q : Nat} {h : AHp} (hq : q ≤ 100) : kR1 ([.int q], h) = some (itR 0 q, h) := by
  have := ev_kR1 (h := h) (j := (q : Int)) (by omega)
  rwa [Int.toNat_natCast] at this
theorem lc_lst {l j : Nat} {mt : MT} {me : ME} {τ : ASt} {h : AHp} {xs : List A} {p : A → Bool} {f : A → A} (g : h[l]? = some (.lst xs)) (hl : xs.length ≤ 50000) (hp : ∀ x ∈ xs, mt (τ.set j (some x)) h = some (p x, h)) (hf : ∀ x ∈ xs, p x = true → me (τ.set j (some x)) h = some (f x, h)) :
    lcL (itL l xs.length) j mt me τ xs.length 0 [] h = some ((xs.filter p).map f, h) := by
  have hg : ∀ k (hk : k < xs.length), (itL l xs.length).get k h = some xs[k] := fun k hk => by
    show (lstA (.loc l) h).bind _ = _
    have : lstA (.loc l) h = some xs := by unfold lstA; simp only [g]
    rw [this, ev_bind]
    exact List.getElem?_eq_getElem hk
  have hfin : (itL l xs.length).fin h = true := by
    show (match lstA (.loc l) h with | some ys => decide (ys.length ≤ xs.length) | none => false) = true
    have : lstA (.loc l) h = some xs := by unfold lstA; simp only [g]
    rw [this]; simp
  have key : ∀ m k acc, k + m = xs.length → acc.length ≤ k → lcL (itL l xs.length) j mt me τ m k acc h = some (acc ++ ((xs.drop k).filter p).map f, h) := by
    intro m
    induction m with
    | zero =>
      intro k acc e _
      show (if (itL l xs.length).fin h = true then some (acc, h) else none) = _
      rw [if_pos hfin, List.drop_eq_nil_of_le (by omega)]
      simp
    | succ m ih =>
      intro k acc e ea
      have hk : k < xs.length := by omega
      have hm : xs[k] ∈ xs := List.getElem_mem hk
      show ((itL l xs.length).get k h).bind _ = _
      rw [hg k hk, ev_bind, hp _ hm, ev_bind]
      cases q : p xs[k] with
      | true =>
        show (if true = true then (me _ h).bind _ else _) = _
        rw [if_pos rfl, hf _ hm q, ev_bind]
        show (if acc.length < 100000 then _ else _) = _
        rw [if_pos (by omega), ih (k + 1) _ (by omega) (by simp; omega), List.drop_eq_getElem_cons hk, List.filter_cons, if_pos q, List.map_cons, List.append_assoc]
        rfl
      | false =>
        show (if false = true then _ else lcL (itL l xs.length) j mt me τ m (k + 1) acc h) = _
        rw [if_neg Bool.false_ne_true, ih (k + 1) _ (by omega) (by omega), List.drop_eq_getElem_cons hk, List.filter_cons, if_neg (by rw [q]; exact Bool.false_ne_true)]
  rw [key xs.length 0 [] (by omega) (Nat.le_refl _)]
  simp
end Sw
set_option Elab.async false
set_option linter.all false
set_option maxRecDepth 100000
namespace Sw
open PySem L2 Ab Sh
set_option autoImplicit false
inductive TrD : Nat → A → Prop where
  | str {d : Nat} {x : Str} : PyData.strOk x = true → TrD d (.str x)
  | tup {d : Nat} {xs : List A} : (∀ x ∈ xs, TrD d x) → TrD (d + 1) (.tup xs)
theorem TrD.deep {d e : Nat} {a : A} (h : TrD d a) (q : d ≤ e) : TrD e a := by
  induction h generalizing e with
  | str h => exact .str h
  | @tup d xs _ ih =>
    obtain ⟨e', rfl⟩ : ∃ e', e = e' + 1 := ⟨e - 1, by omega⟩
    exact .tup fun x hx => ih x hx (by omega)
theorem strOk_low {x : Str} (h : Low x) : PyData.strOk x = true := by
  unfold PyData.strOk
  rw [← Array.all_toList]
  refine List.all_eq_true.mpr fun c m => ?_
  have := h c m
  exact decide_eq_true (by omega)
theorem stm_tr {N : List Str} (hN : ∀ x ∈ N, IsLet x) {k : Nat} {a : A} (s : Stm N k a) : TrD k a := by
  induction s with
  | nou => exact .str (by decide +kernel)
  | «let» hx => exact .str (strOk_low (hN _ hx).low)
  | @bin s i j a b hs _ _ iha ihb =>
    refine .tup fun x hx => ?_
    simp only [List.mem_cons, List.not_mem_nil, or_false] at hx
    rcases hx with rfl | rfl | rfl
    · exact .str (by rcases hs with rfl | rfl | rfl <;> decide +kernel)
    · exact iha.deep (by omega)
    · exact ihb.deep (by omega)
theorem for_it {it : AIt} {g : MG} {s : MS} {h : AHp} {τ : ASt} (f : Nat → A) (I : Nat → ASt → AHp → Prop) (h0 : I 0 τ h)
    (hs : ∀ i τ h, i < it.n → I i τ h → it.get i h = some (f i) ∧ ∃ τ1 h1 τ2 h2, g (f i) τ h = some (τ1, h1) ∧ s τ1 h1 = some (.nx τ2, h2) ∧ I (i + 1) τ2 h2) (hf : ∀ τ h, I it.n τ h → it.fin h = true) :
    ∃ τ' h', forL it g s it.n 0 τ h = some (.nx τ', h') ∧ I it.n τ' h' := by
  have key : ∀ m k τ h, k + m = it.n → I k τ h → ∃ τ' h', forL it g s m k τ h = some (.nx τ', h') ∧ I it.n τ' h' := by
    intro m
    induction m with
    | zero =>
      intro k τ h e i
      have : k = it.n := by omega
      subst this
      refine ⟨τ, h, ?_, i⟩
      show (if it.fin h = true then some (Fl.nx τ, h) else none) = _
      rw [if_pos (hf τ h i)]
    | succ m ih =>
      intro k τ h e i
      obtain ⟨hg, τ1, h1, τ2, h2, e1, e2, i2⟩ := hs k τ h (by omega) i
      obtain ⟨τ', h', e3, i3⟩ := ih (k + 1) τ2 h2 (by omega) i2
      refine ⟨τ', h', ?_, i3⟩
      show (it.get k h).bind _ = _
      rw [hg, ev_bind, e1, ev_bind, e2, ev_bind]
      exact e3
  exact key it.n 0 τ h (Nat.zero_add _) h0
end Sw
set_option Elab.async false
set_option linter.all false
set_option maxRecDepth 100000
namespace Sd
open PySem L2 Ab Sh Sw
set_option autoImplicit false
mutual
inductive DV (h : AHp) : Nat → A → PyData → Prop
  | str {d : Nat} {x : Str} : PyData.strOk x = true → DV h d (.str x) (.str x)
  | tup {d : Nat} {xs : List A} {ps : List PyData} : DVs h d xs ps → DV h (d + 1) (.tup xs) (.tuple ps)
  | loc {d k : Nat} {xs : List A} {ps : List PyData} : h[k]? = some (.lst xs) → DVs h d xs ps → DV h (d + 1) (.loc k) (.list ps)
inductive DVs (h : AHp) : Nat → List A → List PyData → Prop
  | nil {d : Nat} : DVs h d [] []
  | cons {d : Nat} {a : A} {p : PyData} {xs : List A} {ps : List PyData} : DV h d a p → DVs h d xs ps → DVs h d (a :: xs) (p :: ps)
end
mutual
theorem DV.dat {h : AHp} : ∀ {d : Nat} {a : A} {p : PyData}, DV h d a p → (∀ n, d < n → dat h n a = some p) ∧ p.canLay0 = true ∧ p.depth ≤ d
  | _, _, _, .str hx => ⟨fun n _ => by cases n <;> rfl, by simpa [PyData.canLay0] using hx, by simp [PyData.depth]⟩
  | d + 1, _, _, .tup s => by
    obtain ⟨h1, h2, h3⟩ := DVs.dat s
    refine ⟨fun n hn => ?_, by simpa [PyData.canLay0] using h2, by simp [PyData.depth]; omega⟩
    obtain ⟨n, rfl⟩ : ∃ n', n = n' + 1 := ⟨n - 1, by omega⟩
    show (datL (Ab.dat h n) _).bind _ = _
    rw [h1 n (by omega)]; rfl
  | d + 1, _, _, .loc (k := k) g s => by
    obtain ⟨h1, h2, h3⟩ := DVs.dat s
    refine ⟨fun n hn => ?_, by simpa [PyData.canLay0] using h2, by simp [PyData.depth]; omega⟩
    obtain ⟨n, rfl⟩ : ∃ n', n = n' + 1 := ⟨n - 1, by omega⟩
    show (match h[k]? with
    | some (.lst xs) => (datL (Ab.dat h n) xs).bind fun ds => some (PyData.list ds)
    | _ => none) = _
    rw [g]
    show (datL (Ab.dat h n) _).bind _ = _
    rw [h1 n (by omega)]; rfl
theorem DVs.dat {h : AHp} : ∀ {d : Nat} {a : List A} {p : List PyData}, DVs h d a p → (∀ n, d < n → datL (Ab.dat h n) a = some p) ∧ PyData.canLayAll0 p = true ∧ PyData.depthAll p ≤ d
  | _, _, _, .nil => ⟨fun n _ => rfl, by simp [PyData.canLayAll0], by simp [PyData.depthAll]⟩
  | d, _, _, .cons (a := y) r rs => by
    obtain ⟨e1, c1, d1⟩ := DV.dat r
    obtain ⟨e2, c2, d2⟩ := DVs.dat rs
    refine ⟨fun n hn => ?_, by simp [PyData.canLayAll0, c1, c2], by simp [PyData.depthAll]; omega⟩
    show (Ab.dat h n y).bind _ = _
    rw [e1 n hn, ev_bind, e2 n hn]; rfl
end
mutual
theorem DV.eqv {h h' : AHp} : ∀ {d e : Nat} {a b : A} {p q : PyData}, DV h d a p → DV h' e b q → (PyData.eqv p q = true ↔ p = q)
  | _, _, _, _, _, _, .str hx, .str hy => by unfold PyData.eqv; simp
  | _, _, _, _, _, _, .str _, .tup _ => by unfold PyData.eqv; simp
  | _, _, _, _, _, _, .str _, .loc _ _ => by unfold PyData.eqv; simp
  | _, _, _, _, _, _, .tup _, .str _ => by unfold PyData.eqv; simp
  | _, _, _, _, _, _, .tup s, .tup t => by unfold PyData.eqv; rw [DVs.eqv s t]; simp
  | _, _, _, _, _, _, .tup _, .loc _ _ => by unfold PyData.eqv; simp
  | _, _, _, _, _, _, .loc _ _, .str _ => by unfold PyData.eqv; simp
  | _, _, _, _, _, _, .loc _ _, .tup _ => by unfold PyData.eqv; simp
  | _, _, _, _, _, _, .loc _ s, .loc _ t => by unfold PyData.eqv; rw [DVs.eqv s t]; simp
theorem DVs.eqv {h h' : AHp} : ∀ {d e : Nat} {a b : List A} {p q : List PyData}, DVs h d a p → DVs h' e b q → (PyData.eqvAll p q = true ↔ p = q)
  | _, _, _, _, _, _, .nil, .nil => by unfold PyData.eqvAll; simp
  | _, _, _, _, _, _, .nil, .cons _ _ => by unfold PyData.eqvAll; simp
  | _, _, _, _, _, _, .cons _ _, .nil => by unfold PyData.eqvAll; simp
  | _, _, _, _, _, _, .cons r s, .cons t u => by unfold PyData.eqvAll; rw [Bool.and_eq_true, DV.eqv r t, DVs.eqv s u]; simp
end
theorem DV.seq {h : AHp} {d : Nat} {a : A} {p : PyData} (x : DV h d a p) (hf : flatA a = false) : ∃ y, seqA a h = some y := by
  cases x with
  | str _ => cases hf
  | tup _ => exact ⟨_, rfl⟩
  | @loc d k xs ps g s => exact ⟨(false, xs), by show (match h[k]? with | some (.lst xs) => some (false, xs) | _ => none) = _; rw [g]⟩
theorem eqA_dv {h : AHp} {d e : Nat} {a b : A} {p q : PyData} (x : DV h d a p) (y : DV h e b q) (hd : d ≤ 55) (he : e ≤ 55) : ∃ k, eqA h a b = some k ∧ (k = true ↔ p = q) := by
  have big : flatA a = false → flatA b = false → ∃ k, eqA h a b = some k ∧ (k = true ↔ p = q) := by
    intro fa fb
    obtain ⟨e1, c1, d1⟩ := x.dat
    obtain ⟨e2, c2, d2⟩ := y.dat
    refine ⟨PyData.eqv p q, ?_, x.eqv y⟩
    unfold eqA
    rw [fa, fb, if_neg (by simp), if_neg (by simp), if_neg (by simp)]
    unfold eqD
    rw [e1 60 (by omega), ev_bind, e2 60 (by omega), ev_bind]
    have s1 : SeqAt.shaped p = true := by unfold SeqAt.shaped; rw [c1, decide_eq_true (by omega)]; rfl
    have s2 : SeqAt.shaped q = true := by unfold SeqAt.shaped; rw [c2, decide_eq_true (by omega)]; rfl
    rw [if_pos ⟨s1, s2⟩]
  cases x with
  | @str _ u hx =>
    cases y with
    | @str _ v hy => exact ⟨u == v, rfl, by simp⟩
    | tup s => exact ⟨false, rfl, by simp⟩
    | loc g s =>
      obtain ⟨z, ez⟩ := (DV.loc g s).seq rfl
      refine ⟨false, ?_, by simp⟩
      unfold eqA
      rw [if_neg (by simp [flatA]), if_pos (show flatA (A.str u) = true from rfl), ez]; rfl
  | tup s =>
    cases y with
    | str hy => exact ⟨false, rfl, by simp⟩
    | tup t => exact big rfl rfl
    | loc g t => exact big rfl rfl
  | loc g s =>
    cases y with
    | @str _ v hy =>
      obtain ⟨z, ez⟩ := (DV.loc g s).seq rfl
      refine ⟨false, ?_, by simp⟩
      unfold eqA
      rw [if_neg (by simp [flatA]), if_neg (by simp [flatA]), if_pos (show flatA (A.str v) = true from rfl), ez]; rfl
    | tup t => exact big rfl rfl
    | loc g t => exact big rfl rfl
def pdT : A → PyData
  | .str x => .str x
  | .tup xs => .tuple (xs.attach.map fun x => pdT x.1)
  | _ => .none
termination_by a => sizeOf a
decreasing_by have := List.sizeOf_lt_of_mem x.2; simp_wf; omega
theorem pdT_str (x : Str) : pdT (.str x) = .str x := by rw [pdT]
theorem pdT_tup (xs : List A) : pdT (.tup xs) = .tuple (xs.map pdT) := by rw [pdT]; simp [List.map_attach_eq_pmap]
theorem dvs_map {h : AHp} {d : Nat} : ∀ {xs : List A}, (∀ x ∈ xs, DV h d x (pdT x)) → DVs h d xs (xs.map pdT)
  | [], _ => .nil
  | a :: r, H => .cons (H a (by simp)) (dvs_map fun x hx => H x (by simp [hx]))
theorem tr_dv {h : AHp} {d : Nat} {a : A} (t : TrD d a) : DV h d a (pdT a) := by
  induction t with
  | str hx => rw [pdT_str]; exact .str hx
  | tup _ ih => rw [pdT_tup]; exact .tup (dvs_map ih)
theorem pdT_inj {d : Nat} {a : A} (t : TrD d a) : ∀ {e : Nat} {b : A}, TrD e b → pdT a = pdT b → a = b := by
  induction t with
  | str hx =>
    intro e b s q
    cases s with
    | str _ => rw [pdT_str, pdT_str] at q; cases q; rfl
    | tup _ => rw [pdT_str, pdT_tup] at q; cases q
  | @tup d xs hxs ih =>
    intro e b s q
    cases s with
    | str _ => rw [pdT_str, pdT_tup] at q; cases q
    | @tup e ys hys =>
      rw [pdT_tup, pdT_tup] at q
      injection q with q
      congr 1
      clear hxs
      induction xs generalizing ys with
      | nil => cases ys with
        | nil => rfl
        | cons _ _ => cases q
      | cons x r ihr =>
        cases ys with
        | nil => cases q
        | cons y rs =>
          rw [List.map_cons, List.map_cons] at q
          injection q with q1 q2
          rw [ih x (by simp) (hys y (by simp)) q1, ihr (fun z hz => ih z (by simp [hz])) (fun z hz => hys z (by simp [hz])) q2]
theorem eqA_tr {h : AHp} {d e : Nat} {a b : A} (x : TrD d a) (y : TrD e b) (hd : d ≤ 50) (he : e ≤ 50) : ∃ k, eqA h a b = some k ∧ (k = true ↔ a = b) := by
  obtain ⟨k, e1, e2⟩ := eqA_dv (h := h) (tr_dv x) (tr_dv y) (by omega) (by omega)
  exact ⟨k, e1, e2.trans ⟨pdT_inj x y, fun q => by rw [q]⟩⟩
theorem v_neA {h : AHp} {a b : A} {k : Bool} (e : eqA h a b = some k) : cNe a b h = some (.bl (!k), h) := by
  show (eqA h a b).bind _ = _
  rw [e]; rfl
end Sd
set_option Elab.async false
set_option linter.all false
set_option maxRecDepth 100000
namespace Sp
open PySem L2 Ab Sh Sw So
set_option autoImplicit false
theorem v_callC {e : Expr} {ns : List Str} {G : List A → MF} {i j : Nat} {ms : MA} {τ : ASt} {h : AHp} {p : List A × AHp} {xs : List (Str × A)} (ht : τ[i]? = some (some (.loc j))) (hm : ms τ h = some p) (hc : p.2[j]? = some (.clo e xs)) (hn : xs.map Prod.fst = ns) : eCallC e ns G i ms τ h = G (xs.map Prod.snd) p.1 p.2 := by
  unfold eCallC
  simp only [ht, hm, Option.bind_some, hc]
  rw [if_pos ⟨trivial, hn⟩]
theorem get_rev {l : Nat} {ws : List Str} {h : AHp} {k : Nat} {y : Str} {rest : List Str} (g : h[l]? = some (.lst (ws.map A.str))) (hd : ws.reverse.drop k = y :: rest) : (itV l ws.length).get k h = some (.str y) := by
  have hk : k < ws.length := by
    have := congrArg List.length hd
    simp at this; omega
  show (if k < ws.length then (lstA (.loc l) h).bind fun ys => ys[ws.length - 1 - k]? else none) = _
  have hl : lstA (.loc l) h = some (ws.map A.str) := by unfold lstA; simp only [g]
  rw [if_pos hk, hl, ev_bind, List.getElem?_map]
  have e1 : ws.reverse[k]? = some y := by
    have : (ws.reverse.drop k)[0]? = some y := by rw [hd]; rfl
    rw [List.getElem?_drop] at this
    simpa using this
  rw [List.getElem?_reverse hk] at e1
  rw [e1]; rfl
theorem not_sign {y : Str} (h : res y = false) : sgn (.str y) = false := by
  have : res y = (("nought" == y) || sgn (.str y)) := rfl
  rw [this] at h
  exact (Bool.or_eq_false_iff.mp h).2
theorem words_len {N : List Str} {k : Nat} {x : A} (st : Stm N k x) : (wordsL x).length = 2 * k + 1 := by
  induction st with
  | nou => rw [words_str]; rfl
  | «let» _ => rw [words_str]; rfl
  | bin _ _ _ iha ihb => rw [words_3, List.length_cons, List.length_append, iha, ihb]; omega
def IsSg (s : Str) : Prop := s = "and" ∨ s = "or" ∨ s = "gives"
structure Folds (N : List Str) (S : Type) (At : S → AHp → Prop) (Le : S → S → Prop) (Val : S → A → A → Prop) (bd : S → Nat) (c lim n0 : Nat) (bs : List Nat) (G0 G1 : List A → AHp → Rs A) : Prop where
  low : ∀ i ∈ bs, i < n0
  refl : ∀ s, Le s s
  trans : ∀ s1 s2 s3, Le s1 s2 → Le s2 s3 → Le s1 s3
  mono : ∀ s1 s2 a v, Le s1 s2 → Val s1 a v → Val s2 a v
  stab : ∀ s h h', At s h → n0 ≤ h'.length → (∀ i, i < n0 → h'[i]? = h[i]?) → At s h'
  leaf : ∀ s h y, At s h → n0 ≤ h.length → (y ∈ N ∨ y = "nought") → bd s + c ≤ lim → ∃ v h' s', G0 [.str y] h = some (v, h') ∧ At s' h' ∧ Le s s' ∧ bd s' ≤ bd s + c ∧ Val s' (.str y) v ∧ Kp bs h h'
  sign : ∀ s h g a b va vb (i j : Nat), Stm N i a → Stm N j b → i + j ≤ 1000 → At s h → n0 ≤ h.length → IsSg g → Val s a va → Val s b vb → bd s + c ≤ lim → ∃ v h' s', G1 [.str g, va, vb] h = some (v, h') ∧ At s' h' ∧ Le s s' ∧ bd s' ≤ bd s + c ∧ Val s' (.tup [.str g, a, b]) v ∧ Kp bs h h'
section
variable {N : List Str} {S : Type} {At : S → AHp → Prop} {Le : S → S → Prop} {Val : S → A → A → Prop} {bd : S → Nat} {c lim n0 : Nat} {bs : List Nat} {e0 e1 : Expr} {ns0 ns1 : List Str} {G0 G1 : List A → MF} {xs0 xs1 : List (Str × A)} {c0 c1 : Nat}
theorem leaf_turn (F : Folds N S At Le Val bd c lim n0 bs (G0 (xs0.map Prod.snd)) (G1 (xs1.map Prod.snd))) (hc0 : c0 < n0) (hn0 : xs0.map Prod.fst = ns0) {y : Str} {a0 : A} {bl : Nat} {B : List A} {r1 r2 : Option A} {h : AHp} {s : S} (hbl : n0 ≤ bl) (g : h[bl]? = some (.lst B)) (gc : h[c0]? = some (.clo e0 xs0)) (A0 : At s h) (hB : B.length ≤ 50000) (hy : sgn (.str y) = false) (hl : y.length ≤ 1000) (hw : y ∈ N ∨ y = "nought") (hb : bd s + c ≤ lim) :
    ∃ v h' s', l1_folded e0 ns0 G0 e1 ns1 G1 [some a0, some (.loc c0), some (.loc c1), some (.loc bl), some (.str y), r1, r2] h = some (.nx [some a0, some (.loc c0), some (.loc c1), some (.loc bl), some (.str y), r1, r2], h') ∧ h'[bl]? = some (.lst (B ++ [v])) ∧ At s' h' ∧ Le s s' ∧ bd s' ≤ bd s + c ∧ Val s' (.str y) v ∧ Kp (bl :: bs) h h' := by
  have hs := v_inSigns (h := h) (OkA.str (n := 0) (d := 0) hl) LH.zero
  rw [hy] at hs
  have lb := lt_of_get g
  obtain ⟨v, h1, s', e1', A1, L1, b1, V1, K1⟩ := F.leaf s h y A0 (by omega) hw hb
  have km : ∀ (Fn : A → List A → AHp → Rs A) (ms : MA) (τ : ASt), kMt1 Fn ms τ (.loc bl, h) = (ms τ h).bind (kMt2 Fn (.loc bl)) := fun Fn ms τ => ev_kMt1 g
  have nb : bl ∉ bs := fun m => by have := F.low bl m; omega
  have g1 := K1.get g nb
  have ap : fAppend (.loc bl) [v] h1 = some (.non, h1.set bl (.lst (B ++ [v]))) := v_append g1 (by omega)
  have hcall : eCallC e0 ns0 G0 1 (aCons (eVar 4) aNil) [some a0, some (.loc c0), some (.loc c1), some (.loc bl), some (.str y), r1, r2] h = some (v, h1) := (v_callC (p := ([.str y], h)) (xs := xs0) rfl rfl gc hn0).trans e1'
  refine ⟨v, h1.set bl (.lst (B ++ [v])), s', ?_, set_get g1, F.stab _ h1 _ A1 (by rw [List.length_set]; have := K1.1; omega) (fun i hi => by rw [List.getElem?_set_ne (by omega)]), L1, b1, V1, (K1.more (fun i m => List.mem_cons_of_mem _ m)).trans ((Kp.set _ _).more (by simp))⟩
  simp only [l1_folded, ev_bind, ev_op, ev_k1, ev_k2, ev_C, ev_var, ev_kVar, ev_un, ev_ku, ev_chain, ev_kc1, ev_kc2, ev_kc3t, ev_kc3f, ev_tru, ev_kTrb, ev_kTri, ev_B, ev_kB, ev_and, ev_or, ev_not, ev_kAt, ev_kAf, ev_kOt, ev_kOf, ev_kN, ev_eand, ev_eor, ev_enot, ev_kEAt, ev_kEAf, ev_kEOt, ev_kEOf, ev_kEN, ev_eif, ev_kEIt, ev_kEIf, ev_anil, ev_acons, ev_ka1, ev_ka2, ev_tup, ev_lst, ev_call, ev_kCa, ev_seq, ev_kSn, ev_kSr, ev_kSb, ev_kSc, ev_nx, ev_bk, ev_ct, ev_ret, ev_kRt, ev_retN, ev_if, ev_kIt, ev_kIf, ev_x, ev_kX, ev_asg, ev_kAs, ev_kAs2, ev_gN, ev_gT, ev_gT3, ev_gIx, ev_kG1, ev_kG2, ev_kG3, ev_kFr, ev_kFn, ev_for, ev_kFo, ev_mt, ev_kMt2, ev_ms, ev_kMs1, ev_sl, ev_kSl1, ev_kSl2, ev_kSl3, ev_noPart, ev_part, ev_kPt, ev_rng1, ev_istr, ev_kIS, ev_ilst, ev_kILr, ev_lc, ev_kLc, ev_kLc2, ev_yes, ev_irev, List.getElem?_cons_zero, List.getElem?_cons_succ, List.set_cons_zero, List.set_cons_succ, v_addI, v_sub, v_neg, v_lt, v_le, v_gt, v_ge, v_eqI, v_neI, v_eqS, v_neS, v_neB, v_eqB, v_lenT, v_lenR, v_max, v_min, hs, km, hcall, ap]
theorem sign_turn (F : Folds N S At Le Val bd c lim n0 bs (G0 (xs0.map Prod.snd)) (G1 (xs1.map Prod.snd))) (hc1 : c1 < n0) (hn1 : xs1.map Prod.fst = ns1) {y : Str} {a0 a b va vb : A} {bl : Nat} {B : List A} {r1 r2 : Option A} {h : AHp} {s : S} (hbl : n0 ≤ bl) (hcb : c1 ∉ bs) (g : h[bl]? = some (.lst (B ++ [vb] ++ [va]))) (gc : h[c1]? = some (.clo e1 xs1)) (A0 : At s h) (hB : B.length ≤ 50000) (hg : IsSg y) (hy : sgn (.str y) = true) (hl : y.length ≤ 1000) {si sj : Nat} (sa : Stm N si a) (sb : Stm N sj b) (hij : si + sj ≤ 1000) (Va : Val s a va) (Vb : Val s b vb) (hb : bd s + c ≤ lim) :
    ∃ v h' s' r1' r2', l1_folded e0 ns0 G0 e1 ns1 G1 [some a0, some (.loc c0), some (.loc c1), some (.loc bl), some (.str y), r1, r2] h = some (.nx [some a0, some (.loc c0), some (.loc c1), some (.loc bl), some (.str y), r1', r2'], h') ∧ h'[bl]? = some (.lst (B ++ [v])) ∧ At s' h' ∧ Le s s' ∧ bd s' ≤ bd s + c ∧ Val s' (.tup [.str y, a, b]) v ∧ Kp (bl :: bs) h h' := by
  have hs := v_inSigns (h := h) (OkA.str (n := 0) (d := 0) hl) LH.zero
  rw [hy] at hs
  have lb := lt_of_get g
  have km : ∀ (Fn : A → List A → AHp → Rs A) (ms : MA) (τ : ASt), kMt1 Fn ms τ (.loc bl, h) = (ms τ h).bind (kMt2 Fn (.loc bl)) := fun Fn ms τ => ev_kMt1 g
  obtain ⟨h1, eh1⟩ : ∃ h1, h1 = h.set bl (.lst (B ++ [vb])) := ⟨_, rfl⟩
  have p1 : fPop (.loc bl) [] h = some (va, h1) := by rw [eh1]; exact v_pop g
  have g1 : h1[bl]? = some (.lst (B ++ [vb])) := by rw [eh1]; exact set_get g
  have K1 : Kp [bl] h h1 := by rw [eh1]; exact Kp.set _ _
  have km1 : ∀ (Fn : A → List A → AHp → Rs A) (ms : MA) (τ : ASt), kMt1 Fn ms τ (.loc bl, h1) = (ms τ h1).bind (kMt2 Fn (.loc bl)) := fun Fn ms τ => ev_kMt1 g1
  obtain ⟨h2, eh2⟩ : ∃ h2, h2 = h1.set bl (.lst B) := ⟨_, rfl⟩
  have p2 : fPop (.loc bl) [] h1 = some (vb, h2) := by rw [eh2]; exact v_pop g1
  have g2 : h2[bl]? = some (.lst B) := by rw [eh2]; exact set_get g1
  have K2 : Kp [bl] h1 h2 := by rw [eh2]; exact Kp.set _ _
  have km2 : ∀ (Fn : A → List A → AHp → Rs A) (ms : MA) (τ : ASt), kMt1 Fn ms τ (.loc bl, h2) = (ms τ h2).bind (kMt2 Fn (.loc bl)) := fun Fn ms τ => ev_kMt1 g2
  have K12 := K1.trans K2
  have A2 : At s h2 := F.stab _ h _ A0 (by have := K12.1; omega) fun i hi => K12.2 i (by omega) (by simp; omega)
  obtain ⟨v, h3, s', e3, A3, L3, b3, V3, K3⟩ := F.sign s h2 y a b va vb si sj sa sb hij A2 (by have := K12.1; omega) hg Va Vb hb
  have nb : bl ∉ bs := fun m => by have := F.low bl m; omega
  have g3 := K3.get g2 nb
  have ap : fAppend (.loc bl) [v] h3 = some (.non, h3.set bl (.lst (B ++ [v]))) := v_append g3 (by omega)
  have gc2 : h2[c1]? = some (.clo e1 xs1) := K12.get gc (by simp; omega)
  have hcall : eCallC e1 ns1 G1 2 (aCons (eVar 4) (aCons (eVar 5) (aCons (eVar 6) aNil))) [some a0, some (.loc c0), some (.loc c1), some (.loc bl), some (.str y), some va, some vb] h2 = some (v, h3) := (v_callC (p := ([.str y, va, vb], h2)) (xs := xs1) rfl rfl gc2 hn1).trans e3
  refine ⟨v, h3.set bl (.lst (B ++ [v])), s', some va, some vb, ?_, set_get g3, F.stab _ h3 _ A3 (by rw [List.length_set]; have := K12.1; have := K3.1; omega) (fun i hi => by rw [List.getElem?_set_ne (by omega)]), L3, b3, V3, (K12.more (by simp)).trans ((K3.more (fun i m => List.mem_cons_of_mem _ m)).trans ((Kp.set _ _).more (by simp)))⟩
  simp only [l1_folded, ev_bind, ev_op, ev_k1, ev_k2, ev_C, ev_var, ev_kVar, ev_un, ev_ku, ev_chain, ev_kc1, ev_kc2, ev_kc3t, ev_kc3f, ev_tru, ev_kTrb, ev_kTri, ev_B, ev_kB, ev_and, ev_or, ev_not, ev_kAt, ev_kAf, ev_kOt, ev_kOf, ev_kN, ev_eand, ev_eor, ev_enot, ev_kEAt, ev_kEAf, ev_kEOt, ev_kEOf, ev_kEN, ev_eif, ev_kEIt, ev_kEIf, ev_anil, ev_acons, ev_ka1, ev_ka2, ev_tup, ev_lst, ev_call, ev_kCa, ev_seq, ev_kSn, ev_kSr, ev_kSb, ev_kSc, ev_nx, ev_bk, ev_ct, ev_ret, ev_kRt, ev_retN, ev_if, ev_kIt, ev_kIf, ev_x, ev_kX, ev_asg, ev_kAs, ev_kAs2, ev_gN, ev_gT, ev_gT3, ev_gIx, ev_kG1, ev_kG2, ev_kG3, ev_kFr, ev_kFn, ev_for, ev_kFo, ev_mt, ev_kMt2, ev_ms, ev_kMs1, ev_sl, ev_kSl1, ev_kSl2, ev_kSl3, ev_noPart, ev_part, ev_kPt, ev_rng1, ev_istr, ev_kIS, ev_ilst, ev_kILr, ev_lc, ev_kLc, ev_kLc2, ev_yes, ev_irev, List.getElem?_cons_zero, List.getElem?_cons_succ, List.set_cons_zero, List.set_cons_succ, v_addI, v_sub, v_neg, v_lt, v_le, v_gt, v_ge, v_eqI, v_neI, v_eqS, v_neS, v_neB, v_eqB, v_lenT, v_lenR, v_max, v_min, hs, km, p1, km1, p2, km2, hcall, ap]
theorem fold_seg (hN : ∀ x ∈ N, IsLet x) (F : Folds N S At Le Val bd c lim n0 bs (G0 (xs0.map Prod.snd)) (G1 (xs1.map Prod.snd))) (hc0 : c0 < n0) (hc1 : c1 < n0) (hb0 : c0 ∉ bs) (hb1 : c1 ∉ bs) (hn0 : xs0.map Prod.fst = ns0) (hn1 : xs1.map Prod.fst = ns1) {a0 : A} {bl l : Nat} {ws : List Str} (hbl : n0 ≤ bl) (hl0 : n0 ≤ l) (hne : l ≠ bl) {k : Nat} {x : A} (st : Stm N k x) : k ≤ 1000 → ∀ (q m : Nat) (B : List A) (rest : List Str) (w r1 r2 : Option A) (h : AHp) (s : S), h[l]? = some (.lst (ws.map A.str)) → h[bl]? = some (.lst B) → h[c0]? = some (.clo e0 xs0) → h[c1]? = some (.clo e1 xs1) → At s h → ws.reverse.drop q = (wordsL x).reverse ++ rest → B.length + (wordsL x).length ≤ 40000 → bd s + c * (wordsL x).length ≤ lim →
    ∃ (w' r1' r2' : Option A) (h' : AHp) (s' : S) (v : A), forL (itV l ws.length) (gN 4) (l1_folded e0 ns0 G0 e1 ns1 G1) ((wordsL x).length + m) q [some a0, some (.loc c0), some (.loc c1), some (.loc bl), w, r1, r2] h = forL (itV l ws.length) (gN 4) (l1_folded e0 ns0 G0 e1 ns1 G1) m (q + (wordsL x).length) [some a0, some (.loc c0), some (.loc c1), some (.loc bl), w', r1', r2'] h' ∧ h'[bl]? = some (.lst (B ++ [v])) ∧ h'[l]? = some (.lst (ws.map A.str)) ∧ At s' h' ∧ Le s s' ∧ bd s' ≤ bd s + c * (wordsL x).length ∧ Val s' x v ∧ Kp (bl :: bs) h h' := by
  have lbs : l ∉ bl :: bs := fun m => by
    rcases List.mem_cons.mp m with m | m
    · exact hne m
    · have := F.low l m; omega
  have cbs0 : c0 ∉ bl :: bs := fun m => by
    rcases List.mem_cons.mp m with m | m
    · omega
    · exact hb0 m
  have cbs1 : c1 ∉ bl :: bs := fun m => by
    rcases List.mem_cons.mp m with m | m
    · omega
    · exact hb1 m
  have step : ∀ (m q : Nat) (y : Str) (τ τ2 : ASt) (h h2 : AHp), (itV l ws.length).get q h = some (.str y) → l1_folded e0 ns0 G0 e1 ns1 G1 (τ.set 4 (some (.str y))) h = some (.nx τ2, h2) → forL (itV l ws.length) (gN 4) (l1_folded e0 ns0 G0 e1 ns1 G1) (m + 1) q τ h = forL (itV l ws.length) (gN 4) (l1_folded e0 ns0 G0 e1 ns1 G1) m (q + 1) τ2 h2 := by
    intro m q y τ τ2 h h2 e1 e2
    show ((itV l ws.length).get q h).bind _ = _
    rw [e1, ev_bind, ev_gN, ev_bind, e2, ev_bind]
  have leaf : ∀ (y : Str), (y ∈ N ∨ y = "nought") → res y = false ∨ y = "nought" → y.length ≤ 1000 → ∀ (q m : Nat) (B : List A) (rest : List Str) (w r1 r2 : Option A) (h : AHp) (s : S), h[l]? = some (.lst (ws.map A.str)) → h[bl]? = some (.lst B) → h[c0]? = some (.clo e0 xs0) → h[c1]? = some (.clo e1 xs1) → At s h → ws.reverse.drop q = (wordsL (.str y)).reverse ++ rest → B.length + (wordsL (.str y)).length ≤ 40000 → bd s + c * (wordsL (.str y)).length ≤ lim →
      ∃ (w' r1' r2' : Option A) (h' : AHp) (s' : S) (v : A), forL (itV l ws.length) (gN 4) (l1_folded e0 ns0 G0 e1 ns1 G1) ((wordsL (.str y)).length + m) q [some a0, some (.loc c0), some (.loc c1), some (.loc bl), w, r1, r2] h = forL (itV l ws.length) (gN 4) (l1_folded e0 ns0 G0 e1 ns1 G1) m (q + (wordsL (.str y)).length) [some a0, some (.loc c0), some (.loc c1), some (.loc bl), w', r1', r2'] h' ∧ h'[bl]? = some (.lst (B ++ [v])) ∧ h'[l]? = some (.lst (ws.map A.str)) ∧ At s' h' ∧ Le s s' ∧ bd s' ≤ bd s + c * (wordsL (.str y)).length ∧ Val s' (.str y) v ∧ Kp (bl :: bs) h h' := by
    intro y hw hy hl q m B rest w r1 r2 h s gl gb g0 g1 A0 hd hB hb
    rw [words_str] at hd hB hb ⊢
    have hg := get_rev gl hd
    have sg : sgn (.str y) = false := by
      rcases hy with hy | rfl
      · exact not_sign hy
      · decide +kernel
    have l1 : ([y] : List Str).length = 1 := rfl
    rw [l1, Nat.mul_one] at hb ⊢
    rw [l1] at hB
    obtain ⟨v, h', s', t1, g', A', L', b', V', K'⟩ := leaf_turn (c1 := c1) (e1 := e1) (ns1 := ns1) F hc0 hn0 (a0 := a0) (r1 := r1) (r2 := r2) hbl gb g0 A0 (by omega) sg hl hw hb
    refine ⟨some (.str y), r1, r2, h', s', v, ?_, g', K'.get gl lbs, A', L', b', V', K'⟩
    rw [show 1 + m = m + 1 by omega]
    exact step m q y _ _ h h' hg t1
  induction st with
  | nou => exact fun _ => leaf _ (.inr rfl) (.inr rfl) (by decide +kernel)
  | «let» hx => exact fun _ => leaf _ (.inl hx) (.inl (hN _ hx).nr) (by have := (hN _ hx).hi; omega)
  | @bin sg i j la ra hs sa sb iha ihb =>
    intro hkk q m B rest w r1 r2 h s gl gb g0 g1 A0 hd hB hb
    rw [words_3] at hd hB hb ⊢
    rw [List.length_cons, List.length_append] at hB hb
    rw [Nat.mul_add, Nat.mul_add, Nat.mul_one] at hb
    have hd1 : ws.reverse.drop q = (wordsL ra).reverse ++ ((wordsL la).reverse ++ ([sg] ++ rest)) := by rw [hd]; simp
    obtain ⟨w1, q1, q2, h1, s1, v1, t1, gb1, gl1, A1, L1, b1, V1, K1⟩ := ihb (by omega) q ((wordsL la).length + (1 + m)) B _ w r1 r2 h s gl gb g0 g1 A0 hd1 (by omega) (by omega)
    have hd2 : ws.reverse.drop (q + (wordsL ra).length) = (wordsL la).reverse ++ ([sg] ++ rest) := by
      rw [← List.drop_drop, hd1, List.drop_left' (by simp)]
    obtain ⟨w2, q3, q4, h2, s2, v2, t2, gb2, gl2, A2, L2, b2, V2, K2⟩ := iha (by omega) (q + (wordsL ra).length) (1 + m) (B ++ [v1]) _ w1 q1 q2 h1 s1 gl1 gb1 (K1.get g0 cbs0) (K1.get g1 cbs1) A1 hd2 (by simp; omega) (by omega)
    have hd3 : ws.reverse.drop (q + (wordsL ra).length + (wordsL la).length) = sg :: rest := by
      rw [← List.drop_drop, hd2, List.drop_left' (by simp)]; rfl
    have hg := get_rev gl2 hd3
    have sgn' : sgn (.str sg) = true := by rcases hs with rfl | rfl | rfl <;> decide +kernel
    have sl : sg.length ≤ 1000 := by rcases hs with rfl | rfl | rfl <;> decide +kernel
    obtain ⟨v, h3, s3, r1', r2', t3, g3, A3, L3, b3, V3, K3⟩ := sign_turn (c0 := c0) (e0 := e0) (ns0 := ns0) F hc1 hn1 (a0 := a0) (r1 := q3) (r2 := q4) hbl hb1 gb2 ((K1.trans K2).get g1 cbs1) A2 (by omega) hs sgn' sl sa sb (by omega) V2 (F.mono _ _ _ _ L2 V1) (by omega)
    refine ⟨some (.str sg), r1', r2', h3, s3, v, ?_, g3, K3.get gl2 lbs, A3, F.trans _ _ _ (F.trans _ _ _ L1 L2) L3, ?_, V3, (K1.trans K2).trans K3⟩
    · rw [show (sg :: (wordsL la ++ wordsL ra)).length + m = (wordsL ra).length + ((wordsL la).length + (1 + m)) by simp; omega, t1, t2, show 1 + m = m + 1 by omega, step m _ sg [some a0, some (.loc c0), some (.loc c1), some (.loc bl), w2, q3, q4] _ h2 h3 hg t3]
      congr 1
      simp; omega
    · rw [List.length_cons, List.length_append, Nat.mul_add, Nat.mul_add, Nat.mul_one]; omega
theorem folded_spec (hN : ∀ x ∈ N, IsLet x) {k : Nat} {x : A} {h : AHp} {s : S} (F : Folds N S At Le Val bd c lim h.length bs (G0 (xs0.map Prod.snd)) (G1 (xs1.map Prod.snd))) (hb0 : c0 ∉ bs) (hb1 : c1 ∉ bs) (hn0 : xs0.map Prod.fst = ns0) (hn1 : xs1.map Prod.fst = ns1) (g0 : h[c0]? = some (.clo e0 xs0)) (g1 : h[c1]? = some (.clo e1 xs1)) (st : Stm N k x) (hk : k ≤ 1000) (A0 : At s h) (hb : bd s + c * (2 * k + 1) ≤ lim) :
    ∃ v h' s', F_folded e0 ns0 G0 e1 ns1 G1 [x, .loc c0, .loc c1] h = some (v, h') ∧ At s' h' ∧ Le s s' ∧ bd s' ≤ bd s + c * (2 * k + 1) ∧ Val s' x v ∧ Kp bs h h' := by
  obtain ⟨_, _, hz⟩ := stm_ok hN st
  obtain ⟨h1, a1, gg1, K1, n1⟩ := mk_lst [] h (by simp)
  obtain ⟨l, h2, e2, l2, g2, K2⟩ := words_spec (h := h1) st (by omega)
  have il : kIV ([.loc l], h2) = some (itV l ((wordsL x).map A.str).length, h2) := ev_kIV g2
  rw [List.length_map] at il
  have hw := words_len st
  have K12 : Kp [] h h2 := K1.trans K2
  have A2 : At s h2 := F.stab _ h _ A0 K12.1 fun i hi => K12.2 i hi (by simp)
  obtain ⟨w', q1, q2, h3, s3, v, e3, g3, gl3, A3, L3, b3, V3, K3⟩ := fold_seg hN F (lt_of_get g0) (lt_of_get g1) hb0 hb1 hn0 hn1 (a0 := x) (bl := h.length) (l := l) (ws := wordsL x) (Nat.le_refl _) (by omega) (by omega) st hk 0 0 [] [] none none none h2 s g2 (K2.get gg1 (by simp)) (K12.get g0 (by simp)) (K12.get g1 (by simp)) A2 (by simp) (by simp; omega) (by rw [hw]; omega)
  have e4 : forL (itV l (wordsL x).length) (gN 4) (l1_folded e0 ns0 G0 e1 ns1 G1) (wordsL x).length 0 [some x, some (.loc c0), some (.loc c1), some (.loc h.length), none, none, none] h2 = some (.nx [some x, some (.loc c0), some (.loc c1), some (.loc h.length), w', q1, q2], h3) := by
    rw [show (wordsL x).length + 0 = (wordsL x).length by omega] at e3
    rw [e3]; rfl
  have nv : (itV l (wordsL x).length).n = (wordsL x).length := rfl
  rw [List.nil_append] at g3
  have km : ∀ (Fn : A → List A → AHp → Rs A) (ms : MA) (τ : ASt), kMt1 Fn ms τ (.loc h.length, h3) = (ms τ h3).bind (kMt2 Fn (.loc h.length)) := fun Fn ms τ => ev_kMt1 g3
  have pp : fPop (.loc h.length) [] h3 = some (v, h3.set h.length (.lst [])) := v_pop (xs := []) g3
  refine ⟨v, h3.set h.length (.lst []), s3, ?_, F.stab _ h3 _ A3 (by rw [List.length_set]; have := K12.1; have := K3.1; omega) (fun i hi => by rw [List.getElem?_set_ne (by omega)]), L3, by rw [hw] at b3; exact b3, V3, ?_⟩
  · simp only [ap_folded, b_folded, ev_bind, ev_op, ev_k1, ev_k2, ev_C, ev_var, ev_kVar, ev_un, ev_ku, ev_chain, ev_kc1, ev_kc2, ev_kc3t, ev_kc3f, ev_tru, ev_kTrb, ev_kTri, ev_B, ev_kB, ev_and, ev_or, ev_not, ev_kAt, ev_kAf, ev_kOt, ev_kOf, ev_kN, ev_eand, ev_eor, ev_enot, ev_kEAt, ev_kEAf, ev_kEOt, ev_kEOf, ev_kEN, ev_eif, ev_kEIt, ev_kEIf, ev_anil, ev_acons, ev_ka1, ev_ka2, ev_tup, ev_lst, ev_call, ev_kCa, ev_seq, ev_kSn, ev_kSr, ev_kSb, ev_kSc, ev_nx, ev_bk, ev_ct, ev_ret, ev_kRt, ev_retN, ev_if, ev_kIt, ev_kIf, ev_x, ev_kX, ev_asg, ev_kAs, ev_kAs2, ev_gN, ev_gT, ev_gT3, ev_gIx, ev_kG1, ev_kG2, ev_kG3, ev_kFr, ev_kFn, ev_for, ev_kFo, ev_mt, ev_kMt2, ev_ms, ev_kMs1, ev_sl, ev_kSl1, ev_kSl2, ev_kSl3, ev_noPart, ev_part, ev_kPt, ev_rng1, ev_istr, ev_kIS, ev_ilst, ev_kILr, ev_lc, ev_kLc, ev_kLc2, ev_yes, ev_irev, List.getElem?_cons_zero, List.getElem?_cons_succ, List.set_cons_zero, List.set_cons_succ, v_addI, v_sub, v_neg, v_lt, v_le, v_gt, v_ge, v_eqI, v_neI, v_eqS, v_neS, v_neB, v_eqB, v_lenT, v_lenR, v_max, v_min, a1, e2, il, nv, e4, km, pp]
  · exact K12.nil.drop (w := h.length) (K3.trans ((Kp.set _ _).more (by simp))) (Nat.le_refl _)
end
end Sp
set_option Elab.async false
set_option linter.all false
set_option maxRecDepth 100000
namespace K47
open PySem L2 Ab Sh Sw So Sp Sd
set_option autoImplicit false
section
variable {U : Nat → Addr} {hf : MK → Int} {L : Nat → Expr}
def tv (f : Str → Bool) : A → Bool
  | .tup [.str s, a, b] => if s = "and" then tv f a && tv f b else if s = "or" then tv f a || tv f b else tv f b || !tv f a
  | .str x => f x
  | _ => false
termination_by a => sizeOf a
decreasing_by all_goals (simp_wf; omega)
theorem tv_3 (f : Str → Bool) (s : Str) (a b : A) : tv f (.tup [.str s, a, b]) = if s = "and" then tv f a && tv f b else if s = "or" then tv f a || tv f b else tv f b || !tv f a := by rw [tv]
theorem tv_s (f : Str → Bool) (x : Str) : tv f (.str x) = f x := by rw [tv]
def gv (kvs : List (MK × A)) (x : Str) : Bool := match findA kvs (.inl x) with
  | some (.bl b) => b
  | _ => false
theorem find_bl {kvs : List (MK × A)} (st : strKv kvs = true) (x : Str) : (findA kvs (.inl x)).getD (.bl false) = .bl (gv kvs x) := by
  unfold gv
  cases e : findA kvs (.inl x) with
  | none => rfl
  | some v =>
    unfold findA at e
    obtain ⟨y, hy, ev⟩ := Option.map_eq_some_iff.mp e
    obtain ⟨_, b, eb⟩ := kv_both st y (List.mem_of_find?_eq_some hy)
    rw [← ev, eb]; rfl
def gN0 (kvs : List (MK × A)) (x : Str) : Bool := !(x == "nought") && gv kvs x
theorem tbs_spec {s : Str} {a b : Bool} {h : AHp} (hs : s = "and" ∨ s = "or" ∨ s = "gives") : F_truth_by_sign [.str s, .bl a, .bl b] h = some (.bl (if s = "and" then a && b else if s = "or" then a || b else b || !a), h) := by
  have n1 : ("or" : Str) ≠ "and" := by decide +kernel
  have n2 : ("gives" : Str) ≠ "and" := by decide +kernel
  have n3 : ("gives" : Str) ≠ "or" := by decide +kernel
  have b1 : (("or" : Str) == "and") = false := by decide +kernel
  have b2 : (("gives" : Str) == "and") = false := by decide +kernel
  have b3 : (("gives" : Str) == "or") = false := by decide +kernel
  rcases hs with rfl | rfl | rfl
  · rw [if_pos rfl]
    cases a <;> simp only [ap_truth_by_sign, b_truth_by_sign, ev_bind, ev_op, ev_k1, ev_k2, ev_C, ev_var, ev_kVar, ev_un, ev_ku, ev_chain, ev_kc1, ev_kc2, ev_kc3t, ev_kc3f, ev_tru, ev_kTrb, ev_kTri, ev_B, ev_kB, ev_and, ev_or, ev_not, ev_kAt, ev_kAf, ev_kOt, ev_kOf, ev_kN, ev_eand, ev_eor, ev_enot, ev_kEAt, ev_kEAf, ev_kEOt, ev_kEOf, ev_kEN, ev_eif, ev_kEIt, ev_kEIf, ev_anil, ev_acons, ev_ka1, ev_ka2, ev_tup, ev_lst, ev_call, ev_kCa, ev_seq, ev_kSn, ev_kSr, ev_kSb, ev_kSc, ev_nx, ev_bk, ev_ct, ev_ret, ev_kRt, ev_retN, ev_if, ev_kIt, ev_kIf, ev_x, ev_kX, ev_asg, ev_kAs, ev_kAs2, ev_gN, ev_gT, ev_gT3, ev_gIx, ev_kG1, ev_kG2, ev_kG3, ev_kFr, ev_kFn, ev_for, ev_kFo, ev_mt, ev_kMt2, ev_ms, ev_kMs1, ev_sl, ev_kSl1, ev_kSl2, ev_kSl3, ev_noPart, ev_part, ev_kPt, ev_rng1, ev_istr, ev_kIS, ev_ilst, ev_kILr, ev_lc, ev_kLc, ev_kLc2, ev_yes, ev_irev, ev_ienum, ev_izip, ev_inD, ev_getD, ev_kInD, ev_kGetD, ev_fld, ev_mth, ev_kMe2, ev_sfld, ev_kSf1, ev_make, ev_aug, ev_kAu1, ev_kAu2, ev_kAu3, List.getElem?_cons_zero, List.getElem?_cons_succ, List.set_cons_zero, List.set_cons_succ, v_addI, v_sub, v_neg, v_lt, v_le, v_gt, v_ge, v_eqI, v_neI, v_eqS, v_neS, v_neB, v_eqB, v_lenT, v_lenR, v_max, v_min, beq_self_eq_true, Bool.true_and, Bool.false_and]
  · rw [if_neg n1, if_pos rfl]
    cases a <;> simp only [ap_truth_by_sign, b_truth_by_sign, ev_bind, ev_op, ev_k1, ev_k2, ev_C, ev_var, ev_kVar, ev_un, ev_ku, ev_chain, ev_kc1, ev_kc2, ev_kc3t, ev_kc3f, ev_tru, ev_kTrb, ev_kTri, ev_B, ev_kB, ev_and, ev_or, ev_not, ev_kAt, ev_kAf, ev_kOt, ev_kOf, ev_kN, ev_eand, ev_eor, ev_enot, ev_kEAt, ev_kEAf, ev_kEOt, ev_kEOf, ev_kEN, ev_eif, ev_kEIt, ev_kEIf, ev_anil, ev_acons, ev_ka1, ev_ka2, ev_tup, ev_lst, ev_call, ev_kCa, ev_seq, ev_kSn, ev_kSr, ev_kSb, ev_kSc, ev_nx, ev_bk, ev_ct, ev_ret, ev_kRt, ev_retN, ev_if, ev_kIt, ev_kIf, ev_x, ev_kX, ev_asg, ev_kAs, ev_kAs2, ev_gN, ev_gT, ev_gT3, ev_gIx, ev_kG1, ev_kG2, ev_kG3, ev_kFr, ev_kFn, ev_for, ev_kFo, ev_mt, ev_kMt2, ev_ms, ev_kMs1, ev_sl, ev_kSl1, ev_kSl2, ev_kSl3, ev_noPart, ev_part, ev_kPt, ev_rng1, ev_istr, ev_kIS, ev_ilst, ev_kILr, ev_lc, ev_kLc, ev_kLc2, ev_yes, ev_irev, ev_ienum, ev_izip, ev_inD, ev_getD, ev_kInD, ev_kGetD, ev_fld, ev_mth, ev_kMe2, ev_sfld, ev_kSf1, ev_make, ev_aug, ev_kAu1, ev_kAu2, ev_kAu3, List.getElem?_cons_zero, List.getElem?_cons_succ, List.set_cons_zero, List.set_cons_succ, v_addI, v_sub, v_neg, v_lt, v_le, v_gt, v_ge, v_eqI, v_neI, v_eqS, v_neS, v_neB, v_eqB, v_lenT, v_lenR, v_max, v_min, b1, beq_self_eq_true, Bool.true_or, Bool.false_or]
  · rw [if_neg n2, if_neg n3]
    cases b <;> simp only [ap_truth_by_sign, b_truth_by_sign, ev_bind, ev_op, ev_k1, ev_k2, ev_C, ev_var, ev_kVar, ev_un, ev_ku, ev_chain, ev_kc1, ev_kc2, ev_kc3t, ev_kc3f, ev_tru, ev_kTrb, ev_kTri, ev_B, ev_kB, ev_and, ev_or, ev_not, ev_kAt, ev_kAf, ev_kOt, ev_kOf, ev_kN, ev_eand, ev_eor, ev_enot, ev_kEAt, ev_kEAf, ev_kEOt, ev_kEOf, ev_kEN, ev_eif, ev_kEIt, ev_kEIf, ev_anil, ev_acons, ev_ka1, ev_ka2, ev_tup, ev_lst, ev_call, ev_kCa, ev_seq, ev_kSn, ev_kSr, ev_kSb, ev_kSc, ev_nx, ev_bk, ev_ct, ev_ret, ev_kRt, ev_retN, ev_if, ev_kIt, ev_kIf, ev_x, ev_kX, ev_asg, ev_kAs, ev_kAs2, ev_gN, ev_gT, ev_gT3, ev_gIx, ev_kG1, ev_kG2, ev_kG3, ev_kFr, ev_kFn, ev_for, ev_kFo, ev_mt, ev_kMt2, ev_ms, ev_kMs1, ev_sl, ev_kSl1, ev_kSl2, ev_kSl3, ev_noPart, ev_part, ev_kPt, ev_rng1, ev_istr, ev_kIS, ev_ilst, ev_kILr, ev_lc, ev_kLc, ev_kLc2, ev_yes, ev_irev, ev_ienum, ev_izip, ev_inD, ev_getD, ev_kInD, ev_kGetD, ev_fld, ev_mth, ev_kMe2, ev_sfld, ev_kSf1, ev_make, ev_aug, ev_kAu1, ev_kAu2, ev_kAu3, List.getElem?_cons_zero, List.getElem?_cons_succ, List.set_cons_zero, List.set_cons_succ, v_addI, v_sub, v_neg, v_lt, v_le, v_gt, v_ge, v_eqI, v_neI, v_eqS, v_neS, v_neB, v_eqB, v_lenT, v_lenR, v_max, v_min, b2, b3, Bool.true_or, Bool.false_or]
theorem true_folds {N : List Str} {n0 d : Nat} {kvs : List (MK × A)} (hd : d < n0) (st : strKv kvs = true) : Folds N Unit (fun _ h => h[d]? = some (.dic hf kvs)) (fun _ _ => True) (fun _ a v => v = .bl (tv (gN0 kvs) a)) (fun _ => 0) 0 0 n0 [] (G_is_true_0 U hf L [.loc d]) (G_is_true_1 U hf L []) where
  low := fun i m => absurd m (by simp)
  refl := fun _ => trivial
  trans := fun _ _ _ _ _ => trivial
  mono := fun _ _ _ _ _ v => v
  stab := fun _ h h' g _ k => by show h'[d]? = _; rw [k d hd]; exact g
  leaf := fun s h y g _ hw _ => by
    refine ⟨.bl (tv (gN0 kvs) (.str y)), h, (), ?_, g, trivial, Nat.le_refl _, rfl, Kp.refl⟩
    have eg : eGetM hf (eVar 0) (aCons (eVar 1) (aCons (eC (.bl false)) aNil)) [some (.loc d), some (.str y)] h = some (.bl (gv kvs y), h) := by
      rw [ev_getM (n := d) (kvs := kvs) (x := y) (v := .bl false) (h2 := h) (by simp only [ev_bind, ev_op, ev_k1, ev_k2, ev_C, ev_var, ev_kVar, ev_un, ev_ku, ev_chain, ev_kc1, ev_kc2, ev_kc3t, ev_kc3f, ev_tru, ev_kTrb, ev_kTri, ev_B, ev_kB, ev_and, ev_or, ev_not, ev_kAt, ev_kAf, ev_kOt, ev_kOf, ev_kN, ev_eand, ev_eor, ev_enot, ev_kEAt, ev_kEAf, ev_kEOt, ev_kEOf, ev_kEN, ev_eif, ev_kEIt, ev_kEIf, ev_anil, ev_acons, ev_ka1, ev_ka2, ev_tup, ev_lst, ev_call, ev_kCa, ev_seq, ev_kSn, ev_kSr, ev_kSb, ev_kSc, ev_nx, ev_bk, ev_ct, ev_ret, ev_kRt, ev_retN, ev_if, ev_kIt, ev_kIf, ev_x, ev_kX, ev_asg, ev_kAs, ev_kAs2, ev_gN, ev_gT, ev_gT3, ev_gIx, ev_kG1, ev_kG2, ev_kG3, ev_kFr, ev_kFn, ev_for, ev_kFo, ev_mt, ev_kMt2, ev_ms, ev_kMs1, ev_sl, ev_kSl1, ev_kSl2, ev_kSl3, ev_noPart, ev_part, ev_kPt, ev_rng1, ev_istr, ev_kIS, ev_ilst, ev_kILr, ev_lc, ev_kLc, ev_kLc2, ev_yes, ev_irev, ev_ienum, ev_izip, ev_inD, ev_getD, ev_kInD, ev_kGetD, ev_fld, ev_mth, ev_kMe2, ev_sfld, ev_kSf1, ev_make, ev_aug, ev_kAu1, ev_kAu2, ev_kAu3, List.getElem?_cons_zero, List.getElem?_cons_succ, List.set_cons_zero, List.set_cons_succ, v_addI, v_sub, v_neg, v_lt, v_le, v_gt, v_ge, v_eqI, v_neI, v_eqS, v_neS, v_neB, v_eqB, v_lenT, v_lenR, v_max, v_min]) g (by simp only [ev_bind, ev_op, ev_k1, ev_k2, ev_C, ev_var, ev_kVar, ev_un, ev_ku, ev_chain, ev_kc1, ev_kc2, ev_kc3t, ev_kc3f, ev_tru, ev_kTrb, ev_kTri, ev_B, ev_kB, ev_and, ev_or, ev_not, ev_kAt, ev_kAf, ev_kOt, ev_kOf, ev_kN, ev_eand, ev_eor, ev_enot, ev_kEAt, ev_kEAf, ev_kEOt, ev_kEOf, ev_kEN, ev_eif, ev_kEIt, ev_kEIf, ev_anil, ev_acons, ev_ka1, ev_ka2, ev_tup, ev_lst, ev_call, ev_kCa, ev_seq, ev_kSn, ev_kSr, ev_kSb, ev_kSc, ev_nx, ev_bk, ev_ct, ev_ret, ev_kRt, ev_retN, ev_if, ev_kIt, ev_kIf, ev_x, ev_kX, ev_asg, ev_kAs, ev_kAs2, ev_gN, ev_gT, ev_gT3, ev_gIx, ev_kG1, ev_kG2, ev_kG3, ev_kFr, ev_kFn, ev_for, ev_kFo, ev_mt, ev_kMt2, ev_ms, ev_kMs1, ev_sl, ev_kSl1, ev_kSl2, ev_kSl3, ev_noPart, ev_part, ev_kPt, ev_rng1, ev_istr, ev_kIS, ev_ilst, ev_kILr, ev_lc, ev_kLc, ev_kLc2, ev_yes, ev_irev, ev_ienum, ev_izip, ev_inD, ev_getD, ev_kInD, ev_kGetD, ev_fld, ev_mth, ev_kMe2, ev_sfld, ev_kSf1, ev_make, ev_aug, ev_kAu1, ev_kAu2, ev_kAu3, List.getElem?_cons_zero, List.getElem?_cons_succ, List.set_cons_zero, List.set_cons_succ, v_addI, v_sub, v_neg, v_lt, v_le, v_gt, v_ge, v_eqI, v_neI, v_eqS, v_neS, v_neB, v_eqB, v_lenT, v_lenR, v_max, v_min]) g, find_bl st]
    have cn : c_NOUGHT = .str "nought" := rfl
    rw [gp_is_true_0, tv_s]
    unfold gN0
    cases q : (y == "nought") with
    | true => simp only [bl_is_true_0, ev_bind, ev_op, ev_k1, ev_k2, ev_C, ev_var, ev_kVar, ev_un, ev_ku, ev_chain, ev_kc1, ev_kc2, ev_kc3t, ev_kc3f, ev_tru, ev_kTrb, ev_kTri, ev_B, ev_kB, ev_and, ev_or, ev_not, ev_kAt, ev_kAf, ev_kOt, ev_kOf, ev_kN, ev_eand, ev_eor, ev_enot, ev_kEAt, ev_kEAf, ev_kEOt, ev_kEOf, ev_kEN, ev_eif, ev_kEIt, ev_kEIf, ev_anil, ev_acons, ev_ka1, ev_ka2, ev_tup, ev_lst, ev_call, ev_kCa, ev_seq, ev_kSn, ev_kSr, ev_kSb, ev_kSc, ev_nx, ev_bk, ev_ct, ev_ret, ev_kRt, ev_retN, ev_if, ev_kIt, ev_kIf, ev_x, ev_kX, ev_asg, ev_kAs, ev_kAs2, ev_gN, ev_gT, ev_gT3, ev_gIx, ev_kG1, ev_kG2, ev_kG3, ev_kFr, ev_kFn, ev_for, ev_kFo, ev_mt, ev_kMt2, ev_ms, ev_kMs1, ev_sl, ev_kSl1, ev_kSl2, ev_kSl3, ev_noPart, ev_part, ev_kPt, ev_rng1, ev_istr, ev_kIS, ev_ilst, ev_kILr, ev_lc, ev_kLc, ev_kLc2, ev_yes, ev_irev, ev_ienum, ev_izip, ev_inD, ev_getD, ev_kInD, ev_kGetD, ev_fld, ev_mth, ev_kMe2, ev_sfld, ev_kSf1, ev_make, ev_aug, ev_kAu1, ev_kAu2, ev_kAu3, List.getElem?_cons_zero, List.getElem?_cons_succ, List.set_cons_zero, List.set_cons_succ, v_addI, v_sub, v_neg, v_lt, v_le, v_gt, v_ge, v_eqI, v_neI, v_eqS, v_neS, v_neB, v_eqB, v_lenT, v_lenR, v_max, v_min, cn, q, Bool.not_true, Bool.false_and]
    | false => simp only [bl_is_true_0, ev_bind, ev_op, ev_k1, ev_k2, ev_C, ev_var, ev_kVar, ev_un, ev_ku, ev_chain, ev_kc1, ev_kc2, ev_kc3t, ev_kc3f, ev_tru, ev_kTrb, ev_kTri, ev_B, ev_kB, ev_and, ev_or, ev_not, ev_kAt, ev_kAf, ev_kOt, ev_kOf, ev_kN, ev_eand, ev_eor, ev_enot, ev_kEAt, ev_kEAf, ev_kEOt, ev_kEOf, ev_kEN, ev_eif, ev_kEIt, ev_kEIf, ev_anil, ev_acons, ev_ka1, ev_ka2, ev_tup, ev_lst, ev_call, ev_kCa, ev_seq, ev_kSn, ev_kSr, ev_kSb, ev_kSc, ev_nx, ev_bk, ev_ct, ev_ret, ev_kRt, ev_retN, ev_if, ev_kIt, ev_kIf, ev_x, ev_kX, ev_asg, ev_kAs, ev_kAs2, ev_gN, ev_gT, ev_gT3, ev_gIx, ev_kG1, ev_kG2, ev_kG3, ev_kFr, ev_kFn, ev_for, ev_kFo, ev_mt, ev_kMt2, ev_ms, ev_kMs1, ev_sl, ev_kSl1, ev_kSl2, ev_kSl3, ev_noPart, ev_part, ev_kPt, ev_rng1, ev_istr, ev_kIS, ev_ilst, ev_kILr, ev_lc, ev_kLc, ev_kLc2, ev_yes, ev_irev, ev_ienum, ev_izip, ev_inD, ev_getD, ev_kInD, ev_kGetD, ev_fld, ev_mth, ev_kMe2, ev_sfld, ev_kSf1, ev_make, ev_aug, ev_kAu1, ev_kAu2, ev_kAu3, List.getElem?_cons_zero, List.getElem?_cons_succ, List.set_cons_zero, List.set_cons_succ, v_addI, v_sub, v_neg, v_lt, v_le, v_gt, v_ge, v_eqI, v_neI, v_eqS, v_neS, v_neB, v_eqB, v_lenT, v_lenR, v_max, v_min, cn, q, Bool.not_false, Bool.true_and, eg]
  sign := fun s h g a c va vb i j sa sb hij hg _ hs ha hc _ => by
    subst ha hc
    refine ⟨.bl (tv (gN0 kvs) (.tup [.str g, a, c])), h, (), ?_, hg, trivial, Nat.le_refl _, rfl, Kp.refl⟩
    rw [gp_is_true_1, tv_3]
    simp only [bl_is_true_1, ev_bind, ev_op, ev_k1, ev_k2, ev_C, ev_var, ev_kVar, ev_un, ev_ku, ev_chain, ev_kc1, ev_kc2, ev_kc3t, ev_kc3f, ev_tru, ev_kTrb, ev_kTri, ev_B, ev_kB, ev_and, ev_or, ev_not, ev_kAt, ev_kAf, ev_kOt, ev_kOf, ev_kN, ev_eand, ev_eor, ev_enot, ev_kEAt, ev_kEAf, ev_kEOt, ev_kEOf, ev_kEN, ev_eif, ev_kEIt, ev_kEIf, ev_anil, ev_acons, ev_ka1, ev_ka2, ev_tup, ev_lst, ev_call, ev_kCa, ev_seq, ev_kSn, ev_kSr, ev_kSb, ev_kSc, ev_nx, ev_bk, ev_ct, ev_ret, ev_kRt, ev_retN, ev_if, ev_kIt, ev_kIf, ev_x, ev_kX, ev_asg, ev_kAs, ev_kAs2, ev_gN, ev_gT, ev_gT3, ev_gIx, ev_kG1, ev_kG2, ev_kG3, ev_kFr, ev_kFn, ev_for, ev_kFo, ev_mt, ev_kMt2, ev_ms, ev_kMs1, ev_sl, ev_kSl1, ev_kSl2, ev_kSl3, ev_noPart, ev_part, ev_kPt, ev_rng1, ev_istr, ev_kIS, ev_ilst, ev_kILr, ev_lc, ev_kLc, ev_kLc2, ev_yes, ev_irev, ev_ienum, ev_izip, ev_inD, ev_getD, ev_kInD, ev_kGetD, ev_fld, ev_mth, ev_kMe2, ev_sfld, ev_kSf1, ev_make, ev_aug, ev_kAu1, ev_kAu2, ev_kAu3, List.getElem?_cons_zero, List.getElem?_cons_succ, List.set_cons_zero, List.set_cons_succ, v_addI, v_sub, v_neg, v_lt, v_le, v_gt, v_ge, v_eqI, v_neI, v_eqS, v_neS, v_neB, v_eqB, v_lenT, v_lenR, v_max, v_min, tbs_spec hs]
theorem is_true_spec {N : List Str} (hN : ∀ x ∈ N, IsLet x) {k d : Nat} {a : A} {h : AHp} {kvs : List (MK × A)} (s : Stm N k a) (hk : k ≤ 1000) (g : h[d]? = some (.dic hf kvs)) (st : strKv kvs = true) : ∃ h', F_is_true U hf L [a, .loc d] h = some (.bl (tv (gN0 kvs) a), h') ∧ Kp [] h h' := by
  obtain ⟨h1, eh1⟩ : ∃ h1, h1 = h ++ [.clo (L 4) [("setting", .loc d)]] := ⟨_, rfl⟩
  have l1 : eLam (L 4) [("setting", 1)] [some a, some (.loc d)] h = some (.loc h.length, h1) := by rw [eh1]; rfl
  have g1 : h1[h.length]? = some (.clo (L 4) [("setting", .loc d)]) := by rw [eh1]; exact app_get _ _
  obtain ⟨h2, eh2⟩ : ∃ h2, h2 = h1 ++ [.clo (L 5) []] := ⟨_, rfl⟩
  have l2 : eLam (L 5) [] [some a, some (.loc d)] h1 = some (.loc h1.length, h2) := by rw [eh2]; rfl
  have g2 : h2[h1.length]? = some (.clo (L 5) []) := by rw [eh2]; exact app_get _ _
  have K2 : Kp [] h1 h2 := by rw [eh2]; exact Kp.app _ _
  have K1 : Kp [] h h1 := by rw [eh1]; exact Kp.app _ _
  have gd : h2[d]? = some (.dic hf kvs) := (K1.trans K2).get g (by simp)
  obtain ⟨v, h', s', e, _, _, _, hv, K⟩ := folded_spec (G0 := G_is_true_0 U hf L) (G1 := G_is_true_1 U hf L) (ns0 := ["setting"]) (ns1 := []) (s := ()) (xs0 := [("setting", .loc d)]) (xs1 := []) hN (true_folds (lt_of_get gd) st) (by simp) (by simp) rfl rfl (K2.get g1 (by simp)) g2 s hk gd (by simp)
  subst hv
  exact ⟨h', by simp only [ap_is_true, b_is_true, ev_bind, ev_op, ev_k1, ev_k2, ev_C, ev_var, ev_kVar, ev_un, ev_ku, ev_chain, ev_kc1, ev_kc2, ev_kc3t, ev_kc3f, ev_tru, ev_kTrb, ev_kTri, ev_B, ev_kB, ev_and, ev_or, ev_not, ev_kAt, ev_kAf, ev_kOt, ev_kOf, ev_kN, ev_eand, ev_eor, ev_enot, ev_kEAt, ev_kEAf, ev_kEOt, ev_kEOf, ev_kEN, ev_eif, ev_kEIt, ev_kEIf, ev_anil, ev_acons, ev_ka1, ev_ka2, ev_tup, ev_lst, ev_call, ev_kCa, ev_seq, ev_kSn, ev_kSr, ev_kSb, ev_kSc, ev_nx, ev_bk, ev_ct, ev_ret, ev_kRt, ev_retN, ev_if, ev_kIt, ev_kIf, ev_x, ev_kX, ev_asg, ev_kAs, ev_kAs2, ev_gN, ev_gT, ev_gT3, ev_gIx, ev_kG1, ev_kG2, ev_kG3, ev_kFr, ev_kFn, ev_for, ev_kFo, ev_mt, ev_kMt2, ev_ms, ev_kMs1, ev_sl, ev_kSl1, ev_kSl2, ev_kSl3, ev_noPart, ev_part, ev_kPt, ev_rng1, ev_istr, ev_kIS, ev_ilst, ev_kILr, ev_lc, ev_kLc, ev_kLc2, ev_yes, ev_irev, ev_ienum, ev_izip, ev_inD, ev_getD, ev_kInD, ev_kGetD, ev_fld, ev_mth, ev_kMe2, ev_sfld, ev_kSf1, ev_make, ev_aug, ev_kAu1, ev_kAu2, ev_kAu3, List.getElem?_cons_zero, List.getElem?_cons_succ, List.set_cons_zero, List.set_cons_succ, v_addI, v_sub, v_neg, v_lt, v_le, v_gt, v_ge, v_eqI, v_neI, v_eqS, v_neS, v_neB, v_eqB, v_lenT, v_lenR, v_max, v_min, l1, l2, e], (K1.trans K2).trans K⟩
end
end K47
set_option Elab.async false
set_option linter.all false
set_option maxRecDepth 100000
namespace K47
open PySem L2 Ab Sh Sw So Sp Sd
set_option autoImplicit false
theorem in_strs {l : Nat} {M : List Str} {y : Str} {h : AHp} (g : h[l]? = some (.lst (M.map A.str))) : cIn (.str y) (.loc l) h = some (.bl (M.any fun z => z == y), h) := by
  rw [v_inL g, anyA_strs]; rfl
theorem law_true_spec {N M : List Str} {l : Nat} {h : AHp} (g : h[l]? = some (.lst (M.map A.str))) : ∀ (fuel k : Nat) (a : A), k < fuel → Stm N k a → F_law_true fuel [a, .loc l] h = some (.bl (tv (fun x => M.any fun z => z == x) a), h) := by
  intro fuel
  induction fuel with
  | zero => intro k a hk; omega
  | succ fuel ih =>
    intro k a hk s
    have leaf : ∀ y : Str, F_law_true (fuel + 1) [.str y, .loc l] h = some (.bl (tv (fun x => M.any fun z => z == x) (.str y)), h) := fun y => by
      have isi : bIsi [.str y, .ty "tuple"] h = some (.bl false, h) := id rfl
      simp only [ap_law_true, b_law_true, ev_bind, ev_op, ev_k1, ev_k2, ev_C, ev_var, ev_kVar, ev_un, ev_ku, ev_chain, ev_kc1, ev_kc2, ev_kc3t, ev_kc3f, ev_tru, ev_kTrb, ev_kTri, ev_B, ev_kB, ev_and, ev_or, ev_not, ev_kAt, ev_kAf, ev_kOt, ev_kOf, ev_kN, ev_eand, ev_eor, ev_enot, ev_kEAt, ev_kEAf, ev_kEOt, ev_kEOf, ev_kEN, ev_eif, ev_kEIt, ev_kEIf, ev_anil, ev_acons, ev_ka1, ev_ka2, ev_tup, ev_lst, ev_call, ev_kCa, ev_seq, ev_kSn, ev_kSr, ev_kSb, ev_kSc, ev_nx, ev_bk, ev_ct, ev_ret, ev_kRt, ev_retN, ev_if, ev_kIt, ev_kIf, ev_x, ev_kX, ev_asg, ev_kAs, ev_kAs2, ev_gN, ev_gT, ev_gT3, ev_gIx, ev_kG1, ev_kG2, ev_kG3, ev_kFr, ev_kFn, ev_for, ev_kFo, ev_mt, ev_kMt2, ev_ms, ev_kMs1, ev_sl, ev_kSl1, ev_kSl2, ev_kSl3, ev_noPart, ev_part, ev_kPt, ev_rng1, ev_istr, ev_kIS, ev_ilst, ev_kILr, ev_lc, ev_kLc, ev_kLc2, ev_yes, ev_irev, ev_ienum, ev_izip, ev_inD, ev_getD, ev_kInD, ev_kGetD, ev_fld, ev_mth, ev_kMe2, ev_sfld, ev_kSf1, ev_make, ev_aug, ev_kAu1, ev_kAu2, ev_kAu3, List.getElem?_cons_zero, List.getElem?_cons_succ, List.set_cons_zero, List.set_cons_succ, v_addI, v_sub, v_neg, v_lt, v_le, v_gt, v_ge, v_eqI, v_neI, v_eqS, v_neS, v_neB, v_eqB, v_lenT, v_lenR, v_max, v_min, isi, Bool.not_false, in_strs g, tv_s]
    cases s with
    | nou => exact leaf _
    | «let» _ => exact leaf _
    | @bin sg i j a b hs sa sb =>
      have isi : bIsi [.tup [.str sg, a, b], .ty "tuple"] h = some (.bl true, h) := id rfl
      have x0 : xIx (.tup [.str sg, a, b]) (.int 0) h = some (.str sg, h) := v_ixT rfl
      have x1 : xIx (.tup [.str sg, a, b]) (.int 1) h = some (a, h) := v_ixT rfl
      have x2 : xIx (.tup [.str sg, a, b]) (.int 2) h = some (b, h) := v_ixT rfl
      have e1 := ih i a (by omega) sa
      have e2 := ih j b (by omega) sb
      have n1 : ("or" : Str) ≠ "and" := by decide +kernel
      have n2 : ("gives" : Str) ≠ "and" := by decide +kernel
      have n3 : ("gives" : Str) ≠ "or" := by decide +kernel
      have b1 : (("or" : Str) == "and") = false := by decide +kernel
      have b2 : (("gives" : Str) == "and") = false := by decide +kernel
      have b3 : (("gives" : Str) == "or") = false := by decide +kernel
      rw [tv_3]
      generalize tv (fun x => M.any fun z => z == x) a = p at e1
      generalize tv (fun x => M.any fun z => z == x) b = q at e2
      rcases hs with rfl | rfl | rfl
      · rw [if_pos rfl]
        cases p <;> simp only [ap_law_true, b_law_true, ev_bind, ev_op, ev_k1, ev_k2, ev_C, ev_var, ev_kVar, ev_un, ev_ku, ev_chain, ev_kc1, ev_kc2, ev_kc3t, ev_kc3f, ev_tru, ev_kTrb, ev_kTri, ev_B, ev_kB, ev_and, ev_or, ev_not, ev_kAt, ev_kAf, ev_kOt, ev_kOf, ev_kN, ev_eand, ev_eor, ev_enot, ev_kEAt, ev_kEAf, ev_kEOt, ev_kEOf, ev_kEN, ev_eif, ev_kEIt, ev_kEIf, ev_anil, ev_acons, ev_ka1, ev_ka2, ev_tup, ev_lst, ev_call, ev_kCa, ev_seq, ev_kSn, ev_kSr, ev_kSb, ev_kSc, ev_nx, ev_bk, ev_ct, ev_ret, ev_kRt, ev_retN, ev_if, ev_kIt, ev_kIf, ev_x, ev_kX, ev_asg, ev_kAs, ev_kAs2, ev_gN, ev_gT, ev_gT3, ev_gIx, ev_kG1, ev_kG2, ev_kG3, ev_kFr, ev_kFn, ev_for, ev_kFo, ev_mt, ev_kMt2, ev_ms, ev_kMs1, ev_sl, ev_kSl1, ev_kSl2, ev_kSl3, ev_noPart, ev_part, ev_kPt, ev_rng1, ev_istr, ev_kIS, ev_ilst, ev_kILr, ev_lc, ev_kLc, ev_kLc2, ev_yes, ev_irev, ev_ienum, ev_izip, ev_inD, ev_getD, ev_kInD, ev_kGetD, ev_fld, ev_mth, ev_kMe2, ev_sfld, ev_kSf1, ev_make, ev_aug, ev_kAu1, ev_kAu2, ev_kAu3, List.getElem?_cons_zero, List.getElem?_cons_succ, List.set_cons_zero, List.set_cons_succ, v_addI, v_sub, v_neg, v_lt, v_le, v_gt, v_ge, v_eqI, v_neI, v_eqS, v_neS, v_neB, v_eqB, v_lenT, v_lenR, v_max, v_min, isi, Bool.not_true, x0, x1, x2, e1, e2, beq_self_eq_true, Bool.true_and, Bool.false_and]
      · rw [if_neg n1, if_pos rfl]
        cases p <;> simp only [ap_law_true, b_law_true, ev_bind, ev_op, ev_k1, ev_k2, ev_C, ev_var, ev_kVar, ev_un, ev_ku, ev_chain, ev_kc1, ev_kc2, ev_kc3t, ev_kc3f, ev_tru, ev_kTrb, ev_kTri, ev_B, ev_kB, ev_and, ev_or, ev_not, ev_kAt, ev_kAf, ev_kOt, ev_kOf, ev_kN, ev_eand, ev_eor, ev_enot, ev_kEAt, ev_kEAf, ev_kEOt, ev_kEOf, ev_kEN, ev_eif, ev_kEIt, ev_kEIf, ev_anil, ev_acons, ev_ka1, ev_ka2, ev_tup, ev_lst, ev_call, ev_kCa, ev_seq, ev_kSn, ev_kSr, ev_kSb, ev_kSc, ev_nx, ev_bk, ev_ct, ev_ret, ev_kRt, ev_retN, ev_if, ev_kIt, ev_kIf, ev_x, ev_kX, ev_asg, ev_kAs, ev_kAs2, ev_gN, ev_gT, ev_gT3, ev_gIx, ev_kG1, ev_kG2, ev_kG3, ev_kFr, ev_kFn, ev_for, ev_kFo, ev_mt, ev_kMt2, ev_ms, ev_kMs1, ev_sl, ev_kSl1, ev_kSl2, ev_kSl3, ev_noPart, ev_part, ev_kPt, ev_rng1, ev_istr, ev_kIS, ev_ilst, ev_kILr, ev_lc, ev_kLc, ev_kLc2, ev_yes, ev_irev, ev_ienum, ev_izip, ev_inD, ev_getD, ev_kInD, ev_kGetD, ev_fld, ev_mth, ev_kMe2, ev_sfld, ev_kSf1, ev_make, ev_aug, ev_kAu1, ev_kAu2, ev_kAu3, List.getElem?_cons_zero, List.getElem?_cons_succ, List.set_cons_zero, List.set_cons_succ, v_addI, v_sub, v_neg, v_lt, v_le, v_gt, v_ge, v_eqI, v_neI, v_eqS, v_neS, v_neB, v_eqB, v_lenT, v_lenR, v_max, v_min, isi, Bool.not_true, x0, x1, x2, e1, e2, b1, beq_self_eq_true, Bool.true_or, Bool.false_or]
      · rw [if_neg n2, if_neg n3]
        cases q <;> simp only [ap_law_true, b_law_true, ev_bind, ev_op, ev_k1, ev_k2, ev_C, ev_var, ev_kVar, ev_un, ev_ku, ev_chain, ev_kc1, ev_kc2, ev_kc3t, ev_kc3f, ev_tru, ev_kTrb, ev_kTri, ev_B, ev_kB, ev_and, ev_or, ev_not, ev_kAt, ev_kAf, ev_kOt, ev_kOf, ev_kN, ev_eand, ev_eor, ev_enot, ev_kEAt, ev_kEAf, ev_kEOt, ev_kEOf, ev_kEN, ev_eif, ev_kEIt, ev_kEIf, ev_anil, ev_acons, ev_ka1, ev_ka2, ev_tup, ev_lst, ev_call, ev_kCa, ev_seq, ev_kSn, ev_kSr, ev_kSb, ev_kSc, ev_nx, ev_bk, ev_ct, ev_ret, ev_kRt, ev_retN, ev_if, ev_kIt, ev_kIf, ev_x, ev_kX, ev_asg, ev_kAs, ev_kAs2, ev_gN, ev_gT, ev_gT3, ev_gIx, ev_kG1, ev_kG2, ev_kG3, ev_kFr, ev_kFn, ev_for, ev_kFo, ev_mt, ev_kMt2, ev_ms, ev_kMs1, ev_sl, ev_kSl1, ev_kSl2, ev_kSl3, ev_noPart, ev_part, ev_kPt, ev_rng1, ev_istr, ev_kIS, ev_ilst, ev_kILr, ev_lc, ev_kLc, ev_kLc2, ev_yes, ev_irev, ev_ienum, ev_izip, ev_inD, ev_getD, ev_kInD, ev_kGetD, ev_fld, ev_mth, ev_kMe2, ev_sfld, ev_kSf1, ev_make, ev_aug, ev_kAu1, ev_kAu2, ev_kAu3, List.getElem?_cons_zero, List.getElem?_cons_succ, List.set_cons_zero, List.set_cons_succ, v_addI, v_sub, v_neg, v_lt, v_le, v_gt, v_ge, v_eqI, v_neI, v_eqS, v_neS, v_neB, v_eqB, v_lenT, v_lenR, v_max, v_min, isi, Bool.not_true, x0, x1, x2, e1, e2, b2, b3, Bool.true_or, Bool.false_or]
theorem tv_same {N M : List Str} {f : Str → Bool} (hN : ∀ x ∈ N, IsLet x) (hM : M = N.filter f) {k : Nat} {a : A} (s : Stm N k a) : tv (fun x => !(x == "nought") && f x) a = tv (fun x => M.any fun z => z == x) a := by
  induction s with
  | nou =>
    rw [tv_s, tv_s]
    have : (M.any fun z => z == "nought") = false := by
      rw [List.any_eq_false]
      intro z hz
      rw [hM] at hz
      have := (hN z (List.mem_filter.mp hz).1).nr
      intro e
      rw [beq_iff_eq.mp e] at this
      exact absurd this (by decide +kernel)
    rw [this, show (("nought" : Str) == "nought") = true by decide +kernel]; rfl
  | @«let» x hx =>
    rw [tv_s, tv_s]
    have n : (x == "nought") = false := by
      rw [beq_eq_false_iff_ne]
      intro e
      have := (hN x hx).nr
      rw [e] at this
      exact absurd this (by decide +kernel)
    rw [n]
    show f x = _
    rw [Bool.eq_iff_iff, List.any_eq_true, hM]
    constructor
    · intro h
      exact ⟨x, List.mem_filter.mpr ⟨hx, h⟩, beq_self_eq_true _⟩
    · rintro ⟨z, hz, e⟩
      rw [← beq_iff_eq.mp e]
      exact (List.mem_filter.mp hz).2
  | bin hs _ _ ih1 ih2 => rw [tv_3, tv_3, ih1, ih2]
section
variable {U : Nat → Addr} {hf : MK → Int} {L : Nat → Expr}
theorem putKv_len {kvs : List (MK × A)} {k : MK} {v : A} : (putKv kvs k v).length ≤ kvs.length + 1 := by
  unfold putKv
  split
  · rw [List.length_map]; omega
  · rw [List.length_append]; simp
theorem setting_spec {b l n : Nat} {N : List Str} {h : AHp} (B : Bag h b n) (hn : n ≤ 900000) (g : h[l]? = some (.lst (N.map A.str))) (hN : N.length ≤ 100) (hbl : l ≠ b) : ∃ d kvs h', F_law_setting U hf L [.loc b, .loc l] h = some (.loc d, h') ∧ h.length ≤ d ∧ h'[d]? = some (.dic hf kvs) ∧ strKv kvs = true ∧ kvs.length ≤ 200 ∧ Kp [b] h h' := by
  have bl := B.lt
  have ll := lt_of_get g
  obtain ⟨h1, eh1⟩ : ∃ h1 : AHp, h1 = h ++ [.dic hf []] := ⟨_, rfl⟩
  have K1 : Kp [] h h1 := by rw [eh1]; exact Kp.app _ _
  have g1 : h1[h.length]? = some (.dic hf []) := by rw [eh1]; exact app_get _ _
  obtain ⟨r, h2, a2, r0, r1, B2, K2, _⟩ := take_spec (B.kp K1 (by simp)) (by omega) (m := 2) (by omega) (by omega)
  have nd : h.length ∉ [b] := by intro z; have := mem1 z; omega
  have nl : l ∉ [b] := fun z => hbl (mem1 z)
  have g2 := K2.get g1 nd
  have d1 : eD1 hf "zz" (eOp cEq (eCall F_law_take (aCons (eVar 0) (aCons (eC (.int 2)) aNil))) (eC (.int 0))) [some (.loc b), some (.loc l), none, none, none] h = some (.loc h.length, h2.set h.length (.dic hf [(.inl "zz", .bl (r == 0))])) := by
    refine ev_d1 ?_ g2
    rw [← eh1]
    simp only [ev_bind, ev_op, ev_k1, ev_k2, ev_C, ev_var, ev_kVar, ev_un, ev_ku, ev_chain, ev_kc1, ev_kc2, ev_kc3t, ev_kc3f, ev_tru, ev_kTrb, ev_kTri, ev_B, ev_kB, ev_and, ev_or, ev_not, ev_kAt, ev_kAf, ev_kOt, ev_kOf, ev_kN, ev_eand, ev_eor, ev_enot, ev_kEAt, ev_kEAf, ev_kEOt, ev_kEOf, ev_kEN, ev_eif, ev_kEIt, ev_kEIf, ev_anil, ev_acons, ev_ka1, ev_ka2, ev_tup, ev_lst, ev_call, ev_kCa, ev_seq, ev_kSn, ev_kSr, ev_kSb, ev_kSc, ev_nx, ev_bk, ev_ct, ev_ret, ev_kRt, ev_retN, ev_if, ev_kIt, ev_kIf, ev_x, ev_kX, ev_asg, ev_kAs, ev_kAs2, ev_gN, ev_gT, ev_gT3, ev_gIx, ev_kG1, ev_kG2, ev_kG3, ev_kFr, ev_kFn, ev_for, ev_kFo, ev_mt, ev_kMt2, ev_ms, ev_kMs1, ev_sl, ev_kSl1, ev_kSl2, ev_kSl3, ev_noPart, ev_part, ev_kPt, ev_rng1, ev_istr, ev_kIS, ev_ilst, ev_kILr, ev_lc, ev_kLc, ev_kLc2, ev_yes, ev_irev, ev_ienum, ev_izip, ev_inD, ev_getD, ev_kInD, ev_kGetD, ev_fld, ev_mth, ev_kMe2, ev_sfld, ev_kSf1, ev_make, ev_aug, ev_kAu1, ev_kAu2, ev_kAu3, List.getElem?_cons_zero, List.getElem?_cons_succ, List.set_cons_zero, List.set_cons_succ, v_addI, v_sub, v_neg, v_lt, v_le, v_gt, v_ge, v_eqI, v_neI, v_eqS, v_neS, v_neB, v_eqB, v_lenT, v_lenR, v_max, v_min, a2]
  obtain ⟨h3, eh3⟩ : ∃ h3, h3 = h2.set h.length (.dic hf [(.inl "zz", .bl (r == 0))]) := ⟨_, rfl⟩
  rw [← eh3] at d1
  have K3 : Kp [h.length] h2 h3 := by rw [eh3]; exact Kp.set _ _
  have g3 : h3[h.length]? = some (.dic hf [(.inl "zz", .bl (r == 0))]) := by rw [eh3]; exact set_get g2
  have nld : l ∉ [h.length] := by intro z; have := mem1 z; omega
  have nbd : b ∉ [h.length] := by intro z; have := mem1 z; omega
  have gl3 : h3[l]? = some (.lst (N.map A.str)) := K3.get (K2.get (K1.get g (by simp)) nl) nld
  have il : kIL (.loc l, h3) = some (itL l (N.map A.str).length, h3) := ev_kILl gl3
  have itn : (itL l (N.map A.str).length).n = (N.map A.str).length := rfl
  have K03 : Kp [h.length, b] h h3 := (K1.nil.trans (K2.more (by simp))).trans (K3.more (by simp))
  obtain ⟨τ, f, e, kvs, s3, s4, rfl, gf, glf, st, kl, Bf, Kf⟩ := for_it (it := itL l (N.map A.str).length) (g := gN 3) (s := l1_law_setting U hf L) (h := h3) (τ := [some (.loc b), some (.loc l), some (.loc h.length), none, none]) (fun i => (N.map A.str)[i]?.getD .non)
    (fun i τ f => ∃ kvs s3 s4, τ = [some (.loc b), some (.loc l), some (.loc h.length), s3, s4] ∧ f[h.length]? = some (.dic hf kvs) ∧ f[l]? = some (.lst (N.map A.str)) ∧ strKv kvs = true ∧ kvs.length ≤ 1 + i ∧ Bag f b (n + 1 + i) ∧ Kp [h.length, b] h f) ⟨_, none, none, rfl, g3, gl3, rfl, by simp, B2.kp K3 nbd, K03⟩ (by
      rintro i τ f hi ⟨kvs, s3, s4, rfl, gf, glf, st, kl, Bf, Kf⟩
      rw [itn, List.length_map] at hi
      have hx : (N.map A.str)[i]?.getD .non = .str N[i] := by
        rw [List.getElem?_map, List.getElem?_eq_getElem hi]; rfl
      rw [hx]
      have hget : (itL l (N.map A.str).length).get i f = some (.str N[i]) := by
        show (lstA (.loc l) f).bind _ = _
        have : lstA (.loc l) f = some (N.map A.str) := by unfold lstA; simp only [glf]
        rw [this, ev_bind, List.getElem?_map, List.getElem?_eq_getElem hi]; rfl
      obtain ⟨r, f1, c1, r0, r1, B1, J1, _⟩ := take_spec Bf (by omega) (m := 5) (by omega) (by omega)
      have gf1 := J1.get gf nd
      have gl1 := J1.get glf nl
      refine ⟨hget, ?_⟩
      cases q : decide (r < 4) with
      | true =>
        have md : oMod (.int r) (.int 2) f1 = some (.int (r % 2), f1) := v_mod (by omega)
        have se := v_setS (x := N[i]) (b := (r % 2 == 0)) gf1 st (by omega)
        refine ⟨_, f, [some (.loc b), some (.loc l), some (.loc h.length), some (.str N[i]), some (.int r)], f1.set h.length (.dic hf (putKv kvs (.inl N[i]) (.bl (r % 2 == 0)))), rfl, ?_, _, _, _, rfl, set_get gf1, (Kp.set _ _).get gl1 nld, putKv_str st, Nat.le_trans putKv_len (by omega), (B1.mono (by omega)).kp (Kp.set _ _) nbd, (Kf.trans (J1.more (by simp))).trans ((Kp.set _ _).more (by simp))⟩
        simp only [List.set_cons_zero, List.set_cons_succ]
        simp only [l1_law_setting, ev_bind, ev_op, ev_k1, ev_k2, ev_C, ev_var, ev_kVar, ev_un, ev_ku, ev_chain, ev_kc1, ev_kc2, ev_kc3t, ev_kc3f, ev_tru, ev_kTrb, ev_kTri, ev_B, ev_kB, ev_and, ev_or, ev_not, ev_kAt, ev_kAf, ev_kOt, ev_kOf, ev_kN, ev_eand, ev_eor, ev_enot, ev_kEAt, ev_kEAf, ev_kEOt, ev_kEOf, ev_kEN, ev_eif, ev_kEIt, ev_kEIf, ev_anil, ev_acons, ev_ka1, ev_ka2, ev_tup, ev_lst, ev_call, ev_kCa, ev_seq, ev_kSn, ev_kSr, ev_kSb, ev_kSc, ev_nx, ev_bk, ev_ct, ev_ret, ev_kRt, ev_retN, ev_if, ev_kIt, ev_kIf, ev_x, ev_kX, ev_asg, ev_kAs, ev_kAs2, ev_gN, ev_gT, ev_gT3, ev_gIx, ev_kG1, ev_kG2, ev_kG3, ev_kFr, ev_kFn, ev_for, ev_kFo, ev_mt, ev_kMt2, ev_ms, ev_kMs1, ev_sl, ev_kSl1, ev_kSl2, ev_kSl3, ev_noPart, ev_part, ev_kPt, ev_rng1, ev_istr, ev_kIS, ev_ilst, ev_kILr, ev_lc, ev_kLc, ev_kLc2, ev_yes, ev_irev, ev_ienum, ev_izip, ev_inD, ev_getD, ev_kInD, ev_kGetD, ev_fld, ev_mth, ev_kMe2, ev_sfld, ev_kSf1, ev_make, ev_aug, ev_kAu1, ev_kAu2, ev_kAu3, List.getElem?_cons_zero, List.getElem?_cons_succ, List.set_cons_zero, List.set_cons_succ, v_addI, v_sub, v_neg, v_lt, v_le, v_gt, v_ge, v_eqI, v_neI, v_eqS, v_neS, v_neB, v_eqB, v_lenT, v_lenR, v_max, v_min, c1, q, md, se]
      | false =>
        refine ⟨_, f, [some (.loc b), some (.loc l), some (.loc h.length), some (.str N[i]), some (.int r)], f1, rfl, ?_, kvs, _, _, rfl, gf1, gl1, st, by omega, B1.mono (by omega), Kf.trans (J1.more (by simp))⟩
        simp only [List.set_cons_zero, List.set_cons_succ]
        simp only [l1_law_setting, ev_bind, ev_op, ev_k1, ev_k2, ev_C, ev_var, ev_kVar, ev_un, ev_ku, ev_chain, ev_kc1, ev_kc2, ev_kc3t, ev_kc3f, ev_tru, ev_kTrb, ev_kTri, ev_B, ev_kB, ev_and, ev_or, ev_not, ev_kAt, ev_kAf, ev_kOt, ev_kOf, ev_kN, ev_eand, ev_eor, ev_enot, ev_kEAt, ev_kEAf, ev_kEOt, ev_kEOf, ev_kEN, ev_eif, ev_kEIt, ev_kEIf, ev_anil, ev_acons, ev_ka1, ev_ka2, ev_tup, ev_lst, ev_call, ev_kCa, ev_seq, ev_kSn, ev_kSr, ev_kSb, ev_kSc, ev_nx, ev_bk, ev_ct, ev_ret, ev_kRt, ev_retN, ev_if, ev_kIt, ev_kIf, ev_x, ev_kX, ev_asg, ev_kAs, ev_kAs2, ev_gN, ev_gT, ev_gT3, ev_gIx, ev_kG1, ev_kG2, ev_kG3, ev_kFr, ev_kFn, ev_for, ev_kFo, ev_mt, ev_kMt2, ev_ms, ev_kMs1, ev_sl, ev_kSl1, ev_kSl2, ev_kSl3, ev_noPart, ev_part, ev_kPt, ev_rng1, ev_istr, ev_kIS, ev_ilst, ev_kILr, ev_lc, ev_kLc, ev_kLc2, ev_yes, ev_irev, ev_ienum, ev_izip, ev_inD, ev_getD, ev_kInD, ev_kGetD, ev_fld, ev_mth, ev_kMe2, ev_sfld, ev_kSf1, ev_make, ev_aug, ev_kAu1, ev_kAu2, ev_kAu3, List.getElem?_cons_zero, List.getElem?_cons_succ, List.set_cons_zero, List.set_cons_succ, v_addI, v_sub, v_neg, v_lt, v_le, v_gt, v_ge, v_eqI, v_neI, v_eqS, v_neS, v_neB, v_eqB, v_lenT, v_lenR, v_max, v_min, c1, q]) (by
      rintro τ f ⟨kvs, s3, s4, rfl, gf, glf, _⟩
      show (match lstA (.loc l) f with | some ys => decide (ys.length ≤ (N.map A.str).length) | none => false) = true
      have : lstA (.loc l) f = some (N.map A.str) := by unfold lstA; simp only [glf]
      rw [this]; simp)
  rw [itn, List.length_map] at kl
  refine ⟨h.length, kvs, f, ?_, Nat.le_refl _, gf, st, by omega, Kp.drop Kp.refl Kf (Nat.le_refl _)⟩
  simp only [ap_law_setting, b_law_setting, ev_bind, ev_op, ev_k1, ev_k2, ev_C, ev_var, ev_kVar, ev_un, ev_ku, ev_chain, ev_kc1, ev_kc2, ev_kc3t, ev_kc3f, ev_tru, ev_kTrb, ev_kTri, ev_B, ev_kB, ev_and, ev_or, ev_not, ev_kAt, ev_kAf, ev_kOt, ev_kOf, ev_kN, ev_eand, ev_eor, ev_enot, ev_kEAt, ev_kEAf, ev_kEOt, ev_kEOf, ev_kEN, ev_eif, ev_kEIt, ev_kEIf, ev_anil, ev_acons, ev_ka1, ev_ka2, ev_tup, ev_lst, ev_call, ev_kCa, ev_seq, ev_kSn, ev_kSr, ev_kSb, ev_kSc, ev_nx, ev_bk, ev_ct, ev_ret, ev_kRt, ev_retN, ev_if, ev_kIt, ev_kIf, ev_x, ev_kX, ev_asg, ev_kAs, ev_kAs2, ev_gN, ev_gT, ev_gT3, ev_gIx, ev_kG1, ev_kG2, ev_kG3, ev_kFr, ev_kFn, ev_for, ev_kFo, ev_mt, ev_kMt2, ev_ms, ev_kMs1, ev_sl, ev_kSl1, ev_kSl2, ev_kSl3, ev_noPart, ev_part, ev_kPt, ev_rng1, ev_istr, ev_kIS, ev_ilst, ev_kILr, ev_lc, ev_kLc, ev_kLc2, ev_yes, ev_irev, ev_ienum, ev_izip, ev_inD, ev_getD, ev_kInD, ev_kGetD, ev_fld, ev_mth, ev_kMe2, ev_sfld, ev_kSf1, ev_make, ev_aug, ev_kAu1, ev_kAu2, ev_kAu3, List.getElem?_cons_zero, List.getElem?_cons_succ, List.set_cons_zero, List.set_cons_succ, v_addI, v_sub, v_neg, v_lt, v_le, v_gt, v_ge, v_eqI, v_neI, v_eqS, v_neS, v_neB, v_eqB, v_lenT, v_lenR, v_max, v_min, d1, il, e]
end
end K47
set_option Elab.async false
set_option linter.all false
set_option maxRecDepth 100000
namespace K47
open PySem L2 Ab Sh Sw So Sp Sd
set_option autoImplicit false
theorem lc_acc {it : AIt} {j : Nat} {me : ME} {τ : ASt} {h : AHp} (f : Nat → A) (I : Nat → List A → AHp → Prop) (h0 : I 0 [] h) (hn : it.n ≤ 50000)
    (hs : ∀ k acc h, k < it.n → I k acc h → it.get k h = some (f k) ∧ ∃ y h', me (τ.set j (some (f k))) h = some (y, h') ∧ I (k + 1) (acc ++ [y]) h') (hf : ∀ acc h, I it.n acc h → it.fin h = true) :
    ∃ (acc : List A) (h' : AHp), lcL it j mYes me τ it.n 0 [] h = some (acc, h') ∧ I it.n acc h' := by
  have key : ∀ m k acc h, k + m = it.n → acc.length ≤ k → I k acc h → ∃ (acc' : List A) (h' : AHp), lcL it j mYes me τ m k acc h = some (acc', h') ∧ I it.n acc' h' := by
    intro m
    induction m with
    | zero =>
      intro k acc h e _ i
      have : k = it.n := by omega
      subst this
      refine ⟨acc, h, ?_, i⟩
      show (if it.fin h = true then some (acc, h) else none) = _
      rw [if_pos (hf acc h i)]
    | succ m ih =>
      intro k acc h e ea i
      obtain ⟨hg, y, h1, e1, i1⟩ := hs k acc h (by omega) i
      obtain ⟨acc', h', e2, i2⟩ := ih (k + 1) (acc ++ [y]) h1 (by omega) (by simp; omega) i1
      refine ⟨acc', h', ?_, i2⟩
      show (it.get k h).bind _ = _
      rw [hg, ev_bind]
      show (mYes _ h).bind _ = _
      rw [ev_yes, ev_bind]
      show (if true = true then (me _ h).bind _ else _) = _
      rw [if_pos rfl, e1, ev_bind]
      show (if acc.length < 100000 then lcL it j mYes me τ m (k + 1) (acc ++ [y]) h1 else _) = _
      rw [if_pos (by omega)]
      exact e2
  exact key it.n 0 [] h (Nat.zero_add _) (Nat.le_refl _) h0
section
variable {U : Nat → Addr} {hf : MK → Int} {L : Nat → Expr}
def SetAt (hf : MK → Int) (h : AHp) (x : A) : Prop := ∃ d kvs, x = .loc d ∧ h[d]? = some (.dic hf kvs) ∧ strKv kvs = true ∧ kvs.length ≤ 200
theorem SetAt.kp {h h' : AHp} {x : A} (s : SetAt hf h x) (K : Kp [] h h') : SetAt hf h' x := by
  obtain ⟨d, kvs, e, g, st, l⟩ := s
  exact ⟨d, kvs, e, K.get g (by simp), st, l⟩
theorem turn_spec {N : List Str} (hN : ∀ x ∈ N, IsLet x) (nl : N.length ≤ 100) {k l : Nat} {a x : A} {h : AHp} {s0 s1 s3 s4 s5 s8 s9 s10 s11 : Option A} (s : Stm N k a) (hk : k ≤ 11) (g : h[l]? = some (.lst (N.map A.str))) (S : SetAt hf h x) :
    ∃ t8 t9 t10 t11 h', l4_law U hf L [s0, s1, some (.loc l), s3, s4, s5, some a, some x, s8, s9, s10, s11] h = some (.nx [s0, s1, some (.loc l), s3, s4, s5, some a, some x, t8, t9, t10, t11], h') ∧ Kp [] h h' := by
  obtain ⟨d, kvs, rfl, gd, st, kl⟩ := S
  have dc := v_dictS gd st (by omega)
  obtain ⟨h1, eh1⟩ : ∃ h1, h1 = h ++ [.dic hf kvs] := ⟨_, rfl⟩
  rw [← eh1] at dc
  have K1 : Kp [] h h1 := by rw [eh1]; exact Kp.app _ _
  have gn1 : h1[h.length]? = some (.dic hf kvs) := by rw [eh1]; exact app_get _ _
  have gd1 := K1.get gd (by simp)
  have gl1 := K1.get g (by simp)
  have il : kIL (.loc l, h1) = some (itL l (N.map A.str).length, h1) := ev_kILl gl1
  have lc := lc_lst (j := 11) (mt := q3_law U hf L) (me := e2_law U hf L) (τ := [s0, s1, some (.loc l), s3, s4, s5, some a, some (.loc d), some (.loc h.length), s9, s10, none]) (p := fun y => match y with | .str x => gv kvs x | _ => false) (f := id) gl1 (by rw [List.length_map]; omega) (by
      intro y hy
      obtain ⟨z, hz, rfl⟩ := List.mem_map.mp hy
      simp only [List.set_cons_zero, List.set_cons_succ]
      have eg : eGetM hf (eVar 7) (aCons (eVar 11) (aCons (eC (.bl false)) aNil)) [s0, s1, some (.loc l), s3, s4, s5, some a, some (.loc d), some (.loc h.length), s9, s10, some (.str z)] h1 = some (.bl (gv kvs z), h1) := by
        rw [ev_getM (n := d) (kvs := kvs) (x := z) (v := .bl false) (h2 := h1) (by simp only [ev_bind, ev_op, ev_k1, ev_k2, ev_C, ev_var, ev_kVar, ev_un, ev_ku, ev_chain, ev_kc1, ev_kc2, ev_kc3t, ev_kc3f, ev_tru, ev_kTrb, ev_kTri, ev_B, ev_kB, ev_and, ev_or, ev_not, ev_kAt, ev_kAf, ev_kOt, ev_kOf, ev_kN, ev_eand, ev_eor, ev_enot, ev_kEAt, ev_kEAf, ev_kEOt, ev_kEOf, ev_kEN, ev_eif, ev_kEIt, ev_kEIf, ev_anil, ev_acons, ev_ka1, ev_ka2, ev_tup, ev_lst, ev_call, ev_kCa, ev_seq, ev_kSn, ev_kSr, ev_kSb, ev_kSc, ev_nx, ev_bk, ev_ct, ev_ret, ev_kRt, ev_retN, ev_if, ev_kIt, ev_kIf, ev_x, ev_kX, ev_asg, ev_kAs, ev_kAs2, ev_gN, ev_gT, ev_gT3, ev_gIx, ev_kG1, ev_kG2, ev_kG3, ev_kFr, ev_kFn, ev_for, ev_kFo, ev_mt, ev_kMt2, ev_ms, ev_kMs1, ev_sl, ev_kSl1, ev_kSl2, ev_kSl3, ev_noPart, ev_part, ev_kPt, ev_rng1, ev_istr, ev_kIS, ev_ilst, ev_kILr, ev_lc, ev_kLc, ev_kLc2, ev_yes, ev_irev, ev_ienum, ev_izip, ev_inD, ev_getD, ev_kInD, ev_kGetD, ev_fld, ev_mth, ev_kMe2, ev_sfld, ev_kSf1, ev_make, ev_aug, ev_kAu1, ev_kAu2, ev_kAu3, List.getElem?_cons_zero, List.getElem?_cons_succ, List.set_cons_zero, List.set_cons_succ, v_addI, v_sub, v_neg, v_lt, v_le, v_gt, v_ge, v_eqI, v_neI, v_eqS, v_neS, v_neB, v_eqB, v_lenT, v_lenR, v_max, v_min]) gd1 (by simp only [ev_bind, ev_op, ev_k1, ev_k2, ev_C, ev_var, ev_kVar, ev_un, ev_ku, ev_chain, ev_kc1, ev_kc2, ev_kc3t, ev_kc3f, ev_tru, ev_kTrb, ev_kTri, ev_B, ev_kB, ev_and, ev_or, ev_not, ev_kAt, ev_kAf, ev_kOt, ev_kOf, ev_kN, ev_eand, ev_eor, ev_enot, ev_kEAt, ev_kEAf, ev_kEOt, ev_kEOf, ev_kEN, ev_eif, ev_kEIt, ev_kEIf, ev_anil, ev_acons, ev_ka1, ev_ka2, ev_tup, ev_lst, ev_call, ev_kCa, ev_seq, ev_kSn, ev_kSr, ev_kSb, ev_kSc, ev_nx, ev_bk, ev_ct, ev_ret, ev_kRt, ev_retN, ev_if, ev_kIt, ev_kIf, ev_x, ev_kX, ev_asg, ev_kAs, ev_kAs2, ev_gN, ev_gT, ev_gT3, ev_gIx, ev_kG1, ev_kG2, ev_kG3, ev_kFr, ev_kFn, ev_for, ev_kFo, ev_mt, ev_kMt2, ev_ms, ev_kMs1, ev_sl, ev_kSl1, ev_kSl2, ev_kSl3, ev_noPart, ev_part, ev_kPt, ev_rng1, ev_istr, ev_kIS, ev_ilst, ev_kILr, ev_lc, ev_kLc, ev_kLc2, ev_yes, ev_irev, ev_ienum, ev_izip, ev_inD, ev_getD, ev_kInD, ev_kGetD, ev_fld, ev_mth, ev_kMe2, ev_sfld, ev_kSf1, ev_make, ev_aug, ev_kAu1, ev_kAu2, ev_kAu3, List.getElem?_cons_zero, List.getElem?_cons_succ, List.set_cons_zero, List.set_cons_succ, v_addI, v_sub, v_neg, v_lt, v_le, v_gt, v_ge, v_eqI, v_neI, v_eqS, v_neS, v_neB, v_eqB, v_lenT, v_lenR, v_max, v_min]) gd1, find_bl st]
      simp only [q3_law, ev_bind, ev_op, ev_k1, ev_k2, ev_C, ev_var, ev_kVar, ev_un, ev_ku, ev_chain, ev_kc1, ev_kc2, ev_kc3t, ev_kc3f, ev_tru, ev_kTrb, ev_kTri, ev_B, ev_kB, ev_and, ev_or, ev_not, ev_kAt, ev_kAf, ev_kOt, ev_kOf, ev_kN, ev_eand, ev_eor, ev_enot, ev_kEAt, ev_kEAf, ev_kEOt, ev_kEOf, ev_kEN, ev_eif, ev_kEIt, ev_kEIf, ev_anil, ev_acons, ev_ka1, ev_ka2, ev_tup, ev_lst, ev_call, ev_kCa, ev_seq, ev_kSn, ev_kSr, ev_kSb, ev_kSc, ev_nx, ev_bk, ev_ct, ev_ret, ev_kRt, ev_retN, ev_if, ev_kIt, ev_kIf, ev_x, ev_kX, ev_asg, ev_kAs, ev_kAs2, ev_gN, ev_gT, ev_gT3, ev_gIx, ev_kG1, ev_kG2, ev_kG3, ev_kFr, ev_kFn, ev_for, ev_kFo, ev_mt, ev_kMt2, ev_ms, ev_kMs1, ev_sl, ev_kSl1, ev_kSl2, ev_kSl3, ev_noPart, ev_part, ev_kPt, ev_rng1, ev_istr, ev_kIS, ev_ilst, ev_kILr, ev_lc, ev_kLc, ev_kLc2, ev_yes, ev_irev, ev_ienum, ev_izip, ev_inD, ev_getD, ev_kInD, ev_kGetD, ev_fld, ev_mth, ev_kMe2, ev_sfld, ev_kSf1, ev_make, ev_aug, ev_kAu1, ev_kAu2, ev_kAu3, List.getElem?_cons_zero, List.getElem?_cons_succ, List.set_cons_zero, List.set_cons_succ, v_addI, v_sub, v_neg, v_lt, v_le, v_gt, v_ge, v_eqI, v_neI, v_eqS, v_neS, v_neB, v_eqB, v_lenT, v_lenR, v_max, v_min, eg]) (by
      intro y hy _
      simp only [List.set_cons_zero, List.set_cons_succ]
      simp only [e2_law, ev_bind, ev_op, ev_k1, ev_k2, ev_C, ev_var, ev_kVar, ev_un, ev_ku, ev_chain, ev_kc1, ev_kc2, ev_kc3t, ev_kc3f, ev_tru, ev_kTrb, ev_kTri, ev_B, ev_kB, ev_and, ev_or, ev_not, ev_kAt, ev_kAf, ev_kOt, ev_kOf, ev_kN, ev_eand, ev_eor, ev_enot, ev_kEAt, ev_kEAf, ev_kEOt, ev_kEOf, ev_kEN, ev_eif, ev_kEIt, ev_kEIf, ev_anil, ev_acons, ev_ka1, ev_ka2, ev_tup, ev_lst, ev_call, ev_kCa, ev_seq, ev_kSn, ev_kSr, ev_kSb, ev_kSc, ev_nx, ev_bk, ev_ct, ev_ret, ev_kRt, ev_retN, ev_if, ev_kIt, ev_kIf, ev_x, ev_kX, ev_asg, ev_kAs, ev_kAs2, ev_gN, ev_gT, ev_gT3, ev_gIx, ev_kG1, ev_kG2, ev_kG3, ev_kFr, ev_kFn, ev_for, ev_kFo, ev_mt, ev_kMt2, ev_ms, ev_kMs1, ev_sl, ev_kSl1, ev_kSl2, ev_kSl3, ev_noPart, ev_part, ev_kPt, ev_rng1, ev_istr, ev_kIS, ev_ilst, ev_kILr, ev_lc, ev_kLc, ev_kLc2, ev_yes, ev_irev, ev_ienum, ev_izip, ev_inD, ev_getD, ev_kInD, ev_kGetD, ev_fld, ev_mth, ev_kMe2, ev_sfld, ev_kSf1, ev_make, ev_aug, ev_kAu1, ev_kAu2, ev_kAu3, List.getElem?_cons_zero, List.getElem?_cons_succ, List.set_cons_zero, List.set_cons_succ, v_addI, v_sub, v_neg, v_lt, v_le, v_gt, v_ge, v_eqI, v_neI, v_eqS, v_neS, v_neB, v_eqB, v_lenT, v_lenR, v_max, v_min]; rfl)
  have fe : ((N.map A.str).filter fun y => match y with | .str x => gv kvs x | _ => false).map id = (N.filter (gv kvs)).map A.str := by
    rw [List.map_id, List.filter_map]; rfl
  rw [fe] at lc
  obtain ⟨h2, eh2⟩ : ∃ h2, h2 = h1 ++ [.lst ((N.filter (gv kvs)).map A.str)] := ⟨_, rfl⟩
  have k2 : kLc2 ((N.filter (gv kvs)).map A.str, h1) = some (.loc h1.length, h2) := by rw [ev_kLc2, eh2]
  have K2 : Kp [] h1 h2 := by rw [eh2]; exact Kp.app _ _
  have gm : h2[h1.length]? = some (.lst ((N.filter (gv kvs)).map A.str)) := by rw [eh2]; exact app_get _ _
  have tr := law_true_spec (N := N) gm 20 k a (by omega) s
  obtain ⟨h3, e3, K3⟩ := is_true_spec (U := U) (L := L) hN s (by omega) (K2.get gn1 (by simp)) st
  have same : tv (gN0 kvs) a = tv (fun x => (N.filter (gv kvs)).any fun z => z == x) a := tv_same hN rfl s
  rw [← same] at tr
  have itn : (itL l (N.map A.str).length).n = (N.map A.str).length := rfl
  have ib : ∀ b, bIsi [.bl b, .ty "bool"] h3 = some (.bl true, h3) := fun b => rfl
  have nb : ∀ b : Bool, cNe (.bl b) (.bl b) h3 = some (.bl false, h3) := fun b => by cases b <;> rfl
  have ns := v_neSS (K3.get (K2.get gn1 (by simp)) (by simp)) (K3.get (K2.get gd1 (by simp)) (by simp)) st
  refine ⟨some (.loc h.length), some (.bl (tv (gN0 kvs) a)), some (.bl (tv (gN0 kvs) a)), s11, h3, ?_, (K1.trans K2).trans K3⟩
  generalize tv (gN0 kvs) a = v at tr e3
  simp only [l4_law, ev_bind, ev_op, ev_k1, ev_k2, ev_C, ev_var, ev_kVar, ev_un, ev_ku, ev_chain, ev_kc1, ev_kc2, ev_kc3t, ev_kc3f, ev_tru, ev_kTrb, ev_kTri, ev_B, ev_kB, ev_and, ev_or, ev_not, ev_kAt, ev_kAf, ev_kOt, ev_kOf, ev_kN, ev_eand, ev_eor, ev_enot, ev_kEAt, ev_kEAf, ev_kEOt, ev_kEOf, ev_kEN, ev_eif, ev_kEIt, ev_kEIf, ev_anil, ev_acons, ev_ka1, ev_ka2, ev_tup, ev_lst, ev_call, ev_kCa, ev_seq, ev_kSn, ev_kSr, ev_kSb, ev_kSc, ev_nx, ev_bk, ev_ct, ev_ret, ev_kRt, ev_retN, ev_if, ev_kIt, ev_kIf, ev_x, ev_kX, ev_asg, ev_kAs, ev_kAs2, ev_gN, ev_gT, ev_gT3, ev_gIx, ev_kG1, ev_kG2, ev_kG3, ev_kFr, ev_kFn, ev_for, ev_kFo, ev_mt, ev_kMt2, ev_ms, ev_kMs1, ev_sl, ev_kSl1, ev_kSl2, ev_kSl3, ev_noPart, ev_part, ev_kPt, ev_rng1, ev_istr, ev_kIS, ev_ilst, ev_kILr, ev_lc, ev_kLc, ev_kLc2, ev_yes, ev_irev, ev_ienum, ev_izip, ev_inD, ev_getD, ev_kInD, ev_kGetD, ev_fld, ev_mth, ev_kMe2, ev_sfld, ev_kSf1, ev_make, ev_aug, ev_kAu1, ev_kAu2, ev_kAu3, List.getElem?_cons_zero, List.getElem?_cons_succ, List.set_cons_zero, List.set_cons_succ, v_addI, v_sub, v_neg, v_lt, v_le, v_gt, v_ge, v_eqI, v_neI, v_eqS, v_neS, v_neB, v_eqB, v_lenT, v_lenR, v_max, v_min, dc, il, itn, lc, k2, tr, e3, ib, nb, ns, Bool.not_true]
end
theorem law_true : ∀ (U : Nat → Addr) (hf : MK → Int) (L : Nat → Expr), ∀ ns : List Int, ns.length ≤ 63 → ∃ h, F_law U hf L [.ro (ns.map A.int)] [] = some (.bl true, h) := by
  intro U hf L ns h63
  obtain ⟨h1, e1, B1, K1, n1⟩ := bag_spec h63 (k := 0) (by omega) []
  have e1 : F_law_bag [.ro (ns.map A.int), .int 0] [] = some (.loc 0, h1) := e1
  obtain ⟨r, h2, e2, r0, r1, B2, K2, _⟩ := take_spec B1 (by omega) (m := 4) (by omega) (by omega)
  have e2 : F_law_take [.loc 0, .int 4] h1 = some (.int r, h2) := e2
  obtain ⟨l, h3, N, e3, l3, g3, N3, nd, L3, B3, K3⟩ := names_spec B2 (by omega) (m := 1 + r.toNat) (by omega) (by omega)
  have e3 : F_law_names [.loc 0, .int (1 + r)] h2 = some (.loc l, h3) := by
    rw [show (1 + r : Int) = ((1 + r.toNat : Nat) : Int) by omega]; exact e3
  have nl : N.length ≤ 100 := by omega
  have q2 : ∀ h, kR1 ([.int 2], h) = some (itR 0 2, h) := fun h => rngq (q := 2) (by omega)
  have q6 : ∀ h, kR1 ([.int 6], h) = some (itR 0 6, h) := fun h => rngq (q := 6) (by omega)
  obtain ⟨acc, h4, e4, al, as4, gl4⟩ := lc_acc (it := itR 0 2) (j := 4) (me := e1_law U hf L) (τ := [some (.ro (ns.map A.int)), some (.loc 0), some (.loc l), none, none, none, none, none, none, none, none, none]) (h := h3) (fun k => .int (k : Nat))
    (fun i acc h => acc.length = i ∧ (∀ x ∈ acc, SetAt hf h x) ∧ h[l]? = some (.lst (N.map A.str))) ⟨rfl, fun x hx => absurd hx (by simp), g3⟩ (by show 2 ≤ 50000; omega) (by
      rintro k acc h hk ⟨al, as, gl⟩
      have hk : k < 2 := hk
      refine ⟨?_, ?_⟩
      · show (if k < 2 then some (A.int (0 + (k : Int))) else none) = _
        rw [if_pos hk, Int.zero_add]
      · have ei : (1 : Int) + (k : Int) = ((1 + k : Nat) : Int) := by omega
        obtain ⟨f1, a1, b1, J1, j1⟩ := bag_spec h63 (k := 1 + k) (by omega) h
        have hlt := lt_of_get gl
        obtain ⟨d, kvs, f2, a2, ld, gd, st, kl, J2⟩ := setting_spec (U := U) (hf := hf) (L := L) b1 (by omega) (J1.get gl (by simp)) nl (by omega)
        have J : Kp [] h f2 := Kp.drop J1 J2 (Nat.le_refl _)
        refine ⟨.loc d, f2, ?_, by rw [List.length_append, al]; rfl, fun x hx => ?_, J.get gl (by simp)⟩
        · simp only [List.set_cons_zero, List.set_cons_succ]
          simp only [e1_law, ev_bind, ev_op, ev_k1, ev_k2, ev_C, ev_var, ev_kVar, ev_un, ev_ku, ev_chain, ev_kc1, ev_kc2, ev_kc3t, ev_kc3f, ev_tru, ev_kTrb, ev_kTri, ev_B, ev_kB, ev_and, ev_or, ev_not, ev_kAt, ev_kAf, ev_kOt, ev_kOf, ev_kN, ev_eand, ev_eor, ev_enot, ev_kEAt, ev_kEAf, ev_kEOt, ev_kEOf, ev_kEN, ev_eif, ev_kEIt, ev_kEIf, ev_anil, ev_acons, ev_ka1, ev_ka2, ev_tup, ev_lst, ev_call, ev_kCa, ev_seq, ev_kSn, ev_kSr, ev_kSb, ev_kSc, ev_nx, ev_bk, ev_ct, ev_ret, ev_kRt, ev_retN, ev_if, ev_kIt, ev_kIf, ev_x, ev_kX, ev_asg, ev_kAs, ev_kAs2, ev_gN, ev_gT, ev_gT3, ev_gIx, ev_kG1, ev_kG2, ev_kG3, ev_kFr, ev_kFn, ev_for, ev_kFo, ev_mt, ev_kMt2, ev_ms, ev_kMs1, ev_sl, ev_kSl1, ev_kSl2, ev_kSl3, ev_noPart, ev_part, ev_kPt, ev_rng1, ev_istr, ev_kIS, ev_ilst, ev_kILr, ev_lc, ev_kLc, ev_kLc2, ev_yes, ev_irev, ev_ienum, ev_izip, ev_inD, ev_getD, ev_kInD, ev_kGetD, ev_fld, ev_mth, ev_kMe2, ev_sfld, ev_kSf1, ev_make, ev_aug, ev_kAu1, ev_kAu2, ev_kAu3, List.getElem?_cons_zero, List.getElem?_cons_succ, List.set_cons_zero, List.set_cons_succ, v_addI, v_sub, v_neg, v_lt, v_le, v_gt, v_ge, v_eqI, v_neI, v_eqS, v_neS, v_neB, v_eqB, v_lenT, v_lenR, v_max, v_min, ei, a1, a2]
        · rcases List.mem_append.mp hx with hx | hx
          · exact (as x hx).kp J
          · exact ⟨d, kvs, List.mem_singleton.mp hx, gd, st, kl⟩) (fun _ _ _ => rfl)
  have al : acc.length = 2 := al
  have it2 : (itR 0 2).n = 2 := rfl
  rw [it2] at e4
  obtain ⟨h5, eh5⟩ : ∃ h5, h5 = h4 ++ [.lst acc] := ⟨_, rfl⟩
  have k5 : kLc2 (acc, h4) = some (.loc h4.length, h5) := by rw [ev_kLc2, eh5]
  have K5 : Kp [] h4 h5 := by rw [eh5]; exact Kp.app _ _
  have g5 : h5[h4.length]? = some (.lst acc) := by rw [eh5]; exact app_get _ _
  obtain ⟨h6, eh6⟩ : ∃ h6 : AHp, h6 = h5 ++ [.dic hf []] := ⟨_, rfl⟩
  have dn : ∀ τ, eDnew hf τ h5 = some (.loc h5.length, h6) := fun τ => by rw [eh6]; rfl
  have K6 : Kp [] h5 h6 := by rw [eh6]; exact Kp.app _ _
  have g6 : h6[h5.length]? = some (.dic hf []) := by rw [eh6]; exact app_get _ _
  obtain ⟨h7, a7, g7, K7, n7⟩ := mk_lst [.loc h5.length] h6 (by simp)
  obtain ⟨h8, a8, g8, K8, n8⟩ := mk_add ((K6.trans K7).get g5 (by simp)) g7 (by simp; omega)
  have K48 : Kp [] h4 h8 := K5.trans (K6.trans (K7.trans K8))
  have sl : (acc ++ [A.loc h5.length]).length = 3 := by simp [al]
  have sa : ∀ x ∈ acc ++ [A.loc h5.length], SetAt hf h8 x := fun x hx => by
    rcases List.mem_append.mp hx with hx | hx
    · exact (as4 x hx).kp K48
    · exact ⟨h5.length, [], List.mem_singleton.mp hx, (K7.trans K8).get g6 (by simp), rfl, by simp⟩
  have gl8 := K48.get gl4 (by simp)
  generalize acc ++ [A.loc h5.length] = S at g8 sl sa
  obtain ⟨τd, hd, ed, t1, t4, t5, t6, t7, t8, t9, t10, t11, rfl, K⟩ := for_range (n := 6) (g := gN 4) (s := l5_law U hf L) (h := h8) (τ := [some (.ro (ns.map A.int)), some (.loc 0), some (.loc l), some (.loc h7.length), none, none, none, none, none, none, none, none])
    (fun i τ h => ∃ t1 t4 t5 t6 t7 t8 t9 t10 t11, τ = [some (.ro (ns.map A.int)), t1, some (.loc l), some (.loc h7.length), t4, t5, t6, t7, t8, t9, t10, t11] ∧ Kp [] h8 h) ⟨_, _, _, _, _, _, _, _, _, rfl, Kp.refl⟩ (by
      rintro i τ h hi ⟨t1, t4, t5, t6, t7, t8, t9, t10, t11, rfl, K⟩
      have ei : (3 : Int) + (i : Int) = ((3 + i : Nat) : Int) := by omega
      have gl := K.get gl8 (by simp)
      obtain ⟨f1, a1, b1, J1, j1⟩ := bag_spec h63 (k := 3 + i) (by omega) h
      have hlt := lt_of_get gl
      have nb : l ∉ [h.length] := by intro z; have := mem1 z; omega
      obtain ⟨u, f2, a2, u0, u1, b2, J2, _⟩ := take_spec b1 (by omega) (m := 7) (by omega) (by omega)
      obtain ⟨v, f3, a3, v0, v1, b3, J3, _⟩ := take_spec b2 (by omega) (m := 4) (by omega) (by omega)
      obtain ⟨m, m11, hm⟩ : ∃ m : Nat, m ≤ 10 ∧ (if (v == 3) = true then (10 : Int) else u) = m := by
        split
        · exact ⟨10, by omega, rfl⟩
        · exact ⟨u.toNat, by omega, by omega⟩
      have gl3 := J3.get (J2.get (J1.get gl (by simp)) nb) nb
      obtain ⟨st, f4, a4, S4, b4, J4⟩ := stm_spec (b := h.length) (l := l) (N := N) nl (by omega) 12 m _ f3 (by omega) b3 gl3 (by omega)
      have J04 : Kp [] h f4 := Kp.drop J1 ((J2.trans J3).trans J4) (Nat.le_refl _)
      have tr : TrD (m + 2) (.tup [.str "gives", .tup [.str "gives", st, .str "nought"], .str "nought"]) := .tup fun x hx => by
        simp only [List.mem_cons, List.not_mem_nil, or_false] at hx
        rcases hx with rfl | rfl | rfl
        · exact .str (by decide +kernel)
        · exact .tup fun x hx => by
            simp only [List.mem_cons, List.not_mem_nil, or_false] at hx
            rcases hx with rfl | rfl | rfl
            · exact .str (by decide +kernel)
            · exact stm_tr L3 S4
            · exact .str (by decide +kernel)
        · exact .str (by decide +kernel)
      obtain ⟨kk, ek, hk⟩ := eqA_tr (h := f4) tr tr (by omega) (by omega)
      have : kk = true := hk.mpr rfl
      subst this
      have ne : cNe (.tup [.str "gives", .tup [.str "gives", st, .str "nought"], .str "nought"]) (.tup [.str "gives", .tup [.str "gives", st, .str "nought"], .str "nought"]) f4 = some (.bl false, f4) := v_neA ek
      have cn : c_NOUGHT = .str "nought" := rfl
      have kt : ∀ (a b c : A) (f : AHp), kTu ([a, b, c], f) = some (.tup [a, b, c], f) := fun a b c f => ev_kTu (by simp)
      have tw : F_twice [st] f4 = some (.tup [.str "gives", .tup [.str "gives", st, .str "nought"], .str "nought"], f4) := by simp only [ap_twice, b_twice, ev_bind, ev_op, ev_k1, ev_k2, ev_C, ev_var, ev_kVar, ev_un, ev_ku, ev_chain, ev_kc1, ev_kc2, ev_kc3t, ev_kc3f, ev_tru, ev_kTrb, ev_kTri, ev_B, ev_kB, ev_and, ev_or, ev_not, ev_kAt, ev_kAf, ev_kOt, ev_kOf, ev_kN, ev_eand, ev_eor, ev_enot, ev_kEAt, ev_kEAf, ev_kEOt, ev_kEOf, ev_kEN, ev_eif, ev_kEIt, ev_kEIf, ev_anil, ev_acons, ev_ka1, ev_ka2, ev_tup, ev_lst, ev_call, ev_kCa, ev_seq, ev_kSn, ev_kSr, ev_kSb, ev_kSc, ev_nx, ev_bk, ev_ct, ev_ret, ev_kRt, ev_retN, ev_if, ev_kIt, ev_kIf, ev_x, ev_kX, ev_asg, ev_kAs, ev_kAs2, ev_gN, ev_gT, ev_gT3, ev_gIx, ev_kG1, ev_kG2, ev_kG3, ev_kFr, ev_kFn, ev_for, ev_kFo, ev_mt, ev_kMt2, ev_ms, ev_kMs1, ev_sl, ev_kSl1, ev_kSl2, ev_kSl3, ev_noPart, ev_part, ev_kPt, ev_rng1, ev_istr, ev_kIS, ev_ilst, ev_kILr, ev_lc, ev_kLc, ev_kLc2, ev_yes, ev_irev, ev_ienum, ev_izip, ev_inD, ev_getD, ev_kInD, ev_kGetD, ev_fld, ev_mth, ev_kMe2, ev_sfld, ev_kSf1, ev_make, ev_aug, ev_kAu1, ev_kAu2, ev_kAu3, List.getElem?_cons_zero, List.getElem?_cons_succ, List.set_cons_zero, List.set_cons_succ, v_addI, v_sub, v_neg, v_lt, v_le, v_gt, v_ge, v_eqI, v_neI, v_eqS, v_neS, v_neB, v_eqB, v_lenT, v_lenR, v_max, v_min, cn, kt]
      have KA : Kp [] h8 f4 := K.trans J04
      have gS := KA.get g8 (by simp)
      have il : kIL (.loc h7.length, f4) = some (itL h7.length S.length, f4) := ev_kILl gS
      have itn : (itL h7.length S.length).n = S.length := rfl
      obtain ⟨τe, f5, ee, w7, w8, w9, w10, w11, rfl, K5⟩ := for_it (it := itL h7.length S.length) (g := gN 7) (s := l4_law U hf L) (h := f4) (τ := [some (.ro (ns.map A.int)), some (.loc h.length), some (.loc l), some (.loc h7.length), some (.int (i : Nat)), some (.int (m : Nat)), some st, t7, t8, t9, t10, t11]) (fun i => S[i]?.getD .non)
        (fun k τ f => ∃ w7 w8 w9 w10 w11, τ = [some (.ro (ns.map A.int)), some (.loc h.length), some (.loc l), some (.loc h7.length), some (.int (i : Nat)), some (.int (m : Nat)), some st, w7, w8, w9, w10, w11] ∧ Kp [] h8 f) ⟨_, _, _, _, _, rfl, KA⟩ (by
          rintro k τ f hk ⟨w7, w8, w9, w10, w11, rfl, Kf⟩
          have hk : k < S.length := hk
          have hx : S[k]?.getD .non = S[k] := by rw [List.getElem?_eq_getElem hk]; rfl
          rw [hx]
          have hget : (itL h7.length S.length).get k f = some S[k] := by
            show (lstA (.loc h7.length) f).bind _ = _
            have : lstA (.loc h7.length) f = some S := by unfold lstA; simp only [Kf.get g8 (by simp)]
            rw [this, ev_bind]; exact List.getElem?_eq_getElem hk
          refine ⟨hget, ?_⟩
          obtain ⟨x8, x9, x10, x11, f', et, Kt⟩ := turn_spec (U := U) (hf := hf) (L := L) (s0 := some (.ro (ns.map A.int))) (s1 := some (.loc h.length)) (s3 := some (.loc h7.length)) (s4 := some (.int (i : Nat))) (s5 := some (.int (m : Nat))) (s8 := w8) (s9 := w9) (s10 := w10) (s11 := w11) L3 nl S4 (by omega) (Kf.get gl8 (by simp)) ((sa _ (List.getElem_mem hk)).kp Kf)
          exact ⟨_, f, _, f', rfl, et, _, _, _, _, _, rfl, Kf.trans Kt⟩) (by
          rintro τ f ⟨w7, w8, w9, w10, w11, rfl, Kf⟩
          show (match lstA (.loc h7.length) f with | some ys => decide (ys.length ≤ S.length) | none => false) = true
          have : lstA (.loc h7.length) f = some S := by unfold lstA; simp only [Kf.get g8 (by simp)]
          rw [this]; simp)
      refine ⟨_, h, [some (.ro (ns.map A.int)), some (.loc h.length), some (.loc l), some (.loc h7.length), some (.int (i : Nat)), some (.int (m : Nat)), some st, w7, w8, w9, w10, w11], f5, rfl, ?_, _, _, _, _, _, _, _, _, _, rfl, K5⟩
      simp only [List.set_cons_zero, List.set_cons_succ]
      cases q : (v == 3) with
      | true =>
        rw [q, if_pos rfl] at hm
        have hm : (10 : Int) = m := hm
        simp only [l5_law, ev_bind, ev_op, ev_k1, ev_k2, ev_C, ev_var, ev_kVar, ev_un, ev_ku, ev_chain, ev_kc1, ev_kc2, ev_kc3t, ev_kc3f, ev_tru, ev_kTrb, ev_kTri, ev_B, ev_kB, ev_and, ev_or, ev_not, ev_kAt, ev_kAf, ev_kOt, ev_kOf, ev_kN, ev_eand, ev_eor, ev_enot, ev_kEAt, ev_kEAf, ev_kEOt, ev_kEOf, ev_kEN, ev_eif, ev_kEIt, ev_kEIf, ev_anil, ev_acons, ev_ka1, ev_ka2, ev_tup, ev_lst, ev_call, ev_kCa, ev_seq, ev_kSn, ev_kSr, ev_kSb, ev_kSc, ev_nx, ev_bk, ev_ct, ev_ret, ev_kRt, ev_retN, ev_if, ev_kIt, ev_kIf, ev_x, ev_kX, ev_asg, ev_kAs, ev_kAs2, ev_gN, ev_gT, ev_gT3, ev_gIx, ev_kG1, ev_kG2, ev_kG3, ev_kFr, ev_kFn, ev_for, ev_kFo, ev_mt, ev_kMt2, ev_ms, ev_kMs1, ev_sl, ev_kSl1, ev_kSl2, ev_kSl3, ev_noPart, ev_part, ev_kPt, ev_rng1, ev_istr, ev_kIS, ev_ilst, ev_kILr, ev_lc, ev_kLc, ev_kLc2, ev_yes, ev_irev, ev_ienum, ev_izip, ev_inD, ev_getD, ev_kInD, ev_kGetD, ev_fld, ev_mth, ev_kMe2, ev_sfld, ev_kSf1, ev_make, ev_aug, ev_kAu1, ev_kAu2, ev_kAu3, List.getElem?_cons_zero, List.getElem?_cons_succ, List.set_cons_zero, List.set_cons_succ, v_addI, v_sub, v_neg, v_lt, v_le, v_gt, v_ge, v_eqI, v_neI, v_eqS, v_neS, v_neB, v_eqB, v_lenT, v_lenR, v_max, v_min, ei, a1, a2, a3, q, hm, a4, tw, kt, ne, il, ee]
      | false =>
        rw [q, if_neg (by simp)] at hm
        have hm : u = m := hm
        subst hm
        simp only [l5_law, ev_bind, ev_op, ev_k1, ev_k2, ev_C, ev_var, ev_kVar, ev_un, ev_ku, ev_chain, ev_kc1, ev_kc2, ev_kc3t, ev_kc3f, ev_tru, ev_kTrb, ev_kTri, ev_B, ev_kB, ev_and, ev_or, ev_not, ev_kAt, ev_kAf, ev_kOt, ev_kOf, ev_kN, ev_eand, ev_eor, ev_enot, ev_kEAt, ev_kEAf, ev_kEOt, ev_kEOf, ev_kEN, ev_eif, ev_kEIt, ev_kEIf, ev_anil, ev_acons, ev_ka1, ev_ka2, ev_tup, ev_lst, ev_call, ev_kCa, ev_seq, ev_kSn, ev_kSr, ev_kSb, ev_kSc, ev_nx, ev_bk, ev_ct, ev_ret, ev_kRt, ev_retN, ev_if, ev_kIt, ev_kIf, ev_x, ev_kX, ev_asg, ev_kAs, ev_kAs2, ev_gN, ev_gT, ev_gT3, ev_gIx, ev_kG1, ev_kG2, ev_kG3, ev_kFr, ev_kFn, ev_for, ev_kFo, ev_mt, ev_kMt2, ev_ms, ev_kMs1, ev_sl, ev_kSl1, ev_kSl2, ev_kSl3, ev_noPart, ev_part, ev_kPt, ev_rng1, ev_istr, ev_kIS, ev_ilst, ev_kILr, ev_lc, ev_kLc, ev_kLc2, ev_yes, ev_irev, ev_ienum, ev_izip, ev_inD, ev_getD, ev_kInD, ev_kGetD, ev_fld, ev_mth, ev_kMe2, ev_sfld, ev_kSf1, ev_make, ev_aug, ev_kAu1, ev_kAu2, ev_kAu3, List.getElem?_cons_zero, List.getElem?_cons_succ, List.set_cons_zero, List.set_cons_succ, v_addI, v_sub, v_neg, v_lt, v_le, v_gt, v_ge, v_eqI, v_neI, v_eqS, v_neS, v_neB, v_eqB, v_lenT, v_lenR, v_max, v_min, ei, a1, a2, a3, q, a4, tw, kt, ne, il, ee])
  refine ⟨hd, ?_⟩
  simp only [ap_law, b_law, ev_bind, ev_op, ev_k1, ev_k2, ev_C, ev_var, ev_kVar, ev_un, ev_ku, ev_chain, ev_kc1, ev_kc2, ev_kc3t, ev_kc3f, ev_tru, ev_kTrb, ev_kTri, ev_B, ev_kB, ev_and, ev_or, ev_not, ev_kAt, ev_kAf, ev_kOt, ev_kOf, ev_kN, ev_eand, ev_eor, ev_enot, ev_kEAt, ev_kEAf, ev_kEOt, ev_kEOf, ev_kEN, ev_eif, ev_kEIt, ev_kEIf, ev_anil, ev_acons, ev_ka1, ev_ka2, ev_tup, ev_lst, ev_call, ev_kCa, ev_seq, ev_kSn, ev_kSr, ev_kSb, ev_kSc, ev_nx, ev_bk, ev_ct, ev_ret, ev_kRt, ev_retN, ev_if, ev_kIt, ev_kIf, ev_x, ev_kX, ev_asg, ev_kAs, ev_kAs2, ev_gN, ev_gT, ev_gT3, ev_gIx, ev_kG1, ev_kG2, ev_kG3, ev_kFr, ev_kFn, ev_for, ev_kFo, ev_mt, ev_kMt2, ev_ms, ev_kMs1, ev_sl, ev_kSl1, ev_kSl2, ev_kSl3, ev_noPart, ev_part, ev_kPt, ev_rng1, ev_istr, ev_kIS, ev_ilst, ev_kILr, ev_lc, ev_kLc, ev_kLc2, ev_yes, ev_irev, ev_ienum, ev_izip, ev_inD, ev_getD, ev_kInD, ev_kGetD, ev_fld, ev_mth, ev_kMe2, ev_sfld, ev_kSf1, ev_make, ev_aug, ev_kAu1, ev_kAu2, ev_kAu3, List.getElem?_cons_zero, List.getElem?_cons_succ, List.set_cons_zero, List.set_cons_succ, v_addI, v_sub, v_neg, v_lt, v_le, v_gt, v_ge, v_eqI, v_neI, v_eqS, v_neS, v_neB, v_eqB, v_lenT, v_lenR, v_max, v_min, e1, e2, e3, q2, it2, e4, k5, dn, a7, a8, q6, itR_n, ed]
end K47
set_option Elab.async false
set_option linter.all false
set_option maxRecDepth 100000
open PySem PySem.W PyProof.Rows
set_option maxRecDepth 100000 in
set_option maxHeartbeats 0 in
theorem PySem.Challenge.cw_lesssay_k47_true_at_settings_holds : PySem.Challenge.rw_lesssay_k47_true_at_settings.Holds := by
  w_on; o_law; k_head; (case hw => w_witness2)
  k_fill
  refine Ab.walk (l := PySem.Challenge.rw_lesssay_k47_true_at_settings) (k := 21) (x := "_law_script") rfl rfl ⟨rfl, by decide, by decide, rfl⟩ (fun w h Y => PySem.W.km_in_of Y) (fun w h Y => PySem.W.km_tabs_of Y) (fun w => by kernel_rfl) (fun w => by kernel_rfl) (fun w => by kernel_rfl) (fun w => by kernel_rfl) ?F
  case F =>
    intro w mg fa h KX G hmg
    refine' K47.all_mk K47.law_true KX G hmg ?a1 ?l1 ?c1 ?k1 ?a2 ?l2 ?c2 ?k2 ?a3 ?l3 ?c3 ?k3 ?a4 ?l4 ?c4 ?k4 ?a5 ?l5 ?c5 ?k5 ?a6 ?l6 ?c6 ?k6 ?a7 ?l7 ?c7 ?k7 ?a8 ?l8 ?c8 ?k8 ?a9 ?l9 ?c9 ?k9 ?a10 ?l10 ?c10 ?k10 ?a11 ?l11 ?c11 ?k11 ?a12 ?l12 ?c12 ?k12 ?a13 ?l13 ?c13 ?k13 ?m_NOUGHT ?m_SIGNS ?o_SIGNS ?q_SIGNS ?qq_is_true ?lc_is_true ?qp_is_true ?hc_is_true ?z_bool ?z_dict ?z_isinstance ?z_len ?z_range ?z_reversed ?z_tuple
    (case a1 => k_is)
    (case l1 => k_is)
    (case c1 => k_is)
    (case k1 => k_is)
    (case a2 => k_is)
    (case l2 => k_is)
    (case c2 => k_is)
    (case k2 => k_is)
    (case a3 => k_is)
    (case l3 => k_is)
    (case c3 => k_is)
    (case k3 => k_is)
    (case a4 => k_is)
    (case l4 => k_is)
    (case c4 => k_is)
    (case k4 => k_is)
    (case a5 => k_is)
    (case l5 => k_is)
    (case c5 => k_is)
    (case k5 => k_is)
    (case a6 => k_is)
    (case l6 => k_is)
    (case c6 => k_is)
    (case k6 => k_is)
    (case a7 => k_is)
    (case l7 => k_is)
    (case c7 => k_is)
    (case k7 => k_is)
    (case a8 => k_is)
    (case l8 => k_is)
    (case c8 => k_is)
    (case k8 => k_is)
    (case a9 => k_is)
    (case l9 => k_is)
    (case c9 => k_is)
    (case k9 => k_is)
    (case a10 => k_is)
    (case l10 => k_is)
    (case c10 => k_is)
    (case k10 => k_is)
    (case a11 => k_is)
    (case l11 => k_is)
    (case c11 => k_is)
    (case k11 => k_is)
    (case a12 => k_is)
    (case l12 => k_is)
    (case c12 => k_is)
    (case k12 => k_is)
    (case a13 => k_is)
    (case l13 => k_is)
    (case c13 => k_is)
    (case k13 => k_is)
    (case m_NOUGHT => k_is)
    (case m_SIGNS => k_is)
    (case o_SIGNS => k_is)
    (case q_SIGNS => rfl)
    (case qq_is_true => rfl)
    (case lc_is_true => k_is)
    (case qp_is_true => rfl)
    (case hc_is_true => kernel_rfl!)
    (case z_bool => k_is)
    (case z_dict => k_is)
    (case z_isinstance => k_is)
    (case z_len => k_is)
    (case z_range => k_is)
    (case z_reversed => k_is)
    (case z_tuple => k_is)
