import PyProof.Rows.All
import Wide.All
import OpenK.AllK
import Wide.FinOn
import PyProof.EqAt
import PyProof.EqKinds
import PyProof.TupleCall
import KE.BitLaws
import KE.KLam
import KE.KNestM
import PyProof.IsiPairs
import PyProof.IsiNone
import PyProof.IsiHeapPairs
import PyProof.NeKinds
import PyProof.Claim2Refuses
import PyProof.MinMaxWalk
import PyProof.WalkInts
import PyProof.ReprRoads
import PyProof.Rows.NestShow
import PyProof.Rows.CallKwBuiltin
import PyProof.Rows.RegFStrParts
import PyProof.DictFindH
import PyProof.DictRoadsH
import PyProof.TupleKey
import PyProof.ListRange
import PySem.Challenge.RW_lesssay_k51_read
set_option Elab.async false
set_option linter.all false
set_option maxRecDepth 100000
namespace L2
open PySem PySem.Spec PyProof.Rows
abbrev Key := Sum Int Str
def keyIs : Key → Value → Bool
  | .inl k, v => Value.isInt k v
  | .inr x, v => Value.isStrOf x v
def keyH (w : World) : Key → Int
  | .inl k => hashInt k
  | .inr x => hashStr w x
theorem keyIs_shape : ∀ {k : Key} {v : Value}, keyIs k v = true → (∃ i t, k = Sum.inl i ∧ v = Value.int i t) ∨ (∃ x t, k = Sum.inr x ∧ v = Value.str x t)
  | .inl i, v, h => by
    obtain ⟨t, e⟩ := Value.isInt_shape (k := i) (v := v) h
    exact .inl ⟨i, t, rfl, e⟩
  | .inr x, v, h => by
    obtain ⟨t, e⟩ := Value.isStrOf_shape (x := x) (v := v) h
    exact .inr ⟨x, t, rfl, e⟩
theorem key_ll (a b : Int) : decide ((Sum.inl a : Key) = Sum.inl b) = (a == b) := by
  by_cases e : a = b
  · subst e; simp
  · have h : ¬ (Sum.inl a : Key) = Sum.inl b := fun q => e (Sum.inl.inj q)
    rw [decide_eq_false h]
    exact (beq_eq_false_iff_ne.mpr e).symm
theorem key_rr (a b : Str) : decide ((Sum.inr a : Key) = Sum.inr b) = decide (a = b) := by
  by_cases e : a = b
  · subst e; simp
  · have h : ¬ (Sum.inr a : Key) = Sum.inr b := fun q => e (Sum.inr.inj q)
    rw [decide_eq_false h, decide_eq_false e]
theorem key_lr (a : Int) (b : Str) : decide ((Sum.inl a : Key) = Sum.inr b) = false := decide_eq_false (fun q => nomatch q)
theorem key_rl (a : Str) (b : Int) : decide ((Sum.inr a : Key) = Sum.inl b) = false := decide_eq_false (fun q => nomatch q)
def mixKind (prog : Program) (w : World) : PySem.KeyKind prog w Key where
  is := keyIs
  hash := keyH w
  inj := fun v a b ha hb => by
    rcases keyIs_shape ha with ⟨i, t, rfl, rfl⟩ | ⟨x, t, rfl, rfl⟩
    · rcases keyIs_shape hb with ⟨j, u, rfl, e⟩ | ⟨y, u, rfl, e⟩
      · injection e with e1 _; rw [e1]
      · exact nomatch e
    · rcases keyIs_shape hb with ⟨j, u, rfl, e⟩ | ⟨y, u, rfl, e⟩
      · exact nomatch e
      · injection e with e1 _; rw [e1]
  byValue := fun k v h => by
    rcases keyIs_shape h with ⟨i, t, rfl, rfl⟩ | ⟨x, t, rfl, rfl⟩ <;> rfl
  pyHash := fun hv h => by
    rcases keyIs_shape hv with ⟨i, t, rfl, rfl⟩ | ⟨x, t, rfl, rfl⟩
    · exact wpAny_pyHash_int h
    · exact wpAny_pyHash_str h
  eqBool := fun hu hv h => by
    rcases keyIs_shape hu with ⟨i, t, rfl, rfl⟩ | ⟨x, t, rfl, rfl⟩
    · rcases keyIs_shape hv with ⟨j, u, rfl, rfl⟩ | ⟨y, u, rfl, rfl⟩
      · rw [key_ll] at h; exact wpAny_eqBool_int h
      · rw [key_lr] at h; exact SeqAt.EqAt.int_str i t y u _ _ _ _ h
    · rcases keyIs_shape hv with ⟨j, u, rfl, rfl⟩ | ⟨y, u, rfl, rfl⟩
      · rw [key_rl] at h; exact SeqAt.EqAt.str_int x t j u _ _ _ _ h
      · rw [key_rr] at h; exact wpAny_eqBool_str h
  «strs» := fun k x t v h => by
    rcases keyIs_shape h with ⟨i, u, rfl, e⟩ | ⟨y, u, rfl, e⟩
    · exact nomatch e
    · injection e with e1 _
      subst e1
      cases v <;> rfl
end L2
namespace L2
open PySem PySem.Spec PyProof.Rows
inductive V where
  | non | bl (b : Bool) | int (i : Int) | str (x : Str) | byt (b : Array UInt8) | flt (b : UInt64) | ref (a : Addr) | ty (n : String)
  deriving DecidableEq
def RelV : V → Value → Prop
  | .non, u => u = Value.none
  | .bl b, u => u = Value.bool b
  | .int i, u => ∃ t, u = Value.int i t
  | .str x, u => ∃ t, u = Value.str x t
  | .byt b, u => ∃ t, u = Value.bytes b t
  | .flt b, u => ∃ t, u = Value.float b t
  | .ref a, u => u = Value.ref a
  | .ty n, u => u = Value.type n
abbrev Vals : List V → List Value → Prop := Paired RelV
theorem Vals.length {xs : List V} {us : List Value} (r : Vals xs us) : xs.length = us.length := Paired.length r
theorem Vals.get : ∀ {xs : List V} {us : List Value} {i : Nat} {x : V}, Vals xs us → xs[i]? = some x → ∃ u, us[i]? = some u ∧ RelV x u
  | _, _, _, _, .nil, e => by simp at e
  | _, _, 0, _, .cons r _, e => by simp at e; subst e; exact ⟨_, rfl, r⟩
  | _, _, i + 1, x, .cons _ t, e => by
    obtain ⟨u, h1, h2⟩ := Vals.get (i := i) (x := x) t (by simpa using e)
    exact ⟨u, by simpa using h1, h2⟩
theorem Vals.set {x : V} {u : Value} (r : RelV x u) : ∀ {xs : List V} {us : List Value} (i : Nat), Vals xs us → Vals (xs.set i x) (us.set i u)
  | _, _, _, .nil => .nil
  | _, _, 0, .cons _ t => .cons r t
  | _, _, i + 1, .cons q t => .cons q (Vals.set r i t)
theorem Vals.append : ∀ {xs ys : List V} {us ws : List Value}, Vals xs us → Vals ys ws → Vals (xs ++ ys) (us ++ ws)
  | _, _, _, _, .nil, s => s
  | _, _, _, _, .cons r t, s => .cons r (Vals.append t s)
theorem Vals.take : ∀ {xs : List V} {us : List Value} (n : Nat), Vals xs us → Vals (xs.take n) (us.take n)
  | _, _, 0, _ => .nil
  | _, _, _ + 1, .nil => .nil
  | _, _, n + 1, .cons r t => .cons r (Vals.take n t)
theorem Vals.drop : ∀ {xs : List V} {us : List Value} (n : Nat), Vals xs us → Vals (xs.drop n) (us.drop n)
  | _, _, 0, r => r
  | _, _, _ + 1, .nil => .nil
  | _, _, n + 1, .cons _ t => Vals.drop n t
def RelO : Option V → Option Value → Prop
  | some v, some u => RelV v u
  | none, none => True
  | _, _ => False
def KV {κ : Type} : List (κ × V) → List (κ × Value) → Prop := Paired fun (p : κ × V) (q : κ × Value) => p.1 = q.1 ∧ RelV p.2 q.2
def kV : Key → V
  | .inl i => .int i
  | .inr x => .str x
inductive HO where
  | lst (xs : List V)
  | tup (xs : List V)
  | dK (kvs : List (Key × V)) | dT (kvs : List (List Key × V))
  | set (S : Int → Bool) (n : Nat)
  | ins (C dx : Addr) (fs : List (Str × V))
  | own (x : Addr)
  | xd (fs : List (Str × V))
  | met (f x : Addr)
  | rng (lo hi : Int)
  | frz (o : Obj) (u : HO)
  | tbl (ps : Array Value)
  | ext (φ : Heap → Prop)
abbrev Hp := Addr → Option HO
def upd (H : Hp) (a : Addr) (o : HO) : Hp := fun b => if b = a then some o else H b
theorem upd_same {H : Hp} {a : Addr} {o : HO} : upd H a o a = some o := by unfold upd; rw [if_pos rfl]
theorem upd_ne {H : Hp} {a b : Addr} {o : HO} (h : b ≠ a) : upd H a o b = H b := by unfold upd; rw [if_neg h]
theorem ne_of_none {H : Hp} {a b : Addr} {o : HO} (h : H a = some o) (h' : H b = none) : a ≠ b := by
  intro e; subst e; rw [h] at h'; cases h'
section
variable (P : Program) (w : World)
def ObjOk (H : Hp) (h : Heap) (a : Addr) : HO → Prop
  | .lst xs => xs.length ≤ sizeLine ∧ ∃ (its : List Value) (n : Nat), Vals xs its ∧ h.get? a = some { cls := .type "list", data := .seq its.toArray n }
  | .tup xs => xs.length ≤ sizeLine ∧ ∃ its : List Value, Vals xs its ∧ IsTup h a its.toArray
  | .dK kvs => kvs.length ≤ sizeLine ∧ (a == sysModules) = false ∧ ∃ vs, KV kvs vs ∧ h.DictOf (mixKind P w) a vs
  | .dT kvs => kvs.length ≤ sizeLine ∧ (a == sysModules) = false ∧ ∃ xs : List (List Key × Addr × Value),
      Paired (fun (p : List Key × V) (q : List Key × Addr × Value) => p.1 = q.1 ∧ H q.2.1 = some (.tup (p.1.map kV)) ∧ RelV p.2 q.2.2) kvs xs ∧
      ∃ o es ep, h.get? a = some o ∧ o.ExactDict ∧ o.data = .dict es ep ∧ es.toList = xs.map (entryOfKey (tupleKind (mixKind P w))) ∧ (xs.map (·.1)).Nodup
  | .set S n => h.SetOf (intKind P w) a S n
  | .ins C dx fs => H dx = some (.own a) ∧ fs.length ≤ 1000 ∧ dx ≠ a ∧ h.get? a = some (PySem.W.instObj C dx) ∧
      ∃ mA, h.Ns1 dx mA ∧ (∀ f, RelO (fs.lookup f) (mA f)) ∧ PySem.Within mA (fs.map (·.1))
  | .own _ => ∃ o, h.get? a = some o
  | .xd fs => ∃ mA, h.Ns1 a mA ∧ ∀ f, RelO (fs.lookup f) (mA f)
  | .rng lo hi => ∃ t u v, h.get? a = some { cls := .type "range", data := .fields #[.int lo t, .int hi u, .int 1 v] }
  | .frz o u => h.get? a = some o ∧ ObjOk H h a u
  | .tbl ps => h.get? a = some { cls := .none, data := .fields ps }
  | .met f x => h.get? a = some (PySem.W.methodObj (.ref f) (.ref x))
  | .ext φ => φ h ∧ (∃ o, h.get? a = some o) ∧ ∀ h1 h2 : Heap, φ h1 → (∀ o, h1.get? a = some o → h2.get? a = some o) → φ h2
def HOk (H : Hp) (h : Heap) : Prop := ∀ a o, H a = some o → ObjOk P w H h a o
end
section
variable {P : Program} {w : World} {H H' : Hp} {h h' : Heap} {a : Addr} {o : HO}
theorem ObjOk.lt (x : ObjOk P w H h a o) : a < h.objs.size := by
  cases o with
  | lst xs => obtain ⟨_, _, _, _, e⟩ := x; exact Heap.lt_size e
  | tup xs => obtain ⟨_, _, _, p⟩ := x; exact p.lt
  | dK kvs => obtain ⟨_, _, _, _, o, _, _, e, _⟩ := x; exact Heap.lt_size e
  | dT kvs => obtain ⟨_, _, _, _, o, _, _, e, _⟩ := x; exact Heap.lt_size e
  | set S n => obtain ⟨o, _, _, _, e, _⟩ := x; exact Heap.lt_size e
  | ins C dx fs => obtain ⟨_, _, _, e, _⟩ := x; exact Heap.lt_size e
  | own y => obtain ⟨_, e⟩ := x; exact Heap.lt_size e
  | xd fs => obtain ⟨_, ⟨_, _, _, e, _⟩, _⟩ := x; exact Heap.lt_size e
  | rng lo hi => obtain ⟨_, _, _, e⟩ := x; exact Heap.lt_size e
  | frz ob u => obtain ⟨e, _⟩ := x; exact Heap.lt_size e
  | tbl ps => exact Heap.lt_size (show h.get? a = some _ from x)
  | met f y => exact Heap.lt_size (show h.get? a = some _ from x)
  | ext φ => obtain ⟨_, ⟨_, e⟩, _⟩ := x; exact Heap.lt_size e
theorem Paired.mapP {α β : Type} {F G : α → β → Prop} : ∀ {l₁ : List α} {l₂ : List β}, Paired F l₁ l₂ → (∀ a b, F a b → G a b) → Paired G l₁ l₂
  | _, _, .nil, _ => .nil
  | _, _, .cons r t, f => .cons (f _ _ r) (Paired.mapP t f)
theorem ObjOk.stay (x : ObjOk P w H h a o) (k : ∀ b u, (b = a ∨ H b = some (.own a)) → h.get? b = some u → h'.get? b = some u)
    (ho : ∀ b, H b = some (.own a) → H' b = some (.own a)) (ht : ∀ b xs, H b = some (.tup xs) → H' b = some (.tup xs)) : ObjOk P w H' h' a o := by
  induction o with
  | lst xs => obtain ⟨z, its, n, r, e⟩ := x; exact ⟨z, its, n, r, k _ _ (.inl rfl) e⟩
  | tup xs => obtain ⟨z, its, r, ob, e, c⟩ := x; exact ⟨z, its, r, ob, k _ _ (.inl rfl) e, c⟩
  | dK kvs => obtain ⟨z, y, vs, r, ob, es, ep, e, c⟩ := x; exact ⟨z, y, vs, r, ob, es, ep, k _ _ (.inl rfl) e, c⟩
  | dT kvs =>
    obtain ⟨z, y, xs, r, ob, es, ep, e, c⟩ := x
    exact ⟨z, y, xs, Paired.mapP r fun p q z => ⟨z.1, ht _ _ z.2.1, z.2.2⟩, ob, es, ep, k _ _ (.inl rfl) e, c⟩
  | set S n => obtain ⟨ob, es, ep, t, e, c⟩ := x; exact ⟨ob, es, ep, t, k _ _ (.inl rfl) e, c⟩
  | ins C dx fs =>
    obtain ⟨d, z, ne, e, mA, ⟨od, es, ep, e2, c⟩, r⟩ := x
    exact ⟨ho _ d, z, ne, k _ _ (.inl rfl) e, mA, ⟨od, es, ep, k _ _ (.inr d) e2, c⟩, r⟩
  | own y => obtain ⟨ob, e⟩ := x; exact ⟨ob, k _ _ (.inl rfl) e⟩
  | xd fs => obtain ⟨mA, ⟨od, es, ep, e, c⟩, r⟩ := x; exact ⟨mA, ⟨od, es, ep, k _ _ (.inl rfl) e, c⟩, r⟩
  | rng lo hi => obtain ⟨t, u, v, e⟩ := x; exact ⟨t, u, v, k _ _ (.inl rfl) e⟩
  | frz ob u ih => obtain ⟨e, q⟩ := x; exact ⟨k _ _ (.inl rfl) e, ih q⟩
  | tbl ps =>
    have e : h.get? a = some { cls := .none, data := .fields ps } := x
    show h'.get? a = some { cls := .none, data := .fields ps }
    exact k a _ (.inl rfl) e
  | met f y =>
    have e : h.get? a = some (PySem.W.methodObj (.ref f) (.ref y)) := x
    show h'.get? a = some (PySem.W.methodObj (.ref f) (.ref y))
    exact k a _ (.inl rfl) e
  | ext φ => obtain ⟨p, ⟨o, e⟩, st⟩ := x; exact ⟨st _ _ p fun o q => k _ _ (.inl rfl) q, ⟨o, k _ _ (.inl rfl) e⟩, st⟩
theorem HOk.lt (x : HOk P w H h) (e : H a = some o) : a < h.objs.size := (x a o e).lt
theorem HOk.fresh (x : HOk P w H h) (e : h.objs.size ≤ a) : H a = none := by
  cases q : H a with
  | none => rfl
  | some u => exact absurd (Nat.lt_of_lt_of_le (x.lt q) e) (Nat.lt_irrefl _)
theorem HOk.kept (x : HOk P w H h) (k : ∀ b u, h.get? b = some u → h'.get? b = some u) : HOk P w H h' := fun a o e =>
  (x a o e).stay (fun b u _ q => k b u q) (fun _ q => q) fun _ _ q => q
theorem HOk.laid (x : HOk P w H h) (k : ∀ b u, h.get? b = some u → h'.get? b = some u) (hp : h.objs.size ≤ a) (new : ObjOk P w (upd H a o) h' a o) : HOk P w (upd H a o) h' := fun b u e => by
  have hn := x.fresh hp
  by_cases hb : b = a
  · subst hb; rw [upd_same] at e; cases e; exact new
  · rw [upd_ne hb] at e
    exact (x b u e).stay (fun c v _ q => k c v q) (fun c q => by rw [upd_ne (ne_of_none q hn)]; exact q) fun c xs q => by rw [upd_ne (ne_of_none q hn)]; exact q
end
def Rd (H : Hp) (a : Addr) (u : HO) : Prop := H a = some u ∨ ∃ o, H a = some (.frz o u)
theorem Rd.of {H : Hp} {a : Addr} {u : HO} (h : H a = some u) : Rd H a u := .inl h
theorem Rd.ok {P : Program} {w : World} {H : Hp} {h : Heap} {a : Addr} {u : HO} (r : Rd H a u) (x : HOk P w H h) : ObjOk P w H h a u := by
  rcases r with r | ⟨o, r⟩
  · exact x a u r
  · obtain ⟨_, q⟩ := x a _ r
    exact q
def Mut : Option HO → Prop
  | some (.lst _) => True
  | some (.dK _) => True
  | some (.dT _) => True
  | some (.set _ _) => True
  | some (.ins _ _ _) => True
  | some (.ext _) => True
  | _ => False
section
variable {P : Program} {w : World} {H : Hp} {h h' : Heap} {x e : Addr} {o' : HO}
theorem HOk.write (ok : HOk P w H h) (mu : Mut (H x)) (he : e = x ∨ H e = some (.own x)) (k : ∀ b u, b ≠ e → h.get? b = some u → h'.get? b = some u) (heo : ∃ u, h'.get? e = some u)
    (new : ObjOk P w (upd H x o') h' x o') : HOk P w (upd H x o') h' := fun b u q => by
  have nown : ∀ c y, H c = some (.own y) → c ≠ x := fun c y r z => by subst z; rw [r] at mu; exact mu
  have ntup : ∀ c xs, H c = some (.tup xs) → c ≠ x := fun c xs r z => by subst z; rw [r] at mu; exact mu
  by_cases hb : b = x
  · subst hb; rw [upd_same] at q; cases q; exact new
  · rw [upd_ne hb] at q
    by_cases hbe : b = e
    · have q' : H b = some (.own x) := by
        rcases he with z | z
        · exact absurd (hbe.trans z) hb
        · rw [hbe]; exact z
      rw [q] at q'; cases q'
      obtain ⟨v, hv⟩ := heo
      exact ⟨v, by rw [hbe]; exact hv⟩
    · refine (ok b u q).stay (fun c v hc r => k c v ?_ r) (fun c r => by rw [upd_ne (nown c b r)]; exact r) fun c xs r => by rw [upd_ne (ntup c xs r)]; exact r
      rcases hc with rfl | hc
      · exact hbe
      · rintro rfl
        rcases he with z | z
        · exact nown c b hc z
        · rw [hc] at z; cases z; exact hb rfl
end
structure Un (fs ex : List Addr) (H H' : Hp) (h h' : Heap) : Prop where
  keep : ∀ b o, h.get? b = some o → H b = none → b ∉ fs → b ∉ ex → h'.get? b = some o
  slot : ∀ b o, h.get? b = some o → H b = none → b ∈ fs → b ∉ ex → ∃ sl, h'.get? b = some { o with slots := sl }
  free : ∀ b o, h.get? b = some o → H b = none → b ∉ ex → H' b = none
  there : ∀ b o, h.get? b = some o → b ∉ ex → ∃ o', h'.get? b = some o'
  tups : ∀ b xs, H b = some (.tup xs) → H' b = some (.tup xs)
  frzs : ∀ b o u, H b = some (.frz o u) → H' b = some (.frz o u)
  tbls : ∀ b ps, H b = some (.tbl ps) → ∃ more, H' b = some (.tbl (ps ++ more))
section
variable {fs fs' ex ex' : List Addr} {H H1 H2 : Hp} {h h1 h2 h' : Heap} {a x e : Addr} {o : HO}
theorem Un.any (u : Un fs ex H H1 h h1) {b : Addr} {ob : Obj} (q : h.get? b = some ob) (n : H b = none) (hx : b ∉ ex) : ∃ sl, h1.get? b = some { ob with slots := sl } := by
  by_cases hb : b ∈ fs
  · exact u.slot b ob q n hb hx
  · exact ⟨ob.slots, u.keep b ob q n hb hx⟩
theorem Un.trans (a : Un fs ex H H1 h h1) (b : Un fs ex H1 H2 h1 h2) : Un fs ex H H2 h h2 where
  keep := fun c ob q n hc hx => b.keep c ob (a.keep c ob q n hc hx) (a.free c ob q n hx) hc hx
  slot := fun c ob q n hc hx => by
    obtain ⟨sl, e1⟩ := a.slot c ob q n hc hx
    obtain ⟨sl', e2⟩ := b.slot c _ e1 (a.free c ob q n hx) hc hx
    exact ⟨sl', e2⟩
  free := fun c ob q n hx => by
    obtain ⟨o', e1⟩ := a.there c ob q hx
    exact b.free c o' e1 (a.free c ob q n hx) hx
  there := fun c ob q hx => by
    obtain ⟨o', e1⟩ := a.there c ob q hx
    exact b.there c o' e1 hx
  tups := fun c xs q => b.tups c xs (a.tups c xs q)
  frzs := fun c ob xs q => b.frzs c ob xs (a.frzs c ob xs q)
  tbls := fun c ps q => by
    obtain ⟨m1, e1⟩ := a.tbls c ps q
    obtain ⟨m2, e2⟩ := b.tbls c _ e1
    exact ⟨m1 ++ m2, by rw [e2, Array.append_assoc]⟩
theorem Un.kept (k : ∀ b u, h.get? b = some u → h'.get? b = some u) : Un fs ex H H h h' :=
  ⟨fun b ob q _ _ _ => k b ob q, fun b ob q _ _ _ => ⟨ob.slots, k b ob q⟩, fun _ _ _ n _ => n, fun b ob q _ => ⟨ob, k b ob q⟩, fun _ _ q => q, fun _ _ _ q => q, fun _ ps q => ⟨#[], by rw [q]; simp⟩⟩
theorem Un.refl : Un fs ex H H h h := Un.kept fun _ _ q => q
theorem Un.laid (k : ∀ b u, h.get? b = some u → h'.get? b = some u) (hp : h.objs.size ≤ a) (hn : H a = none) : Un fs ex H (upd H a o) h h' where
  keep := fun b u q _ _ _ => k b u q
  slot := fun b u q _ _ _ => ⟨u.slots, k b u q⟩
  free := fun b u q n _ => by rw [upd_ne (Nat.ne_of_lt (Nat.lt_of_lt_of_le (Heap.lt_size q) hp))]; exact n
  there := fun b u q _ => ⟨u, k b u q⟩
  tups := fun b xs q => by rw [upd_ne (ne_of_none q hn)]; exact q
  frzs := fun b u xs q => by rw [upd_ne (ne_of_none q hn)]; exact q
  tbls := fun b ps q => ⟨#[], by rw [upd_ne (ne_of_none q hn), q]; simp⟩
theorem Un.write (mu : Mut (H x)) (he : e = x ∨ H e = some (.own x)) (k : ∀ b u, b ≠ e → h.get? b = some u → h'.get? b = some u) (heo : ∃ u, h'.get? e = some u) : Un fs ex H (upd H x o) h h' := by
  have hx : ∀ b, H b = none → b ≠ x := fun b n z => by subst z; rw [n] at mu; exact mu
  have hb : ∀ b, H b = none → b ≠ e := fun b n z => by
    subst z
    rcases he with r | r
    · exact hx b n r
    · rw [n] at r; cases r
  have hm : ∀ b u, H b = some u → ¬ Mut (some u) → b ≠ x := fun b u q nm z => by subst z; rw [q] at mu; exact nm mu
  refine ⟨fun b u q n _ _ => k b u (hb b n) q, fun b u q n _ _ => ⟨u.slots, k b u (hb b n) q⟩, fun b u q n _ => by rw [upd_ne (hx b n)]; exact n, fun b u q _ => ?_,
    fun b xs q => by rw [upd_ne (hm b _ q fun z => z)]; exact q, fun b u xs q => by rw [upd_ne (hm b _ q fun z => z)]; exact q, fun b ps q => ⟨#[], by rw [upd_ne (hm b _ q fun z => z), q]; simp⟩⟩
  by_cases hbe : b = e
  · subst hbe; exact heo
  · exact ⟨u, k b u hbe q⟩
theorem Un.mono (u : Un fs ex H H1 h h1) (hs : ∀ b ∈ fs, b ∈ fs') (hx : ∀ b ∈ ex, b ∈ ex') : Un fs' ex' H H1 h h1 :=
  ⟨fun b ob q n hb he => u.keep b ob q n (fun z => hb (hs b z)) fun z => he (hx b z), fun _ _ q n _ he => u.any q n fun z => he (hx _ z), fun b ob q n he => u.free b ob q n fun z => he (hx b z), fun b ob q he => u.there b ob q fun z => he (hx b z), u.tups, u.frzs, u.tbls⟩
end
def trk (h : Heap) (H : Hp) : List Addr := (List.range h.objs.size).filter fun a => (H a).isSome
def hidT (h : Heap) (H : Hp) : Heap := PySem.W.hideAll h (trk h H)
theorem hidT_size (h : Heap) (H : Hp) : (hidT h H).objs.size = h.objs.size := PySem.W.hideAll_size _ _
theorem hidT_get {h : Heap} {H : Hp} {b : Addr} {o : Obj} (e : h.get? b = some o) (n : H b = none) : (hidT h H).get? b = some o :=
  PySem.W.hideAll_get _ e fun hm => by
    have q : (H b).isSome = true := (List.mem_filter.mp hm).2
    rw [n] at q; simp at q
theorem of_hidT {h : Heap} {H : Hp} {b : Addr} {o : Obj} (e : (hidT h H).get? b = some o) : h.get? b = some o ∧ H b = none := by
  have e' : h.get? b = some o := PySem.W.of_hideAll (trk h H) e
  refine ⟨e', ?_⟩
  cases q : H b with
  | none => rfl
  | some x =>
    have hm : b ∈ trk h H := List.mem_filter.mpr ⟨List.mem_range.mpr (Heap.lt_size e'), by simp [q]⟩
    have z : (hidT h H).get? b = none := PySem.W.hideAll_none (trk h H) hm
    rw [z] at e; cases e
def allNews (g h : Heap) (L : Addr) : List (Addr × Obj) := (List.range h.objs.size).filterMap fun a => if a = L ∨ (g.get? a).isSome = true then none else (h.get? a).map fun o => (a, o)
def rest (g h : Heap) (L d : Addr) : List (Addr × Obj) := (allNews g h L).filter fun p => decide (p.1 ≠ d)
end L2
namespace L2
open PySem PySem.Spec PyProof.Rows
structure Mod (K : PySem.W.Frag) (mg : Str → Option Value) (base : Heap) : Prop where
  kin : K.In base
  glob : base.Ns mainGlobals mg
  blt : ∃ mb, base.Ns builtinsNs mb ∧ ∀ x : Str, x ≠ "__name__" → mb x = bootBuiltins x
  nolimit : base.NoLimit
structure Cx where
  prog : Program
  w : World
  K : PySem.W.Frag
  mg : Str → Option Value
  base : Heap
  A : Around
  N : List Str
  s_0 : Shared
  H_0 : Hp
  env : Env
  outer : List Env
  stack : List Env
  ex : List Addr
  fn : Str → Bool
  calm : Bool
  pn : List (Addr × Obj)
  xe : Value → Shared → Prop
def frs (l : List Env) : List Addr := l.filterMap (·.frame)
abbrev Cx.fs (X : Cx) : List Addr := frs X.outer
def Vis (sc : Scope) (x : Str) : Prop := sc.names.lookup x = some .local ∨ sc.names.lookup x = some .cell ∨ sc.names.lookup x = some .free
def Loc (sc : Scope) (x : Str) : Prop := sc.names.lookup x = some .local ∨ sc.names.lookup x = some .cell
def Look (env : Env) (h : Heap) (m : Str → Option Value) (x : Str) (u : Value) : Prop :=
  (env.kindOf x = some .local ∧ m x = some u) ∨ ((env.kindOf x = some .cell ∨ env.kindOf x = some .free) ∧ ∃ c, env.cells.lookup x = some c ∧ h.IsCell c (some u))
structure Cx.Ok (X : Cx) : Prop where
  mod : Mod X.K X.mg X.base
  kind : X.env.scope.kind = .function
  glob : X.env.globals = mainGlobals
  blt : X.env.builtins = builtinsNs
  above : X.s_0.heap.objs.size ≤ X.env.locals
  inj : ∀ x y c, X.env.cells.lookup x = some c → X.env.cells.lookup y = some c → x = y
  has : ∀ x, (X.env.kindOf x = some .cell ∨ X.env.kindOf x = some .free) → ∃ c, X.env.cells.lookup x = some c
  cab : ∀ x c, X.fn x = true → X.env.cells.lookup x = some c → X.s_0.heap.objs.size ≤ c
  hd : X.calm = true → X.A.handled = none
  frames : X.A.frames = some X.stack
  stk : X.stack = X.outer ∨ (X.stack = X.env :: X.outer ∧ X.env.frame = some X.env.locals)
  exf : ∀ b ∈ X.ex, b ≠ X.env.locals ∧ ∀ x c, X.env.cells.lookup x = some c → c ≠ b
  bs : ∀ b o, X.base.get? b = some o → X.s_0.heap.get? b = some o ∧ X.H_0 b = none
  bsz : X.base.objs.size ≤ X.s_0.heap.objs.size
  noex : ∀ b o, X.base.get? b = some o → b ∉ X.ex
  exfs : ∀ b ∈ X.ex, b ∉ X.fs
  funs : X.s_0.heap.FunFrames X.base X.outer
  frf : ∀ b ∈ X.fs, X.H_0 b = none
structure Inv (X : Cx) (pins : List (Addr × Obj)) (σ : List (Option V)) (H : Hp) (s : Shared) : Prop where
  ok : X.Ok
  os : s.os = X.s_0.os
  bare : AllBare s.gens
  base : Un X.fs X.ex X.H_0 H X.s_0.heap s.heap
  loc : ∃ m, s.heap.Ns X.env.locals m ∧ ∀ (i : Nat) (x : Str) (v : V), X.N[i]? = some x → σ[i]? = some (some v) → Vis X.env.scope x → ∃ u, RelV v u ∧ Look X.env s.heap m x u
  cell : ∀ x c, X.env.cells.lookup x = some c → ∃ v, s.heap.IsCell c v
  free : H X.env.locals = none
  freeC : ∀ x c, X.env.cells.lookup x = some c → H c = none ∨ (X.fn x = false ∧ ∃ o y, H c = some (.frz o (.own y)))
  pin : ∀ p ∈ X.pn ++ pins, s.heap.get? p.1 = some p.2 ∧ H p.1 = none ∧ p.1 ≠ X.env.locals ∧ p.1 ∉ X.fs ∧ ∀ v, p.2.data ≠ .cell v
  hok : HOk X.prog X.w H s.heap
  len : σ.length = X.N.length
section
variable {X : Cx} {pins : List (Addr × Obj)} {σ : List (Option V)} {H H' : Hp} {s : Shared} {h' : Heap}
theorem Cx.Ok.nofr (ok : X.Ok) {b : Addr} {o : Obj} (e : X.base.get? b = some o) : b ∉ X.fs := fun hb => by
  have := (ok.funs.mem hb).1
  rw [e] at this; cases this
theorem Inv.bs (I : Inv X pins σ H s) : ∀ b o, X.base.get? b = some o → s.heap.get? b = some o ∧ H b = none := fun b o e =>
  ⟨I.base.keep b o (I.ok.bs b o e).1 (I.ok.bs b o e).2 (I.ok.nofr e) (I.ok.noex b o e), I.base.free b o (I.ok.bs b o e).1 (I.ok.bs b o e).2 (I.ok.noex b o e)⟩
theorem Inv.bk (I : Inv X pins σ H s) : ∀ b o, X.base.get? b = some o → s.heap.get? b = some o := fun b o e => (I.bs b o e).1
theorem Inv.mod (I : Inv X pins σ H s) : Mod X.K X.mg X.base := I.ok.mod
theorem Inv.kIn (I : Inv X pins σ H s) : X.K.In s.heap := I.ok.mod.kin.keeps I.bk
theorem Inv.nolimit (I : Inv X pins σ H s) : s.heap.NoLimit := I.ok.mod.nolimit.keeps I.bk
theorem Inv.fr (I : Inv X pins σ H s) : ∃ m, Fr X.base X.env.locals s.heap m :=
  let ⟨m, hn, _⟩ := I.loc
  ⟨m, hn, I.bk, Nat.le_trans I.ok.bsz I.ok.above⟩
theorem Inv.lt (I : Inv X pins σ H s) : X.env.locals < s.heap.objs.size := let ⟨_, hn, _⟩ := I.loc; hn.lt
theorem Inv.sz (I : Inv X pins σ H s) : X.s_0.heap.objs.size ≤ s.heap.objs.size := Nat.le_trans I.ok.above (Nat.le_of_lt I.lt)
theorem Inv.nofs (I : Inv X pins σ H s) {a : Addr} (h : s.heap.objs.size ≤ a) : a ∉ X.fs := fun hb => by
  obtain ⟨_, o, ho, _⟩ := I.ok.funs.mem hb
  exact absurd (Nat.lt_of_lt_of_le (Heap.lt_size ho) (Nat.le_trans I.sz h)) (Nat.lt_irrefl _)
theorem Inv.cne (I : Inv X pins σ H s) : ∀ x c, X.env.cells.lookup x = some c → c ≠ X.env.locals := fun x c e z => by
  obtain ⟨v, o, ho, hd⟩ := I.cell x c e
  obtain ⟨m, ⟨o', es, ep, ho', hd', _⟩, _⟩ := I.loc
  rw [z, ho'] at ho; cases ho; rw [hd'] at hd; cases hd
theorem Inv.funs (I : Inv X pins σ H s) : s.heap.FunFrames X.base X.outer := by
  have all : ∀ (l : List Env), (∀ b ∈ frs l, b ∈ X.fs) → X.s_0.heap.FunFrames X.base l → s.heap.FunFrames X.base l := by
    intro l
    induction l with
    | nil => intro _ _; trivial
    | cons env r ih =>
      intro hs hl
      obtain ⟨hk, ⟨L, o, hf, hn, ho, hd⟩, hr⟩ := hl
      have hL : L ∈ X.fs := hs L (by unfold frs; rw [List.filterMap_cons, hf]; exact List.mem_cons_self)
      obtain ⟨sl, e⟩ := I.base.slot L o ho (I.ok.frf L hL) hL fun z => I.ok.exfs L z hL
      exact ⟨hk, ⟨L, _, hf, hn, e, hd⟩, ih (fun b hb => hs b (by unfold frs; rw [List.filterMap_cons, hf]; exact List.mem_cons_of_mem _ hb)) hr⟩
  exact all X.outer (fun _ hb => hb) I.ok.funs
theorem Inv.stack (I : Inv X pins σ H s) : s.heap.FunFrames X.base X.stack := by
  rcases I.ok.stk with e | ⟨e, hf⟩
  · rw [e]; exact I.funs
  · rw [e]
    obtain ⟨m, hn, _⟩ := I.loc
    refine .cons (by rw [I.ok.kind]; decide) hf hn ?_ I.funs
    exact Heap.get?_none_of_le (Nat.le_trans I.ok.bsz I.ok.above)
theorem Inv.stkSub (I : Inv X pins σ H s) : ∀ b ∈ frs X.stack, b ∈ X.env.locals :: X.fs := fun b hb => by
  rcases I.ok.stk with e | ⟨e, hf⟩
  · rw [e] at hb; exact List.mem_cons_of_mem _ hb
  · rw [e] at hb
    unfold frs at hb
    rw [List.filterMap_cons, hf] at hb
    exact hb
theorem Inv.stkFree (I : Inv X pins σ H s) : ∀ b ∈ frs X.stack, H b = none := fun b hb => by
  rcases List.mem_cons.mp (I.stkSub b hb) with e | hb
  · rw [e]; exact I.free
  · obtain ⟨_, o, ho, _⟩ := I.ok.funs.mem hb
    exact I.base.free b o ho (I.ok.frf b hb) fun z => I.ok.exfs b z hb
theorem Inv.step {g' : Array GenState} {t' : Nat} {d' : Drawn} {ch : List Addr} (I : Inv X pins σ H s)
    (hch : ∀ b ∈ ch, (b ∈ X.ex ∨ X.s_0.heap.objs.size ≤ b) ∧ b ≠ X.env.locals ∧ (∀ x c, X.env.cells.lookup x = some c → c ≠ b) ∧ ∀ p ∈ X.pn ++ pins, p.1 ≠ b)
    (keep : ∀ b o, b ≠ X.env.locals → b ∉ X.fs → b ∉ ch → s.heap.get? b = some o → H b = none → h'.get? b = some o)
    (slot : ∀ b o, b ≠ X.env.locals → b ∈ X.fs → b ∉ ch → s.heap.get? b = some o → H b = none → ∃ sl, h'.get? b = some { o with slots := sl }) (free : ∀ b o, b ∉ ch → s.heap.get? b = some o → H b = none → H' b = none)
    (there : ∀ b o, b ∉ ch → s.heap.get? b = some o → ∃ o', h'.get? b = some o')
    (tups : ∀ b xs, H b = some (.tup xs) → H' b = some (.tup xs)) (frzs : ∀ b o u, H b = some (.frz o u) → H' b = some (.frz o u)) (tbls : ∀ b ps, H b = some (.tbl ps) → ∃ more, H' b = some (.tbl (ps ++ more)))
    (ns : ∀ m, s.heap.Ns X.env.locals m → h'.Ns X.env.locals m) (hok : HOk X.prog X.w H' h') (hg : AllBare g') :
    Inv X pins σ H' { s with heap := h', gens := g', drawn := d', toks := t' } := by
  have neL : ∀ b o, X.s_0.heap.get? b = some o → b ≠ X.env.locals := fun b o e => Nat.ne_of_lt (Nat.lt_of_lt_of_le (Heap.lt_size e) I.ok.above)
  have neC : ∀ b o, X.s_0.heap.get? b = some o → b ∉ X.ex → b ∉ ch := fun b o e hx hb => by
    rcases (hch b hb).1 with z | z
    · exact hx z
    · exact absurd (Nat.lt_of_lt_of_le (Heap.lt_size e) z) (Nat.lt_irrefl _)
  have cellK : ∀ x c, X.env.cells.lookup x = some c → ∀ v, s.heap.IsCell c v → h'.IsCell c v := fun x c e v ⟨o, ho, hd⟩ => by
    have nch : c ∉ ch := fun z => (hch c z).2.2.1 x c e rfl
    rcases I.freeC x c e with hn | ⟨_, o', y', hn⟩
    · by_cases hc : c ∈ X.fs
      · obtain ⟨sl, q⟩ := slot c o (I.cne x c e) hc nch ho hn
        exact ⟨_, q, hd⟩
      · exact ⟨o, keep c o (I.cne x c e) hc nch ho hn, hd⟩
    · obtain ⟨e1, _⟩ := I.hok c _ hn
      obtain ⟨e2, _⟩ := hok c _ (frzs c o' _ hn)
      rw [ho] at e1; cases e1
      exact ⟨o, e2, hd⟩
  refine ⟨I.ok, I.os, hg, ⟨fun b o e n hb hx => ?_, fun b o e n hb hx => ?_, fun b o e n hx => ?_, fun b o e hx => ?_, fun b xs e => tups b xs (I.base.tups b xs e), fun b o xs e => frzs b o xs (I.base.frzs b o xs e), fun b ps e => ?_⟩, ?_, fun x c e => ?_, ?_, fun x c e => ?_, fun p hp => ?_, hok, I.len⟩
  · exact keep b o (neL b o e) hb (neC b o e hx) (I.base.keep b o e n hb hx) (I.base.free b o e n hx)
  · obtain ⟨sl, e1⟩ := I.base.slot b o e n hb hx
    obtain ⟨sl', e2⟩ := slot b _ (neL b o e) hb (neC b o e hx) e1 (I.base.free b o e n hx)
    exact ⟨sl', e2⟩
  · obtain ⟨o', e1⟩ := I.base.there b o e hx
    exact free b o' (neC b o e hx) e1 (I.base.free b o e n hx)
  · obtain ⟨o', e1⟩ := I.base.there b o e hx
    exact there b o' (neC b o e hx) e1
  · obtain ⟨m1, e1⟩ := I.base.tbls b ps e
    obtain ⟨m2, e2⟩ := tbls b _ e1
    exact ⟨m1 ++ m2, by rw [e2, Array.append_assoc]⟩
  · obtain ⟨m, hn, hl⟩ := I.loc
    refine ⟨m, ns m hn, fun i x v e1 e2 e3 => ?_⟩
    obtain ⟨u, r, l⟩ := hl i x v e1 e2 e3
    refine ⟨u, r, ?_⟩
    rcases l with l | ⟨k, c, e, z⟩
    · exact .inl l
    · exact .inr ⟨k, c, e, cellK x c e _ z⟩
  · obtain ⟨v, z⟩ := I.cell x c e
    exact ⟨v, cellK x c e v z⟩
  · obtain ⟨m, ⟨o, _, _, ho, _⟩, _⟩ := I.loc
    exact free _ o (fun z => (hch _ z).2.1 rfl) ho I.free
  · rcases I.freeC x c e with hn | ⟨hf, o', y', hn⟩
    · obtain ⟨v, o, ho, hd⟩ := I.cell x c e
      exact .inl (free c o (fun z => (hch c z).2.2.1 x c e rfl) ho hn)
    · exact .inr ⟨hf, o', y', frzs c o' _ hn⟩
  · obtain ⟨e, n, ne, nf, d⟩ := I.pin p hp
    have nch : p.1 ∉ ch := fun z => (hch p.1 z).2.2.2 p hp rfl
    exact ⟨keep p.1 p.2 ne nf nch e n, free p.1 p.2 nch e n, ne, nf, d⟩
theorem Inv.un {t' : Nat} (I : Inv X pins σ H s) (u : Un X.fs [] H H' s.heap h') (hok : HOk X.prog X.w H' h') : Inv X pins σ H' { s with heap := h', toks := t' } := by
  obtain ⟨m, ⟨o, es, ep, ho, r⟩, _⟩ := id I.loc
  obtain ⟨sl, hL⟩ := u.any ho I.free (by simp)
  exact I.step (g' := s.gens) (d' := s.drawn) (ch := []) (fun _ z => nomatch z) (fun b o _ hb _ e n => u.keep b o e n hb (by simp)) (fun b o _ hb _ e n => u.slot b o e n hb (by simp)) (fun b o _ e n => u.free b o e n (by simp)) (fun b o _ e => u.there b o e (by simp)) u.tups u.frzs u.tbls (fun m' hm => by
    obtain ⟨o', es', ep', ho', r'⟩ := hm
    rw [ho] at ho'; cases ho'
    exact ⟨_, es', ep', hL, r'⟩) hok I.bare
theorem Inv.call {g' : Array GenState} {t' : Nat} {d' : Drawn} {ch : List Addr} (I : Inv X pins σ H s) (u : Un (frs X.stack) ch H H' s.heap h') (hok : HOk X.prog X.w H' h') (hg : AllBare g')
    (hch : ∀ b ∈ ch, (b ∈ X.ex ∨ X.s_0.heap.objs.size ≤ b) ∧ b ≠ X.env.locals ∧ (∀ x c, X.env.cells.lookup x = some c → c ≠ b) ∧ ∀ p ∈ X.pn ++ pins, p.1 ≠ b) :
    Inv X pins σ H' { s with heap := h', gens := g', drawn := d', toks := t' } := by
  obtain ⟨m, ⟨o, es, ep, ho, r⟩, _⟩ := id I.loc
  obtain ⟨sl, hL⟩ := u.any ho I.free fun z => (hch _ z).2.1 rfl
  exact I.step (ch := ch) hch (fun b o hL hb hc e n => u.keep b o e n (fun z => (List.mem_cons.mp (I.stkSub b z)).elim hL hb) hc) (fun b o _ _ hc e n => u.any e n hc) (fun b o hc e n => u.free b o e n hc) (fun b o hc e => u.there b o e hc) u.tups u.frzs u.tbls (fun m' hm => by
    obtain ⟨o', es', ep', ho', r'⟩ := hm
    rw [ho] at ho'; cases ho'
    exact ⟨_, es', ep', hL, r'⟩) hok hg
theorem Inv.turned {t' : Nat} {it : Addr} (I : Inv X pins σ H s) (k : ∀ b o, b ≠ it → s.heap.get? b = some o → h'.get? b = some o) (hn : H it = none) (hL : it ≠ X.env.locals)
    (h1 : it ∈ X.ex ∨ X.s_0.heap.objs.size ≤ it) (h2 : ∀ x c, X.env.cells.lookup x = some c → c ≠ it) (h3 : ∀ p ∈ X.pn ++ pins, p.1 ≠ it) : Inv X pins σ H { s with heap := h', toks := t' } := by
  have nit : ∀ b u, H b = some u → b ≠ it := fun b u e z => by rw [z, hn] at e; cases e
  refine I.step (g' := s.gens) (d' := s.drawn) (ch := [it]) (fun b hb => ?_) (fun b o _ _ hc e _ => k b o (fun z => hc (by simp [z])) e) (fun b o _ _ hc e _ => ⟨o.slots, k b o (fun z => hc (by simp [z])) e⟩) (fun _ _ _ _ n => n)
    (fun b o hc e => ⟨o, k b o (fun z => hc (by simp [z])) e⟩) (fun _ _ e => e) (fun _ _ _ e => e) (fun b ps e => ⟨#[], by rw [e]; simp⟩) (fun m hm => ?_) (fun b u e => ?_) I.bare
  · have e : b = it := by simpa using hb
    subst e
    exact ⟨h1, hL, h2, h3⟩
  · obtain ⟨o, es, ep, ho, r⟩ := hm
    exact ⟨o, es, ep, k _ o (Ne.symm hL) ho, r⟩
  · refine (I.hok b u e).stay (fun c v hc q => k c v ?_ q) (fun _ q => q) fun _ _ q => q
    rcases hc with z | z
    · rw [z]; exact nit b u e
    · exact nit c _ z
theorem Inv.tok (I : Inv X pins σ H s) (t : Nat) : Inv X pins σ H { s with toks := t } := I.un (h' := s.heap) (t' := t) Un.refl I.hok
theorem Inv.kept {t' : Nat} (I : Inv X pins σ H s) (k : ∀ b u, s.heap.get? b = some u → h'.get? b = some u) : Inv X pins σ H { s with heap := h', toks := t' } := I.un (Un.kept k) (I.hok.kept k)
theorem Inv.laid {a : Addr} {o : HO} {t' : Nat} (I : Inv X pins σ H s) (k : ∀ b u, s.heap.get? b = some u → h'.get? b = some u) (hp : s.heap.objs.size ≤ a) (new : ObjOk X.prog X.w (upd H a o) h' a o) :
    Inv X pins σ (upd H a o) { s with heap := h', toks := t' } := I.un (Un.laid k hp (I.hok.fresh hp)) (I.hok.laid k hp new)
theorem Inv.write {x e : Addr} {o : HO} {t' : Nat} (I : Inv X pins σ H s) (mu : Mut (H x)) (he : e = x ∨ H e = some (.own x)) (k : ∀ b u, b ≠ e → s.heap.get? b = some u → h'.get? b = some u) (heo : ∃ u, h'.get? e = some u)
    (new : ObjOk X.prog X.w (upd H x o) h' x o) : Inv X pins σ (upd H x o) { s with heap := h', toks := t' } := I.un (Un.write mu he k heo) (I.hok.write mu he k heo new)
theorem Inv.weak {σ' : List (Option V)} (I : Inv X pins σ H s) (hl : σ'.length = σ.length) (w : ∀ (i : Nat) v, σ'[i]? = some (some v) → σ[i]? = some (some v)) : Inv X pins σ' H s :=
  ⟨I.ok, I.os, I.bare, I.base, let ⟨m, hn, hl'⟩ := I.loc; ⟨m, hn, fun i x v e1 e2 e3 => hl' i x v e1 (w i v e2) e3⟩, I.cell, I.free, I.freeC, I.pin, I.hok, hl.trans I.len⟩
theorem Inv.pins_of {pins' : List (Addr × Obj)} (I : Inv X pins σ H s) (h : ∀ p ∈ pins', s.heap.get? p.1 = some p.2 ∧ H p.1 = none ∧ p.1 ≠ X.env.locals ∧ p.1 ∉ X.fs ∧ ∀ v, p.2.data ≠ .cell v) : Inv X pins' σ H s :=
  ⟨I.ok, I.os, I.bare, I.base, I.loc, I.cell, I.free, I.freeC, fun p hp => (List.mem_append.mp hp).elim (fun z => I.pin p (List.mem_append_left _ z)) (h p), I.hok, I.len⟩
theorem nodup_ix {N : List Str} (hN : N.Nodup) {i j : Nat} {x : Str} (a : N[i]? = some x) (b : N[j]? = some x) : i = j := by
  obtain ⟨h1, e1⟩ := List.getElem?_eq_some_iff.mp a
  obtain ⟨h2, e2⟩ := List.getElem?_eq_some_iff.mp b
  exact (List.getElem_inj hN).mp (e1.trans e2.symm)
theorem store_ok2 {M : Model} {A : Around} {E : Value → Shared → Prop} {i : Nat} {x : Str} {v : V} {u : Value} {Q : Unit → Shared → Prop} (I : Inv X pins σ H s) (hN : X.N.Nodup) (hi : X.N[i]? = some x) (hx : Loc X.env.scope x) (r : RelV v u)
    (h : ∀ s', Inv X pins (σ.set i (some v)) H s' → (∃ a, Heap.SameBut a s.heap s'.heap ∧ (a = X.env.locals ∨ X.env.cells.lookup x = some a)) → Q () s') (hf : X.fn x = true ∨ X.env.scope.names.lookup x = some .local := by first | exact .inl rfl | exact .inr rfl | assumption) : wpAny M A (storeName X.env x u) Q E s := by
  obtain ⟨m, hn, hl⟩ := id I.loc
  have hcls : (X.env.scope.kind == .class || (X.env.scope.kind == .module && X.env.locals != X.env.globals)) = false := by rw [I.ok.kind]; rfl
  have hiσ : i < σ.length := by rw [I.len]; exact (List.getElem?_eq_some_iff.mp hi).1
  have cne := I.cne
  have tracked : ∀ {a : Addr} {h' : Heap}, (∃ o, s.heap.get? a = some o ∧ H a = none) → Heap.SameBut a s.heap h' → HOk X.prog X.w H h' := fun {a h'} ha hs b ob e => by
    obtain ⟨_, _, hfree⟩ := ha
    refine (I.hok b ob e).stay (fun c w' hc q => (hs.2 c ?_).trans q) (fun _ q => q) fun _ _ q => q
    rintro rfl
    rcases hc with rfl | hc
    · rw [hfree] at e; cases e
    · rw [hfree] at hc; cases hc
  rcases hx with hk | hk
  · refine wpAny_storeName_local hk hn (fun h' hn' hs => ?_) hcls
    obtain ⟨oL, _, _, hoL, _⟩ := id hn
    refine h _ ⟨I.ok, I.os, I.bare, ⟨fun b o e n hb hx => ?_, fun b o e n hb hx => ?_, I.base.free, fun b o e hx => ?_, I.base.tups, I.base.frzs, I.base.tbls⟩, ⟨_, hn', fun j y v' e1 e2 e3 => ?_⟩, fun y c e => ?_, I.free, I.freeC, fun p hp => ?_, tracked ⟨oL, hoL, I.free⟩ hs, by simpa using I.len⟩ ⟨_, hs, .inl rfl⟩
    · exact (hs.2 b (Nat.ne_of_lt (Nat.lt_of_lt_of_le (Heap.lt_size e) I.ok.above))).trans (I.base.keep b o e n hb hx)
    · obtain ⟨sl, e1⟩ := I.base.slot b o e n hb hx
      exact ⟨sl, (hs.2 b (Nat.ne_of_lt (Nat.lt_of_lt_of_le (Heap.lt_size e) I.ok.above))).trans e1⟩
    · obtain ⟨o', e1⟩ := I.base.there b o e hx
      exact ⟨o', (hs.2 b (Nat.ne_of_lt (Nat.lt_of_lt_of_le (Heap.lt_size e) I.ok.above))).trans e1⟩
    · by_cases hj : j = i
      · subst hj
        rw [hi] at e1; cases e1
        rw [List.getElem?_set_self hiσ] at e2
        cases e2
        exact ⟨u, r, .inl ⟨hk, by simp⟩⟩
      · rw [List.getElem?_set_ne (Ne.symm hj)] at e2
        obtain ⟨u', r', q⟩ := hl j y v' e1 e2 e3
        refine ⟨u', r', ?_⟩
        rcases q with ⟨k, e⟩ | ⟨k, c, e, z⟩
        · refine .inl ⟨k, ?_⟩
          have : y ≠ x := fun e => hj (nodup_ix hN e1 (e ▸ hi))
          simp [this, e]
        · exact .inr ⟨k, c, e, z.sameBut hs (cne y c e)⟩
    · obtain ⟨w', z⟩ := I.cell y c e
      exact ⟨w', z.sameBut hs (cne y c e)⟩
    · obtain ⟨e, n, ne, nf, d⟩ := I.pin p hp
      exact ⟨(hs.2 p.1 ne).trans e, n, ne, nf, d⟩
  · have hfn : X.fn x = true := by
      rcases hf with z | z
      · exact z
      · rw [z] at hk; cases hk
    obtain ⟨c, hc⟩ := I.ok.has x (.inl hk)
    obtain ⟨w', z⟩ := I.cell x c hc
    refine wpAny_storeName_cell I.ok.kind hk hc z (fun h' hc' hs => ?_)
    obtain ⟨oc, hoc, hocd⟩ := id z
    refine h { s with heap := h' } ⟨I.ok, I.os, I.bare, ⟨fun b o e n hb hx => ?_, fun b o e n hb hx => ?_, I.base.free, fun b o e hx => ?_, I.base.tups, I.base.frzs, I.base.tbls⟩, ⟨m, hn.sameBut hs (Ne.symm (cne x c hc)), fun j y v' e1 e2 e3 => ?_⟩, fun y c' e => ?_, I.free, I.freeC, fun p hp => ?_, tracked ⟨oc, hoc, (I.freeC x c hc).resolve_right (fun z => by rw [hfn] at z; exact absurd z.1 (by decide))⟩ hs, by simpa using I.len⟩ ⟨c, hs, .inr hc⟩
    · exact (hs.2 b (Nat.ne_of_lt (Nat.lt_of_lt_of_le (Heap.lt_size e) (I.ok.cab x c hfn hc)))).trans (I.base.keep b o e n hb hx)
    · obtain ⟨sl, e1⟩ := I.base.slot b o e n hb hx
      exact ⟨sl, (hs.2 b (Nat.ne_of_lt (Nat.lt_of_lt_of_le (Heap.lt_size e) (I.ok.cab x c hfn hc)))).trans e1⟩
    · obtain ⟨o', e1⟩ := I.base.there b o e hx
      exact ⟨o', (hs.2 b (Nat.ne_of_lt (Nat.lt_of_lt_of_le (Heap.lt_size e) (I.ok.cab x c hfn hc)))).trans e1⟩
    · by_cases hj : j = i
      · subst hj
        rw [hi] at e1; cases e1
        rw [List.getElem?_set_self hiσ] at e2
        cases e2
        exact ⟨u, r, .inr ⟨.inl hk, c, hc, hc'⟩⟩
      · rw [List.getElem?_set_ne (Ne.symm hj)] at e2
        obtain ⟨u', r', q⟩ := hl j y v' e1 e2 e3
        refine ⟨u', r', ?_⟩
        rcases q with q | ⟨k, c', e, z'⟩
        · exact .inl q
        · refine .inr ⟨k, c', e, z'.sameBut hs ?_⟩
          rintro rfl
          exact hj (nodup_ix hN e1 (I.ok.inj _ _ _ e hc ▸ hi))
    · by_cases hcc : c' = c
      · subst hcc; exact ⟨_, hc'⟩
      · obtain ⟨w2, z2⟩ := I.cell y c' e
        exact ⟨w2, z2.sameBut hs hcc⟩
    · obtain ⟨e, n, ne, nf, d⟩ := I.pin p hp
      refine ⟨(hs.2 p.1 ?_).trans e, n, ne, nf, d⟩
      intro q
      rw [q, hoc] at e
      have q' : oc = p.2 := Option.some.inj e
      exact d w' (by rw [← q']; exact hocd)
theorem store_ok {M : Model} {A : Around} {E : Value → Shared → Prop} {i : Nat} {x : Str} {v : V} {u : Value} {Q : Unit → Shared → Prop} (I : Inv X pins σ H s) (hN : X.N.Nodup) (hi : X.N[i]? = some x) (hx : Loc X.env.scope x) (r : RelV v u)
    (h : ∀ s', Inv X pins (σ.set i (some v)) H s' → Q () s') (hf : X.fn x = true ∨ X.env.scope.names.lookup x = some .local := by first | exact .inl rfl | exact .inr rfl | assumption) : wpAny M A (storeName X.env x u) Q E s :=
  store_ok2 I hN hi hx r (fun s' I' _ => h s' I') hf
theorem Inv.call' {s' : Shared} {ch : List Addr} (I : Inv X pins σ H s) (ho : s'.os = s.os) (u : Un (frs X.stack) ch H H' s.heap s'.heap) (hok : HOk X.prog X.w H' s'.heap) (hg : AllBare s'.gens)
    (hch : ∀ b ∈ ch, (b ∈ X.ex ∨ X.s_0.heap.objs.size ≤ b) ∧ b ≠ X.env.locals ∧ (∀ x c, X.env.cells.lookup x = some c → c ≠ b) ∧ ∀ p ∈ X.pn ++ pins, p.1 ≠ b) : Inv X pins σ H' s' := by
  obtain ⟨h', g', d', t', o'⟩ := s'
  have e : o' = s.os := ho
  subst e
  exact I.call (g' := g') (t' := t') (d' := d') u hok hg hch
end
abbrev XK := Value → Option Addr → Hp → Prop
abbrev St := List (Option V)
abbrev VK := V → Hp → Prop
abbrev TE := St → Hp → VK → Prop
abbrev TT := St → Hp → (Bool → Hp → Prop) → Prop
abbrev TA := St → Hp → (List V → Hp → Prop) → Prop
structure Ends where
  nx : St → Hp → Prop
  rt : VK
  bk : St → Hp → Prop := fun _ _ => False
  ct : St → Hp → Prop := fun _ _ => False
abbrev TS := Ends → St → Hp → Prop
def EP (X : Cx) (pins : List (Addr × Obj)) (σ : St) (Q : VK) (u : Value) (s' : Shared) : Prop := ∃ v H', Inv X pins σ H' s' ∧ RelV v u ∧ Q v H'
def TP (X : Cx) (pins : List (Addr × Obj)) (σ : St) (Q : Bool → Hp → Prop) (b : Bool) (s' : Shared) : Prop := ∃ H', Inv X pins σ H' s' ∧ Q b H'
def AP (X : Cx) (pins : List (Addr × Obj)) (σ : St) (Q : List V → Hp → Prop) (us : List Value) (s' : Shared) : Prop := ∃ vs H', Inv X pins σ H' s' ∧ Vals vs us ∧ Q vs H'
def SP (X : Cx) (pins : List (Addr × Obj)) (D : Ends) (f : Flow) (s' : Shared) : Prop :=
  match f with
  | .next => ∃ σ' H', Inv X pins σ' H' s' ∧ D.nx σ' H'
  | .brk => ∃ σ' H', Inv X pins σ' H' s' ∧ D.bk σ' H'
  | .cont => ∃ σ' H', Inv X pins σ' H' s' ∧ D.ct σ' H'
  | .ret u => ∃ v σ' H', Inv X pins σ' H' s' ∧ RelV v u ∧ D.rt v H'
def PE (X : Cx) (e : Expr) (t : TE) : Prop :=
  ∀ (pins : List (Addr × Obj)) (s : Shared) (σ : St) (H : Hp) (Q : VK), Inv X pins σ H s → t σ H Q → wpAny (model X.prog X.w) X.A (eval e X.env) (EP X pins σ Q) X.xe s
def PT (X : Cx) (e : Expr) (t : TT) : Prop :=
  ∀ (pins : List (Addr × Obj)) (s : Shared) (σ : St) (H : Hp) (Q : Bool → Hp → Prop), Inv X pins σ H s → t σ H Q → wpAny (model X.prog X.w) X.A (isTrue e X.env (eval e X.env)) (TP X pins σ Q) X.xe s
def PW (X : Cx) (e : Expr) (t : TT) : Prop :=
  ∀ (whole : Sem Value) (pins : List (Addr × Obj)) (s : Shared) (σ : St) (H : Hp) (Q : Bool → Hp → Prop), Inv X pins σ H s → t σ H Q → wpAny (model X.prog X.w) X.A (isTrue e X.env whole) (TP X pins σ Q) X.xe s
theorem PW.pt {X : Cx} {e : Expr} {t : TT} (h : PW X e t) : PT X e t := h _
def PA (X : Cx) (es : List Expr) (t : TA) : Prop :=
  ∀ (pos : Pos) (pins : List (Addr × Obj)) (s : Shared) (σ : St) (H : Hp) (Q : List V → Hp → Prop), Inv X pins σ H s → t σ H Q → wpAny (model X.prog X.w) X.A (spliced (backTo pos (starEach es X.env))) (AP X pins σ Q) X.xe s
def PS (X : Cx) (st : Stmt) (t : TS) : Prop :=
  ∀ (pins : List (Addr × Obj)) (s : Shared) (σ : St) (H : Hp) (D : Ends), Inv X pins σ H s → t D σ H → wpAny (model X.prog X.w) X.A (exec st X.env) (SP X pins D) X.xe s
def PSs (X : Cx) (st : List Stmt) (t : TS) : Prop :=
  ∀ (pins : List (Addr × Obj)) (s : Shared) (σ : St) (H : Hp) (D : Ends), Inv X pins σ H s → t D σ H → wpAny (model X.prog X.w) X.A (execs st X.env) (SP X pins D) X.xe s
theorem thn {α : Type} {t : Sem α} {Q Q' : α → Shared → Prop} {M : Model} {A : Around} {E : Value → Shared → Prop} {s : Shared} (h : wpAny M A t Q E s) (hQ : ∀ a s, Q a s → Q' a s) : wpAny M A t Q' E s := wpAny_mono h hQ fun _ _ x => x
end L2
namespace L2
open PySem PySem.Spec PyProof.Rows
section
variable {X : Cx}
theorem bin {a b : Expr} {ta tb : TE} (ha : PE X a ta) (hb : PE X b tb) {pins : List (Addr × Obj)} {s : Shared} {σ : St} {H : Hp} {R : V → V → Hp → Prop} (I : Inv X pins σ H s) (h : ta σ H fun x H1 => tb σ H1 fun y H2 => R x y H2)
    {α : Type} {Q : α → Shared → Prop} {f : Value → Value → Sem α}
    (hf : ∀ v u s2 x y H2, Inv X pins σ H2 s2 → RelV x v → RelV y u → R x y H2 → wpAny (model X.prog X.w) X.A (f v u) Q X.xe s2) :
    wpAny (model X.prog X.w) X.A (eval a X.env) (fun v s₁ => wpAny (model X.prog X.w) X.A (eval b X.env) (fun u s₂ => wpAny (model X.prog X.w) X.A (f v u) Q X.xe s₂) X.xe s₁) X.xe s := by
  refine thn (ha pins s σ H _ I h) fun v s1 ⟨x, H1, I1, r1, q1⟩ => ?_
  refine thn (hb pins s1 σ H1 _ I1 q1) fun u s2 ⟨y, H2, I2, r2, q2⟩ => ?_
  exact hf v u s2 x y H2 I2 r1 r2 q2
def tVar (i : Nat) : TE := fun σ H Q => ∃ v, σ[i]? = some (some v) ∧ Q v H
def tC (v : V) : TE := fun _ H Q => Q v H
theorem pe_var {i : Nat} {x : Str} {pos : Pos} (hN : X.N[i]? = some x) (hv : Vis X.env.scope x) (hd : (x == ("__debug__" : Str)) = false := by decide) (hcd : (x == ("__classdict__" : Str)) = false := by decide) : PE X (.Name x pos) (tVar i) := by
  intro pins s σ H Q I h
  obtain ⟨v, e, h⟩ := h
  obtain ⟨m, hn, hl⟩ := I.loc
  obtain ⟨u, r, l⟩ := hl i x v hN e hv
  have fin : EP X pins σ Q u s := ⟨v, H, I, r, h⟩
  rcases l with ⟨hk, hm⟩ | ⟨hk, c, hc, hcell⟩
  · exact wpAny_Name (wpAny_loadName_local I.ok.kind hk hn hm fin) hd
  · rcases hk with hk | hk
    · exact wpAny_Name (wpAny_loadName_cell I.ok.kind hk hc hcell fin) hd
    · exact wpAny_Name (wpAny_loadName_free I.ok.kind hk hc hcell fin hcd) hd
theorem pe_int {i j pos} : PE X (.Constant (.int i) j pos) (tC (.int i)) := fun _ _ _ H _ I h => wpAny_Constant_int ⟨.int i, H, I.tok _, ⟨_, rfl⟩, h⟩
theorem pe_bl {b j pos} : PE X (.Constant (.bool b) j pos) (tC (.bl b)) := fun _ _ _ H _ I h => Constant_bool ⟨.bl b, H, I, rfl, h⟩
theorem pe_non {j pos} : PE X (.Constant .none j pos) (tC .non) := fun _ _ _ H _ I h => Constant_none ⟨.non, H, I, rfl, h⟩
theorem pe_str {x j pos} : PE X (.Constant (.str x) j pos) (tC (.str x)) := fun _ _ _ H _ I h => Calls.Constant_str ⟨.str x, H, I.tok _, ⟨_, rfl⟩, h⟩
def Gl (X : Cx) (x : Str) : Prop := X.env.kindOf x = some .globalImplicit
theorem ld_glob {E : Value → Shared → Prop} {pins : List (Addr × Obj)} {s : Shared} {σ : St} {H : Hp} {x : Str} {u : Value} {pos : Pos} {Q : Value → Shared → Prop} (I : Inv X pins σ H s) (hg : Gl X x) (hm : X.mg x = some u) (h : Q u s)
    (hd : (x == ("__debug__" : Str)) = false := by decide) : wpAny (model X.prog X.w) X.A (eval (.Name x pos) X.env) Q E s :=
  Calls.Name_function_global I.ok.kind hg (Calls.loadGlobal_global (by rw [I.ok.glob]; exact I.mod.glob.keeps I.bk) hm h) hd
theorem ld_blt {E : Value → Shared → Prop} {pins : List (Addr × Obj)} {s : Shared} {σ : St} {H : Hp} {x : Str} {u : Value} {pos : Pos} {Q : Value → Shared → Prop} (I : Inv X pins σ H s) (hg : Gl X x) (hm : X.mg x = none) (hv : bootBuiltins x = some u) (h : Q u s)
    (hn : x ≠ "__name__" := by decide) (hd : (x == ("__debug__" : Str)) = false := by decide) : wpAny (model X.prog X.w) X.A (eval (.Name x pos) X.env) Q E s := by
  obtain ⟨mb, h1, h2⟩ := I.mod.blt
  exact Calls.Name_function_global I.ok.kind hg (Calls.loadGlobal_builtin (by rw [I.ok.glob]; exact I.mod.glob.keeps I.bk) hm (by rw [I.ok.blt]; exact h1.keeps I.bk) ((h2 x hn).trans hv) h) hd
theorem pe_glob {x : Str} {v : V} {u : Value} {pos : Pos} (hg : Gl X x) (hm : X.mg x = some u) (r : RelV v u) (hd : (x == ("__debug__" : Str)) = false := by decide) : PE X (.Name x pos) (tC v) :=
  fun _ _ _ H _ I h => ld_glob I hg hm ⟨v, H, I, r, h⟩ hd
theorem pe_bltn {x : Str} {v : V} {u : Value} {pos : Pos} (hg : Gl X x) (hm : X.mg x = none) (hv : bootBuiltins x = some u) (r : RelV v u) (hn : x ≠ "__name__" := by decide) (hd : (x == ("__debug__" : Str)) = false := by decide) : PE X (.Name x pos) (tC v) :=
  fun _ _ _ H _ I h => ld_blt I hg hm hv ⟨v, H, I, r, h⟩ hn hd
variable {a b : Expr} {ta tb : TE} {pos : Pos}
variable {tA tB' : TT} {rest : List Expr}
def tAnd (t u : TT) : TT := fun σ H Q => t σ H fun c H1 => if c = true then u σ H1 Q else Q false H1
def tOr (t u : TT) : TT := fun σ H Q => t σ H fun c H1 => if c = true then Q true H1 else u σ H1 Q
def tNot (t : TT) : TT := fun σ H Q => t σ H fun c H1 => Q (!c) H1
theorem pw_and1 (ha : PT X a tA) : PW X (.BoolOp .And [a] pos) tA := by
  intro wh pins s σ H Q I h
  refine isTrue_and (thn (ha pins s σ H Q I h) fun c s1 e => ?_)
  cases c with
  | true => exact isTrue_and_nil e
  | false => exact e
theorem pw_or1 (ha : PT X a tA) : PW X (.BoolOp .Or [a] pos) tA := by
  intro wh pins s σ H Q I h
  refine isTrue_or (thn (ha pins s σ H Q I h) fun c s1 e => ?_)
  cases c with
  | false => exact isTrue_or_nil e
  | true => exact e
theorem pw_and (ha : PT X a tA) (hb : PW X (.BoolOp .And (b :: rest) pos) tB') : PW X (.BoolOp .And (a :: b :: rest) pos) (tAnd tA tB') := by
  intro wh pins s σ H Q I h
  refine isTrue_and (thn (ha pins s σ H _ I h) fun c s1 ⟨H1, I1, q1⟩ => ?_)
  cases c with
  | true => exact hb wh pins s1 σ H1 Q I1 q1
  | false => exact ⟨H1, I1, q1⟩
theorem pw_or (ha : PT X a tA) (hb : PW X (.BoolOp .Or (b :: rest) pos) tB') : PW X (.BoolOp .Or (a :: b :: rest) pos) (tOr tA tB') := by
  intro wh pins s σ H Q I h
  refine isTrue_or (thn (ha pins s σ H _ I h) fun c s1 ⟨H1, I1, q1⟩ => ?_)
  cases c with
  | true => exact ⟨H1, I1, q1⟩
  | false => exact hb wh pins s1 σ H1 Q I1 q1
theorem pt_not (ha : PT X a tA) : PT X (.UnaryOp .Not a pos) (tNot tA) := by
  intro pins s σ H Q I h
  exact isTrue_not (ha pins s σ H (fun c H1 => Q (!c) H1) I h)
def tAndV (ta tb : TE) : TE := fun σ H Q => ta σ H fun x H1 => ∃ c, x = .bl c ∧ if c = true then tb σ H1 Q else Q (.bl false) H1
def tOrV (ta tb : TE) : TE := fun σ H Q => ta σ H fun x H1 => ∃ c, x = .bl c ∧ if c = true then Q (.bl true) H1 else tb σ H1 Q
def tNotV (ta : TE) : TE := fun σ H Q => ta σ H fun x H1 => ∃ c, x = .bl c ∧ Q (.bl (!c)) H1
theorem pe_one {op} {t : TE} (h : PE X a t) : PE X (.BoolOp op [a] pos) t := fun pins s σ H Q I hw => BoolOp_one (h pins s σ H Q I hw)
theorem pe_and (ha : PE X a ta) (hb : PE X (.BoolOp .And (b :: rest) pos) tb) : PE X (.BoolOp .And (a :: b :: rest) pos) (tAndV ta tb) := by
  intro pins s σ H Q I h
  refine BoolOp_and (thn (ha pins s σ H _ I h) fun v s1 ⟨x, H1, I1, r1, q1⟩ => ?_)
  obtain ⟨c, rfl, q1⟩ := q1
  cases r1
  refine wpAny_truthy_bool ?_
  cases c with
  | true => exact hb pins s1 σ H1 Q I1 q1
  | false => exact ⟨.bl false, H1, I1, rfl, q1⟩
theorem pe_or (ha : PE X a ta) (hb : PE X (.BoolOp .Or (b :: rest) pos) tb) : PE X (.BoolOp .Or (a :: b :: rest) pos) (tOrV ta tb) := by
  intro pins s σ H Q I h
  refine BoolOp_or (thn (ha pins s σ H _ I h) fun v s1 ⟨x, H1, I1, r1, q1⟩ => ?_)
  obtain ⟨c, rfl, q1⟩ := q1
  cases r1
  refine wpAny_truthy_bool ?_
  cases c with
  | false => exact hb pins s1 σ H1 Q I1 q1
  | true => exact ⟨.bl true, H1, I1, rfl, q1⟩
theorem pe_not (ha : PE X a ta) : PE X (.UnaryOp .Not a pos) (tNotV ta) := by
  intro pins s σ H Q I h
  refine UnaryOp_ (thn (ha pins s σ H _ I h) fun v s1 ⟨x, H1, I1, r1, q1⟩ => ?_)
  obtain ⟨c, rfl, q1⟩ := q1
  cases r1
  exact not_of (wpAny_truthy_bool ⟨.bl (!c), H1, I1, rfl, q1⟩)
end
end L2
namespace L2
open PySem PySem.Spec PyProof.Rows
def SqL (K : PySem.W.Frag) (H : Hp) (a : Addr) (xs : List V) : Prop :=
  Rd H a (.lst xs) ∨
    ∃ (o : Obj) (its : Array Value) (n : Nat), K.lookup a = some o ∧ o.cls = .type "list" ∧ o.dict = none ∧ o.data = .seq its n ∧ its.size ≤ sizeLine ∧ Vals xs its.toList
def SqT (K : PySem.W.Frag) (H : Hp) (a : Addr) (xs : List V) : Prop :=
  Rd H a (.tup xs) ∨
    ∃ (o : Obj) (its : Array Value) (n : Nat), K.lookup a = some o ∧ o.cls = .type "tuple" ∧ o.data = .seq its n ∧ its.size ≤ sizeLine ∧ Vals xs its.toList
def absV : Value → Option V
  | .none => some .non
  | .bool b => some (.bl b)
  | .int i _ => some (.int i)
  | .str x _ => some (.str x)
  | .bytes b _ => some (.byt b)
  | .float b _ => some (.flt b)
  | .ref a => some (.ref a)
  | .type n => some (.ty n)
  | _ => none
theorem RelV.abs {x : V} {u : Value} (r : RelV x u) : absV u = some x := by
  cases x with
  | non => cases r; rfl
  | bl _ => cases r; rfl
  | int _ => obtain ⟨t, rfl⟩ := r; rfl
  | str _ => obtain ⟨t, rfl⟩ := r; rfl
  | byt _ => obtain ⟨t, rfl⟩ := r; rfl
  | flt _ => obtain ⟨t, rfl⟩ := r; rfl
  | ref _ => cases r; rfl
  | ty _ => cases r; rfl
theorem RelV.inj {x y : V} {u : Value} (r : RelV x u) (q : RelV y u) : x = y := Option.some.inj (r.abs.symm.trans q.abs)
theorem Vals.inj : ∀ {xs ys : List V} {us : List Value}, Vals xs us → Vals ys us → xs = ys
  | _, _, _, .nil, .nil => rfl
  | _, _, _, .cons r t, .cons r' t' => by rw [r.inj r', Vals.inj t t']
section
variable {X : Cx} {pins : List (Addr × Obj)} {σ : St} {H : Hp} {s : Shared} {a : Addr} {xs ys : List V}
theorem SqL.of {K : PySem.W.Frag} (h : H a = some (.lst xs)) : SqL K H a xs := .inl (.inl h)
theorem SqT.of {K : PySem.W.Frag} (h : H a = some (.tup xs)) : SqT K H a xs := .inl (.inl h)
theorem Inv.list (I : Inv X pins σ H s) (h : SqL X.K H a xs) : ∃ its : List Value, Vals xs its ∧ PlainL s.heap a its.toArray ∧ xs.length ≤ sizeLine := by
  rcases h with h | ⟨o, its, n, hk, hc, hd, hs, hz, r⟩
  · obtain ⟨z, its, n, r, e⟩ := h.ok I.hok
    exact ⟨its, r, ⟨_, n, e, rfl, rfl, rfl⟩, z⟩
  · refine ⟨its.toList, r, ⟨o, n, I.kIn a o hk, hc, hd, by simpa using hs⟩, ?_⟩
    have e := r.length
    simp only [Array.length_toList] at e
    omega
theorem Inv.tuple (I : Inv X pins σ H s) (h : SqT X.K H a xs) : ∃ its : List Value, Vals xs its ∧ IsTup s.heap a its.toArray ∧ xs.length ≤ sizeLine := by
  rcases h with h | ⟨o, its, n, hk, hc, hs, hz, r⟩
  · obtain ⟨z, its, r, p⟩ := h.ok I.hok
    exact ⟨its, r, p, z⟩
  · refine ⟨its.toList, r, ⟨o, I.kIn a o hk, hc, n, by simpa using hs⟩, ?_⟩
    have e := r.length
    simp only [Array.length_toList] at e
    omega
theorem Inv.list_inj (I : Inv X pins σ H s) (h : SqL X.K H a xs) (h' : SqL X.K H a ys) : xs = ys := by
  obtain ⟨its, r, ⟨o, n, e, _, _, d⟩, _⟩ := I.list h
  obtain ⟨its', r', ⟨o', n', e', _, _, d'⟩, _⟩ := I.list h'
  rw [e] at e'; cases e'
  rw [d] at d'
  injection d' with d1 _
  have : its = its' := by simpa using congrArg Array.toList d1
  subst this
  exact r.inj r'
end
abbrev Cx.wish (X : Cx) (E : Value → Shared → Prop) : Cx := { X with xe := E }
abbrev Cx.nox (X : Cx) : Cx := X.wish fun _ _ => False
theorem Cx.Ok.wish {X : Cx} (ok : X.Ok) (E : Value → Shared → Prop) : (X.wish E).Ok :=
  ⟨ok.mod, ok.kind, ok.glob, ok.blt, ok.above, ok.inj, ok.has, ok.cab, ok.hd, ok.frames, ok.stk, ok.exf, ok.bs, ok.bsz, ok.noex, ok.exfs, ok.funs, ok.frf⟩
theorem Cx.Ok.unwish {X : Cx} {E : Value → Shared → Prop} (ok : (X.wish E).Ok) : X.Ok :=
  ⟨ok.mod, ok.kind, ok.glob, ok.blt, ok.above, ok.inj, ok.has, ok.cab, ok.hd, ok.frames, ok.stk, ok.exf, ok.bs, ok.bsz, ok.noex, ok.exfs, ok.funs, ok.frf⟩
section
variable {X : Cx} {pins : List (Addr × Obj)} {σ : St} {H : Hp} {s : Shared} {E : Value → Shared → Prop}
theorem Inv.wish (I : Inv X pins σ H s) (E : Value → Shared → Prop) : Inv (X.wish E) pins σ H s := ⟨I.ok.wish E, I.os, I.bare, I.base, I.loc, I.cell, I.free, I.freeC, I.pin, I.hok, I.len⟩
theorem Inv.unwish (I : Inv (X.wish E) pins σ H s) : Inv X pins σ H s := ⟨I.ok.unwish, I.os, I.bare, I.base, I.loc, I.cell, I.free, I.freeC, I.pin, I.hok, I.len⟩
theorem SP.unwish {D : Ends} {f : Flow} {s' : Shared} (h : SP (X.wish E) pins D f s') : SP X pins D f s' := by
  cases f with
  | next => obtain ⟨σ', H', I, q⟩ := h; exact ⟨σ', H', I.unwish, q⟩
  | brk => obtain ⟨σ', H', I, q⟩ := h; exact ⟨σ', H', I.unwish, q⟩
  | cont => obtain ⟨σ', H', I, q⟩ := h; exact ⟨σ', H', I.unwish, q⟩
  | ret u => obtain ⟨v, σ', H', I, r, q⟩ := h; exact ⟨v, σ', H', I.unwish, r, q⟩
theorem PE.nox {e : Expr} {t : TE} (h : PE X.nox e t) : PE X e t := fun pins s σ H Q I hw =>
  wpAny_mono (h pins s σ H Q (I.wish _) hw) (fun _ _ ⟨v, H', I', r, q⟩ => ⟨v, H', I'.unwish, r, q⟩) fun _ _ z => False.elim z
theorem PT.nox {e : Expr} {t : TT} (h : PT X.nox e t) : PT X e t := fun pins s σ H Q I hw =>
  wpAny_mono (h pins s σ H Q (I.wish _) hw) (fun _ _ ⟨H', I', q⟩ => ⟨H', I'.unwish, q⟩) fun _ _ z => False.elim z
theorem PSs.nox {st : List Stmt} {t : TS} (h : PSs X.nox st t) : PSs X st t := fun pins s σ H D I hw =>
  wpAny_mono (h pins s σ H D (I.wish _) hw) (fun _ _ q => q.unwish) fun _ _ z => False.elim z
end
section
variable {X : Cx} {st : Stmt} {rest : List Stmt} {t u : TS} {e : Expr} {te : TE} {pos : Pos}
def tNext : TS := fun D σ H => D.nx σ H
def tSeq (t u : TS) : TS := fun D σ H => t { D with nx := u D } σ H
theorem pss_nil : PSs X [] tNext := fun _ _ σ H _ I h => wpAny_execs_nil ⟨σ, H, I, h⟩
theorem pss_cons (h1 : PS X st t) (h2 : PSs X rest u) : PSs X (st :: rest) (tSeq t u) := by
  intro pins s σ H D I h
  refine wpAny_execs_cons (thn (h1 pins s σ H { D with nx := u D } I h) fun f s1 q => ?_)
  cases f with
  | next =>
    obtain ⟨σ', H', I', q⟩ := q
    exact h2 pins s1 σ' H' D I' q
  | ret v => exact q
  | brk => exact q
  | cont => exact q
theorem pss_one (h1 : PS X st t) : PSs X [st] t := by
  intro pins s σ H D I h
  refine wpAny_execs_cons (thn (h1 pins s σ H D I h) fun f s1 q => ?_)
  cases f with
  | next => exact wpAny_execs_nil q
  | ret v => exact q
  | brk => exact q
  | cont => exact q
theorem Inv.quiet {pins : List (Addr × Obj)} {σ : St} {H : Hp} {s : Shared} (I : Inv X pins σ H s) : interactive X.env = false := by simp [interactive, I.ok.kind]
def tDrop (te : TE) : TS := fun D σ H => te σ H fun _ H1 => D.nx σ H1
theorem ps_expr (he : PE X e te) (hs : swapsWith e none pos.line X.env = pure false := by rfl) : PS X (.Expr e pos) (tDrop te) := by
  intro pins s σ H D I h
  exact wpAny_Expr_any (thn (he pins s σ H _ I h) fun v s1 ⟨x, H1, I1, r1, q1⟩ => ⟨σ, H1, I1, q1⟩) I.quiet hs
def tRet (te : TE) : TS := fun D σ H => te σ H D.rt
theorem ps_ret (he : PE X e te) : PS X (.Return (some e) pos) (tRet te) := by
  intro pins s σ H D I h
  exact wpAny_Return_some (thn (he pins s σ H _ I h) fun v s1 ⟨x, H1, I1, r1, q1⟩ => ⟨x, σ, H1, I1, r1, q1⟩)
def tIfS (c : TT) (t u : TS) : TS := fun D σ H => c σ H fun b H1 => if b = true then t D σ H1 else u D σ H1
theorem ps_if {c : Expr} {a b : List Stmt} {tc : TT} (hc : PT X c tc) (ha : PSs X a t) (hb : PSs X b u) : PS X (.If c a b pos) (tIfS tc t u) := by
  intro pins s σ H D I h
  refine wpAny_If (thn (hc pins s σ H _ I h) fun d s1 ⟨H1, I1, q1⟩ => ?_)
  cases d with
  | true => exact ha pins s1 σ H1 D I1 q1
  | false => exact hb pins s1 σ H1 D I1 q1
def tNever : TS := fun _ _ _ => False
theorem ps_never : PS X st tNever := fun _ _ _ _ _ _ h => h.elim
end
abbrev TG := V → St → Hp → (St → Hp → Prop) → Prop
abbrev TGs := List V → St → Hp → (St → Hp → Prop) → Prop
def PG (X : Cx) (target : Expr) (t : TG) : Prop :=
  ∀ (pins : List (Addr × Obj)) (s : Shared) (σ : St) (H : Hp) (v : V) (u : Value) (Q : St → Hp → Prop), Inv X pins σ H s → RelV v u → t v σ H Q →
    wpAny (model X.prog X.w) X.A (assign target X.env u) (fun _ s' => ∃ σ' H', Inv X pins σ' H' s' ∧ Q σ' H') X.xe s
def PGs (X : Cx) (ts : List Expr) (t : TGs) : Prop :=
  ∀ (pins : List (Addr × Obj)) (s : Shared) (σ : St) (H : Hp) (vs : List V) (us : List Value) (Q : St → Hp → Prop), Inv X pins σ H s → Vals vs us → t vs σ H Q →
    wpAny (model X.prog X.w) X.A (assignInOrder ((assignEach ts X.env).map (·.2)) us) (fun _ s' => ∃ σ' H', Inv X pins σ' H' s' ∧ Q σ' H') X.xe s
abbrev TSet := V → V → V → Hp → (Hp → Prop) → Prop
def PSet (X : Cx) (t : TSet) : Prop :=
  ∀ (pins : List (Addr × Obj)) (s : Shared) (σ : St) (H : Hp) (o i v : V) (ov iv u : Value) (Q : Hp → Prop), Inv X pins σ H s → RelV o ov → RelV i iv → RelV v u → t o i v H Q →
    wpAny (model X.prog X.w) X.A (setItem ov iv u) (fun _ s' => ∃ H', Inv X pins σ H' s' ∧ Q H') X.xe s
abbrev TIp := V → V → Hp → VK → Prop
def PIp (X : Cx) (op : Operator) (t : TIp) : Prop :=
  ∀ (pins : List (Addr × Obj)) (s : Shared) (σ : St) (H : Hp) (x y : V) (v u : Value) (Q : VK), Inv X pins σ H s → RelV x v → RelV y u → t x y H Q →
    wpAny (model X.prog X.w) X.A (inplaceOp op v u) (EP X pins σ Q) X.xe s
section
variable {X : Cx} {pos : Pos}
def gName (i : Nat) : TG := fun v σ H Q => Q (σ.set i (some v)) H
theorem pg_name {i : Nat} {x : Str} (hN : X.N.Nodup) (hi : X.N[i]? = some x) (hx : Loc X.env.scope x) (hf : X.fn x = true ∨ X.env.scope.names.lookup x = some .local := by first | exact .inl rfl | exact .inr rfl | assumption) : PG X (.Name x pos) (gName i) := by
  intro pins s σ H v u Q I r h
  exact wpAny_assign_Name (store_ok I hN hi hx r (fun s' I' => ⟨_, H, I', h⟩) hf)
def gNil : TGs := fun vs σ H Q => vs = [] ∧ Q σ H
def gCons (t : TG) (u : TGs) : TGs := fun vs σ H Q => ∃ v r, vs = v :: r ∧ t v σ H fun σ' H' => u r σ' H' Q
theorem pgs_nil : PGs X [] gNil := by
  intro pins s σ H vs us Q I r h
  obtain ⟨e, h⟩ := h
  subst e
  cases r
  exact assignInOrder_nil ⟨σ, H, I, h⟩
theorem pgs_cons {e : Expr} {es : List Expr} {t : TG} {u : TGs} (h1 : PG X e t) (h2 : PGs X es u)
    (hs : (assignEach (e :: es) X.env).map (·.2) = assign e X.env :: (assignEach es X.env).map (·.2) := by rfl) : PGs X (e :: es) (gCons t u) := by
  intro pins s σ H vs us Q I r h
  obtain ⟨v, vr, e1, h⟩ := h
  subst e1
  cases r with
  | cons r rr =>
    rw [hs]
    refine assignInOrder_cons (thn (h1 pins s σ H _ _ _ I r h) fun _ s1 ⟨σ1, H1, I1, q1⟩ => ?_)
    exact h2 pins s1 σ1 H1 _ _ Q I1 rr q1
def gTup (K : PySem.W.Frag) (n : Nat) (t : TGs) : TG := fun v σ H Q => ∃ a xs, v = .ref a ∧ SqT K H a xs ∧ xs.length = n ∧ t xs σ H Q
theorem pg_tup {es : List Expr} {k : Nat} {t : TGs} {n : Nat} (hc : X.calm = true) (h : PGs X es t)
    (hn : (assignEach es X.env).length = n := by rfl) (hst : (assignEach es X.env).findIdx? (·.1) = none := by rfl) : PG X (.Tuple es k pos) (gTup X.K n t) := by
  intro pins s σ H v u Q I r hw
  obtain ⟨a, xs, e1, hq, hl, hw⟩ := hw
  subst e1
  cases r
  obtain ⟨its, rv, ht, hz⟩ := I.tuple hq
  refine assign_Tuple_tuple (I.ok.hd hc) ht (by simp [hn, ← hl, rv.length]) hst fun h' hx => ?_
  have I1 : Inv X pins σ H { s with heap := h' } := I.kept (t' := s.toks) fun b o e => hx b o (Nat.ne_of_lt (Heap.lt_size e)) e
  exact h pins _ σ H xs _ Q I1 (by simpa using rv) hw
def gSub (to ti : TE) (t : TSet) : TG := fun v σ H Q => to σ H fun o H1 => ti σ H1 fun i H2 => t o i v H2 fun H3 => Q σ H3
theorem pg_sub {o i : Expr} {to ti : TE} {t : TSet} (ho : PE X o to) (hi : PE X i ti) (hs : PSet X t)
    (ha : ∀ v, assign (.Subscript o i pos) X.env v = (do
      let ov ← holding [v] (eval o X.env)
      let iv ← holding [v, ov] (eval i X.env)
      standAt pos
      holding [v, ov, iv] (setItem ov iv v)
      release [v, ov, iv] []) := by intro _; rfl) : PG X (.Subscript o i pos) (gSub to ti t) := by
  intro pins s σ H v u Q I r h
  rw [ha]
  refine wpAny_bind (wpAny_holding (thn (ho pins s σ H _ I h) fun ov s1 ⟨x, H1, I1, r1, q1⟩ => ?_))
  refine wpAny_bind (wpAny_holding (thn (hi pins s1 σ H1 _ I1 q1) fun iv s2 ⟨y, H2, I2, r2, q2⟩ => ?_))
  refine wpAny_bind (wpAny_standAt (wpAny_bind (wpAny_holding (thn (hs pins s2 σ H2 x y v ov iv u _ I2 r1 r2 r q2) fun _ s3 ⟨H3, I3, q3⟩ => ?_))))
  exact wpAny_release ⟨σ, H3, I3, q3⟩
def tAsg (te : TE) (g : TG) : TS := fun D σ H => te σ H fun x H1 => g x σ H1 D.nx
theorem ps_asg {tg e : Expr} {te : TE} {g : TG} (he : PE X e te) (hg : PG X tg g) (hs : swapsWithSole [tg] e pos.line X.env = pure false := by rfl) (hw : swappedStores [tg] e X.env = pure none := by rfl)
    (h1 : (assignEach [tg] X.env).map (·.2) = [assign tg X.env] := by rfl) : PS X (.Assign [tg] e pos) (tAsg te g) := by
  intro pins s σ H D I h
  refine wpAny_Assign_stores (thn (he pins s σ H _ I h) fun v s1 ⟨x, H1, I1, r1, q1⟩ => ?_) hs hw
  rw [h1]
  exact thn (hg pins s1 σ H1 x v _ I1 r1 q1) fun _ s2 q => q
theorem ps_set {i : Nat} {x : Str} {e : Expr} {te : TE} {pos' : Pos} (hN : X.N.Nodup) (hi : X.N[i]? = some x) (hx : Loc X.env.scope x) (he : PE X e te) (hs : swapsWith e (some (.Name x pos')) pos.line X.env = pure false := by rfl) (hf : X.fn x = true ∨ X.env.scope.names.lookup x = some .local := by first | exact .inl rfl | exact .inr rfl | assumption) :
    PS X (.Assign [.Name x pos'] e pos) (tAsg te (gName i)) := by
  intro pins s σ H D I h
  refine wpAny_Assign_Name (thn (he pins s σ H _ I h) fun v s1 ⟨y, H1, I1, r1, q1⟩ => ?_) hs
  exact store_ok I1 hN hi hx r1 (fun s2 I2 => ⟨_, H1, I2, q1⟩) hf
def tAug (i : Nat) (te : TE) (ti : TIp) : TS := fun D σ H => ∃ x, σ[i]? = some (some x) ∧ te σ H fun y H1 => ti x y H1 fun z H2 => D.nx (σ.set i (some z)) H2
theorem ps_aug {i : Nat} {x : Str} {e : Expr} {te : TE} {op : Operator} {ti : TIp} {pos' : Pos} (hN : X.N.Nodup) (hi : X.N[i]? = some x) (hx : Loc X.env.scope x) (he : PE X e te) (ho : PIp X op ti) (hf : X.fn x = true ∨ X.env.scope.names.lookup x = some .local := by first | exact .inl rfl | exact .inr rfl | assumption) :
    PS X (.AugAssign (.Name x pos') op e pos) (tAug i te ti) := by
  intro pins s σ H D I h
  obtain ⟨v, e1, h⟩ := h
  obtain ⟨m, hn, hl⟩ := I.loc
  have vis : Vis X.env.scope x := by rcases hx with k | k; exact .inl k; exact .inr (.inl k)
  obtain ⟨u, r, l⟩ := hl i x v hi e1 vis
  refine wpAny_AugAssign_Name ?_
  have go : wpAny (model X.prog X.w) X.A (eval e X.env) (fun w s₂ => wpAny (model X.prog X.w) X.A (inplaceOp op u w) (fun r s₃ => wpAny (model X.prog X.w) X.A (storeName X.env x r) (fun _ => SP X pins D .next) X.xe s₃) X.xe s₂) X.xe s := by
    refine thn (he pins s σ H _ I h) fun w s1 ⟨y, H1, I1, r1, q1⟩ => ?_
    refine thn (ho pins s1 σ H1 v y u w _ I1 r r1 q1) fun z s2 ⟨zv, H2, I2, r2, q2⟩ => ?_
    exact store_ok I2 hN hi hx r2 (fun s3 I3 => ⟨_, H2, I3, q2⟩) hf
  rcases l with ⟨hk, hm⟩ | ⟨hk, c, hc, hcell⟩
  · exact wpAny_loadName_local I.ok.kind hk hn hm go
  · rcases hk with hk | hk
    · exact wpAny_loadName_cell I.ok.kind hk hc hcell go
    · rcases hx with k | k
      · have : X.env.scope.names.lookup x = some .free := hk
        rw [k] at this; cases this
      · have : X.env.scope.names.lookup x = some .free := hk
        rw [k] at this; cases this
def ipI (f : Int → Int → Int) : TIp := fun x y H Q => ∃ i j, x = .int i ∧ y = .int j ∧ Q (.int (f i j)) H
theorem ip_add : PIp X .Add (ipI fun i j => i + j) := by
  intro pins s σ H x y v u Q I r1 r2 h
  obtain ⟨i, j, e1, e2, q⟩ := h
  subst e1; subst e2
  obtain ⟨t, rfl⟩ := r1
  obtain ⟨t', rfl⟩ := r2
  exact iadd_int ⟨.int _, H, I.tok _, ⟨_, rfl⟩, q⟩
end
section
variable {X : Cx} {pos : Pos}
def tWhile (c : TT) (tb : TS) : TS := fun D σ H => ∃ W : Nat → St → Hp → Prop, (∃ m, W m σ H) ∧ ∀ m σ H, W m σ H →
  c σ H fun b H1 => if b = true then ∃ N : St → Hp → Prop, (∀ σ' H', N σ' H' → ∃ m', m' < m ∧ W m' σ' H') ∧ tb { D with nx := N, ct := N, bk := D.nx } σ H1 else D.nx σ H1
theorem ps_while {c : Expr} {body : List Stmt} {tc : TT} {tb : TS} (hp : PassesOwn (model X.prog X.w) X.A X.env X.xe) (hc : PT X c tc) (hb : PSs X body tb) : PS X (.While c body [] pos) (tWhile tc tb) := by
  intro pins s σ H D I h
  obtain ⟨W, ⟨m0, w0⟩, turn⟩ := h
  refine wpAny_While (codeAny_whileLoop (fun n s' => ∃ σ' H', Inv X pins σ' H' s' ∧ W n σ' H') ?_ m0 ⟨σ, H, I, w0⟩)
  rintro n s1 ⟨σ1, H1, I1, w1⟩
  refine wpAny_passesOwn hp (thn (hc pins s1 σ1 H1 _ I1 (turn n σ1 H1 w1)) fun b s2 ⟨H2, I2, q2⟩ => ?_)
  cases b with
  | true =>
    obtain ⟨N, hN, q2⟩ := q2
    rw [if_pos rfl]
    refine wpAny_passesOwn hp (thn (hb pins s2 σ1 H2 _ I2 q2) fun f s3 q3 => ?_)
    cases f with
    | next =>
      obtain ⟨σ3, H3, I3, n3⟩ := q3
      obtain ⟨m', hm, w3⟩ := hN σ3 H3 n3
      exact ⟨m', hm, σ3, H3, I3, w3⟩
    | cont =>
      obtain ⟨σ3, H3, I3, n3⟩ := q3
      obtain ⟨m', hm, w3⟩ := hN σ3 H3 n3
      exact ⟨m', hm, σ3, H3, I3, w3⟩
    | brk => exact q3
    | ret v => exact q3
  | false =>
    rw [if_neg Bool.false_ne_true]
    exact wpAny_execs_nil ⟨σ1, H2, I2, q2⟩
end
structure It where
  go : Nat → Hp → Prop
  yld : Nat → Hp → V → Hp → Prop
  stop : Nat → Hp → Prop
def FpOk (X : Cx) (pins : List (Addr × Obj)) (H : Hp) (b : Addr) : Prop :=
  H b = none ∧ b ≠ X.env.locals ∧ b ∉ X.fs ∧ (b ∈ X.ex ∨ X.s_0.heap.objs.size ≤ b) ∧ (∀ x c, X.env.cells.lookup x = some c → c ≠ b) ∧ ∀ p ∈ X.pn ++ pins, p.1 ≠ b
theorem Inv.fpOk {X : Cx} {pins : List (Addr × Obj)} {σ : St} {H H' : Hp} {s : Shared} {b : Addr} (I : Inv X pins σ H s) (hb : s.heap.objs.size ≤ b) (hn : H' b = none) : FpOk X pins H' b := by
  refine ⟨hn, Nat.ne_of_gt (Nat.lt_of_lt_of_le I.lt hb), I.nofs hb, .inr (Nat.le_trans I.sz hb), fun x c e z => ?_, fun p hp z => ?_⟩
  · obtain ⟨v, q⟩ := I.cell x c e
    exact absurd (Nat.lt_of_lt_of_le q.lt (by rw [z]; exact hb)) (Nat.lt_irrefl _)
  · exact absurd (Nat.lt_of_lt_of_le (Heap.lt_size (I.pin p hp).1) (by rw [z]; exact hb)) (Nat.lt_irrefl _)
structure Turn (P : Program) (w : World) (K : PySem.W.Frag) (tg : Expr) (J : It) (fp : List Addr) (it : Addr) (tn : Nat → Heap → Prop) : Prop where
  mem : it ∈ fp
  obj : ∀ i h, tn i h → ∀ b ∈ fp, ∃ o, h.get? b = some o ∧ ∀ v, o.data ≠ .cell v
  keep : ∀ i h h', tn i h → (∀ b ∈ fp, ∀ o, h.get? b = some o → h'.get? b = some o) → tn i h'
  item : ∀ (X : Cx), X.prog = P → X.w = w → X.K = K → X.calm = true → ∀ (i : Nat) (pins : List (Addr × Obj)) (s : Shared) (σ : St) (H : Hp) (E : Value → Shared → Prop), Inv X pins σ H s → (∀ b ∈ fp, FpOk X pins H b) → tn i s.heap → J.go i H →
    wpAny (model P w) X.A (pyNext (.ref it)) (fun r s1 => ∃ u, r = some u ∧
      wpAny (model P w) X.A (letOwnedTupleGo tg (.ref it) u) (fun _ s2 => ∃ x H', Inv X pins σ H' s2 ∧ RelV x u ∧ J.yld i H x H' ∧ tn (i + 1) s2.heap ∧ ∀ b ∈ fp, H' b = none) E s1) E s
  done : ∀ (X : Cx), X.prog = P → X.w = w → X.K = K → X.calm = true → ∀ (i : Nat) (pins : List (Addr × Obj)) (s : Shared) (σ : St) (H : Hp) (E : Value → Shared → Prop), Inv X pins σ H s → (∀ b ∈ fp, FpOk X pins H b) → tn i s.heap → J.stop i H →
    wpAny (model P w) X.A (pyNext (.ref it)) (fun r s1 => r = none ∧ Inv X pins σ H s1) E s
  self : ∀ (A : Around) (i : Nat) (s : Shared) (Q : Value → Shared → Prop) (E : Value → Shared → Prop), tn i s.heap → Q (.ref it) s → wpAny (model P w) A (pyIter (.ref it)) Q E s
abbrev TI := St → Hp → (It → Hp → Prop) → Prop
def PIE (X : Cx) (pins : List (Addr × Obj)) (σ : St) (tg : Expr) (R : It → Hp → Prop) (itv : Value) (s2 : Shared) : Prop :=
  ∃ (it : Addr) (fp : List Addr) (tn : Nat → Heap → Prop) (J : It) (H' : Hp), itv = .ref it ∧ Inv X pins σ H' s2 ∧ Turn X.prog X.w X.K tg J fp it tn ∧ tn 0 s2.heap ∧ (∀ b ∈ fp, FpOk X pins H' b) ∧ R J H'
def PI (X : Cx) (tg iter : Expr) (wi : TI) : Prop :=
  ∀ (pins : List (Addr × Obj)) (s : Shared) (σ : St) (H : Hp) (R : It → Hp → Prop), Inv X pins σ H s → wi σ H R →
    wpAny (model X.prog X.w) X.A (eval iter X.env) (fun v s1 => wpAny (model X.prog X.w) X.A (pyIter v) (PIE X pins σ tg R) X.xe s1) X.xe s
theorem go_of {M : Model} {A : Around} {E : Value → Shared → Prop} {s : Shared} {tg : Expr} {it : Addr} {u : Value} {o : Obj} {n : String} {vs : Array Value} {Q : Unit → Shared → Prop} (ho : s.heap.get? it = some o) (hc : o.cls = .type n) (hd : o.data = .fields vs)
    (hn : ["enumerate", "zip", "dict_itemiterator", "dict_reverseitemiterator", "odict_iterator", "itertools.zip_longest", "itertools.pairwise"].contains n = false) (hQ : Q () s) : wpAny M A (letOwnedTupleGo tg (.ref it) u) Q E s := by
  unfold letOwnedTupleGo
  cases tg <;> first
    | exact wpAny_pure hQ
    | (cases u <;> first
        | exact wpAny_pure hQ
        | (refine wpAny_bind (wpAny_load ho ?_)
           rw [hc, hd]
           show wpAny M A (if (["enumerate", "zip", "dict_itemiterator", "dict_reverseitemiterator", "odict_iterator", "itertools.zip_longest", "itertools.pairwise"].contains n && vs[0]? == some (rawInt _)) = true then _ else _) Q E s
           rw [if_neg (by intro h; rw [hn, Bool.false_and] at h; cases h)]
           exact wpAny_pure hQ))
def Itl (K : PySem.W.Frag) (a : Addr) : It :=
  ⟨fun i H => ∃ xs x, SqL K H a xs ∧ xs[i]? = some x, fun i H x H' => H' = H ∧ ∀ xs, SqL K H a xs → xs[i]? = some x, fun i H => ∃ xs, SqL K H a xs ∧ xs.length ≤ i⟩
def Itr (lo : Int) (n : Nat) : It := ⟨fun i _ => i < n, fun i H x H' => H' = H ∧ x = .int (lo + i), fun i _ => n ≤ i⟩
theorem turn_list {P : Program} {w : World} {K : PySem.W.Frag} {tg : Expr} (a it : Addr) : Turn P w K tg (Itl K a) [it] it (fun i h => h.IsListIter it a i) where
  mem := by simp
  obj := fun i h st b hb => by
    have e : b = it := by simpa using hb
    subst e
    obtain ⟨o, e, c, d⟩ := st
    exact ⟨o, e, fun v z => by rw [d] at z; cases z⟩
  keep := fun i h h' st k => st.at fun o e => k it (by simp) o e
  item := by
    intro X hP hw hK hc i pins s σ H E I hf st hg
    subst hP hw hK
    obtain ⟨xs, x, hq, hx⟩ := hg
    obtain ⟨its, rv, p, hz⟩ := I.list hq
    obtain ⟨u, hu, ru⟩ := rv.get hx
    obtain ⟨f0, f1, f2, f3, f4, f5⟩ := hf it (by simp)
    refine wpAny_pyNext_list_item st p.isList (x := u) (by simpa using hu) fun h' st' sb => ?_
    have I1 : Inv X pins σ H { s with heap := h' } := I.turned (t' := s.toks) (fun b o hb e => (sb.2 b hb).trans e) f0 f1 f3 f4 f5
    obtain ⟨o, e, c, d⟩ := id st'
    exact ⟨u, rfl, go_of (s := { s with heap := h' }) e c d (by decide) ⟨x, H, I1, ru, ⟨rfl, fun ys hy => by rw [I.list_inj hy hq]; exact hx⟩, st', fun b hb => (hf b hb).1⟩⟩
  done := by
    intro X hP hw hK hc i pins s σ H E I hf st hg
    subst hP hw hK
    obtain ⟨xs, hq, hx⟩ := hg
    obtain ⟨its, rv, p, hz⟩ := I.list hq
    obtain ⟨f0, f1, f2, f3, f4, f5⟩ := hf it (by simp)
    have hl := rv.length
    exact wpAny_pyNext_list_end (I.ok.hd hc) st p.isList (by simp; omega) fun h' eb => ⟨rfl, I.turned (t' := s.toks) (fun b o hb e => eb b o hb e) f0 f1 f3 f4 f5⟩
  self := fun _ _ _ _ _ st h => wpAny_pyIter_listiter st h
theorem turn_range {P : Program} {w : World} {K : PySem.W.Frag} {tg : Expr} (it : Addr) (lo : Int) (n : Nat) : Turn P w K tg (Itr lo n) [it] it (fun i h => IsRangeIter h it (lo + (i : Nat) * 1) ((n : Int) - (i : Nat)) 1) where
  mem := by simp
  obj := fun i h st b hb => by
    have e : b = it := by simpa using hb
    subst e
    exact ⟨_, st, fun v z => by
      have z' : Data.fields _ = Data.cell v := z
      cases z'⟩
  keep := fun i h h' st k => k it (by simp) _ st
  item := by
    intro X hP hw hK hc i pins s σ H E I hf st hg
    subst hP hw hK
    obtain ⟨f0, f1, f2, f3, f4, f5⟩ := hf it (by simp)
    have W := Walks.range (prog := X.prog) (w := X.w) (I.ok.hd hc) it lo 1 n
    refine W.item i s _ _ hg st fun v h' tk hv st' kk => ?_
    obtain ⟨t, rfl⟩ := hv
    have I1 : Inv X pins σ H { s with heap := h', toks := tk } := I.turned (fun b o hb e => kk b o (by simpa using hb) e) f0 f1 f3 f4 f5
    refine ⟨_, rfl, go_of (s := { s with heap := h', toks := tk }) (n := "range_iterator") st' rfl rfl (by decide) ⟨.int (lo + i), H, I1, ⟨t, ?_⟩, ⟨rfl, rfl⟩, st', fun b hb => (hf b hb).1⟩⟩
    rw [Int.mul_one]
  done := by
    intro X hP hw hK hc i pins s σ H E I hf st hg
    subst hP hw hK
    obtain ⟨f0, f1, f2, f3, f4, f5⟩ := hf it (by simp)
    exact wpAny_pyNext_range_end (I.ok.hd hc) st (by have : n ≤ i := hg; omega) fun h' eb => ⟨rfl, I.turned (t' := s.toks) (fun b o hb e => eb b o hb e) f0 f1 f3 f4 f5⟩
  self := fun _ _ _ _ _ st h => wpAny_pyIter_rangeiter st h
end L2
namespace L2
open PySem PySem.Spec PyProof.Rows
section
variable {X : Cx} {tg : Expr}
def iList (K : PySem.W.Frag) (tl : TE) : TI := fun σ H R => tl σ H fun x H1 => ∃ a, x = .ref a ∧ (∃ xs, SqL K H1 a xs) ∧ R (Itl K a) H1
theorem pi_list {l : Expr} {tl : TE} (hl : PE X l tl) : PI X tg l (iList X.K tl) := by
  intro pins s σ H R I h
  refine thn (hl pins s σ H _ I h) fun v s1 ⟨x, H1, I1, r1, q1⟩ => ?_
  obtain ⟨a, e, ⟨xs, hq⟩, q⟩ := q1
  subst e
  cases r1
  obtain ⟨its, rv, p, hz⟩ := I1.list hq
  refine wpAny_pyIter_list p.isList ?_
  refine ⟨s1.heap.objs.size, [s1.heap.objs.size], _, _, H1, rfl, I1.kept (t' := s1.toks) fun b o e => Heap.get?_push_of_some _ e, turn_list a _, ⟨_, Heap.get?_push_size _ rfl, rfl, rfl⟩, fun b hb => ?_, q⟩
  have e : b = s1.heap.objs.size := by simpa using hb
  subst e
  exact I1.fpOk (Nat.le_refl _) (I1.hok.fresh (Nat.le_refl _))
theorem range_it {pins : List (Addr × Obj)} {σ : St} {H : Hp} {s : Shared} {R : It → Hp → Prop} {E : Value → Shared → Prop} {lo hi : Int} {t u v : Tok} {tk : Nat} (I : Inv X pins σ H s) (h1 : -(2 ^ 62) ≤ lo) (h2 : lo < 2 ^ 62) (h3 : -(2 ^ 62) ≤ hi) (h4 : hi < 2 ^ 62)
    (q : R (Itr lo (hi - lo).toNat) H) : wpAny (model X.prog X.w) X.A (pyIter (.ref s.heap.objs.size)) (PIE X pins σ tg R) E { s with heap := s.heap.push { cls := .type "range", data := .fields #[.int lo t, .int hi u, .int 1 v] }, toks := tk } := by
  refine wpAny_pyIter_range (IsRange.new ..) (small_one h1 h2 h3 h4) ?_
  have I1 : Inv X pins σ H { s with heap := s.heap.push { cls := .type "range", data := .fields #[.int lo t, .int hi u, .int 1 v] }, toks := tk } := I.kept fun b o e => Heap.get?_push_of_some _ e
  refine ⟨(s.heap.push { cls := .type "range", data := .fields #[.int lo t, .int hi u, .int 1 v] }).objs.size, [(s.heap.push { cls := .type "range", data := .fields #[.int lo t, .int hi u, .int 1 v] }).objs.size], _, _, H, rfl,
    I1.kept (t' := tk) fun b o e => Heap.get?_push_of_some _ e, turn_range _ lo (hi - lo).toNat, ?_, fun b hb => ?_, q⟩
  · have e1 : lo + ((0 : Nat) : Int) * 1 = lo := by simp
    have e2 : (((hi - lo).toNat : Nat) : Int) - ((0 : Nat) : Int) = Builtin.Range.rangeSize lo hi 1 := by rw [rangeSize_one]; split <;> omega
    show IsRangeIter _ _ (lo + ((0 : Nat) : Int) * 1) ((((hi - lo).toNat : Nat) : Int) - ((0 : Nat) : Int)) 1
    rw [e1, e2]
    exact Heap.get?_push_size _ rfl
  · have e : b = (s.heap.push { cls := .type "range", data := .fields #[.int lo t, .int hi u, .int 1 v] }).objs.size := by simpa using hb
    subst e
    exact I1.fpOk (Nat.le_refl _) (I1.hok.fresh (Nat.le_refl _))
def iRng1 (ta : TA) : TI := fun σ H R => ta σ H fun vs H1 => ∃ j : Int, vs = [.int j] ∧ -(2 ^ 62) ≤ j ∧ j < 2 ^ 62 ∧ R (Itr 0 j.toNat) H1
theorem pi_range1 {a : Expr} {ta : TA} {p pos : Pos} (hg : Gl X "range") (hm : X.mg "range" = none) (ha : PA X [a] ta) (hs : starEach [a] X.env = [(false, eval a X.env)] := by rfl) : PI X tg (.Call (.Name "range" p) [a] [] pos) (iRng1 ta) := by
  intro pins s σ H R I h
  refine Call_ (ld_blt I hg hm boot_range (PyProof.Rows.callWith_type1 (thn (ha pos pins s σ H _ I h) fun us s1 ⟨vs, H1, I1, r1, q1⟩ => ?_) hs rfl))
  obtain ⟨j, e, q1, q2, q⟩ := q1
  subst e
  cases r1 with
  | cons r rr =>
    cases rr
    obtain ⟨t, rfl⟩ := r
    exact call_range_1 (range_it I1 (by omega) (by omega) q1 q2 (by simpa using q))
def tFor (wi : TI) (g : TG) (tb : TS) : TS := fun D σ H => wi σ H fun J H1 => ∃ W : Nat → Nat → St → Hp → Prop, (∃ m, W 0 m σ H1) ∧ ∀ i m σ H, W i m σ H →
  (J.stop i H ∧ D.nx σ H) ∨ (J.go i H ∧ ∃ N : St → Hp → Prop, (∀ σ' H', N σ' H' → ∃ m', m' < m ∧ W (i + 1) m' σ' H') ∧ ∀ x H', J.yld i H x H' → g x σ H' fun σ2 H2 => tb { D with nx := N, ct := N, bk := D.nx } σ2 H2)
def pinsAt (fp : List Addr) (h : Heap) : List (Addr × Obj) := fp.filterMap fun b => (h.get? b).map fun o => (b, o)
theorem mem_pinsAt {fp : List Addr} {h : Heap} {b : Addr} {o : Obj} (hb : b ∈ fp) (e : h.get? b = some o) : (b, o) ∈ pinsAt fp h := List.mem_filterMap.mpr ⟨b, hb, by rw [e]; rfl⟩
theorem of_pinsAt {fp : List Addr} {h : Heap} {p : Addr × Obj} (hp : p ∈ pinsAt fp h) : p.1 ∈ fp ∧ h.get? p.1 = some p.2 := by
  obtain ⟨b, hb, e⟩ := List.mem_filterMap.mp hp
  cases q : h.get? b with
  | none => rw [q] at e; cases e
  | some o =>
    rw [q] at e
    have e' : (b, o) = p := Option.some.inj e
    subst e'
    exact ⟨hb, q⟩
theorem Inv.pinned {pins : List (Addr × Obj)} {σ : St} {H : Hp} {s : Shared} {fp : List Addr} (I : Inv X pins σ H s) (hf : ∀ b ∈ fp, FpOk X pins H b) (ho : ∀ b ∈ fp, ∃ o, s.heap.get? b = some o ∧ ∀ v, o.data ≠ .cell v) : Inv X (pins ++ pinsAt fp s.heap) σ H s :=
  I.pins_of fun p hp => (List.mem_append.mp hp).elim (fun z => I.pin p (List.mem_append_right _ z)) fun z => by
    obtain ⟨hb, e⟩ := of_pinsAt z
    obtain ⟨f0, f1, f2, _⟩ := hf p.1 hb
    obtain ⟨o, e', d⟩ := ho p.1 hb
    rw [e] at e'; cases e'
    exact ⟨e, f0, f1, f2, d⟩
theorem Inv.unpinned {pins pl : List (Addr × Obj)} {σ : St} {H : Hp} {s : Shared} (I : Inv X (pins ++ pl) σ H s) : Inv X pins σ H s := I.pins_of fun p hp => I.pin p (List.mem_append_right _ (List.mem_append_left _ hp))
theorem ps_for {iter : Expr} {body : List Stmt} {wi : TI} {g : TG} {tb : TS} {pos : Pos} (hp : PassesOwn (model X.prog X.w) X.A X.env X.xe) (hc : X.calm = true) (hi : PI X tg iter wi) (hg : PG X tg g) (hb : PSs X body tb)
    (hs : ∀ x, foldedSetIterable iter X.env x = pure x := by intro _; rfl) : PS X (.For tg iter body [] pos) (tFor wi g tb) := by
  intro pins s σ H D I h
  refine wpAny_For (thn (hi pins s σ H _ I h) fun v s1 h1 => thn h1 fun itv s2 h2 => ?_) hs
  obtain ⟨it, fp, tn, J, H2, e, I2, T, st2, f2, W, ⟨m0, w0⟩, turn⟩ := h2
  subst e
  have stat : ∀ {H' : Hp}, (∀ b ∈ fp, H' b = none) → ∀ b ∈ fp, FpOk X pins H' b := fun hn b hb => ⟨hn b hb, (f2 b hb).2⟩
  refine codeAny_forLoop_any (fun n s' => ∃ i σ' H', Inv X pins σ' H' s' ∧ tn i s'.heap ∧ (∀ b ∈ fp, H' b = none) ∧ W i n σ' H') ?_ m0 ⟨0, σ, H2, I2, st2, fun b hb => (f2 b hb).1, w0⟩
  rintro n s3 ⟨i, σ3, H3, I3, st3, fr3, w3⟩
  rcases turn i n σ3 H3 w3 with ⟨stop, qn⟩ | ⟨go, N, hN, step⟩
  · refine wpAny_passesOwn hp (thn (T.done X rfl rfl rfl hc i pins s3 σ3 H3 X.xe I3 (stat fr3) st3 stop) fun r s4 ⟨hr, I4⟩ => ?_)
    subst hr
    exact wpAny_execs_nil ⟨σ3, H3, I4, qn⟩
  · refine wpAny_passesOwn hp (thn (T.item X rfl rfl rfl hc i pins s3 σ3 H3 X.xe I3 (stat fr3) st3 go) fun r s4 ⟨u, hr, h4⟩ => ?_)
    subst hr
    refine wpAny_passesOwn hp (thn h4 fun _ s5 ⟨x, H5, I5, r5, y5, st5, fr5⟩ => ?_)
    have I5' := I5.pinned (stat fr5) (T.obj _ _ st5)
    refine wpAny_passesOwn hp (thn (hg _ s5 σ3 H5 x u _ I5' r5 (step x H5 y5)) fun _ s6 ⟨σ6, H6, I6, q6⟩ => ?_)
    refine wpAny_passesOwn hp (thn (hb _ s6 σ6 H6 _ I6 q6) fun f s7 q7 => ?_)
    have again : ∀ {σ7 : St} {H7 : Hp}, Inv X (pins ++ pinsAt fp s5.heap) σ7 H7 s7 → N σ7 H7 → ∃ m, m < n ∧ ∃ i σ' H', Inv X pins σ' H' s7 ∧ tn i s7.heap ∧ (∀ b ∈ fp, H' b = none) ∧ W i m σ' H' := fun {σ7 H7} I7 n7 => by
      obtain ⟨m', hm, w7⟩ := hN σ7 H7 n7
      refine ⟨m', hm, i + 1, σ7, H7, I7.unpinned, T.keep _ _ _ st5 fun b hb o e => (I7.pin (b, o) (List.mem_append_right _ (List.mem_append_right _ (mem_pinsAt hb e)))).1, fun b hb => ?_, w7⟩
      obtain ⟨o, e, d⟩ := T.obj _ _ st5 b hb
      exact (I7.pin (b, o) (List.mem_append_right _ (List.mem_append_right _ (mem_pinsAt hb e)))).2.1
    cases f with
    | next => obtain ⟨σ7, H7, I7, n7⟩ := q7; exact again I7 n7
    | cont => obtain ⟨σ7, H7, I7, n7⟩ := q7; exact again I7 n7
    | brk => obtain ⟨σ7, H7, I7, q7⟩ := q7; exact ⟨σ7, H7, I7.unpinned, q7⟩
    | ret v => obtain ⟨x7, σ7, H7, I7, r7, q7⟩ := q7; exact ⟨x7, σ7, H7, I7.unpinned, r7, q7⟩
end
theorem for_range {lo : Int} {n : Nat} {g : TG} {tb : TS} {D : Ends} {σ : St} {H : Hp} (Pv : Nat → St → Hp → Prop) (h0 : Pv 0 σ H)
    (hs : ∀ i σ H, i < n → Pv i σ H → g (.int (lo + i)) σ H fun σ2 H2 => tb { D with nx := Pv (i + 1), ct := Pv (i + 1), bk := D.nx } σ2 H2) (hd : ∀ σ H, Pv n σ H → D.nx σ H) :
    ∃ W : Nat → Nat → St → Hp → Prop, (∃ m, W 0 m σ H) ∧ ∀ i m σ H, W i m σ H →
      ((Itr lo n).stop i H ∧ D.nx σ H) ∨ ((Itr lo n).go i H ∧ ∃ N : St → Hp → Prop, (∀ σ' H', N σ' H' → ∃ m', m' < m ∧ W (i + 1) m' σ' H') ∧ ∀ x H', (Itr lo n).yld i H x H' → g x σ H' fun σ2 H2 => tb { D with nx := N, ct := N, bk := D.nx } σ2 H2) := by
  refine ⟨fun i m σ H => m = n - i ∧ i ≤ n ∧ Pv i σ H, ⟨n, by simp, Nat.zero_le _, h0⟩, ?_⟩
  rintro i m σ H ⟨rfl, hi, p⟩
  by_cases hlt : i < n
  · refine .inr ⟨hlt, Pv (i + 1), fun σ' H' p' => ⟨n - (i + 1), by omega, rfl, hlt, p'⟩, fun x H' y => ?_⟩
    obtain ⟨e, y⟩ := y
    subst e y
    exact hs i σ _ hlt p
  · have e : i = n := by omega
    subst e
    exact .inl ⟨Nat.le_refl _, hd σ H p⟩
end L2
namespace L2
open PySem PySem.Spec PyProof.Rows
abbrev R2 := V → V → Hp → VK → Prop
def OpR (X : Cx) (f : Value → Value → Sem Value) (r : R2) : Prop :=
  ∀ (pins : List (Addr × Obj)) (s : Shared) (σ : St) (H : Hp) (x y : V) (v u : Value) (Q : VK), Inv X pins σ H s → RelV x v → RelV y u → r x y H Q →
    wpAny (model X.prog X.w) X.A (f v u) (EP X pins σ Q) X.xe s
def UnR (X : Cx) (f : Value → Sem Value) (r : V → Hp → VK → Prop) : Prop :=
  ∀ (pins : List (Addr × Obj)) (s : Shared) (σ : St) (H : Hp) (x : V) (v : Value) (Q : VK), Inv X pins σ H s → RelV x v → r x H Q →
    wpAny (model X.prog X.w) X.A (f v) (EP X pins σ Q) X.xe s
def CallR (X : Cx) (f : Value) (r : List V → Hp → VK → Prop) : Prop :=
  ∀ (pins : List (Addr × Obj)) (s : Shared) (σ : St) (H : Hp) (xs : List V) (us : List Value) (Q : VK), Inv X pins σ H s → Vals xs us → r xs H Q →
    wpAny (model X.prog X.w) X.A (call f us) (EP X pins σ Q) X.xe s
def TruR (X : Cx) (r : V → Hp → (Bool → Hp → Prop) → Prop) : Prop :=
  ∀ (pins : List (Addr × Obj)) (s : Shared) (σ : St) (H : Hp) (x : V) (v : Value) (Q : Bool → Hp → Prop), Inv X pins σ H s → RelV x v → r x H Q →
    wpAny (model X.prog X.w) X.A (truthy v) (TP X pins σ Q) X.xe s
def tOp (r : R2) (ta tb : TE) : TE := fun σ H Q => ta σ H fun x H1 => tb σ H1 fun y H2 => r x y H2 Q
def tUn (r : V → Hp → VK → Prop) (ta : TE) : TE := fun σ H Q => ta σ H fun x H1 => r x H1 Q
def rI (C : Int → Int → Prop) (g : Int → Int → V) : R2 := fun x y H Q => ∃ i j, x = .int i ∧ y = .int j ∧ C i j ∧ Q (g i j) H
def rI0 (g : Int → Int → V) : R2 := fun x y H Q => ∃ i j, x = .int i ∧ y = .int j ∧ Q (g i j) H
def rU (g : Int → V) : V → Hp → VK → Prop := fun x H Q => ∃ i, x = .int i ∧ Q (g i) H
section
variable {X : Cx} {a b c : Expr} {ta tb tc : TE} {pos : Pos}
theorem binT (ha : PE X a ta) (hb : PE X b tb) {pins : List (Addr × Obj)} {s : Shared} {σ : St} {H : Hp} {R : V → V → Hp → Prop} (I : Inv X pins σ H s)
    (h : ta σ H fun x H1 => tb σ H1 fun y H2 => R x y H2) {Q : Value → Shared → Prop} {f : Value → Value → Sem Value}
    (hf : ∀ v u s2 x y H2, Inv X pins σ H2 s2 → RelV x v → RelV y u → R x y H2 → wpAny (model X.prog X.w) X.A (f v u) Q X.xe s2) :
    wpAny (model X.prog X.w) X.A (eval a X.env) (fun v s₁ => wpAny (model X.prog X.w) X.A (eval b X.env) (fun u s₂ => wpAny (model X.prog X.w) X.A (f v u) Q X.xe s₂) X.xe s₁) X.xe s := by
  refine thn (ha pins s σ H _ I h) fun v s1 ⟨x, H1, I1, r1, q1⟩ => ?_
  refine thn (hb pins s1 σ H1 _ I1 q1) fun u s2 ⟨y, H2, I2, r2, q2⟩ => ?_
  exact hf v u s2 x y H2 I2 r1 r2 q2
theorem pe_op {op : Operator} {r : R2} (ho : OpR X (binaryOp op) r) (ha : PE X a ta) (hb : PE X b tb) : PE X (.BinOp a op b pos) (tOp r ta tb) := by
  intro pins s σ H Q I h
  exact wpAny_BinOp (binT ha hb I h fun v u s2 x y H2 I2 rx ry q => ho pins s2 σ H2 x y v u Q I2 rx ry q)
theorem pe_un {op : UnaryOp} {r : V → Hp → VK → Prop} (ho : UnR X (unaryOp op) r) (ha : PE X a ta) : PE X (.UnaryOp op a pos) (tUn r ta) := by
  intro pins s σ H Q I h
  exact UnaryOp_ (thn (ha pins s σ H _ I h) fun v s1 ⟨x, H1, I1, r1, q1⟩ => ho pins s1 σ H1 x v Q I1 r1 q1)
theorem opI {f : Value → Value → Sem Value} {C : Int → Int → Prop} {g : Int → Int → Int}
    (rule : ∀ (i j : Int) (t u : Tok) (s : Shared) (Q : Value → Shared → Prop) (E : Value → Shared → Prop), C i j → Q (.int (g i j) s.toks) { s with toks := s.toks + 1 } → wpAny (model X.prog X.w) X.A (f (.int i t) (.int j u)) Q E s) :
    OpR X f (rI C fun i j => .int (g i j)) := by
  intro pins s σ H x y v u Q I rx ry h
  obtain ⟨i, j, rfl, rfl, hc, q⟩ := h
  obtain ⟨t, rfl⟩ := rx
  obtain ⟨t', rfl⟩ := ry
  exact rule i j t t' s _ _ hc ⟨.int (g i j), H, I.tok _, ⟨_, rfl⟩, q⟩
theorem opI0 {f : Value → Value → Sem Value} {g : Int → Int → Int}
    (rule : ∀ (i j : Int) (t u : Tok) (s : Shared) (Q : Value → Shared → Prop) (E : Value → Shared → Prop), Q (.int (g i j) s.toks) { s with toks := s.toks + 1 } → wpAny (model X.prog X.w) X.A (f (.int i t) (.int j u)) Q E s) :
    OpR X f (rI0 fun i j => .int (g i j)) := by
  intro pins s σ H x y v u Q I rx ry h
  obtain ⟨i, j, rfl, rfl, q⟩ := h
  obtain ⟨t, rfl⟩ := rx
  obtain ⟨t', rfl⟩ := ry
  exact rule i j t t' s _ _ ⟨.int (g i j), H, I.tok _, ⟨_, rfl⟩, q⟩
theorem opB0 {f : Value → Value → Sem Value} {g : Int → Int → Bool}
    (rule : ∀ (i j : Int) (t u : Tok) (s : Shared) (Q : Value → Shared → Prop) (E : Value → Shared → Prop), Q (.bool (g i j)) s → wpAny (model X.prog X.w) X.A (f (.int i t) (.int j u)) Q E s) :
    OpR X f (rI0 fun i j => .bl (g i j)) := by
  intro pins s σ H x y v u Q I rx ry h
  obtain ⟨i, j, rfl, rfl, q⟩ := h
  obtain ⟨t, rfl⟩ := rx
  obtain ⟨t', rfl⟩ := ry
  exact rule i j t t' s _ _ ⟨.bl (g i j), H, I, rfl, q⟩
def CDiv (i j : Int) : Prop := 0 < j ∧ j < 1073741824
def CPow (i j : Int) : Prop := 0 ≤ j ∧ j ≤ 1000000 ∧ i.natAbs < 2 ^ 64
def CMul (i j : Int) : Prop := (-(2 ^ 64) < i ∧ i < 2 ^ 64) ∨ (-(2 ^ 64) < j ∧ j < 2 ^ 64)
theorem CMul.ok {i j : Int} (h : CMul i j) : IntMulOk i j := by
  rcases h with ⟨h1, h2⟩ | ⟨h1, h2⟩
  · exact .of_left (intBits_le_64 h1 h2)
  · exact .of_right (intBits_le_64 h1 h2)
theorem op_add : OpR X (binaryOp .Add) (rI0 fun i j => .int (i + j)) := opI0 fun _ _ _ _ _ _ _ q => add_int q
theorem op_sub : OpR X (binaryOp .Sub) (rI0 fun i j => .int (i - j)) := opI0 fun _ _ _ _ _ _ _ q => sub_int q
theorem op_mul : OpR X (binaryOp .Mult) (rI CMul fun i j => .int (i * j)) := opI fun _ _ _ _ _ _ _ hc q => mul_int q hc.ok
theorem op_fdiv : OpR X (binaryOp .FloorDiv) (rI CDiv fun i j => .int (i / j)) := opI fun i j _ _ _ _ _ hc q => by
  have h1 : (0 : Int) < j := hc.1
  have h2 : j < 1073741824 := hc.2
  exact floordiv_int (by omega) (by rw [Int.fdiv_eq_ediv_of_nonneg i (by omega)]; exact q) (.inl (PyProof.noPylong_small (by omega)))
theorem op_mod : OpR X (binaryOp .Mod) (rI (fun _ j => 0 < j) fun i j => .int (i % j)) := opI fun i j _ _ _ _ _ hc q => by
  have h1 : (0 : Int) < j := hc
  exact mod_int' (by omega) (by rw [Int.fmod_eq_emod_of_nonneg i (by omega)]; exact q)
theorem op_pow : OpR X (binaryOp .Pow) (rI CPow fun i j => .int (i ^ j.toNat)) := opI fun _ _ _ _ _ _ _ hc q => pow_int_small hc.1 hc.2.1 hc.2.2 q
theorem unI {f : Value → Sem Value} {g : Int → Int}
    (rule : ∀ (i : Int) (t : Tok) (s : Shared) (Q : Value → Shared → Prop) (E : Value → Shared → Prop), Q (.int (g i) s.toks) { s with toks := s.toks + 1 } → wpAny (model X.prog X.w) X.A (f (.int i t)) Q E s) :
    UnR X f (rU fun i => .int (g i)) := by
  intro pins s σ H x v Q I rx h
  obtain ⟨i, rfl, q⟩ := h
  obtain ⟨t, rfl⟩ := rx
  exact rule i t s _ _ ⟨.int (g i), H, I.tok _, ⟨_, rfl⟩, q⟩
theorem un_neg : UnR X (unaryOp .USub) (rU fun i => .int (-i)) := unI fun _ _ _ _ _ q => neg_int q
end
section
variable {X : Cx} {a b c : Expr} {ta tb tc : TE} {pos : Pos}
theorem fin_bl {pins : List (Addr × Obj)} {σ : St} {H : Hp} {s : Shared} {Q : VK} {k k' : Bool} (I : Inv X pins σ H s) (q : Q (.bl k) H) (e : k = k') : EP X pins σ Q (.bool k') s := by
  subst e
  exact ⟨.bl k, H, I, rfl, q⟩
theorem op_lt : OpR X (compareOp .Lt) (rI0 fun i j => .bl (decide (i < j))) := opB0 fun _ _ _ _ _ _ _ q => lt_int q
theorem op_le : OpR X (compareOp .LtE) (rI0 fun i j => .bl (decide (i ≤ j))) := opB0 fun _ _ _ _ _ _ _ q => le_int q
theorem op_gt : OpR X (compareOp .Gt) (rI0 fun i j => .bl (decide (j < i))) := opB0 fun _ _ _ _ _ _ _ q => gt_int q
theorem op_ge : OpR X (compareOp .GtE) (rI0 fun i j => .bl (decide (j ≤ i))) := opB0 fun _ _ _ _ _ _ _ q => ge_int q
theorem op_lt_str : OpR X (compareOp .Lt) (fun x y H Q => ∃ i j, x = .str i ∧ y = .str j ∧ Q (.bl (decide (i.cps.toList < j.cps.toList))) H) := by
  intro pins s σ H x y v u Q I rx ry h
  obtain ⟨i, j, rfl, rfl, q⟩ := h
  obtain ⟨t, rfl⟩ := rx
  obtain ⟨t', rfl⟩ := ry
  exact lt_str (fin_bl I q rfl)
theorem OpR.or {f : Value → Value → Sem Value} {r r' : R2} (h : OpR X f r) (h' : OpR X f r') : OpR X f (fun x y H Q => r x y H Q ∨ r' x y H Q) := by
  intro pins s σ H x y v u Q I rx ry q
  rcases q with q | q
  · exact h pins s σ H x y v u Q I rx ry q
  · exact h' pins s σ H x y v u Q I rx ry q
theorem nomark (b : Expr) {op : CmpOp} (h : op ≠ .In := by decide) (h2 : op ≠ .NotIn := by decide) : behindInMarks op b = false := by
  have e1 : (op == CmpOp.In) = false := by cases op <;> first | rfl | exact absurd rfl h
  have e2 : (op == CmpOp.NotIn) = false := by cases op <;> first | rfl | exact absurd rfl h2
  cases b <;> simp [behindInMarks, e1, e2]
theorem pe_cmpR {op : CmpOp} {r : R2} (ho : OpR X (compareOp op) r) (ha : PE X a ta) (hb : PE X b tb) (hm : behindInMarks op b = false) : PE X (.Compare a [op] [b] pos) (tOp r ta tb) := by
  intro pins s σ H Q I h
  exact wpAny_Compare1 (binT ha hb I h fun v u s2 x y H2 I2 rx ry q => ho pins s2 σ H2 x y v u Q I2 rx ry q) hm
def tTest (t : TE) : TT := fun σ H Q => t σ H fun x H' => ∃ k, x = .bl k ∧ Q k H'
theorem pt_cmpR {op : CmpOp} {r : R2} (ho : OpR X (compareOp op) r) (ha : PE X a ta) (hb : PE X b tb) (hm : behindInMarks op b = false) : PT X (.Compare a [op] [b] pos) (tTest (tOp r ta tb)) := by
  intro pins s σ H Q I h
  refine wpAny_isTrue_Compare1 (thn (ha pins s σ H _ I h) fun v s1 ⟨x, H1, I1, r1, q1⟩ => thn (hb pins s1 σ H1 _ I1 q1) fun u s2 ⟨y, H2, I2, r2, q2⟩ =>
    thn (ho pins s2 σ H2 x y v u _ I2 r1 r2 q2) fun c s3 ⟨z, H3, I3, r3, k, e, q3⟩ => ?_) hm
  subst e
  cases r3
  exact wpAny_truthy_bool ⟨H3, I3, q3⟩
def tChain (r r' : R2) (ta tb tc : TE) : TE := fun σ H Q => ta σ H fun x H1 => tb σ H1 fun y H2 => r x y H2 fun z H3 => ∃ k, z = .bl k ∧
  (if k = true then tc σ H3 fun w' H4 => r' y w' H4 Q else Q (.bl false) H3)
theorem pe_chain {op op' : CmpOp} {r r' : R2} (ho : OpR X (compareOp op) r) (ho' : OpR X (compareOp op') r') (ha : PE X a ta) (hb : PE X b tb) (hc : PE X c tc)
    (hm : lastMarks [op, op'] [b, c] = false := by with_unfolding_all rfl) : PE X (.Compare a [op, op'] [b, c] pos) (tChain r r' ta tb tc) := by
  intro pins s σ H Q I h
  refine Compare_chain (thn (ha pins s σ H _ I h) fun v s1 ⟨x, H1, I1, r1, q1⟩ => chain_link (thn (hb pins s1 σ H1 _ I1 q1) fun u s2 ⟨y, H2, I2, r2, q2⟩ =>
    thn (ho pins s2 σ H2 x y v u _ I2 r1 r2 q2) fun d s3 ⟨z, H3, I3, r3, k, e, q3⟩ => ?_)) hm
  subst e
  cases r3
  refine wpAny_truthy_bool ?_
  cases k with
  | false => exact ite_ff ⟨.bl false, H3, I3, rfl, q3⟩
  | true => exact ite_tt (chain_last (thn (hc pins s3 σ H3 _ I3 q3) fun w' s4 ⟨z', H4, I4, r4, q4⟩ => ho' pins s4 σ H4 y z' u w' Q I4 r2 r4 q4))
theorem pt_chain {op op' : CmpOp} {r r' : R2} (ho : OpR X (compareOp op) r) (ho' : OpR X (compareOp op') r') (ha : PE X a ta) (hb : PE X b tb) (hc : PE X c tc)
    (hm : lastMarks [op, op'] [b, c] = false := by with_unfolding_all rfl) : PT X (.Compare a [op, op'] [b, c] pos) (tTest (tChain r r' ta tb tc)) := by
  intro pins s σ H Q I h
  refine isTrue_chain (thn (ha pins s σ H _ I h) fun v s1 ⟨x, H1, I1, r1, q1⟩ => test_link (thn (hb pins s1 σ H1 _ I1 q1) fun u s2 ⟨y, H2, I2, r2, q2⟩ =>
    thn (ho pins s2 σ H2 x y v u _ I2 r1 r2 q2) fun d s3 ⟨z, H3, I3, r3, k, e, q3⟩ => ?_)) hm
  subst e
  cases r3
  refine wpAny_truthy_bool ?_
  cases k with
  | false =>
    obtain ⟨k', e', q'⟩ := q3
    cases e'
    exact ite_ff ⟨H3, I3, q'⟩
  | true =>
    refine ite_tt (test_last (thn (hc pins s3 σ H3 _ I3 q3) fun w' s4 ⟨z', H4, I4, r4, q4⟩ => thn (ho' pins s4 σ H4 y z' u w' _ I4 r2 r4 q4) fun d' s5 ⟨z2, H5, I5, r5, k2, e2, q5⟩ => ?_))
    subst e2
    cases r5
    exact wpAny_truthy_bool ⟨H5, I5, q5⟩
def TruV (K : PySem.W.Frag) (x : V) (H : Hp) (k : Bool) : Prop :=
  match x with
  | .non => k = false
  | .bl b => k = b
  | .int i => k = (i != 0)
  | .str y => y.length ≤ sizeLine ∧ k = ((y.length : Int) != 0)
  | .byt y => y.size ≤ sizeLine ∧ k = ((y.size : Int) != 0)
  | .ref p => (∃ xs, SqL K H p xs ∧ k = !xs.isEmpty) ∨ (∃ xs, SqT K H p xs ∧ k = !xs.isEmpty) ∨ ∃ kvs, H p = some (.dK kvs) ∧ k = !kvs.isEmpty
  | _ => False
theorem isEmpty_kv {κ : Type} {kvs : List (κ × V)} {vs : List (κ × Value)} (r : KV kvs vs) : (!vs.isEmpty) = !kvs.isEmpty := by
  cases r <;> rfl
theorem isEmpty_of {xs : List V} {its : List Value} (r : Vals xs its) : (!its.toArray.isEmpty) = !xs.isEmpty := by
  cases r <;> simp
theorem line63 : (sizeLine : Nat) < 2 ^ 63 := by rw [sizeLine_eq]; decide
theorem tru_ok : TruR X (fun x H Q => ∃ k, TruV X.K x H k ∧ Q k H) := by
  intro pins s σ H x v Q I rx h
  obtain ⟨k, e, q⟩ := h
  have hl := line63
  have hs : sizeLine = 16777216 := sizeLine_eq
  cases x with
  | non =>
    cases rx
    have e' : k = false := e
    subst e'
    exact truthy_none ⟨H, I, q⟩
  | bl b =>
    cases rx
    have e' : k = b := e
    subst e'
    exact wpAny_truthy_bool ⟨H, I, q⟩
  | int i =>
    obtain ⟨t, rfl⟩ := rx
    have e' : k = (i != 0) := e
    subst e'
    exact PySem.P.truthy_int ⟨H, I, q⟩
  | str y =>
    obtain ⟨t, rfl⟩ := rx
    obtain ⟨hy, e'⟩ : y.length ≤ sizeLine ∧ k = ((y.length : Int) != 0) := e
    subst e'
    exact PySem.P.truthy_str (by omega) ⟨H, I.tok _, q⟩
  | byt y =>
    obtain ⟨t, rfl⟩ := rx
    obtain ⟨hy, e'⟩ : y.size ≤ sizeLine ∧ k = ((y.size : Int) != 0) := e
    subst e'
    exact PySem.W.truthy_bytes (by omega) ⟨H, I.tok _, q⟩
  | ref p =>
    cases rx
    have e' : (∃ xs, SqL X.K H p xs ∧ k = !xs.isEmpty) ∨ (∃ xs, SqT X.K H p xs ∧ k = !xs.isEmpty) ∨ ∃ kvs, H p = some (.dK kvs) ∧ k = !kvs.isEmpty := e
    rcases e' with ⟨xs, hx, e'⟩ | ⟨xs, hx, e'⟩ | ⟨kvs, hx, e'⟩
    · subst e'
      obtain ⟨its, r, pl, hz⟩ := I.list hx
      have hlen := r.length
      exact wpAny_truthy_list pl.isList (by simp only [List.size_toArray]; omega) ⟨H, I.tok _, by rw [isEmpty_of r]; exact q⟩
    · subst e'
      obtain ⟨its, r, pl, hz⟩ := I.tuple hx
      have hlen := r.length
      exact truthy_tuple pl (by simp only [List.size_toArray]; omega) ⟨H, I.tok _, by rw [isEmpty_of r]; exact q⟩
    · subst e'
      obtain ⟨hz, hS, vs, r, m⟩ : kvs.length ≤ sizeLine ∧ (p == sysModules) = false ∧ ∃ vs, KV kvs vs ∧ s.heap.DictOf (mixKind X.prog X.w) p vs := I.hok p _ hx
      have hlen : kvs.length = vs.length := Paired.length r
      exact wpAny_truthy_dict hS m (by omega) ⟨H, I.tok _, by rw [isEmpty_kv r]; exact q⟩
  | _ => exact (show False from e).elim
theorem pt_truth (ha : PE X a ta) (he : ∀ whole, isTrue a X.env whole = (do let v ← whole; standAt a.pos; holding [v] (truthy v))) :
    PT X a (fun σ H Q => ta σ H fun x H' => ∃ k, TruV X.K x H' k ∧ Q k H') := by
  intro pins s σ H Q I h
  exact isTrue_plain (thn (ha pins s σ H _ I h) fun v s1 ⟨x, H1, I1, r1, q1⟩ => tru_ok pins s1 σ H1 x v Q I1 r1 q1) (he _)
theorem op_add_str : OpR X (binaryOp .Add) (fun x y H Q => ∃ i j, x = .str i ∧ y = .str j ∧ i.length + j.length ≤ sizeLine ∧ Q (.str (i ++ j)) H) := by
  intro pins s σ H x y v u Q I rx ry h
  obtain ⟨i, j, rfl, rfl, hz, q⟩ := h
  obtain ⟨t, rfl⟩ := rx
  obtain ⟨t', rfl⟩ := ry
  exact add_str (fun t' tk => ⟨.str (i ++ j), H, I.tok _, ⟨_, rfl⟩, q⟩) hz
theorem vals1 {x : V} {us : List Value} (r : Vals [x] us) : ∃ u, us = [u] ∧ RelV x u := by
  cases r with
  | cons r1 r2 => cases r2; exact ⟨_, rfl, r1⟩
theorem vals2 {x y : V} {us : List Value} (r : Vals [x, y] us) : ∃ u w', us = [u, w'] ∧ RelV x u ∧ RelV y w' := by
  cases r with
  | cons r1 r2 =>
    cases r2 with
    | cons r3 r4 => cases r4; exact ⟨_, _, rfl, r1, r3⟩
theorem call_max2 (hc : X.calm = true) : CallR X (.builtin "max") (fun xs H Q => ∃ i j, xs = [.int i, .int j] ∧ Q (.int (if j > i then j else i)) H) := by
  intro pins s σ H xs us Q I r h
  obtain ⟨i, j, rfl, q⟩ := h
  obtain ⟨u, w', rfl, ⟨t, rfl⟩, ⟨t', rfl⟩⟩ := vals2 r
  refine max_two_ints (I.ok.hd hc) fun h' tk k => ⟨_, H, I.kept k, ?_, q⟩
  by_cases hj : j > i
  · rw [if_pos hj, if_pos hj]; exact ⟨_, rfl⟩
  · rw [if_neg hj, if_neg hj]; exact ⟨_, rfl⟩
theorem call_min2 (hc : X.calm = true) : CallR X (.builtin "min") (fun xs H Q => ∃ i j, xs = [.int i, .int j] ∧ Q (.int (if j < i then j else i)) H) := by
  intro pins s σ H xs us Q I r h
  obtain ⟨i, j, rfl, q⟩ := h
  obtain ⟨u, w', rfl, ⟨t, rfl⟩, ⟨t', rfl⟩⟩ := vals2 r
  refine min_two_ints (I.ok.hd hc) fun h' tk k => ⟨_, H, I.kept k, ?_, q⟩
  by_cases hj : j < i
  · rw [if_pos hj, if_pos hj]; exact ⟨_, rfl⟩
  · rw [if_neg hj, if_neg hj]; exact ⟨_, rfl⟩
theorem call_int1 : CallR X (.type "int") (fun xs H Q => (∃ i, xs = [.int i] ∧ Q (.int i) H) ∨ ∃ k, xs = [.bl k] ∧ Q (.int (if k then 1 else 0)) H) := by
  intro pins s σ H xs us Q I r h
  rcases h with ⟨i, rfl, q⟩ | ⟨k, rfl, q⟩
  · obtain ⟨u, rfl, t, rfl⟩ := vals1 r
    exact call_int_int ⟨.int i, H, I, ⟨_, rfl⟩, q⟩
  · obtain ⟨u, rfl, r1⟩ := vals1 r
    cases r1
    exact call_int_bool ⟨.int (if k then 1 else 0), H, I.tok _, ⟨_, rfl⟩, q⟩
end
end L2
namespace L2
open PySem PySem.Spec PyProof.Rows
structure ObjM (h : Heap) (x dx C : Addr) (mA : Str → Option Value) : Prop where
  obj : h.get? x = some (PySem.W.instObj C dx)
  ns : h.Ns1 dx mA
  ne : dx ≠ x
theorem lookIn_ns {h : Heap} {dx : Addr} {mA : Str → Option Value} (n : h.Ns1 dx mA) : ∃ od, h.get? dx = some od ∧ ∀ name, PySem.W.lookIn name od = some (mA name) := by
  obtain ⟨o, es, ep, ho, hd, hk, _, hm⟩ := n
  refine ⟨o, ho, fun name => ?_⟩
  have e := hm name
  unfold nsFind findBy at e
  rw [← Array.find?_toList] at e
  unfold PySem.W.lookIn
  rw [hd]
  dsimp only
  split
  · rename_i y q
    rw [q] at e
    exact congrArg some e
  · rename_i q
    rw [q] at e
    have a : es.toList.any (·.refKey) = false := by
      rw [List.any_eq_false]
      intro y hy
      obtain ⟨z, t, hkey⟩ := hk y (Array.mem_toList_iff.mp hy)
      simp [DictEntry.refKey, hkey]
    have a' : ¬ es.toList.any (·.refKey) = true := by rw [a]; exact Bool.false_ne_true
    rw [if_neg a']
    exact congrArg some e
theorem ObjM.look {h : Heap} {x dx C : Addr} {mA : Str → Option Value} (I : ObjM h x dx C mA) : ∃ od, PySem.W.InstAt h x (PySem.W.instObj C dx) C (some od) ∧ ∀ name, PySem.W.lookIn name od = some (mA name) :=
  let ⟨od, ho, hl⟩ := lookIn_ns I.ns
  ⟨od, ⟨I.obj, rfl, rfl, ho⟩, hl⟩
section
variable {prog : Program} {w : World} {A : Around} {E : Value → Shared → Prop} {s : Shared} {K : PySem.W.Frag} {x dx C f : Addr} {mA : Str → Option Value} {name : Str} {v : Value}
end
section
variable {P : Program} {w : World} {H H' : Hp} {h h' : Heap} {a C dx : Addr} {fs fs' : List (Str × V)}
end
structure Cls (K : PySem.W.Frag) (C : Addr) : Prop where
  pg : PySem.W.plainGet K C Str.empty = true
  hd : PySem.W.hasDictIn K C = true
  po : PySem.W.plainOver K C = true
  sa : PySem.W.findIn K (.ref C) "__setattr__" = some (some (.builtin "object.__setattr__"))
theorem Cls.get {K : PySem.W.Frag} {C : Addr} (c : Cls K C) (f : Str) : PySem.W.plainGet K C f = true := c.pg
structure Con (K : PySem.W.Frag) (C : Addr) (f : Str) (v : V) (u : Value) : Prop where
  at_ : PySem.W.findIn K (.ref C) f = some (some u)
  rel : RelV v u
  get : PySem.W.specialIn K u "__get__" = some none
  cp : PySem.W.copiedNames.contains f = false
structure Meth (K : PySem.W.Frag) (C : Addr) (m : Str) (f : Addr) : Prop where
  at_ : PySem.W.findIn K (.ref C) m = some (some (.ref f))
  fn : PySem.W.isFn K (.ref f) = true
  kp : PySem.W.keepIn K (.ref f) = true
section
variable {X : Cx} {pins : List (Addr × Obj)} {σ : St} {H : Hp} {s : Shared} {a C dx : Addr} {fs : List (Str × V)} {f : Str} {v : V} {A : Around} {E : Value → Shared → Prop}
end
section
variable {X : Cx} {o e value : Expr} {f : Str} {pos pos' tpos : Pos} {ta tv : TE}
end
section
variable {X : Cx} {pins : List (Addr × Obj)} {σ : St} {H : Hp} {s : Shared} {A : Around} {E : Value → Shared → Prop} {Q : Value → Shared → Prop} {c : Value} {b : Bool}
inductive TyOf (K : PySem.W.Frag) (H : Hp) : V → Value → Prop where
  | non : TyOf K H .non (.type "NoneType")
  | bl (x : Bool) : TyOf K H (.bl x) (.type "bool")
  | int (i : Int) : TyOf K H (.int i) (.type "int")
  | str (x : Str) : TyOf K H (.str x) (.type "str")
  | flt (x : UInt64) : TyOf K H (.flt x) (.type "float")
  | lst {a : Addr} {xs : List V} (e : H a = some (.lst xs)) : TyOf K H (.ref a) (.type "list")
  | frz {a : Addr} {o : Obj} {xs : List V} (e : H a = some (.frz o (.lst xs))) : TyOf K H (.ref a) (.type "list")
  | tup {a : Addr} {xs : List V} (e : H a = some (.tup xs)) : TyOf K H (.ref a) (.type "tuple")
  | dK {a : Addr} {kvs : List (Key × V)} (e : H a = some (.dK kvs)) : TyOf K H (.ref a) (.type "dict")
  | dT {a : Addr} {kvs : List (List Key × V)} (e : H a = some (.dT kvs)) : TyOf K H (.ref a) (.type "dict")
  | ins {a C dx : Addr} {fs : List (Str × V)} (e : H a = some (.ins C dx fs)) (cl : Cls K C) (ha : PySem.W.findIn K (.ref C) "__class__" = some (some (.builtin "object.__class__")))
      (hn : PySem.W.specialIn K (.builtin "object.__class__") "__get__" = some (some (.builtin "getset_descriptor.__get__"))) (htk : PySem.W.takesIn K (.builtin "object.__class__") = some true)
      (hm : PySem.W.mroIn K C (.type "object") = some true) : TyOf K H (.ref a) (.ref C)
end
end L2
namespace L2
open PySem PySem.Spec PyProof.Rows
structure Room (k : Nat) (A : Around) : Prop where
  hd : A.handled = none
  dp : A.depth + 3 * k + 5 < recursionLimit
  un : A.units + 16 * k + 200 < cLine
  gd : A.guards = some []
theorem Room.mono {j k : Nat} {A : Around} (r : Room k A) (h : j ≤ k) : Room j A := ⟨r.hd, by have := r.dp; omega, by have := r.un; omega, r.gd⟩
theorem Room.deeper {k : Nat} {A : Around} (r : Room (k + 1) A) (env : Env) : Room k (A.deeper env) :=
  ⟨r.hd, by have := r.dp; show A.depth + 1 + 3 * k + 5 < _; omega, by have := r.un; show A.units + 3 + 16 * k + 200 < _; omega, r.gd⟩
theorem Room.in1 {k : Nat} {A : Around} (r : Room (k + 1) A) : Room k A.in1 :=
  ⟨r.hd, by have := r.dp; show A.depth + 3 * k + 5 < _; omega, by have := r.un; show A.units + 1 + 16 * k + 200 < _; omega, r.gd⟩
theorem Room.depth {k : Nat} {A : Around} (r : Room k A) : A.depth < recursionLimit := by have := r.dp; omega
theorem Room.units {k : Nat} {A : Around} (r : Room k A) : A.units + 64 < cLine := by have := r.un; omega
def tNil : TA := fun _ H Q => Q [] H
def tCons (ta : TE) (tr : TA) : TA := fun σ H Q => ta σ H fun x H1 => tr σ H1 fun xs H2 => Q (x :: xs) H2
section
variable {X : Cx} {e : Expr} {es : List Expr} {te : TE} {t : TA} {pos : Pos}
theorem pa_nil : PA X [] tNil := fun _ _ _ _ H Q I h => Calls.spliced_nil ⟨[], H, I, .nil, h⟩
theorem pa_cons (ha : PE X e te) (hr : PA X es t) (hs : starEach (e :: es) X.env = (false, eval e X.env) :: starEach es X.env := by rfl) : PA X (e :: es) (tCons te t) := by
  intro pos pins s σ H Q I h
  rw [hs]
  show wpAny _ _ (spliced ((false, eval e X.env) :: backTo pos (starEach es X.env))) _ _ s
  refine Calls.spliced_cons (thn (ha pins s σ H _ I h) fun u s1 ⟨x, H1, I1, r1, q1⟩ => ?_)
  exact thn (hr pos pins s1 σ H1 _ I1 q1) fun us s2 ⟨xs, H2, I2, r2, q2⟩ => ⟨x :: xs, H2, I2, .cons r1 r2, q2⟩
def tTup (t : TA) : TE := fun σ H Q => t σ H fun xs H1 => xs.length ≤ sizeLine ∧ ∀ p, H1 p = none → Q (.ref p) (upd H1 p (.tup xs))
def tLst (t : TA) : TE := fun σ H Q => t σ H fun xs H1 => xs.length ≤ sizeLine ∧ ∀ p, H1 p = none → Q (.ref p) (upd H1 p (.lst xs))
theorem pe_tup {x1} (h : PA X es t) : PE X (.Tuple es x1 pos) (tTup t) := by
  intro pins s σ H Q I hq
  refine wpAny_Tuple_spliced (thn (h pos pins s σ H _ I hq) fun us s1 ⟨xs, H1, I1, r, z, q⟩ => ⟨by rw [← r.length]; exact z, ?_⟩)
  have hf : H1 s1.heap.objs.size = none := I1.hok.fresh (Nat.le_refl _)
  refine ⟨.ref s1.heap.objs.size, upd H1 s1.heap.objs.size (.tup xs), I1.laid (t' := s1.toks) (fun b u e => Heap.get?_push_of_some _ e) (Nat.le_refl _) ?_, rfl, q _ hf⟩
  exact ⟨z, us, r, ⟨_, Heap.get?_push_size _ rfl, rfl, _, rfl⟩⟩
theorem pe_lst (h : PA X es t) : PE X (.List es pos) (tLst t) := by
  intro pins s σ H Q I hq
  refine wpAny_List_spliced (thn (h pos pins s σ H _ I hq) fun us s1 ⟨xs, H1, I1, r, z, q⟩ => ⟨by rw [← r.length]; exact z, ?_⟩)
  have hf : H1 s1.heap.objs.size = none := I1.hok.fresh (Nat.le_refl _)
  refine ⟨.ref s1.heap.objs.size, upd H1 s1.heap.objs.size (.lst xs), I1.laid (t' := s1.toks) (fun b u e => Heap.get?_push_of_some _ e) (Nat.le_refl _) ?_, rfl, q _ hf⟩
  exact ⟨z, us, 0, r, Heap.get?_push_size _ rfl⟩
end
abbrev Sp := List V → Hp → VK → XK → Prop
abbrev CXT := List Env → Hp → Shared → XK → Value → Shared → Prop
structure Env0 (P : Program) (w : World) (K : PySem.W.Frag) (mg : Str → Option Value) (base : Heap) (A : Around) (outer : List Env) (s : Shared) (H : Hp) : Prop where
  frames : A.frames = some outer
  mod : Mod K mg base
  bs : ∀ b o, base.get? b = some o → s.heap.get? b = some o ∧ H b = none
  bsz : base.objs.size ≤ s.heap.objs.size
  funs : s.heap.FunFrames base outer
  frf : ∀ b ∈ frs outer, H b = none
  hok : HOk P w H s.heap
  bare : AllBare s.gens
def CE (outer : List Env) (P : Program) (w : World) (H : Hp) (s : Shared) (Q : VK) (u : Value) (s' : Shared) : Prop :=
  ∃ v H', s'.os = s.os ∧ AllBare s'.gens ∧ Un (frs outer) [] H H' s.heap s'.heap ∧ HOk P w H' s'.heap ∧ RelV v u ∧ Q v H'
def CR (CX : CXT) (outer : List Env) (P : Program) (w : World) (H : Hp) (s : Shared) (Q : VK) (E : XK) (r : Result) (s' : Shared) : Prop :=
  match r with
  | .ok (.ret u) => CE outer P w H s Q u s'
  | .ok _ => False
  | .error e => CX outer H s E e s'
structure FnOk (P : Program) (w : World) (K : PySem.W.Frag) (mg : Str → Option Value) (base : Heap) (CX : CXT) (k : Nat) (f : Addr) (fd : FuncData) (ps : List Str) (sp : Sp) : Prop where
  len : ∀ vs H Q E, sp vs H Q E → vs.length = ps.length
  run : ∀ (A : Around) (outer : List Env) (s : Shared) (H : Hp) (args : Args) (us : List Value) (vs : List V) (Q : VK) (E : XK), Room k A → Env0 P w K mg base A outer s H → BindsTo s fd args (ps.zip us) → Vals vs us → sp vs H Q E →
    codeAny (model P w) A (.call (.ref f) args) (CR CX outer P w H s Q E) s
theorem FnOk.mono {P : Program} {w : World} {K : PySem.W.Frag} {mg : Str → Option Value} {base : Heap} {CX : CXT} {j k : Nat} {f : Addr} {fd : FuncData} {ps : List Str} {sp : Sp} (F : FnOk P w K mg base CX j f fd ps sp) (h : j ≤ k) :
    FnOk P w K mg base CX k f fd ps sp := ⟨F.len, fun A outer s H args us vs Q E hr => F.run A outer s H args us vs Q E (hr.mono h)⟩
theorem FnOk.imp {P : Program} {w : World} {K : PySem.W.Frag} {mg : Str → Option Value} {base : Heap} {CX : CXT} {k : Nat} {f : Addr} {fd : FuncData} {ps : List Str} {sp sp' : Sp} (F : FnOk P w K mg base CX k f fd ps sp)
    (h : ∀ vs H Q E, sp' vs H Q E → sp vs H Q E) : FnOk P w K mg base CX k f fd ps sp' :=
  ⟨fun vs H Q E q => F.len vs H Q E (h _ _ _ _ q), fun A outer s H args us vs Q E hr he hb hv hs => F.run A outer s H args us vs Q E hr he hb hv (h _ _ _ _ hs)⟩
theorem Env0.in1 {P : Program} {w : World} {K : PySem.W.Frag} {mg : Str → Option Value} {base : Heap} {A : Around} {outer : List Env} {s : Shared} {H : Hp} (e : Env0 P w K mg base A outer s H) :
    Env0 P w K mg base A.in1 outer s H := ⟨e.frames, e.mod, e.bs, e.bsz, e.funs, e.frf, e.hok, e.bare⟩
section
variable {X : Cx} {pins : List (Addr × Obj)} {σ : St} {H : Hp} {s s' : Shared}
theorem Inv.env0 (I : Inv X pins σ H s) : Env0 X.prog X.w X.K X.mg X.base X.A X.stack s H :=
  ⟨I.ok.frames, I.ok.mod, I.bs, Nat.le_trans I.ok.bsz I.sz, I.stack, I.stkFree, I.hok, I.bare⟩
theorem Inv.after {Q : VK} {u : Value} (I : Inv X pins σ H s) (h : CE X.stack X.prog X.w H s Q u s') : EP X pins σ Q u s' := by
  obtain ⟨v, H', os, bare, un, hok, r, q⟩ := h
  obtain ⟨hh, g, d, t, os'⟩ := s'
  obtain rfl : os' = s.os := os
  exact ⟨v, H', I.call (h' := hh) (g' := g) (d' := d) (t' := t) (ch := []) un hok bare (fun b z => absurd z (by simp)), r, q⟩
end
def tCall (sp : Sp) (dvs : List V) (E : XK) (t : TA) : TE := fun σ H Q => t σ H fun vs H1 => sp (vs ++ dvs) H1 Q E
def Binds (K : PySem.W.Frag) (fd : FuncData) (ps : List Str) (ds : List Value) : Prop :=
  ∀ (s : Shared) (us : List Value), K.In s.heap → (us ++ ds).length = ps.length → BindsTo s fd ⟨us, []⟩ (ps.zip (us ++ ds))
theorem Binds.all {K : PySem.W.Frag} {fd : FuncData} {ps : List Str} (h : ∀ us : List Value, us.length = ps.length → bindArgs fd ⟨us, []⟩ = pure (ps.zip us)) : Binds K fd ps [] := fun s us _ hl => by
  rw [List.append_nil] at hl ⊢
  exact .of_eq (h us hl)
def Passes (CX : CXT) (X : Cx) (E : XK) : Prop := ∀ (pins : List (Addr × Obj)) (σ : St) (H : Hp) (s : Shared) (e : Value) (s' : Shared), Inv X pins σ H s → CX X.stack H s E e s' → X.xe e s'
section
variable {X : Cx} {CX : CXT} {k : Nat} {f C : Addr} {fd : FuncData} {ps : List Str} {sp : Sp} {dvs : List V} {ds : List Value} {E : XK} {x m : Str} {p pos apos : Pos} {e o : Expr} {es : List Expr} {ta : TE} {t : TA}
theorem run_fn {pins : List (Addr × Obj)} {σ : St} {H : Hp} {s : Shared} {Q : VK} {us : List Value} {vs : List V} (F : FnOk X.prog X.w X.K X.mg X.base CX k f fd ps sp) (hr : Room k X.A) (hb : Binds X.K fd ps ds) (hd : Vals dvs ds) (hx : Passes CX X E)
    (I : Inv X pins σ H s) (r : Vals vs us) (h : sp (vs ++ dvs) H Q E) : wpAny (model X.prog X.w) X.A (call (.ref f) us) (EP X pins σ Q) X.xe s := by
  have r2 : Vals (vs ++ dvs) (us ++ ds) := r.append hd
  have hl : (us ++ ds).length = ps.length := by rw [← r2.length]; exact F.len _ _ _ _ h
  refine wpAny_call (codeAny_mono (F.run X.A X.stack s H ⟨us, []⟩ (us ++ ds) (vs ++ dvs) Q E hr I.env0 (hb s us I.kIn hl) r2 h) fun r s' hq => ?_)
  cases r with
  | error e => exact hx pins σ H s e s' I hq
  | ok fl =>
    cases fl with
    | ret u => exact I.after hq
    | next => exact False.elim hq
    | brk => exact False.elim hq
    | cont => exact False.elim hq
theorem pe_call (F : FnOk X.prog X.w X.K X.mg X.base CX k f fd ps sp) (hr : Room k X.A) (hg : Gl X x) (hm : X.mg x = some (.ref f)) (hk : PySem.W.keepIn X.K (.ref f) = true) (hb : Binds X.K fd ps ds) (hd : Vals dvs ds) (hx : Passes CX X E)
    (ha : PA X (e :: es) t) (hdb : (x == ("__debug__" : Str)) = false := by decide) (he : starEach (e :: es) X.env = (false, eval e X.env) :: starEach es X.env := by rfl) (hpl : (backTo pos (starEach es X.env)).any (·.1) = false := by rfl) :
    PE X (.Call (.Name x p) (e :: es) [] pos) (tCall sp dvs E t) := by
  intro pins s σ H Q I h
  refine wpAny_Call_Name_kw (ld_glob I hg hm ?_ hdb)
  refine PySem.W.callWith_K (h₀ := X.base) I.ok.mod.kin hk (thn (ha pos pins s σ H _ I h) fun us s1 ⟨vs, H1, I1, r, q⟩ => ⟨I1.kIn, ?_⟩) he hpl
  exact run_fn F hr hb hd hx I1 r q
structure Mk (K : PySem.W.Frag) (C f : Addr) : Prop where
  makes : PySem.W.makesIn K C = true
  init : PySem.W.findIn K (.ref C) "__init__" = some (some (.ref f))
  fn : PySem.W.isFn K (.ref f) = true
  kp : PySem.W.keepIn K (.ref C) = true
end
section
variable {X : Cx} {CX : CXT} {k : Nat} {f C : Addr} {fd : FuncData} {ps ks : List Str} {sp : Sp} {E : XK} {x m : Str} {p pos apos kpos : Pos} {e o : Expr} {es : List Expr} {kws : List Keyword} {te ta : TE} {t tk : TA} {nm : Option Str}
structure KBinds (K : PySem.W.Frag) (fd : FuncData) (ps ks : List Str) (g : List Value → List Value → List Value) (gV : List V → List V → List V) : Prop where
  to : ∀ (s : Shared) (us ws : List Value), K.In s.heap → (g us ws).length = ps.length → BindsTo s fd ⟨us, ks.zip ws⟩ (ps.zip (g us ws))
  rel : ∀ {vs : List V} {us : List Value} {zs : List V} {ws : List Value}, Vals vs us → Vals zs ws → Vals (gV vs zs) (g us ws)
variable {g : List Value → List Value → List Value} {gV : List V → List V → List V}
end
structure FnScope (N P : List Str) (sc : Scope) : Prop where
  kind : sc.kind = .function
  co : sc.isCoroutine = false
  gen : sc.isGenerator = false
  nd : N.Nodup
  pre : N.take P.length = P
  par : ∀ x ∈ P, sc.names.lookup x = some .local ∨ sc.names.lookup x = some .cell
  nofree : ∀ y ∈ sc.names, y.2 ≠ .free
theorem bindL_out {kindOf : Str → Option NameKind} {x : Str} : ∀ {binds : List (Str × Value)} {m : Str → Option Value}, (∀ v, (x, v) ∉ binds) → bindL kindOf binds m x = m x
  | [], _, _ => rfl
  | (n, v) :: r, m, h => by
    unfold bindL
    rw [bindL_out fun w hw => h w (List.mem_cons_of_mem _ hw)]
    split
    · have : x ≠ n := by rintro rfl; exact h v List.mem_cons_self
      simp [this]
    · rfl
theorem bindC_out {kindOf : Str → Option NameKind} {x : Str} : ∀ {binds : List (Str × Value)} {m : Str → Option Value}, (∀ v, (x, v) ∉ binds) → bindC kindOf binds m x = m x
  | [], _, _ => rfl
  | (n, v) :: r, m, h => by
    unfold bindC
    rw [bindC_out fun w hw => h w (List.mem_cons_of_mem _ hw)]
    split
    · rfl
    · have : x ≠ n := by rintro rfl; exact h v List.mem_cons_self
      simp [this]
theorem bindL_get {kindOf : Str → Option NameKind} {x : Str} {v : Value} : ∀ {P : List Str} {vs : List Value} {i : Nat} {m : Str → Option Value}, P.Nodup → P[i]? = some x → vs[i]? = some v → kindOf x = some .local →
    bindL kindOf (P.zip vs) m x = some v
  | [], _, _, _, _, h, _, _ => by simp at h
  | _ :: _, [], _, _, _, _, h, _ => by simp at h
  | p :: P, w :: vs, 0, m, nd, h1, h2, hk => by
    simp at h1 h2; subst h1; subst h2
    show bindL kindOf ((p, w) :: P.zip vs) m p = _
    unfold bindL
    rw [bindL_out fun v hv => (List.nodup_cons.mp nd).1 (List.of_mem_zip hv).1, if_pos hk]
    simp
  | p :: P, w :: vs, i + 1, m, nd, h1, h2, hk => by
    show bindL kindOf ((p, w) :: P.zip vs) m x = _
    unfold bindL
    exact bindL_get (i := i) (List.nodup_cons.mp nd).2 (by simpa using h1) (by simpa using h2) hk
theorem bindC_get {kindOf : Str → Option NameKind} {x : Str} {v : Value} : ∀ {P : List Str} {vs : List Value} {i : Nat} {m : Str → Option Value}, P.Nodup → P[i]? = some x → vs[i]? = some v → kindOf x ≠ some .local →
    bindC kindOf (P.zip vs) m x = some v
  | [], _, _, _, _, h, _, _ => by simp at h
  | _ :: _, [], _, _, _, _, h, _ => by simp at h
  | p :: P, w :: vs, 0, m, nd, h1, h2, hk => by
    simp at h1 h2; subst h1; subst h2
    show bindC kindOf ((p, w) :: P.zip vs) m p = _
    unfold bindC
    rw [bindC_out fun v hv => (List.nodup_cons.mp nd).1 (List.of_mem_zip hv).1, if_neg hk]
    simp
  | p :: P, w :: vs, i + 1, m, nd, h1, h2, hk => by
    show bindC kindOf ((p, w) :: P.zip vs) m x = _
    unfold bindC
    exact bindC_get (i := i) (List.nodup_cons.mp nd).2 (by simpa using h1) (by simpa using h2) hk
def start (N : List Str) (vs : List V) : St := vs.map some ++ List.replicate (N.length - vs.length) none
def cxOf (CX : CXT) (P : Program) (w : World) (K : PySem.W.Frag) (mg : Str → Option Value) (base : Heap) (N : List Str) (qual : Str) (scope : Scope) (f : Addr) (cd : Value) (A : Around) (outer : List Env) (s : Shared) (H : Hp) (E : XK) : Cx where
  prog := P
  w := w
  K := K
  mg := mg
  base := base
  A := A.deeper (envOfC qual scope s.heap.objs.size f cd)
  N := N
  s_0 := s
  H_0 := H
  env := envOfC qual scope s.heap.objs.size f cd
  outer := outer
  stack := envOfC qual scope s.heap.objs.size f cd :: outer
  ex := []
  calm := true
  fn := fun _ => true
  pn := []
  xe := fun e s' => wpAny (model P w) (A.deeper (envOfC qual scope s.heap.objs.size f cd)) (leaving (envOfC qual scope s.heap.objs.size f cd) e) (fun _ s'' => CX outer H s E e s'') (fun e' s'' => CX outer H s E e' s'') s'
theorem cell_has {sc : Scope} {n : Nat} {x : Str} (h : sc.names.lookup x = some .cell) : ∃ c, (cellsFrom n sc.names []).lookup x = some c := by
  have q := PySem.W.cellsFrom_some sc.names n [] (.inl h)
  exact Option.isSome_iff_exists.mp q
theorem inv_start {CX : CXT} {P : Program} {w : World} {K : PySem.W.Frag} {mg : Str → Option Value} {base : Heap} {N ps : List Str} {qual : Str} {scope : Scope} {f : Addr} {cd : Value} {A : Around} {outer : List Env} {s s1 : Shared} {H : Hp} {E : XK} {us : List Value} {vs : List V}
    (S : FnScope N ps scope) (hd : A.handled = none) (e0 : Env0 P w K mg base A outer s H) (hl : vs.length = ps.length) (r : Vals vs us)
    (x : InCallC s s.heap.objs.size (bindL (envOfC qual scope s.heap.objs.size f cd).kindOf (ps.zip us) fun _ => none) (cellsFrom (s.heap.objs.size + 1) scope.names []) (bindC (envOfC qual scope s.heap.objs.size f cd).kindOf (ps.zip us) fun _ => none) s1) :
    Inv (cxOf CX P w K mg base N qual scope f cd A outer s H E) [] (start N vs) H s1 := by
  have hpl : ps.length ≤ N.length := by have := congrArg List.length S.pre; rw [List.length_take] at this; omega
  obtain ⟨h1, tk, rfl, hk⟩ := x.done
  have noA : ∀ b : Addr, b ∉ (cxOf CX P w K mg base N qual scope f cd A outer s H E).ex := fun b z => absurd (show b ∈ ([] : List Addr) from z) (by simp)
  refine ⟨⟨e0.mod, S.kind, rfl, rfl, Nat.le_refl _, fun y z c h1 h2 => ?_, fun y hy => ?_, fun y c _ h => ?_, fun _ => hd, Around.frames_deeper e0.frames, .inr ⟨rfl, rfl⟩, fun b z => absurd z (noA b), e0.bs, e0.bsz, fun b _ _ => noA b, fun b z => absurd z (noA b), e0.funs, e0.frf⟩,
    rfl, e0.bare, Un.kept hk, ⟨_, x.toInCall.ns, fun i y v h1 h2 h3 => ?_⟩, fun y c h => ⟨_, x.cell y c h⟩, e0.hok.fresh (Nat.le_refl _), fun y c h => ?_, fun p hp => absurd (show p ∈ ([] : List (Addr × Obj)) from hp) (by simp), e0.hok.kept hk, ?_⟩
  · exact name_of_addr x.apart (PySem.mem_of_lookup h1) (PySem.mem_of_lookup h2)
  · have hy : scope.names.lookup y = some .cell ∨ scope.names.lookup y = some .free := hy
    rcases hy with hy | hy
    · exact cell_has hy
    · exact absurd rfl (S.nofree _ (PySem.mem_of_lookup hy))
  · exact Nat.le_of_lt (x.above y c (PySem.mem_of_lookup h))
  · have hi : i < vs.length := by
      unfold start at h2
      by_cases hi : i < vs.length
      · exact hi
      · rw [List.getElem?_append_right (by simpa using hi)] at h2
        rw [List.getElem?_replicate] at h2
        split at h2 <;> cases h2
    have ha : vs[i]? = some v := by
      unfold start at h2
      rw [List.getElem?_append_left (by simpa using hi), List.getElem?_map] at h2
      cases e : vs[i]? with
      | none => rw [e] at h2; cases h2
      | some a => rw [e] at h2; cases h2; rfl
    obtain ⟨u, hu, rv⟩ := r.get ha
    have hp : ps[i]? = some y := by
      rw [← S.pre, List.getElem?_take_of_lt (by omega)]; exact h1
    have ndP : ps.Nodup := by rw [← S.pre]; exact S.nd.sublist (List.take_sublist _ _)
    refine ⟨u, rv, ?_⟩
    rcases S.par y (List.mem_of_getElem? hp) with k | k
    · exact .inl ⟨k, bindL_get ndP hp hu k⟩
    · obtain ⟨c, e⟩ := cell_has (n := s.heap.objs.size + 1) k
      refine .inr ⟨.inl k, c, e, ?_⟩
      have q := x.cell y c e
      rw [bindC_get ndP hp hu (by show scope.names.lookup y ≠ _; rw [k]; decide)] at q
      exact q
  · exact .inl (e0.hok.fresh (Nat.le_of_lt (x.above y c (PySem.mem_of_lookup h))))
  · unfold start
    show _ = N.length
    rw [List.length_append, List.length_map, List.length_replicate]
    omega
theorem fn_of {CX : CXT} {P : Program} {w : World} {K : PySem.W.Frag} {mg : Str → Option Value} {base : Heap} {k : Nat} {f : Addr} {name qual : Str} {params : Arguments} {body : List Stmt} {scope : Scope} {dV kV doc pm cdv ct oc : Value} {an od : Option Addr}
    {osl : Array (Option Value)} {N ps : List Str} {sp : Sp} (lk : K.lookup f = some ⟨oc, od, .func (PySem.W.fnOf name qual params body scope dV kV doc pm an cdv ct), osl⟩) (hcd : PySem.W.codeIn K cdv qual = true) (S : FnScope N ps scope)
    (len : ∀ vs H Q E, sp vs H Q E → vs.length = ps.length)
    (hbody : ∀ (A : Around) (outer : List Env) (s : Shared) (H : Hp) (vs : List V) (Q : VK) (E : XK), Room k (A.deeper (envOfC qual scope s.heap.objs.size f cdv)) → sp vs H Q E →
      ∃ t, PSs (cxOf CX P w K mg base N qual scope f cdv A outer s H E) body t ∧ t { nx := fun _ H' => Q .non H', rt := Q } (start N vs) H) :
    FnOk P w K mg base CX (k + 1) f (PySem.W.fnOf name qual params body scope dV kV doc pm an cdv ct) ps sp := by
  refine ⟨len, fun A outer s H args us vs Q E hr e0 hb r hsp => ?_⟩
  have hl := len _ _ _ _ hsp
  have KX : K.In s.heap := e0.mod.kin.keeps fun b o e => (e0.bs b o e).1
  have lim : s.heap.NoLimit := e0.mod.nolimit.keeps fun b o e => (e0.bs b o e).1
  have hkind : ∀ y ∈ ps.zip us, scope.names.lookup y.1 = some .local ∨ (scope.names.lookup y.1 = some .cell ∧ ((cellsFrom (s.heap.objs.size + 1) scope.names []).lookup y.1).isSome = true) := fun ⟨n, v⟩ hy => by
    rcases S.par n (List.of_mem_zip hy).1 with q | q
    · exact .inl q
    · exact .inr ⟨q, PySem.W.cellsFrom_some _ _ _ (.inl q)⟩
  refine codeAny_call_function hr.depth (KX _ _ lk) rfl S.co S.gen rfl (PySem.W.codeRec_of KX hcd) (hb _ _ _ _ ?_)
  refine wpAny_newFunctionEnv_cells S.kind hkind fun env he s1 x => ?_
  subst he
  refine ⟨lim.keeps x.toInCall.keep, codeAny_func ?_⟩
  obtain ⟨t, ht, hq⟩ := hbody A outer s H vs Q E (hr.deeper _) hsp
  have I : Inv (cxOf CX P w K mg base N qual scope f cdv A outer s H E) [] (start N vs) H s1 := inv_start S hr.hd e0 hl r x
  refine wpAny_mono (ht [] s1 (start N vs) H _ I hq) (fun fl s' hs => ?_) fun e s' hs => hs
  have fin : ∀ {σ' : St} {H' : Hp} {v : V} {u : Value}, Inv (cxOf CX P w K mg base N qual scope f cdv A outer s H E) [] σ' H' s' → RelV v u → Q v H' → CE outer P w H s Q u s' :=
    fun {σ' H' v u} J rv q => ⟨v, H', J.os, J.bare, J.base, J.hok, rv, q⟩
  cases fl with
  | ret u =>
    obtain ⟨v, σ', H', J, rv, q⟩ := hs
    exact fin J rv q
  | next =>
    obtain ⟨σ', H', J, q⟩ := hs
    exact fin (v := V.non) (u := Value.none) J rfl q
  | brk =>
    obtain ⟨_, _, _, q⟩ := hs
    exact False.elim q
  | cont =>
    obtain ⟨_, _, _, q⟩ := hs
    exact False.elim q
end L2
namespace L2
open PySem PySem.Spec PyProof.Rows
section
variable {X : Cx} {x : Str} {p pos : Pos} {e : Expr} {es : List Expr} {t : TA} {id T : String} {r : List V → Hp → VK → Prop}
def tCB (r : List V → Hp → VK → Prop) (t : TA) : TE := fun σ H Q => t σ H fun vs H1 => r vs H1 Q
theorem pe_callB (hc : CallR X (.builtin id) r) (hg : Gl X x) (hm : X.mg x = none) (hv : bootBuiltins x = some (.builtin id)) (ha : PA X (e :: es) t) (hn : x ≠ "__name__" := by decide) (hdb : (x == ("__debug__" : Str)) = false := by decide)
    (he : starEach (e :: es) X.env = (false, eval e X.env) :: starEach es X.env := by rfl) (hpl : (backTo pos (starEach es X.env)).any (·.1) = false := by rfl) : PE X (.Call (.Name x p) (e :: es) [] pos) (tCB r t) := by
  intro pins s σ H Q I h
  refine wpAny_Call_Name_kw (ld_blt I hg hm hv ?_ hn hdb)
  exact PyProof.Rows.callWith_builtin1 (thn (ha pos pins s σ H _ I h) fun us s1 ⟨vs, H1, I1, r1, q1⟩ => hc pins s1 σ H1 vs us Q I1 r1 q1) he hpl
theorem pe_callTy (hc : CallR X (.type T) r) (hg : Gl X x) (hm : X.mg x = none) (hv : bootBuiltins x = some (.type T)) (ha : PA X (e :: es) t) (hn : x ≠ "__name__" := by decide) (hdb : (x == ("__debug__" : Str)) = false := by decide)
    (he : starEach (e :: es) X.env = (false, eval e X.env) :: starEach es X.env := by rfl) (hpl : (backTo pos (starEach es X.env)).any (·.1) = false := by rfl) : PE X (.Call (.Name x p) (e :: es) [] pos) (tCB r t) := by
  intro pins s σ H Q I h
  refine wpAny_Call_Name_kw (ld_blt I hg hm hv ?_ hn hdb)
  exact PyProof.Rows.callWith_type1 (thn (ha pos pins s σ H _ I h) fun us s1 ⟨vs, H1, I1, r1, q1⟩ => hc pins s1 σ H1 vs us Q I1 r1 q1) he hpl
end
end L2
namespace HT
open PySem PyProof.Rows
section
open PySem.SeqAt
open PySem.AutoSeq1 (wpAny_loadPart')
open PySem.MeetsSeq PySem.MeetsSeq2 PySem.MeetsSeq3
end
section
variable {prog : Program} {w : World} {A : Around} {E : Value → Shared → Prop} {s : Shared}
def sIx (n d : Nat) : Option Int → Nat
  | none => d
  | some v => if v < 0 then (v + (n : Int)).toNat else min v.toNat n
theorem sIx_none (n d : Nat) : sIx n d none = d := rfl
theorem sIx_nat (n d k : Nat) : sIx n d (some (k : Int)) = min k n := by
  show (if (k : Int) < 0 then ((k : Int) + (n : Int)).toNat else min (k : Int).toNat n) = min k n
  rw [if_neg (by omega), Int.toNat_natCast]
theorem sIx_le (n d : Nat) (hd : d ≤ n) (o : Option Int) : sIx n d o ≤ n := by
  cases o with
  | none => exact hd
  | some v =>
    show (if v < 0 then (v + (n : Int)).toNat else min v.toNat n) ≤ n
    by_cases hv : v < 0
    · rw [if_pos hv]; omega
    · rw [if_neg hv]; exact Nat.min_le_right _ _
theorem clip_eq (v : Int) (n d : Nat) : (if v < 0 then max (v + (n : Int)) 0 else min v (n : Int)) = ((sIx n d (some v) : Nat) : Int) := by
  show (if v < 0 then max (v + (n : Int)) 0 else min v (n : Int)) = (((if v < 0 then (v + (n : Int)).toNat else min v.toNat n) : Nat) : Int)
  by_cases hv : v < 0
  · simp only [if_pos hv]; omega
  · simp only [if_neg hv]; omega
theorem adjust_gen (lo hi : Option Int) (n : Nat) : Builtin.Slice.sliceAdjust lo hi 1 (n : Int) = (((sIx n 0 lo : Nat) : Int), ((sIx n n hi : Nat) : Int)) := by
  have h1 : ¬ ((1 : Int) < 0) := by omega
  unfold Builtin.Slice.sliceAdjust
  simp only [h1, if_false]
  refine Prod.ext ?_ ?_
  · cases lo with
    | none => rfl
    | some v => exact clip_eq v n 0
  · cases hi with
    | none => rfl
    | some v => exact clip_eq v n n
theorem places_gen (i j : Nat) : Builtin.Slice.slicePlaces (i : Int) (j : Int) 1 = j - i := by
  unfold Builtin.Slice.slicePlaces
  have h1 : (1 : Int) > 0 := by omega
  simp only [h1, if_true, Int.ediv_one]
  split <;> omega
theorem slicePart_ {v : Value} {o : Option Int} {Q : Option Int → Shared → Prop} (p : IsPart v o) (h : Q o s) : wpAny (model prog w) A (Builtin.Slice.slicePartIndex v) Q E s := by
  cases p with
  | none => exact slicePart_none h
  | int i t => exact slicePart_int h
theorem sliceApplied_gen {sl : Addr} {vl vu : Value} {lo hi : Option Int} {n : Nat} {Q : Int × Int × Nat → Shared → Prop} (hs : s.heap.IsSliceOf sl vl vu .none) (pl : IsPart vl lo) (pu : IsPart vu hi)
    (h : Q (((sIx n 0 lo : Nat) : Int), 1, sIx n n hi - sIx n 0 lo) s) : wpAny (model prog w) A (Builtin.Slice.sliceApplied (.ref sl) (pure (n : Int))) Q E s := by
  obtain ⟨os, hos, hcs, hds⟩ := id hs
  unfold Builtin.Slice.sliceApplied Builtin.Slice.sliceFields
  refine wpAny_bind (wpAny_bind (wpAny_field hos hds (x := vl) rfl (wpAny_bind (wpAny_field hos hds (x := vu) rfl (wpAny_bind (wpAny_field hos hds (x := .none) rfl (wpAny_pure ?_)))))))
  refine wpAny_bind (slicePart_none ?_)
  show wpAny _ _ (if ((1 : Int) == 0) = true then _ else _) _ _ s
  rw [if_neg (by decide)]
  refine wpAny_bind (slicePart_ pl (wpAny_bind (slicePart_ pu (wpAny_bind (wpAny_pure ?_)))))
  show wpAny _ _ (match Builtin.Slice.sliceAdjust lo hi 1 (n : Int) with | (lo, hi) => pure (lo, (1 : Int), Builtin.Slice.slicePlaces lo hi 1)) _ _ s
  rw [adjust_gen lo hi n]
  show wpAny _ _ (pure (((sIx n 0 lo : Nat) : Int), (1 : Int), Builtin.Slice.slicePlaces ((sIx n 0 lo : Nat) : Int) ((sIx n n hi : Nat) : Int) 1)) _ _ s
  rw [places_gen]
  exact wpAny_pure h
theorem pick_gen (xs : Array Value) (i k : Nat) : ((List.range k).filterMap fun (m : Nat) => xs[((i : Int) + (m : Int) * 1).toNat]?).toArray = ((xs.toList.drop i).take k).toArray := by
  have e : (fun (m : Nat) => xs[((i : Int) + (m : Int) * 1).toNat]?) = fun m => xs[i + m]? := by
    funext m
    have : ((i : Int) + (m : Int) * 1).toNat = i + m := by omega
    rw [this]
  rw [e]
  have := pick_run xs i k
  rw [List.filterMap_map] at this
  have e2 : ((fun x => xs[x]?) ∘ fun x => i + x) = fun m => xs[i + m]? := rfl
  rw [e2] at this
  rw [this]
theorem getItem_tuple_cut {t sl : Addr} {items : Array Value} {vl vu : Value} {lo hi : Option Int} {Q : Value → Shared → Prop} (ht : IsTup s.heap t items) (hs : s.heap.IsSliceOf sl vl vu .none) (pl : IsPart vl lo) (pu : IsPart vu hi)
    (hw : ¬ (sIx items.size 0 lo = 0 ∧ sIx items.size items.size hi = items.size))
    (h : Q (.ref s.heap.objs.size) { s with heap := s.heap.push { cls := .type "tuple", data := .seq ((items.toList.drop (sIx items.size 0 lo)).take (sIx items.size items.size hi - sIx items.size 0 lo)).toArray } })
    (hsz : items.size ≤ sizeLine) : wpAny (model prog w) A (getItem (.ref t) (.ref sl)) Q E s := by
  have htake : sizeOk (.seq ((items.toList.drop (sIx items.size 0 lo)).take (sIx items.size items.size hi - sIx items.size 0 lo)).toArray) := by
    show ((items.toList.drop (sIx items.size 0 lo)).take (sIx items.size items.size hi - sIx items.size 0 lo)).toArray.size ≤ sizeLine
    rw [List.size_toArray, List.length_take, List.length_drop, Array.length_toList]
    omega
  have hj : sIx items.size items.size hi ≤ items.size := sIx_le _ _ (Nat.le_refl _) hi
  obtain ⟨os, hos, hcs, hds⟩ := id hs
  have hTs : s.TypeIs (.ref sl) "slice" := ⟨os, hos, hcs⟩
  unfold getItem
  try with_reducible refine wpAny_holding ?_
  first | refine wpAny_bind (wpAny_pure ?_) | skip
  refine wpAny_bind (wpAny_sequenceKey ht.typeIs (by decide) ?_)
  refine wpAny_bind (wpAny_callSpecial?_slot (name := Str.ofString "__getitem__") ht.typeIs PyProof.Rows.slot_tuple_getitem
    (wpAny_call_entry PyProof.Rows.slot_tuple_getitem ht.typeIs entry_tuple_getitem ?_ (args_tuple_getitem _ _)))
  show wpAny _ _ (Builtin.Tuple.tupleItemsOf (.ref t) >>= _) _ _ s
  refine wpAny_bind (tupleItemsOf_ ht ?_)
  refine wpAny_bind (wpAny_typeOf hTs ?_)
  rw [if_pos (by decide)]
  refine wpAny_bind (sliceApplied_gen hs pl pu ?_)
  have hno : ¬ ((((sIx items.size 0 lo : Nat) : Int) == 0 && (1 : Int) == 1 && (sIx items.size items.size hi - sIx items.size 0 lo) == items.size) = true) := by
    intro q
    rw [Bool.and_eq_true, Bool.and_eq_true] at q
    have q1 : ((sIx items.size 0 lo : Nat) : Int) = 0 := eq_of_beq q.1.1
    have q2 : sIx items.size items.size hi - sIx items.size 0 lo = items.size := eq_of_beq q.2
    exact hw ⟨by omega, by omega⟩
  show wpAny _ _ (if (((sIx items.size 0 lo : Nat) : Int) == 0 && (1 : Int) == 1 && (sIx items.size items.size hi - sIx items.size 0 lo) == items.size) = true then _ else _) _ _ s
  rw [if_neg hno, pick_gen]
  first
    | exact wpAny_bind (m := Builtin.Tuple.tupleExact _) (wpAny_newObj_type (wpAny_pure ⟨_, rfl, wpAny_pure h⟩) htake)
    | exact wpAny_bind (m := Builtin.Tuple.tupleExact _) (wpAny_newObj_type (wpAny_bind (wpAny_pure (wpAny_pure ⟨_, rfl, wpAny_pure h⟩))) htake)
    | exact wpAny_bind (wpAny_bind (m := Builtin.Tuple.tupleExact _) (wpAny_newObj_type (wpAny_pure (wpAny_pure ⟨_, rfl, wpAny_pure h⟩)) htake))
    | exact wpAny_bind (wpAny_bind (m := Builtin.Tuple.tupleExact _) (wpAny_newObj_type (wpAny_pure ⟨_, rfl, wpAny_pure h⟩) htake))
end
end HT
namespace L2
open PySem PySem.Spec PyProof.Rows
abbrev TO := St → Hp → (Option Int → Hp → Prop) → Prop
def PO (X : Cx) (e : Option Expr) (t : TO) : Prop :=
  ∀ (pins : List (Addr × Obj)) (s : Shared) (σ : St) (H : Hp) (Q : Option Int → Hp → Prop), Inv X pins σ H s → t σ H Q →
    wpAny (model X.prog X.w) X.A (evalPart e X.env) (fun u s' => ∃ o H', Inv X pins σ H' s' ∧ IsPart u o ∧ Q o H') X.xe s
def tNoPart : TO := fun _ H Q => Q none H
def tPart (t : TE) : TO := fun σ H Q => t σ H fun x H1 => ∃ i, x = .int i ∧ Q (some i) H1
section
variable {X : Cx} {e : Expr} {te : TE} {lo hi : Option Expr} {tl th : TO} {pos p2 : Pos}
theorem po_none : PO X none tNoPart := by
  intro pins s σ H Q I h
  rw [evalPart_none]
  exact wpAny_pure ⟨none, H, I, .none, h⟩
theorem po_some (h : PE X e te) : PO X (some e) (tPart te) := by
  intro pins s σ H Q I hw
  rw [evalPart_some]
  refine thn (h pins s σ H _ I hw) fun u s1 ⟨x, H1, I1, r1, q1⟩ => ?_
  obtain ⟨i, rfl, q⟩ := q1
  obtain ⟨t, rfl⟩ := r1
  exact ⟨some i, H1, I1, .int i t, q⟩
def SlR (X : Cx) (r : V → Option Int → Option Int → Hp → VK → Prop) : Prop :=
  ∀ (pins : List (Addr × Obj)) (s : Shared) (σ : St) (H : Hp) (x : V) (v vl vu : Value) (lo hi : Option Int) (sl : Addr) (Q : VK), Inv X pins σ H s → RelV x v → s.heap.IsSliceOf sl vl vu .none → IsPart vl lo → IsPart vu hi → r x lo hi H Q →
    ∃ T id, typeLookup (.type T) "__getitem__" = pure (some (.builtin id)) ∧ s.TypeIs v T ∧ wpAny (model X.prog X.w) X.A (getItem v (.ref sl)) (EP X pins σ Q) X.xe s
theorem SlR.or {r r' : V → Option Int → Option Int → Hp → VK → Prop} (h : SlR X r) (h' : SlR X r') : SlR X (fun x lo hi H Q => r x lo hi H Q ∨ r' x lo hi H Q) := by
  intro pins s σ H x v vl vu lo hi sl Q I rx hs pl pu q
  rcases q with q | q
  · exact h pins s σ H x v vl vu lo hi sl Q I rx hs pl pu q
  · exact h' pins s σ H x v vl vu lo hi sl Q I rx hs pl pu q
def tSl (r : V → Option Int → Option Int → Hp → VK → Prop) (te : TE) (tl th : TO) : TE := fun σ H Q => te σ H fun x H1 => tl σ H1 fun l H2 => th σ H2 fun u H3 => r x l u H3 Q
theorem pe_slice {r : V → Option Int → Option Int → Hp → VK → Prop} (hr : SlR X r) (he : PE X e te) (hl : PO X lo tl) (hu : PO X hi th) : PE X (.Subscript e (.Slice lo hi none p2) pos) (tSl r te tl th) := by
  intro pins s σ H Q I h
  refine Subscript_ (thn (he pins s σ H _ I h) fun v s1 ⟨x, H1, I1, r1, q1⟩ => ?_)
  refine wpAny_Slice (thn (hl pins s1 σ H1 _ I1 q1) fun vl s2 ⟨l, H2, I2, pl, q2⟩ => thn (hu pins s2 σ H2 _ I2 q2) fun vu s3 ⟨u, H3, I3, pu, q3⟩ => ?_)
  rw [evalPart_none]
  refine wpAny_pure ?_
  have I4 : Inv X pins σ H3 { s3 with heap := s3.heap.push { cls := .type "slice", data := .fields #[vl, vu, .none] } } := I3.kept (t' := s3.toks) fun b ob q => Heap.get?_push_of_some _ q
  obtain ⟨T, id, hT, ht, hg⟩ := hr pins { s3 with heap := s3.heap.push { cls := .type "slice", data := .fields #[vl, vu, .none] } } σ H3 x v vl vu l u s3.heap.objs.size Q I4 r1 (Heap.IsSliceOf.new ..) pl pu q3
  show wpAny (model X.prog X.w) X.A (subscriptTail e (.Slice lo hi none p2) v (.ref s3.heap.objs.size)) (EP X pins σ Q) X.xe { s3 with heap := s3.heap.push { cls := .type "slice", data := .fields #[vl, vu, .none] } }
  exact tail_any (ops := [.ref s3.heap.objs.size, v]) ht hT hg (by with_unfolding_all rfl)
def cutV (xs : List V) (lo hi : Option Int) : List V := (xs.drop (HT.sIx xs.length 0 lo)).take (HT.sIx xs.length xs.length hi - HT.sIx xs.length 0 lo)
theorem cutV_length (xs : List V) (lo hi : Option Int) : (cutV xs lo hi).length ≤ xs.length := by
  unfold cutV
  rw [List.length_take, List.length_drop]
  omega
def rSlT (K : PySem.W.Frag) : V → Option Int → Option Int → Hp → VK → Prop := fun x lo hi H Q => ∃ a xs, x = .ref a ∧ SqT K H a xs ∧
  ¬ (HT.sIx xs.length 0 lo = 0 ∧ HT.sIx xs.length xs.length hi = xs.length) ∧ ∀ p, H p = none → Q (.ref p) (upd H p (.tup (cutV xs lo hi)))
theorem sl_tup : SlR X (rSlT X.K) := by
  intro pins s σ H x v vl vu lo hi sl Q I rx hs pl pu h
  obtain ⟨a, xs, rfl, hx, hw, q⟩ := h
  cases rx
  obtain ⟨its, r, ht, hz⟩ := I.tuple hx
  have hlen : its.toArray.size = xs.length := by rw [List.size_toArray]; exact r.length.symm
  refine ⟨"tuple", _, PyProof.Rows.slot_tuple_getitem.lookup, ht.typeIs, ?_⟩
  refine HT.getItem_tuple_cut ht hs pl pu (by rw [hlen]; exact hw) ?_ (by rw [hlen]; exact hz)
  rw [hlen]
  refine ⟨.ref s.heap.objs.size, _, I.laid (t' := s.toks) (o := .tup (cutV xs lo hi)) (fun b ob q => Heap.get?_push_of_some _ q) (Nat.le_refl _) ?_, rfl, q _ (I.hok.fresh (Nat.le_refl _))⟩
  exact ⟨Nat.le_trans (cutV_length xs lo hi) hz, _, (r.drop (HT.sIx xs.length 0 lo)).take (HT.sIx xs.length xs.length hi - HT.sIx xs.length 0 lo), IsTup.new _ _⟩
end
end L2
namespace L2
open PySem PySem.Spec PyProof.Rows
def ixN (n : Nat) (i : Int) : Option Nat := if 0 ≤ i then (if i < n then some i.toNat else none) else if -(n : Int) ≤ i then some (i + n).toNat else none
def atI {α : Type} (xs : List α) (i : Int) : Option α := (ixN xs.length i).bind fun j => xs[j]?
theorem ixN_seq {n : Nat} {i : Int} {j : Nat} (h : ixN n i = some j) : seqIndex? i n = some j ∧ j < n ∧ -(n : Int) ≤ i ∧ i < n := by
  unfold ixN at h
  by_cases h0 : 0 ≤ i
  · rw [if_pos h0] at h
    by_cases h1 : i < n
    · rw [if_pos h1] at h
      have e : i.toNat = j := Option.some.inj h
      exact ⟨by rw [seqIndex_of h0 h1, e], by omega, by omega, h1⟩
    · rw [if_neg h1] at h; cases h
  · rw [if_neg h0] at h
    by_cases h1 : -(n : Int) ≤ i
    · rw [if_pos h1] at h
      have e : (i + n).toNat = j := Option.some.inj h
      exact ⟨by rw [seqIndex_neg (by omega) h1, e], by omega, h1, by omega⟩
    · rw [if_neg h1] at h; cases h
theorem atI_get {α : Type} {xs : List α} {i : Int} {v : α} (h : atI xs i = some v) : ∃ j, seqIndex? i xs.length = some j ∧ xs[j]? = some v ∧ j < xs.length ∧ -(xs.length : Int) ≤ i ∧ i < xs.length := by
  unfold atI at h
  cases e : ixN xs.length i with
  | none => rw [e] at h; cases h
  | some j =>
    rw [e] at h
    obtain ⟨h1, h2, h3, h4⟩ := ixN_seq e
    exact ⟨j, h1, h, h2, h3, h4⟩
theorem atI_nat {α : Type} {xs : List α} {j : Nat} {v : α} (h : xs[j]? = some v) : atI xs (j : Int) = some v := by
  have hj : j < xs.length := (List.getElem?_eq_some_iff.mp h).1
  have e : ixN xs.length (j : Int) = some j := by
    unfold ixN
    rw [if_pos (by omega), if_pos (by omega)]; simp
  unfold atI; rw [e]; exact h
def PlainIx (b : Expr) : Prop := ∀ o i, subscripted b false o i = operate [o, i] (getItem o i)
def IxR (X : Cx) (r : R2) : Prop :=
  ∀ (value slice : Expr) (pins : List (Addr × Obj)) (s : Shared) (σ : St) (H : Hp) (x y : V) (v u : Value) (Q : VK), Inv X pins σ H s → RelV x v → RelV y u → r x y H Q →
    subscripted slice false v u = operate [v, u] (getItem v u) → wpAny (model X.prog X.w) X.A (subscriptTail value slice v u) (EP X pins σ Q) X.xe s
def MtR (X : Cx) (id : String) (r : V → List V → Hp → VK → Prop) : Prop :=
  ∀ (pins : List (Addr × Obj)) (s : Shared) (σ : St) (H : Hp) (x : V) (xs : List V) (v : Value) (us : List Value) (Q : VK), Inv X pins σ H s → RelV x v → Vals xs us → r x xs H Q →
    wpAny (model X.prog X.w) X.A (call (.builtin id) (v :: us)) (EP X pins σ Q) X.xe s
section
variable {X : Cx} {a b : Expr} {ta tb : TE} {pos : Pos}
theorem IxR.or {r r' : R2} (h : IxR X r) (h' : IxR X r') : IxR X (fun x y H Q => r x y H Q ∨ r' x y H Q) := by
  intro value slice pins s σ H x y v u Q I rx ry q hs
  rcases q with q | q
  · exact h value slice pins s σ H x y v u Q I rx ry q hs
  · exact h' value slice pins s σ H x y v u Q I rx ry q hs
theorem MtR.or {id : String} {r r' : V → List V → Hp → VK → Prop} (h : MtR X id r) (h' : MtR X id r') : MtR X id (fun x xs H Q => r x xs H Q ∨ r' x xs H Q) := by
  intro pins s σ H x xs v us Q I rx rs q
  rcases q with q | q
  · exact h pins s σ H x xs v us Q I rx rs q
  · exact h' pins s σ H x xs v us Q I rx rs q
theorem pe_ix {r : R2} (hr : IxR X r) (ha : PE X a ta) (hb : PE X b tb) (hs : PlainIx b) : PE X (.Subscript a b pos) (tOp r ta tb) := by
  intro pins s σ H Q I h
  exact Subscript_ (binT ha hb I h fun v u s2 x y H2 I2 rx ry q => hr a b pins s2 σ H2 x y v u Q I2 rx ry q (hs _ _))
def rIxL (K : PySem.W.Frag) : R2 := fun x y H Q => ∃ p xs i v, x = .ref p ∧ y = .int i ∧ SqL K H p xs ∧ atI xs i = some v ∧ Q v H
def rIxT (K : PySem.W.Frag) : R2 := fun x y H Q => ∃ p xs i v, x = .ref p ∧ y = .int i ∧ SqT K H p xs ∧ atI xs i = some v ∧ Q v H
def rIxS : R2 := fun x y H Q => ∃ z i c, x = .str z ∧ y = .int i ∧ z.length ≤ sizeLine ∧ atI z.cps.toList i = some c ∧ Q (.str ⟨#[c]⟩) H
theorem ix_list : IxR X (rIxL X.K) := by
  intro value slice pins s σ H x y v u Q I rx ry h hs
  obtain ⟨p, xs, i, z, rfl, rfl, hq, he, q⟩ := h
  cases rx
  obtain ⟨t, rfl⟩ := ry
  obtain ⟨its, r, pl, hz⟩ := I.list hq
  obtain ⟨j, h1, h2, h3, h4, h5⟩ := atI_get he
  obtain ⟨w, ew, rw'⟩ := r.get h2
  have hl := r.length
  have hn := line63
  have fin : EP X pins σ Q w s := ⟨z, H, I, rw', q⟩
  by_cases h0 : 0 ≤ i
  · have hj : i.toNat = j := by
      rw [seqIndex_of h0 h5] at h1
      exact Option.some.inj h1
    exact item_listR pl.isList h0 (by omega) (by rw [hj]; simpa using ew) fin hs
  · have hj : (i + (its.toArray.size : Int)).toNat = j := by
      rw [seqIndex_neg (by omega) h4] at h1
      rw [List.size_toArray, ← hl]
      exact Option.some.inj h1
    exact subscriptTail_builtinR (x := w) pl.isList.typeIs slot_list_getitem.lookup
      (wpAny_getItem_list_neg (Q := fun r s' => r = w ∧ EP X pins σ Q r s') pl.isList (by omega) (by rw [List.size_toArray] <;> omega) (by omega) (by rw [hj]; simpa using ew) ⟨rfl, fin⟩) hs
theorem ix_tup : IxR X (rIxT X.K) := by
  intro value slice pins s σ H x y v u Q I rx ry h hs
  obtain ⟨p, xs, i, z, rfl, rfl, hq, he, q⟩ := h
  cases rx
  obtain ⟨t, rfl⟩ := ry
  obtain ⟨its, r, pl, hz⟩ := I.tuple hq
  obtain ⟨j, h1, h2, h3, h4, h5⟩ := atI_get he
  obtain ⟨w, ew, rw'⟩ := r.get h2
  have hl := r.length
  have hn := line63
  have fin : EP X pins σ Q w s := ⟨z, H, I, rw', q⟩
  exact subscriptTail_builtinR (x := w) pl.typeIs slot_tuple_getitem.lookup
    (getItem_tuple (j := j) (Q := fun r s' => r = w ∧ EP X pins σ Q r s') pl (by omega) (by omega) (by rw [List.size_toArray, ← hl]; exact h1) (by simpa using ew) ⟨rfl, fin⟩) hs
theorem ix_str : IxR X rIxS := by
  intro value slice pins s σ H x y v u Q I rx ry h hs
  obtain ⟨z, i, c, rfl, rfl, hz, he, q⟩ := h
  obtain ⟨t, rfl⟩ := rx
  obtain ⟨t', rfl⟩ := ry
  obtain ⟨j, h1, h2, h3, h4, h5⟩ := atI_get he
  have hl : z.cps.toList.length = z.length := by simp [Str.length]
  rw [hl] at h1 h4 h5
  have hn := line63
  exact tail_any (typeIs_str s z t) slot_str_getitem.lookup (getItem_str (c := c) (by
    have e1 : decide (i < -(2 ^ 63 : Int)) = false := decide_eq_false (by omega)
    have e2 : decide (i ≥ 2 ^ 63) = false := decide_eq_false (by omega)
    rw [e1, e2, Bool.or_false]) (by rw [h1]; simpa using h2) ⟨.str ⟨#[c]⟩, H, I.tok _, ⟨_, rfl⟩, q⟩) hs
def rIx (K : PySem.W.Frag) : R2 := fun x y H Q => rIxL K x y H Q ∨ rIxT K x y H Q ∨ rIxS x y H Q
theorem ix_seq : IxR X (rIx X.K) := ix_list.or (ix_tup.or ix_str)
theorem mapSeq_set (its : List Value) (n j : Nat) (u : Value) : Obj.mapSeq (·.setIfInBounds j u) { cls := .type "list", data := .seq its.toArray n } = { cls := .type "list", data := .seq (its.set j u).toArray n } := by
  simp [Obj.mapSeq]
theorem Inv.lst {pins : List (Addr × Obj)} {σ : St} {H : Hp} {s : Shared} {p : Addr} {xs : List V} (I : Inv X pins σ H s) (h : H p = some (.lst xs)) :
    ∃ (its : List Value) (n : Nat), Vals xs its ∧ s.heap.get? p = some { cls := .type "list", data := .seq its.toArray n } ∧ xs.length ≤ sizeLine := by
  obtain ⟨z, its, n, r, e⟩ := I.hok p _ h
  exact ⟨its, n, r, e, z⟩
theorem Inv.lstUpd {pins : List (Addr × Obj)} {σ : St} {H : Hp} {s : Shared} {p : Addr} {xs ys : List V} {its its' : List Value} {n n' : Nat} {f : Obj → Obj} (I : Inv X pins σ H s) (h : H p = some (.lst xs))
    (ho : s.heap.get? p = some { cls := .type "list", data := .seq its.toArray n }) (hf : f { cls := .type "list", data := .seq its.toArray n } = { cls := .type "list", data := .seq its'.toArray n' }) (r : Vals ys its') (hz : ys.length ≤ sizeLine) (t : Nat) :
    Inv X pins σ (upd H p (.lst ys)) { s with heap := s.heap.update p f, toks := t } := by
  have e : (s.heap.update p f).get? p = some { cls := .type "list", data := .seq its'.toArray n' } := by
    rw [Heap.get?_update_self f ho (by rw [hf] <;> rfl), hf]
  refine I.write (x := p) (e := p) (by rw [h]; trivial) (.inl rfl) (fun b u hb q => (Heap.get?_update_other _ _ (Ne.symm hb)).trans q) ⟨_, e⟩ ?_
  exact ⟨hz, its', n', r, e⟩
def rSetL : V → V → V → Hp → (Hp → Prop) → Prop := fun o i v H Q => ∃ p xs k j, o = .ref p ∧ i = .int k ∧ H p = some (.lst xs) ∧ ixN xs.length k = some j ∧ Q (upd H p (.lst (xs.set j v)))
theorem set_list : PSet X rSetL := by
  intro pins s σ H o i v ov iv u Q I ro ri rv h
  obtain ⟨p, xs, k, j, rfl, rfl, hp, hj, q⟩ := h
  cases ro
  obtain ⟨t, rfl⟩ := ri
  obtain ⟨its, n, r, ho, hz⟩ := I.lst hp
  obtain ⟨h1, h2, h3, h4⟩ := ixN_seq hj
  have hl := r.length
  have hn := line63
  have I' : Inv X pins σ (upd H p (.lst (xs.set j v))) { s with heap := s.heap.update p (Obj.mapSeq (·.setIfInBounds j u)) } :=
    I.lstUpd hp ho (mapSeq_set its n j u) (r.set rv j) (by rw [List.length_set]; exact hz) s.toks
  by_cases h0 : 0 ≤ k
  · have hk : k.toNat = j := by
      rw [seqIndex_of h0 h4] at h1
      exact Option.some.inj h1
    exact PySem.W.ki_setAt ho h0 (by omega) (by rw [List.size_toArray, ← hl]; exact h4) (by rw [hk]; exact ⟨_, I', q⟩)
  · have hk : (k + (its.toArray.size : Int)).toNat = j := by
      rw [seqIndex_neg (by omega) h3] at h1
      rw [List.size_toArray, ← hl]
      exact Option.some.inj h1
    exact PySem.W.ki_setBack ho (by omega) (by rw [List.size_toArray, ← hl]; exact h3) (by omega) (by rw [hk]; exact ⟨_, I', q⟩)
theorem slice_bounds (lo hi : Option Int) (n : Nat) : (sliceBounds lo hi none n).1 = ((HT.sIx n 0 lo : Nat) : Int) ∧ (sliceBounds lo hi none n).2.1 = ((HT.sIx n n hi : Nat) : Int) ∧ (sliceBounds lo hi none n).2.2 = 1 := by
  refine ⟨?_, ?_, rfl⟩
  · cases lo with
    | none => simp [sliceBounds, HT.sIx]
    | some i =>
      simp only [sliceBounds, HT.sIx, Option.getD_none, show (1 : Int) > 0 by decide, if_true]
      by_cases h : i < 0
      · simp only [h, if_true] <;> omega
      · simp only [h, if_false] <;> omega
  · cases hi with
    | none => simp [sliceBounds, HT.sIx]
    | some i =>
      simp only [sliceBounds, HT.sIx, Option.getD_none, show (1 : Int) > 0 by decide, if_true]
      by_cases h : i < 0
      · simp only [h, if_true] <;> omega
      · simp only [h, if_false] <;> omega
theorem slicePick_cut (its : List Value) (lo hi : Option Int) : slicePick its.toArray lo hi none = ((its.drop (HT.sIx its.length 0 lo)).take (HT.sIx its.length its.length hi - HT.sIx its.length 0 lo)).toArray := by
  obtain ⟨h1, h2, h3⟩ := slice_bounds lo hi its.toArray.size
  unfold slicePick
  rw [h1, h2, h3]
  simp only [sliceRange_one, pick_run, List.size_toArray] <;> rfl
def rSlL (K : PySem.W.Frag) : V → Option Int → Option Int → Hp → VK → Prop := fun x lo hi H Q => ∃ a xs, x = .ref a ∧ SqL K H a xs ∧ ∀ p, H p = none → Q (.ref p) (upd H p (.lst (cutV xs lo hi)))
theorem sl_list : SlR X (rSlL X.K) := by
  intro pins s σ H x v vl vu lo hi sl Q I rx hs pl pu h
  obtain ⟨a, xs, rfl, hx, q⟩ := h
  cases rx
  obtain ⟨its, r, ht, hz⟩ := I.list hx
  have hlen := r.length
  refine ⟨"list", _, slot_list_getitem.lookup, ht.isList.typeIs, ?_⟩
  refine wpAny_getItem_list_slice ht.isList hs pl pu .none (by simp) ?_ (by rw [List.size_toArray] <;> omega)
  rw [slicePick_cut, ← hlen]
  refine ⟨.ref s.heap.objs.size, _, I.laid (t' := s.toks) (o := .lst (cutV xs lo hi)) (fun b ob q => Heap.get?_push_of_some _ q) (Nat.le_refl _) ?_, rfl, q _ (I.hok.fresh (Nat.le_refl _))⟩
  exact ⟨Nat.le_trans (cutV_length xs lo hi) hz, _, 0, (r.drop (HT.sIx xs.length 0 lo)).take (HT.sIx xs.length xs.length hi - HT.sIx xs.length 0 lo), Heap.get?_push_size _ rfl⟩
def flatV : V → Bool
  | .non => true
  | .bl _ => true
  | .int _ => true
  | .str _ => true
  | _ => false
def eqV : V → V → Bool
  | .non, .non => true
  | .bl a, .bl b => a == b
  | .bl a, .int b => (if a then 1 else 0) == b
  | .int a, .bl b => a == (if b then 1 else 0)
  | .int a, .int b => a == b
  | .str a, .str b => a == b
  | _, _ => false
theorem eqAt_V {A : Around} {s : Shared} {y x : V} {u v : Value} (ry : RelV y u) (rx : RelV x v) (fy : flatV y = true) (fx : flatV x = true) : SeqAt.EqAt A s u v (eqV y x) := by
  cases y with
  | non =>
    cases ry
    cases x with
    | non => cases rx; exact SeqAt.EqAt.same _
    | bl b => cases rx; exact SeqAt.EqAt.none_bool b
    | int b => obtain ⟨t, rfl⟩ := rx; exact SeqAt.EqAt.none_int b t
    | str b => obtain ⟨t, rfl⟩ := rx; exact SeqAt.EqAt.none_str b t
    | _ => exact absurd (show false = true from fx) Bool.false_ne_true
  | bl a =>
    cases ry
    cases x with
    | non => cases rx; exact SeqAt.EqAt.bool_none a
    | bl b => cases rx; exact SeqAt.EqAt.bool_bool a b
    | int b => obtain ⟨t, rfl⟩ := rx; exact SeqAt.EqAt.bool_int a b t
    | str b => obtain ⟨t, rfl⟩ := rx; exact SeqAt.EqAt.bool_str a b t
    | _ => exact absurd (show false = true from fx) Bool.false_ne_true
  | int a =>
    obtain ⟨t', rfl⟩ := ry
    cases x with
    | non => cases rx; exact SeqAt.EqAt.int_none a t'
    | bl b => cases rx; exact SeqAt.EqAt.int_bool a t' b
    | int b => obtain ⟨t, rfl⟩ := rx; exact SeqAt.EqAt.int_int a t' b t
    | str b => obtain ⟨t, rfl⟩ := rx; exact SeqAt.EqAt.int_str a t' b t
    | _ => exact absurd (show false = true from fx) Bool.false_ne_true
  | str a =>
    obtain ⟨t', rfl⟩ := ry
    cases x with
    | non => cases rx; exact SeqAt.EqAt.str_none a t'
    | bl b => cases rx; exact SeqAt.EqAt.str_bool a t' b
    | int b => obtain ⟨t, rfl⟩ := rx; exact SeqAt.EqAt.str_int a t' b t
    | str b => obtain ⟨t, rfl⟩ := rx; exact SeqAt.EqAt.str_str a t' b t
    | _ => exact absurd (show false = true from fx) Bool.false_ne_true
  | _ => exact absurd (show false = true from fy) Bool.false_ne_true
theorem call_len_seq : CallR X (.builtin "len") (fun xs H Q => ∃ p ys, xs = [.ref p] ∧ (SqL X.K H p ys ∨ SqT X.K H p ys) ∧ Q (.int ys.length) H) := by
  intro pins s σ H xs us Q I r h
  obtain ⟨p, ys, rfl, hq, q⟩ := h
  obtain ⟨u, rfl, rx⟩ := vals1 r
  cases rx
  have hn := line63
  rcases hq with hq | hq
  · obtain ⟨its, r', pl, hz⟩ := I.list hq
    have hlen := r'.length
    exact Calls.call_len_list pl.isList (by simp only [List.size_toArray] <;> omega) ⟨.int ys.length, H, I.tok _, ⟨s.toks + 1, by rw [List.size_toArray, hlen]⟩, q⟩
  · obtain ⟨its, r', pl, hz⟩ := I.tuple hq
    have hlen := r'.length
    exact len_tuple pl (by simp only [List.size_toArray] <;> omega) ⟨.int ys.length, H, I.tok _, ⟨s.toks + 1, by rw [List.size_toArray, hlen]⟩, q⟩
theorem call_len_str : CallR X (.builtin "len") (fun xs H Q => ∃ z, xs = [.str z] ∧ z.length ≤ sizeLine ∧ Q (.int z.length) H) := by
  intro pins s σ H xs us Q I r h
  obtain ⟨z, rfl, hz, q⟩ := h
  obtain ⟨u, rfl, t, rfl⟩ := vals1 r
  have hn := line63
  exact len_str (by omega) ⟨.int z.length, H, I.tok _, ⟨_, rfl⟩, q⟩
theorem CallR.or {f : Value} {r r' : List V → Hp → VK → Prop} (h : CallR X f r) (h' : CallR X f r') : CallR X f (fun xs H Q => r xs H Q ∨ r' xs H Q) := by
  intro pins s σ H xs us Q I rs q
  rcases q with q | q
  · exact h pins s σ H xs us Q I rs q
  · exact h' pins s σ H xs us Q I rs q
def tyV (K : PySem.W.Frag) (T : String) (x : V) (H : Hp) : Prop := match x with
  | .str _ => T = "str"
  | .int _ => T = "int"
  | .ref p => (T = "list" ∧ ∃ xs, SqL K H p xs) ∨ (T = "tuple" ∧ ∃ o, K.lookup p = some o ∧ o.cls = .type "tuple" ∧ o.dict = none) ∨
      (T = "dict" ∧ ((∃ kvs, H p = some (.dK kvs)) ∨ ∃ kvs, H p = some (.dT kvs))) ∨ (T = "set" ∧ ∃ S n, H p = some (.set S n))
  | _ => False
theorem tyV_is {pins : List (Addr × Obj)} {σ : St} {H : Hp} {s : Shared} {T : String} {x : V} {v : Value} (I : Inv X pins σ H s) (r : RelV x v) (ty : tyV X.K T x H) :
    s.TypeIs v T ∧ ∀ a, v = .ref a → ∃ ob, s.heap.get? a = some ob ∧ ob.dict = none := by
  cases x with
  | str z =>
    obtain ⟨t, rfl⟩ := r
    cases (show T = "str" from ty)
    exact ⟨typeIs_str s z t, fun _ e => nomatch e⟩
  | int i =>
    obtain ⟨t, rfl⟩ := r
    cases (show T = "int" from ty)
    exact ⟨typeIs_int s i t, fun _ e => nomatch e⟩
  | ref p =>
    cases r
    rcases ty with ⟨rfl, xs, hq⟩ | ⟨rfl, o, hk, hc, hd⟩ | ⟨rfl, hk⟩ | ⟨rfl, S, n, hk⟩
    · obtain ⟨its, _, pl, _⟩ := I.list hq
      refine ⟨pl.isList.typeIs, fun a e => ?_⟩
      cases e
      obtain ⟨o, n, e, c, hd, _⟩ := pl
      exact ⟨o, e, hd⟩
    · refine ⟨⟨o, I.kIn p o hk, hc⟩, fun a e => ?_⟩
      cases e
      exact ⟨o, I.kIn _ o hk, hd⟩
    · have z : ∃ o, s.heap.get? p = some o ∧ o.ExactDict := by
        rcases hk with ⟨kvs, hk⟩ | ⟨kvs, hk⟩
        · obtain ⟨_, _, _, _, o, _, _, e, ex, _⟩ := I.hok p _ hk
          exact ⟨o, e, ex⟩
        · obtain ⟨_, _, _, _, o, _, _, e, ex, _⟩ := I.hok p _ hk
          exact ⟨o, e, ex⟩
      obtain ⟨o, e, ex⟩ := z
      refine ⟨⟨o, e, ex.1⟩, fun a e2 => ?_⟩
      cases e2
      exact ⟨o, e, ex.2.1⟩
    · obtain ⟨o, _, _, _, e, ex, _⟩ := I.hok p _ hk
      refine ⟨⟨o, e, ex.1⟩, fun a e2 => ?_⟩
      cases e2
      exact ⟨o, e, ex.2.1⟩
  | _ => exact False.elim ty
def tBM0 (K : PySem.W.Frag) (T : String) (r : V → List V → Hp → VK → Prop) (to : TE) : TE := fun σ H Q => to σ H fun x H1 => tyV K T x H1 ∧ r x [] H1 Q
def tBM (K : PySem.W.Frag) (T : String) (r : V → List V → Hp → VK → Prop) (to : TE) (t : TA) : TE := fun σ H Q => to σ H fun x H1 => tyV K T x H1 ∧ t σ H1 fun xs H2 => r x xs H2 Q
variable {o e : Expr} {es : List Expr} {to : TE} {t : TA} {name : Str} {apos cpos : Pos} {T id : String} {r : V → List V → Hp → VK → Prop}
theorem pe_bm0 (pa : PlainAttrs T) (slot : Slot T name id) (hty : typeOf (.builtin id) = pure (.type "method_descriptor")) (hm : MtR X id r) (ho : PE X o to)
    (hbase : attributeBase o name X.env (eval o X.env) = eval o X.env := by rfl) (hline : (apos.endLine == cpos.line) = true := by rfl) : PE X (.Call (.Attribute o name apos) [] [] cpos) (tBM0 X.K T r to) := by
  intro pins s σ H Q I h
  refine wpAny_Call_method0_late hbase hline (thn (ho pins s σ H _ I h) fun v s1 ⟨x, H1, I1, r1, ty, q1⟩ => ?_)
  obtain ⟨h1, h2⟩ := tyV_is I1 r1 ty
  exact ⟨T, id, pa, slot, hty, h1, h2, Calls.callWith_builtin rfl (PySem.evalArgs_none (hm pins s1 σ H1 x [] v [] Q I1 r1 .nil q1))⟩
theorem pe_bm (pa : PlainAttrs T) (slot : Slot T name id) (hty : typeOf (.builtin id) = pure (.type "method_descriptor")) (hm : MtR X id r) (ho : PE X o to) (ha : PA X (e :: es) t)
    (hbase : attributeBase o name X.env (eval o X.env) = eval o X.env := by rfl)
    (hfew : ((backTo cpos (starEach (e :: es) X.env)).all (fun x => !x.1) && (backToKw cpos (keywordEach [] X.env)).all (fun x => x.1.isSome)
      && decide ((e :: es).length + ([] : List Keyword).length + (if ([] : List Keyword).isEmpty then 0 else 1) < 30)) = true := by rfl)
    (hline : (apos.endLine == cpos.line) = true := by rfl) (hs : starEach (e :: es) X.env = (false, eval e X.env) :: starEach es X.env := by rfl) (hplain : (backTo cpos (starEach es X.env)).any (·.1) = false := by rfl) :
    PE X (.Call (.Attribute o name apos) (e :: es) [] cpos) (tBM X.K T r to t) := by
  intro pins s σ H Q I h
  refine wpAny_Call_method_late hbase hfew hline rfl (thn (ho pins s σ H _ I h) fun v s1 ⟨x, H1, I1, r1, ty, q1⟩ => ?_)
  obtain ⟨h1, h2⟩ := tyV_is I1 r1 ty
  refine ⟨T, id, pa, slot, hty, h1, h2, ?_⟩
  have hA := ha cpos pins s1 σ H1 _ I1 q1
  rw [hs] at hA ⊢
  refine Calls.callWith_builtin (by show (false || (backTo cpos (starEach es X.env)).any (·.1)) = false; rw [hplain] <;> rfl) (Calls.evalArgs_plain ?_)
  exact thn hA fun us s2 ⟨vs, H2, I2, r2, q2⟩ => hm pins s2 σ H2 x vs v us Q I2 r1 r2 q2
end
end L2
namespace L2
open PySem PySem.Spec PyProof.Rows
def MtM (X : Cx) (id : String) (r : V → List V → Hp → VK → Prop) : Prop :=
  ∀ (pins : List (Addr × Obj)) (s : Shared) (σ : St) (H : Hp) (x : V) (xs : List V) (v : Value) (us : List Value) (Q : VK), Inv X pins σ H s → RelV x v → Vals xs us → r x xs H Q →
    wpAny (model X.prog X.w) X.A (call (.builtin id) (v :: us)) (EP X pins σ Q) X.xe s
theorem Vals.one : ∀ {x : V} {us : List Value}, Vals [x] us → ∃ u, us = [u] ∧ RelV x u
  | _, _, .cons r .nil => ⟨_, rfl, r⟩
theorem Vals.two : ∀ {x y : V} {us : List Value}, Vals [x, y] us → ∃ u v, us = [u, v] ∧ RelV x u ∧ RelV y v
  | _, _, _, .cons r (.cons q .nil) => ⟨_, _, rfl, r, q⟩
theorem Vals.zero : ∀ {us : List Value}, Vals [] us → us = []
  | _, .nil => rfl
theorem Vals.dropLast {xs : List V} {us : List Value} (h : Vals xs us) : Vals xs.dropLast us.dropLast := by
  induction h with
  | nil => exact .nil
  | cons r t ih =>
    cases t with
    | nil => exact .nil
    | cons q t' => exact .cons r ih
theorem Vals.eraseIdx : ∀ {xs : List V} {us : List Value} (i : Nat), Vals xs us → Vals (xs.eraseIdx i) (us.eraseIdx i)
  | _, _, _, .nil => .nil
  | _, _, 0, .cons _ t => t
  | _, _, i + 1, .cons r t => .cons r (Vals.eraseIdx i t)
theorem Vals.reverse {xs : List V} {us : List Value} (h : Vals xs us) : Vals xs.reverse us.reverse := by
  induction h with
  | nil => exact .nil
  | cons r t ih => rw [List.reverse_cons, List.reverse_cons]; exact Vals.append ih (.cons r .nil)
theorem erase_last {α : Type} (l : List α) : l.eraseIdx (l.length - 1) = l.dropLast := by
  induction l with
  | nil => rfl
  | cons a r ih =>
    cases r with
    | nil => rfl
    | cons b r =>
      have e : (a :: b :: r).length - 1 = ((b :: r).length - 1) + 1 := by
        have h1 : (a :: b :: r).length = r.length + 2 := rfl
        have h2 : (b :: r).length = r.length + 1 := rfl
        omega
      rw [e, List.eraseIdx_cons_succ, ih]
      all_goals rfl
section
variable {X : Cx} {pins : List (Addr × Obj)} {σ : St} {H : Hp} {s : Shared} {l b : Addr} {xs ys zs : List V}
theorem Inv.lset {its its' : List Value} {n : Nat} {f : Array Value → Array Value} {t' : Nat} (I : Inv X pins σ H s) (hH : H l = some (.lst xs))
    (e : s.heap.get? l = some { cls := .type "list", data := .seq its.toArray n }) (hf : f its.toArray = its'.toArray) (hv : Vals ys its') (hz : ys.length ≤ sizeLine) :
    Inv X pins σ (upd H l (.lst ys)) { s with heap := s.heap.update l (Obj.mapSeq f), toks := t' } := by
  have q := PySem.IsL.update e f
  rw [hf] at q
  refine I.write (x := l) (e := l) (by rw [hH]; exact trivial) (.inl rfl) (fun b' u hb hu => (Heap.get?_update_other s.heap (Obj.mapSeq f) (Ne.symm hb)).trans hu) ⟨_, q⟩ ?_
  exact ⟨hz, its', _, hv, q⟩
theorem Inv.lnew {its : List Value} {t' : Nat} (I : Inv X pins σ H s) (hv : Vals ys its) (hz : ys.length ≤ sizeLine) :
    Inv X pins σ (upd H s.heap.objs.size (.lst ys)) { s with heap := s.heap.push { cls := .type "list", data := .seq its.toArray }, toks := t' } :=
  I.laid (fun _ _ q => Heap.get?_push_of_some _ q) (Nat.le_refl _) ⟨hz, its, 0, hv, Heap.get?_push_size _ rfl⟩
theorem Inv.fresh (I : Inv X pins σ H s) : H s.heap.objs.size = none := I.hok.fresh (Nat.le_refl _)
theorem Inv.lstM (I : Inv X pins σ H s) (hH : H l = some (.lst xs)) : xs.length ≤ sizeLine ∧ ∃ (its : List Value) (n : Nat), Vals xs its ∧ xs.length = its.length ∧ s.heap.get? l = some { cls := .type "list", data := .seq its.toArray n } := by
  obtain ⟨z, its, n, r, e⟩ := I.hok l _ hH
  exact ⟨z, its, n, r, r.length, e⟩
end
section
variable {X : Cx}
def rAppend : V → List V → Hp → VK → Prop := fun x vs H Q => ∃ l xs y, x = .ref l ∧ vs = [y] ∧ H l = some (.lst xs) ∧ xs.length < sizeLine ∧ Q .non (upd H l (.lst (xs ++ [y])))
theorem mt_append : MtM X "list.append" rAppend := by
  intro pins s σ H x vs v us Q I rx rv h
  obtain ⟨l, xs, y, rfl, rfl, hH, hz, q⟩ := h
  cases rx
  obtain ⟨u, rfl, ru⟩ := rv.one
  obtain ⟨z, its, n, r, hl, e⟩ := I.lstM hH
  refine call_meets F.slot_list_append ⟨_, e, rfl⟩ F.entry_list_append (F.args_list_append_2 _ _) (PySem.list_append l its.toArray n u (by rw [List.size_toArray]; omega)) ⟨e, ?_⟩
  refine ⟨.non, _, I.lset (its' := its ++ [u]) hH e (by simp) (r.append (.cons ru .nil)) ?_, rfl, q⟩
  rw [List.length_append, List.length_singleton]
  omega
def rPop : V → List V → Hp → VK → Prop := fun x vs H Q => ∃ l xs y, x = .ref l ∧ vs = [] ∧ H l = some (.lst xs) ∧ xs[xs.length - 1]? = some y ∧ Q y (upd H l (.lst xs.dropLast))
theorem mt_pop : MtM X "list.pop" rPop := by
  intro pins s σ H x vs v us Q I rx rv h
  obtain ⟨l, xs, y, rfl, rfl, hH, hy, q⟩ := h
  cases rx
  have hus := rv.zero
  subst hus
  obtain ⟨z, its, n, r, hl, e⟩ := I.lstM hH
  obtain ⟨u, hu, ru⟩ := r.get hy
  have hy' : its.toArray[its.toArray.size - 1]? = some u := by
    show its.toArray[its.length - 1]? = some u
    rw [← Array.getElem?_toList, ← hl]
    exact hu
  refine call_meets F.slot_list_pop ⟨_, e, rfl⟩ F.entry_list_pop (F.args_list_pop_1 _) (MeetsSeq.list_pop_last l its.toArray n u hy' (by rw [List.size_toArray]; omega)) ⟨e, ?_⟩
  refine ⟨y, _, I.lset (its' := its.dropLast) hH e ?_ r.dropLast ?_, ru, q⟩
  · show its.toArray.eraseIdxIfInBounds (its.toArray.size - 1) = its.dropLast.toArray
    rw [List.size_toArray, List.eraseIdxIfInBounds_toArray, erase_last]
  · rw [List.length_dropLast]
    omega
def rCat : R2 := fun x y H Q => ∃ l b xs zs, x = .ref l ∧ y = .ref b ∧ H l = some (.lst xs) ∧ H b = some (.lst zs) ∧ xs.length + zs.length ≤ sizeLine ∧ ∀ p, H p = none → Q (.ref p) (upd H p (.lst (xs ++ zs)))
theorem op_cat : OpR X (binaryOp .Add) rCat := by
  intro pins s σ H x y v u Q I rx ry h
  obtain ⟨l, b, xs, zs, rfl, rfl, hH, hB, hz, q⟩ := h
  cases rx
  cases ry
  obtain ⟨z, its, n, r, hl, e⟩ := I.lstM hH
  obtain ⟨z2, its2, n2, r2, hl2, e2⟩ := I.lstM hB
  refine PySem.P.add_list e e2 ?_ (by rw [List.size_toArray, List.size_toArray]; omega)
  have ea : its.toArray ++ its2.toArray = (its ++ its2).toArray := by simp
  rw [ea]
  exact ⟨.ref _, _, I.lnew (t' := s.toks) (r.append r2) (by rw [List.length_append]; omega), rfl, q _ I.fresh⟩
end
section
variable {prog : Program} {w : World} {A : Around} {E : Value → Shared → Prop} {s : Shared}
end
section
variable {X : Cx}
end
end L2
namespace L2
open PySem PySem.Spec PyProof.Rows
theorem Vals.ints : ∀ {ns : List Int} {us : List Value}, Vals (ns.map V.int) us → IntsAre us ns
  | [], us, h => by
    rw [List.map_nil] at h
    cases h
    exact IntsAre.nil
  | n :: ns, us, h => by
    rw [List.map_cons] at h
    cases h with
    | cons r t =>
      obtain ⟨k, rfl⟩ := r
      exact IntsAre.cons n k (Vals.ints t)
theorem Vals.strs : ∀ {xs : List Str} {us : List Value}, Vals (xs.map V.str) us → StrsAre us xs
  | [], us, h => by
    rw [List.map_nil] at h
    cases h
    exact StrsAre.nil
  | x :: xs, us, h => by
    rw [List.map_cons] at h
    cases h with
    | cons r t =>
      obtain ⟨k, rfl⟩ := r
      exact StrsAre.cons x k (Vals.strs t)
theorem Vals.bls : ∀ {bs : List Bool} {us : List Value}, Vals (bs.map V.bl) us → us = bs.map Value.bool
  | [], us, h => by
    rw [List.map_nil] at h
    cases h
    rfl
  | b :: bs, us, h => by
    rw [List.map_cons] at h
    cases h with
    | cons r t =>
      cases r
      rw [Vals.bls t, List.map_cons]
theorem Vals.ref1 {a : Addr} {us : List Value} (r : Vals [V.ref a] us) : us = [Value.ref a] := by
  cases r with
  | cons r t =>
    cases t
    cases r
    rfl
section
variable {prog : Program} {w : World} {A : Around} {E : Value → Shared → Prop} {s : Shared} {l : Addr} {its : List Value} {ns : List Int} {Q : Value → Shared → Prop}
end
section
variable {X : Cx}
end
section
variable {X : Cx}
end
section
variable {X : Cx}
end
theorem iter_any {prog : Program} {w : World} {A : Around} {E : Value → Shared → Prop} {s : Shared} {l : Addr} {items : Array Value} {Q : Value → Shared → Prop} (hl : s.heap.IsList l items)
    (h : ∀ s₂ : Shared, s₂ = { s with heap := s.heap.push { cls := .type "list_iterator", data := .fields #[.ref l, .int 0 0] } } →
      (s₂.heap.IsListIter s.heap.objs.size l 0 ∧ s₂.heap.IsList l items) → l ≠ s.heap.objs.size → Q (.ref s.heap.objs.size) s₂) : wpAny (model prog w) A (pyIter (.ref l)) Q E s := by
  have hlt : l < s.heap.objs.size := by obtain ⟨_, e, _⟩ := hl; exact Heap.lt_size e
  exact wpAny_pyIter_list hl (h _ rfl ⟨⟨_, Heap.get?_push_size _ rfl, rfl, rfl⟩, hl.push _⟩ (Nat.ne_of_lt hlt))
theorem truth_bools {prog : Program} {w : World} {A : Around} {bs : List Bool} {its : List Value} (e : its = bs.map Value.bool) :
    TruthOf prog w A (fun i v => its.toArray[i]? = some v) (fun i => bs.getD i false) := fun i v s Q E hv hq => by
  have hv' : its[i]? = some v := by simpa using hv
  rw [e, List.getElem?_map] at hv'
  obtain ⟨b, hb, rfl⟩ := Option.map_eq_some_iff.mp hv'
  have hg : bs.getD i false = b := by rw [List.getD_eq_getElem?_getD, hb] <;> rfl
  have hq' : Q (bs.getD i false) s := hq
  rw [hg] at hq'
  exact wpAny_truthy_bool hq'
theorem all_range : ∀ bs : List Bool, (List.range bs.length).all (fun i => bs.getD i false) = bs.all id
  | [] => rfl
  | b :: bs => by
    rw [List.length_cons, List.range_succ_eq_map, List.all_cons, List.all_map, List.all_cons, ← all_range bs]
    all_goals rfl
section
variable {X : Cx}
def rAll (K : PySem.W.Frag) : List V → Hp → VK → Prop := fun vs H Q => ∃ (a : Addr) (bs : List Bool), vs = [V.ref a] ∧ SqL K H a (bs.map V.bl) ∧ Q (.bl (bs.all id)) H
theorem cr_all (hc : X.calm = true) : CallR X (.builtin "all") (rAll X.K) := by
  intro pins s σ H vs us Q I r h
  obtain ⟨a, bs, rfl, hs, q⟩ := h
  obtain ⟨its, rv, hl, _⟩ := I.list hs
  rw [Vals.ref1 r]
  have hb := rv.bls
  refine call_all_walk (iter_any hl.isList fun s₂ e2 st hne => ?_)
  subst e2
  refine ⟨_, _, _, _, _, _, _, rfl, Walks.list (A := X.A.in1) (I.ok.hd hc) _ a hne its.toArray, st, truth_bools hb, fun h' tk hk => ?_⟩
  refine ⟨.bl _, H, I.kept fun b o eo => hk b o (fun hmem => ?_) (Heap.get?_push_of_some _ eo), ?_, q⟩
  · rcases List.mem_cons.mp hmem with e1 | hmem
    · exact absurd (e1 ▸ Heap.lt_size eo) (Nat.lt_irrefl _)
    · cases hmem
  · show Value.bool _ = Value.bool _
    rw [← all_range, hb, List.size_toArray, List.length_map]
end
mutual
inductive Dp (K : PySem.W.Frag) (H : Hp) : V → PyData → Prop
  | non : Dp K H .non .none
  | bl (b : Bool) : Dp K H (.bl b) (.bool b)
  | int (i : Int) : Dp K H (.int i) (.int i)
  | str (x : Str) : Dp K H (.str x) (.str x)
  | lst {a : Addr} {xs : List V} {ds : List PyData} : SqL K H a xs → DpAll K H xs ds → Dp K H (.ref a) (.list ds)
  | tup {a : Addr} {xs : List V} {ds : List PyData} : SqT K H a xs → DpAll K H xs ds → Dp K H (.ref a) (.tuple ds)
inductive DpAll (K : PySem.W.Frag) (H : Hp) : List V → List PyData → Prop
  | nil : DpAll K H [] []
  | cons {v : V} {vs : List V} {d : PyData} {ds : List PyData} : Dp K H v d → DpAll K H vs ds → DpAll K H (v :: vs) (d :: ds)
end
section
variable {X : Cx} {pins : List (Addr × Obj)} {σ : St} {H : Hp} {s : Shared}
mutual
theorem Dp.reads (I : Inv X pins σ H s) : ∀ (d : PyData) (v : V) (u : Value), Dp X.K H v d → RelV v u → ∃ as, Reads s.heap u d as
  | .none, _, _, h, r => by
    cases h
    cases r
    exact ⟨_, Reads.none⟩
  | .bool b, _, _, h, r => by
    cases h
    cases r
    exact ⟨_, Reads.bool b⟩
  | .int i, _, _, h, r => by
    cases h
    obtain ⟨t, rfl⟩ := r
    exact ⟨_, Reads.int i t⟩
  | .str x, _, _, h, r => by
    cases h
    obtain ⟨t, rfl⟩ := r
    exact ⟨_, Reads.str x t⟩
  | .list ds, _, _, h, r => by
    cases h with
    | lst hs ha =>
      cases r
      obtain ⟨its, rv, ⟨o, n, ho, hc, _, hd⟩, _⟩ := I.list hs
      obtain ⟨as, hr⟩ := Dp.readsAll I ds _ its ha rv
      exact ⟨_, Reads.list ho hc hd hr⟩
  | .tuple ds, _, _, h, r => by
    cases h with
    | tup hs ha =>
      cases r
      obtain ⟨its, rv, ⟨o, ho, hc, n, hd⟩, _⟩ := I.tuple hs
      obtain ⟨as, hr⟩ := Dp.readsAll I ds _ its ha rv
      exact ⟨_, Reads.tuple ho hc hd hr⟩
  | .dict _, _, _, h, _ => by cases h
theorem Dp.readsAll (I : Inv X pins σ H s) : ∀ (ds : List PyData) (vs : List V) (us : List Value), DpAll X.K H vs ds → Vals vs us → ∃ as, ReadsAll s.heap us ds as
  | [], _, _, h, r => by
    cases h
    cases r
    exact ⟨_, ReadsAll.nil⟩
  | d :: ds, _, _, h, r => by
    cases h with
    | cons h1 h2 =>
      cases r with
      | cons r1 r2 =>
        obtain ⟨as, q1⟩ := Dp.reads I d _ _ h1 r1
        obtain ⟨bs, q2⟩ := Dp.readsAll I ds _ _ h2 r2
        exact ⟨_, ReadsAll.cons q1 q2⟩
end
end
section
variable {X : Cx}
end
end L2
namespace L2
open PySem PySem.Spec PyProof.Rows
abbrev CellAt (h : Heap) (c : Addr) (v : Option Value) : Prop := h.IsCell c v
def relS (scope sc : Scope) : Scope :=
  { scope with names := scope.names.map fun (n, k) => if (k == .free && sc.kind == .function && sc.names.lookup n == some .cell) then (n, .cell) else (n, k) }
def cloFrom (cells : List (Str × Addr)) : List (Str × NameKind) → List (Str × Addr) → List (Str × Addr)
  | [], acc => acc
  | (n, k) :: r, acc => if k == .free then cloFrom cells r ((n, (cells.lookup n).getD 0) :: acc) else cloFrom cells r acc
theorem closure_loop (env : Env) (f : Str × NameKind → List (Str × Addr) → Sem (ForInStep (List (Str × Addr))))
    (hf : ∀ n k c, f (n, k) c = if k == .free then (do let a ← cellOf env n; pure (.yield ((n, a) :: c))) else pure (.yield c)) :
    ∀ (names : List (Str × NameKind)) (acc : List (Str × Addr)), (∀ y ∈ names, y.2 = .free → ∃ c, env.cells.lookup y.1 = some c) → forIn names acc f = pure (cloFrom env.cells names acc)
  | [], acc, _ => by rw [List.forIn_nil]; rfl
  | (n, k) :: r, acc, h => by
    rw [List.forIn_cons, hf]
    have ih := fun acc => closure_loop env f hf r acc fun y hy => h y (List.mem_cons_of_mem _ hy)
    unfold cloFrom
    by_cases hk : (k == NameKind.free) = true
    · rw [if_pos hk, if_pos hk]
      obtain ⟨c, hc⟩ := h (n, k) List.mem_cons_self (by simpa using hk)
      have e : cellOf env n = pure c := by unfold cellOf; rw [hc]
      rw [e]
      have e2 : (env.cells.lookup n).getD 0 = c := by rw [hc]; rfl
      rw [e2]
      exact ih _
    · rw [if_neg hk, if_neg hk]
      exact ih _
theorem closure_ok {scope : Scope} {env : Env} (h : ∀ y ∈ scope.names, y.2 = .free → ∃ c, env.cells.lookup y.1 = some c) : closureFor scope env = pure (cloFrom env.cells scope.names []) := by
  simp only [closureFor]
  rw [closure_loop env _ (fun n k c => rfl) scope.names [] h]
  rfl
theorem mem_lookup {α : Type} : ∀ {l : List (Str × α)} {n : Str} {c : α}, (n, c) ∈ l → ∃ c', l.lookup n = some c'
  | (k, v) :: r, n, c, h => by
    rw [List.lookup_cons]
    cases hb : n == k with
    | true => exact ⟨_, rfl⟩
    | false =>
      rcases List.mem_cons.mp h with e | h
      · cases e; simp at hb
      · exact mem_lookup h
theorem cloFrom_mem {cells : List (Str × Addr)} : ∀ {names : List (Str × NameKind)} {acc : List (Str × Addr)} {n : Str} {c : Addr}, (n, c) ∈ cloFrom cells names acc → (n, c) ∈ acc ∨ ((n, .free) ∈ names ∧ c = (cells.lookup n).getD 0)
  | [], _, _, _, h => .inl h
  | (m, k) :: r, acc, n, c, h => by
    unfold cloFrom at h
    split at h
    · rename_i hk
      have hk : k = .free := by simpa using hk
      rcases cloFrom_mem h with h | ⟨h1, h2⟩
      · rcases List.mem_cons.mp h with e | h
        · cases e; exact .inr ⟨hk ▸ List.mem_cons_self, rfl⟩
        · exact .inl h
      · exact .inr ⟨List.mem_cons_of_mem _ h1, h2⟩
    · rcases cloFrom_mem h with h | ⟨h1, h2⟩
      · exact .inl h
      · exact .inr ⟨List.mem_cons_of_mem _ h1, h2⟩
theorem cloFrom_acc {cells : List (Str × Addr)} : ∀ {names : List (Str × NameKind)} {acc : List (Str × Addr)} {p : Str × Addr}, p ∈ acc → p ∈ cloFrom cells names acc
  | [], _, _, h => h
  | (m, k) :: r, acc, p, h => by
    unfold cloFrom
    split
    · exact cloFrom_acc (List.mem_cons_of_mem _ h)
    · exact cloFrom_acc h
theorem cloFrom_has {cells : List (Str × Addr)} : ∀ {names : List (Str × NameKind)} {acc : List (Str × Addr)} {n : Str}, (n, .free) ∈ names → (n, (cells.lookup n).getD 0) ∈ cloFrom cells names acc
  | (m, k) :: r, acc, n, h => by
    unfold cloFrom
    rcases List.mem_cons.mp h with e | h
    · cases e
      exact cloFrom_acc List.mem_cons_self
    · split
      · exact cloFrom_has h
      · exact cloFrom_has h
theorem cells_mem : ∀ {names : List (Str × NameKind)} {h : Heap} {acc : List (Str × Addr)} {x : Str} {c : Addr}, (x, c) ∈ cellsFrom h.objs.size names acc →
    (x, c) ∈ acc ∨ ((x, .cell) ∈ names ∧ h.objs.size ≤ c ∧ CellAt (pushCells h names) c none)
  | [], _, _, _, _, h => .inl h
  | (n, k) :: r, h, acc, x, c, hm => by
    unfold cellsFrom at hm
    unfold pushCells
    split at hm
    · rename_i hk
      rw [if_pos hk]
      have hk : k = .cell := by simpa using hk
      rw [← Heap.size_push h { cls := .type "cell", data := .cell none }] at hm
      rcases cells_mem hm with hm | ⟨h1, h2, h3⟩
      · rcases List.mem_cons.mp hm with e | hm
        · cases e
          exact .inr ⟨hk ▸ List.mem_cons_self, Nat.le_refl _, _, pushCells_keeps r _ _ _ (Heap.get?_push_size _ rfl), rfl⟩
        · exact .inl hm
      · rw [Heap.size_push] at h2
        exact .inr ⟨List.mem_cons_of_mem _ h1, Nat.le_of_succ_le h2, h3⟩
    · rename_i hk
      rw [if_neg hk]
      rcases cells_mem hm with hm | ⟨h1, h2, h3⟩
      · exact .inl hm
      · exact .inr ⟨List.mem_cons_of_mem _ h1, h2, h3⟩
theorem cells_acc : ∀ {names : List (Str × NameKind)} {n : Nat} {acc : List (Str × Addr)} {p : Str × Addr}, p ∈ acc → p ∈ cellsFrom n names acc
  | [], _, _, _, h => h
  | (m, k) :: r, n, acc, p, h => by
    unfold cellsFrom
    split
    · exact cells_acc (List.mem_cons_of_mem _ h)
    · exact cells_acc h
theorem cells_has : ∀ {names : List (Str × NameKind)} {n : Nat} {acc : List (Str × Addr)} {x : Str}, (x, .cell) ∈ names → ∃ c, (x, c) ∈ cellsFrom n names acc
  | (m, k) :: r, n, acc, x, h => by
    unfold cellsFrom
    rcases List.mem_cons.mp h with e | h
    · cases e
      exact ⟨n, cells_acc List.mem_cons_self⟩
    · split
      · exact cells_has h
      · exact cells_has h
theorem cells_inj : ∀ {names : List (Str × NameKind)} {h : Heap} {acc : List (Str × Addr)} {x y : Str} {c : Addr}, (∀ p ∈ acc, p.2 < h.objs.size) → (∀ x y c, (x, c) ∈ acc → (y, c) ∈ acc → x = y) →
    (x, c) ∈ cellsFrom h.objs.size names acc → (y, c) ∈ cellsFrom h.objs.size names acc → x = y
  | [], _, _, _, _, _, _, hi, h1, h2 => hi _ _ _ h1 h2
  | (n, k) :: r, h, acc, x, y, c, hl, hi, h1, h2 => by
    unfold cellsFrom at h1 h2
    split at h1
    · rename_i hk
      rw [if_pos hk] at h2
      rw [← Heap.size_push h { cls := .type "cell", data := .cell none }] at h1 h2
      refine cells_inj (h := h.push _) (fun p hp => ?_) (fun x y c a b => ?_) h1 h2
      · rw [Heap.size_push]
        rcases List.mem_cons.mp hp with rfl | hp
        · exact Nat.lt_succ_self _
        · exact Nat.lt_succ_of_lt (hl p hp)
      · rcases List.mem_cons.mp a with e | a <;> rcases List.mem_cons.mp b with e' | b
        · cases e; cases e'; rfl
        · cases e; exact absurd (hl _ b) (Nat.lt_irrefl _)
        · cases e'; exact absurd (hl _ a) (Nat.lt_irrefl _)
        · exact hi _ _ _ a b
    · rename_i hk
      rw [if_neg hk] at h2
      exact cells_inj hl hi h1 h2
theorem newEnv_comp {M : Model} {A : Around} {E : Value → Shared → Prop} {s : Shared} {scope : Scope} {globals : Addr} {closure : List (Str × Addr)} {qual : Str} {func : Option Addr} {code : Value} {around : Env} {builtins : Addr} {Q : Env → Shared → Prop}
    (h : Q (newEnv scope s.heap.objs.size globals (cellsFrom (s.heap.objs.size + 1) scope.names closure) qual func code (some around) builtins)
      { s with heap := pushCells (s.heap.push { cls := .type "dict", data := .dict #[] }) scope.names }) :
    wpAny M A (newFunctionEnv scope globals closure [] qual func code (some around) builtins) Q E s := by
  simp only [newFunctionEnv, Option.isSome_some, if_true]
  refine wpAny_bind (wpAny_alloc ?_)
  refine wpAny_bind (wpAny_layCells _ (fun n k c => rfl) scope.names closure _ _ ?_)
  rw [show ({ s with heap := s.heap.push { cls := .type "dict", data := .dict #[] } } : Shared).heap.objs.size = s.heap.objs.size + 1 from Heap.size_push ..]
  rw [List.forIn_nil]
  exact wpAny_bind (wpAny_pure (wpAny_pure h))
theorem lookup_relS {sc : Scope} : ∀ {names : List (Str × NameKind)} {x : Str} {k : NameKind},
    (names.map fun (n, k) => if (k == NameKind.free && sc.kind == .function && sc.names.lookup n == some .cell) then (n, NameKind.cell) else (n, k)).lookup x = some k →
    ∃ k', names.lookup x = some k' ∧ (k = k' ∨ (k' = .free ∧ k = .cell))
  | [], _, _, h => by simp at h
  | (n, k₀) :: r, x, k, h => by
    have ih := @lookup_relS sc r x k
    have h' : List.lookup x ((if (k₀ == NameKind.free && sc.kind == .function && sc.names.lookup n == some .cell) = true then (n, NameKind.cell) else (n, k₀)) :: (r.map _)) = some k := h
    cases hx : x == n with
    | true =>
      simp only [List.lookup_cons, hx]
      by_cases hc : (k₀ == NameKind.free && sc.kind == .function && sc.names.lookup n == some .cell) = true
      · rw [if_pos hc] at h'
        simp only [List.lookup_cons, hx] at h'
        cases h'
        simp only [Bool.and_eq_true, beq_iff_eq] at hc
        exact ⟨k₀, rfl, .inr ⟨hc.1.1, rfl⟩⟩
      · rw [if_neg hc] at h'
        simp only [List.lookup_cons, hx] at h'
        cases h'
        exact ⟨_, rfl, .inl rfl⟩
    | false =>
      simp only [List.lookup_cons, hx]
      by_cases hc : (k₀ == NameKind.free && sc.kind == .function && sc.names.lookup n == some .cell) = true
      · rw [if_pos hc] at h'
        simp only [List.lookup_cons, hx] at h'
        exact ih h'
      · rw [if_neg hc] at h'
        simp only [List.lookup_cons, hx] at h'
        exact ih h'
structure BlkOk (N : List Str) (sc scope : Scope) (own : List (Str × Nat)) : Prop where
  kind : scope.kind = .function
  uniq : ∀ y ∈ scope.names, scope.names.lookup y.1 = some y.2
  ix : ∀ p ∈ own, N[p.2]? = some p.1
  free : ∀ y ∈ scope.names, y.2 = .free → sc.names.lookup y.1 = some .cell ∨ sc.names.lookup y.1 = some .free
  own : ∀ y ∈ scope.names, y.2 = .local ∨ y.2 = .cell → y.1 ∈ own.map (·.1) ∨ y.1 ∉ N
def wipe (σ : St) : List Nat → St
  | [] => σ
  | v :: vs => (wipe σ vs).set v none
theorem wipe_length (σ : St) : ∀ vs : List Nat, (wipe σ vs).length = σ.length
  | [] => rfl
  | v :: vs => by unfold wipe; rw [List.length_set, wipe_length σ vs]
theorem wipe_some {σ : St} {i : Nat} {x : V} : ∀ {vs : List Nat}, (wipe σ vs)[i]? = some (some x) → σ[i]? = some (some x) ∧ i ∉ vs
  | [], h => ⟨h, by simp⟩
  | v :: vs, h => by
    unfold wipe at h
    by_cases hi : v = i
    · subst hi
      by_cases hv : v < (wipe σ vs).length
      · rw [List.getElem?_set_self hv] at h; cases h
      · rw [List.getElem?_eq_none (by simpa using hv)] at h; cases h
    · rw [List.getElem?_set_ne hi] at h
      obtain ⟨h1, h2⟩ := wipe_some h
      exact ⟨h1, by simp only [List.mem_cons, not_or]; exact ⟨fun e => hi e.symm, h2⟩⟩
abbrev Cx.blk (X : Cx) (s : Shared) (H : Hp) (scope : Scope) (cenv : Env) (fp : List Addr) : Cx := { X with s_0 := s, H_0 := H, env := cenv, outer := X.stack, ex := fp, fn := fun x => scope.names.lookup x == some .cell, pn := [], xe := fun _ _ => False }
section
variable {X : Cx} {pins : List (Addr × Obj)} {σ : St} {H : Hp} {s : Shared}
theorem block_start {scope : Scope} {own : List (Str × Nat)} {fp : List Addr} (I : Inv X pins σ H s) (ok : BlkOk X.N X.env.scope scope own) (hN : X.N.Nodup) (hfp : ∀ b ∈ fp, FpOk X pins H b ∧ b < s.heap.objs.size) :
    Inv (X.blk s H scope (compEnvC scope (cellsFrom (s.heap.objs.size + 1) scope.names (cloFrom X.env.cells scope.names [])) s.heap.objs.size X.env) fp) [] (wipe σ (own.map (·.2))) H { s with heap := pushCells (s.heap.push { cls := .type "dict", data := .dict #[] }) scope.names } := by
  have hfree : ∀ y ∈ scope.names, y.2 = .free → ∃ c, X.env.cells.lookup y.1 = some c := fun y hy e => by
    rcases ok.free y hy e with k | k
    · exact I.ok.has _ (.inl k)
    · exact I.ok.has _ (.inr k)
  generalize hcenv : compEnvC scope (cellsFrom (s.heap.objs.size + 1) scope.names (cloFrom X.env.cells scope.names [])) s.heap.objs.size X.env = cenv
  have kp : ∀ b o, s.heap.get? b = some o → (pushCells (s.heap.push { cls := .type "dict", data := .dict #[] }) scope.names).get? b = some o := fun b o e => pushCells_keeps _ _ _ _ (Heap.get?_push_of_some _ e)
  have hL : cenv.locals = s.heap.objs.size := by rw [← hcenv]; rfl
  have hcl : cenv.cells = cellsFrom (s.heap.objs.size + 1) scope.names (cloFrom X.env.cells scope.names []) := by rw [← hcenv]; rfl
  have hsc : cenv.scope = relS scope X.env.scope := by rw [← hcenv]; rfl
  rw [← Heap.size_push s.heap { cls := .type "dict", data := .dict #[] }] at hcl
  have cm : ∀ {y c}, (y, c) ∈ cloFrom X.env.cells scope.names [] → X.env.cells.lookup y = some c ∧ c < s.heap.objs.size := fun {y c} hm => by
    rcases cloFrom_mem hm with hm | ⟨h1, rfl⟩
    · cases hm
    · obtain ⟨c, hc⟩ := hfree _ h1 rfl
      rw [hc]
      obtain ⟨w, z⟩ := I.cell _ _ hc
      exact ⟨rfl, z.lt⟩
  have mem : ∀ {y c}, cenv.cells.lookup y = some c → (X.env.cells.lookup y = some c ∧ c < s.heap.objs.size) ∨ (s.heap.objs.size + 1 ≤ c ∧ CellAt (pushCells (s.heap.push { cls := .type "dict", data := .dict #[] }) scope.names) c none) := fun {y c} e => by
    rw [hcl] at e
    rcases cells_mem (PySem.mem_of_lookup e) with hm | ⟨_, h2, h3⟩
    · exact .inl (cm hm)
    · rw [Heap.size_push] at h2; exact .inr ⟨h2, h3⟩
  have look : ∀ {y}, scope.names.lookup y = some .free → ∃ c, cenv.cells.lookup y = some c ∧ X.env.cells.lookup y = some c := fun {y} hl => by
    have hy : (y, NameKind.free) ∈ scope.names := PySem.mem_of_lookup hl
    obtain ⟨c', e'⟩ := mem_lookup (cells_acc (names := scope.names) (n := (s.heap.push { cls := .type "dict", data := .dict #[] }).objs.size) (cloFrom_has (cells := X.env.cells) (acc := []) hy))
    rw [← hcl] at e'
    refine ⟨c', e', ?_⟩
    rw [hcl] at e'
    rcases cells_mem (PySem.mem_of_lookup e') with hm | ⟨h1, _, _⟩
    · exact (cm hm).1
    · have := ok.uniq _ h1
      rw [hl] at this; cases this
  have okB : (X.blk s H scope cenv fp).Ok := by
    refine ⟨I.ok.mod, by show cenv.scope.kind = _; rw [hsc]; exact ok.kind, by show cenv.globals = _; rw [← hcenv]; exact I.ok.glob, by show cenv.builtins = _; rw [← hcenv]; exact I.ok.blt, by show s.heap.objs.size ≤ cenv.locals; rw [hL]; exact Nat.le_refl _,
      fun y z c e1 e2 => ?_, fun y hy => ?_, fun y c z e => ?_, I.ok.hd, I.ok.frames, .inl rfl, fun b hb => ⟨?_, fun y c e z => ?_⟩, I.bs, Nat.le_trans I.ok.bsz I.sz, fun b o e hb => ?_, fun b hb z => ?_, I.stack, I.stkFree⟩
    · have e1 : cenv.cells.lookup y = some c := e1
      have e2 : cenv.cells.lookup z = some c := e2
      rw [hcl] at e1 e2
      refine cells_inj (fun p hp => ?_) (fun y z c a b => I.ok.inj y z c (cm a).1 (cm b).1) (PySem.mem_of_lookup e1) (PySem.mem_of_lookup e2)
      rw [Heap.size_push]
      exact Nat.lt_succ_of_lt (cm (y := p.1) (c := p.2) hp).2
    · show ∃ c, cenv.cells.lookup y = some c
      have key : ∀ k, cenv.kindOf y = some k → (k = .cell ∨ k = .free) → ∃ c, cenv.cells.lookup y = some c := fun k hk hk' => by
        unfold Env.kindOf at hk
        rw [hsc] at hk
        obtain ⟨k', e, r⟩ := lookup_relS hk
        have : k' = .cell ∨ k' = .free := by
          rcases r with rfl | ⟨rfl, _⟩
          · exact hk'
          · exact .inr rfl
        rcases this with rfl | rfl
        · obtain ⟨c, hm⟩ := cells_has (n := (s.heap.push { cls := .type "dict", data := .dict #[] }).objs.size) (acc := cloFrom X.env.cells scope.names []) (PySem.mem_of_lookup e)
          obtain ⟨c', e'⟩ := mem_lookup hm
          exact ⟨c', by rw [hcl]; exact e'⟩
        · obtain ⟨c, h1, _⟩ := look e
          exact ⟨c, h1⟩
      rcases hy with hy | hy
      · exact key _ hy (.inl rfl)
      · exact key _ hy (.inr rfl)
    · have z : (scope.names.lookup y == some NameKind.cell) = true := z
      have z : scope.names.lookup y = some .cell := by simpa using z
      have e : cenv.cells.lookup y = some c := e
      rw [hcl] at e
      rcases cells_mem (PySem.mem_of_lookup e) with hm | ⟨_, h2, _⟩
      · rcases cloFrom_mem hm with hm | ⟨h1, _⟩
        · cases hm
        · have q := ok.uniq _ h1
          rw [z] at q; cases q
      · rw [Heap.size_push] at h2
        exact Nat.le_of_succ_le h2
    · show b ≠ cenv.locals
      rw [hL]; exact Nat.ne_of_lt (hfp b hb).2
    · have e : cenv.cells.lookup y = some c := e
      rcases mem e with ⟨h1, _⟩ | ⟨h1, _⟩
      · exact (hfp b hb).1.2.2.2.2.1 y c h1 z
      · have h2 : s.heap.objs.size + 1 ≤ b := by rw [← z]; exact h1
        exact absurd (Nat.lt_of_lt_of_le (hfp b hb).2 (Nat.le_of_succ_le h2)) (Nat.lt_irrefl _)
    · rcases (hfp b hb).1.2.2.2.1 with z | z
      · exact I.ok.noex b o e z
      · exact absurd (Nat.lt_of_lt_of_le (Heap.lt_size e) (Nat.le_trans I.ok.bsz z)) (Nat.lt_irrefl _)
    · rcases List.mem_cons.mp (I.stkSub b z) with z | z
      · exact (hfp b hb).1.2.1 z
      · exact (hfp b hb).1.2.2.1 z
  refine ⟨okB, rfl, I.bare, Un.kept kp, ⟨fun _ => none, ?_, fun i y av e1 e2 e3 => ?_⟩, fun y c e => ?_, ?_, fun y c e => ?_, fun p hp => ?_, I.hok.kept kp, by rw [wipe_length]; exact I.len⟩
  · show Heap.Ns _ cenv.locals _
    rw [hL]
    exact Heap.Ns.keeps (Heap.Ns.new ..) fun b o e => pushCells_keeps _ _ _ _ e
  · obtain ⟨e2, hne⟩ := wipe_some e2
    have hfr : scope.names.lookup y = some .free ∧ (cenv.kindOf y = some .cell ∨ cenv.kindOf y = some .free) := by
      have key : ∀ k, cenv.scope.names.lookup y = some k → k = .local ∨ k = .cell ∨ k = .free → scope.names.lookup y = some .free ∧ (cenv.kindOf y = some .cell ∨ cenv.kindOf y = some .free) := fun k hk hk' => by
        have hk0 := hk
        rw [hsc] at hk
        obtain ⟨k', e, r⟩ := lookup_relS hk
        have no : ¬ (k' = .local ∨ k' = .cell) := fun hh => by
          rcases ok.own _ (PySem.mem_of_lookup e) hh with e' | e'
          · obtain ⟨p, hp, hpy⟩ := List.mem_map.mp e'
            have e3 := ok.ix p hp
            have : p.1 = y := hpy
            rw [this] at e3
            exact hne (List.mem_map.mpr ⟨p, hp, nodup_ix hN e3 e1⟩)
          · exact e' (List.mem_of_getElem? e1)
        rcases r with rfl | ⟨rfl, rfl⟩
        · rcases hk' with rfl | rfl | rfl
          · exact absurd (.inl rfl) no
          · exact absurd (.inr rfl) no
          · exact ⟨e, .inr hk0⟩
        · exact ⟨e, .inl hk0⟩
      have e3 : Vis cenv.scope y := e3
      rcases e3 with e3 | e3 | e3
      · exact key _ e3 (.inl rfl)
      · exact key _ e3 (.inr (.inl rfl))
      · exact key _ e3 (.inr (.inr rfl))
    obtain ⟨m, hn, hl⟩ := I.loc
    have hvis : Vis X.env.scope y := (ok.free _ (PySem.mem_of_lookup hfr.1) rfl).elim (fun k => .inr (.inl k)) (fun k => .inr (.inr k))
    obtain ⟨w, r, q⟩ := hl i y av e1 e2 hvis
    refine ⟨w, r, .inr ⟨hfr.2, ?_⟩⟩
    obtain ⟨c, h1, h2⟩ := look hfr.1
    rcases q with ⟨k, _⟩ | ⟨_, c', e', z⟩
    · have k : X.env.scope.names.lookup y = some .local := k
      rcases ok.free _ (PySem.mem_of_lookup hfr.1) rfl with k' | k' <;> rw [show X.env.scope.names.lookup y = _ from k'] at k <;> cases k
    · rw [h2] at e'; cases e'
      exact ⟨c, h1, z.keeps kp⟩
  · have e : cenv.cells.lookup y = some c := e
    rcases mem e with ⟨h1, _⟩ | ⟨_, z⟩
    · obtain ⟨w, z⟩ := I.cell y c h1
      exact ⟨w, z.keeps kp⟩
    · exact ⟨_, z⟩
  · show H cenv.locals = none
    rw [hL]; exact I.hok.fresh (Nat.le_refl _)
  · have e : cenv.cells.lookup y = some c := e
    rw [hcl] at e
    rcases cells_mem (PySem.mem_of_lookup e) with hm | ⟨_, h2, _⟩
    · rcases I.freeC y c (cm hm).1 with q | ⟨_, o, z, q⟩
      · exact .inl q
      · refine .inr ⟨?_, o, z, q⟩
        rcases cloFrom_mem hm with hm | ⟨h1, _⟩
        · cases hm
        · show (scope.names.lookup y == some NameKind.cell) = false
          rw [ok.uniq _ h1]; rfl
    · rw [Heap.size_push] at h2
      exact .inl (I.hok.fresh (Nat.le_of_succ_le h2))
  · exact absurd (show p ∈ ([] : List (Addr × Obj)) ++ [] from hp) (by simp)
theorem app_ok {E : Value → Shared → Prop} {D : Addr} {xs : List V} {y : V} {v : Value} {Q : Value → Shared → Prop} (I : Inv X pins σ H s) (hD : H D = some (.lst xs)) (hz : xs.length < sizeLine) (r : RelV y v)
    (h : ∀ s', Inv X pins σ (upd H D (.lst (xs ++ [y]))) s' → Q .none s') : wpAny (model X.prog X.w) X.A (call (.builtin "list.append") [.ref D, v]) Q E s := by
  obtain ⟨hz', its, n, ri, e⟩ := I.hok D _ hD
  have hl := ri.length
  refine append_at (hsz := by rw [List.size_toArray]; omega) e fun h' sb ho' => ?_
  refine h { s with heap := h' } (I.write (t' := s.toks) (by rw [hD]; trivial) (.inl rfl) (fun b u hb q => (sb.2 b hb).trans q) ⟨_, ho'⟩ ⟨by rw [List.length_append]; exact hz, its ++ [v], n + 1, ri.append (.cons r .nil), ?_⟩)
  rw [ho']
  simp
def PTs (X : Cx) (ifs : List Expr) (t : TT) : Prop :=
  ∀ (pins : List (Addr × Obj)) (s : Shared) (σ : St) (H : Hp) (Q : Bool → Hp → Prop), Inv X pins σ H s → t σ H Q →
    wpAny (model X.prog X.w) X.A (forIn ifs true fun c r => if r = true then do let ok ← isTrue c X.env (eval c X.env); pure (ForInStep.yield ok) else pure (ForInStep.yield r)) (TP X pins σ Q) X.xe s
def tYes : TT := fun _ H Q => Q true H
theorem pts_nil : PTs X [] tYes := fun _ _ _ H _ I h => wpAny_tests_nil ⟨H, I, h⟩
theorem pts_one {c : Expr} {t : TT} (h : PT X c t) : PTs X [c] t := fun pins s σ H Q I hw => wpAny_tests_one (h pins s σ H Q I hw)
end
theorem thnF {α : Type} {t : Sem α} {Q Q' : α → Shared → Prop} {M : Model} {A : Around} {E : Value → Shared → Prop} {s : Shared} (h : wpAny M A t Q (fun _ _ => False) s) (hQ : ∀ a s, Q a s → Q' a s) : wpAny M A t Q' E s := wpAny_mono h hQ fun _ _ z => False.elim z
theorem compLoop_any {prog : Program} {w : World} {A : Around} {R : Result → Shared → Prop} {s : Shared} {elt target iter : Expr} {ifs : List Expr} {scope : Scope} {pos : Pos} {it acc : Value} {env : Env} (I : Nat → Shared → Prop)
    (turn : ∀ n s, I n s → wpAny (model prog w) A (pyNext it) (fun r s₁ => match r with
      | none => R (.ok .next) s₁
      | some v => wpAny (model prog w) A (letOwnedTupleGo target it v) (fun _ s₁' => wpAny (model prog w) A (assign target env v) (fun _ s₂ =>
          wpAny (model prog w) A (forIn ifs true fun c r => if r = true then do let ok ← isTrue c env (eval c env); pure (ForInStep.yield ok) else pure (ForInStep.yield r)) (fun ok s₃ =>
            if ok = true then wpAny (model prog w) A (eval elt env) (fun x s₄ =>
              wpAny (model prog w) A (call (.builtin "list.append") [acc, x]) (fun _ s₅ => ∃ m, m < n ∧ I m s₅) (notedBy (model prog w) A env fun e s' => R (.error e) s') s₄) (notedBy (model prog w) A env fun e s' => R (.error e) s') s₃
            else ∃ m, m < n ∧ I m s₃) (notedBy (model prog w) A env fun e s' => R (.error e) s') s₂) (notedBy (model prog w) A env fun e s' => R (.error e) s') s₁') (notedBy (model prog w) A env fun e s' => R (.error e) s') s₁) (notedBy (model prog w) A env fun e s' => R (.error e) s') s)
    (n : Nat) (h : I n s) :
    codeAny (model prog w) A (.compLoop (.ListComp elt [⟨target, iter, ifs, 0⟩] scope pos) 0 it acc env) R s := by
  refine codeAny_loop rfl I (fun n s hI => ?_) n h
  show wpAny _ A ((compTurn (.ListComp elt [⟨target, iter, ifs, 0⟩] scope pos) 0 it acc env).onRaise (fun x => do noteFrame x env; theTreesLotGoes x)) _ _ s
  refine wpAny_noted ?_
  rw [compTurn_list]
  refine wpAny_bind (wpAny_standAt (wpAny_bind (wpAny_mono (turn n s hI) (fun r s₁ h₁ => ?_) fun _ _ h' => h')))
  cases r with
  | none => exact wpAny_pure h₁
  | some v =>
    refine wpAny_bind (wpAny_mono h₁ (fun _ s₁' h₁' => ?_) fun _ _ h' => h')
    refine wpAny_bind (wpAny_mono h₁' (fun _ s₂ h₂ => wpAny_bind (wpAny_mono h₂ (fun ok s₃ h₃ => ?_) fun _ _ h' => h')) fun _ _ h' => h')
    cases ok with
    | false => exact wpAny_pure ⟨rfl, h₃⟩
    | true =>
      exact wpAny_bind (wpAny_bind (wpAny_mono h₃ (fun x s₄ h₄ => wpAny_bind (wpAny_mono h₄ (fun _ s₅ h₅ => wpAny_pure (wpAny_pure ⟨rfl, h₅⟩)) fun _ _ h' => h')) fun _ _ h' => h'))
section
variable {X : Cx}
def tLc (wi : TI) (g : TG) (tt : TT) (te : TE) (vs : List Nat) : TE := fun σ H Q => wi σ H fun J H1 => ∀ D, H1 D = none → ∃ W : Nat → Nat → Hp → Prop, (∃ m, W 0 m (upd H1 D (.lst []))) ∧ ∀ i m H, W i m H →
  (J.stop i H ∧ Q (.ref D) H) ∨ (J.go i H ∧ ∃ Nx : Hp → Prop, (∀ H', Nx H' → ∃ m', m' < m ∧ W (i + 1) m' H') ∧ ∀ x H', J.yld i H x H' → g x (wipe σ vs) H' fun σ2 H2 => wipe σ2 vs = wipe σ vs ∧ tt σ2 H2 fun b H3 =>
    if b = true then te σ2 H3 fun y H4 => ∃ acc, H4 D = some (.lst acc) ∧ acc.length < sizeLine ∧ Nx (upd H4 D (.lst (acc ++ [y]))) else Nx H3)
theorem lc_core {pins : List (Addr × Obj)} {s : Shared} {σ : St} {H : Hp} {Q : VK} {elt tg iter : Expr} {ifs : List Expr} {scope : Scope} {own : List (Str × Nat)} {pos pos' : Pos} {wi : TI} {g : TG} {tt : TT} {te : TE} {use : Option (Value → Sem Unit)} {Qf : Value → Shared → Prop}
    (hc : X.calm = true) (hN : X.N.Nodup) (I : Inv X pins σ H s) (hi : PI X tg iter wi) (ok : BlkOk X.N X.env.scope scope own)
    (hg : ∀ (s : Shared) (H : Hp) (C : Addr) (cl : List (Str × Addr)) (fp : List Addr), PG (X.blk s H scope (compEnvC scope cl C X.env) fp) tg g) (ht : ∀ (s : Shared) (H : Hp) (C : Addr) (cl : List (Str × Addr)) (fp : List Addr), PTs (X.blk s H scope (compEnvC scope cl C X.env) fp) ifs tt)
    (he : ∀ (s : Shared) (H : Hp) (C : Addr) (cl : List (Str × Addr)) (fp : List Addr), PE (X.blk s H scope (compEnvC scope cl C X.env) fp) elt te) (hs : ∀ x, foldedSetIterable iter X.env x = pure x)
    (h : tLc wi g tt te (own.map (·.2)) σ H Q)
    (hRR : ∀ D C s' m H', Inv X pins σ H' s' → Q (.ref D) H' → s'.heap.Ns C m → FpOk X pins H' C → compPost (model X.prog X.w) X.A X.xe use Qf (.ref D) C (.ok .next) s') :
    wpAny (model X.prog X.w) X.A (comprehension (.ListComp elt [⟨tg, iter, ifs, 0⟩] scope pos) scope X.env pos' (newList []) false (eval iter X.env) use) Qf X.xe s := by
  have hfree : ∀ y ∈ scope.names, y.2 = .free → ∃ c, X.env.cells.lookup y.1 = some c := fun y hy e => by
    rcases ok.free y hy e with k | k
    · exact I.ok.has _ (.inl k)
    · exact I.ok.has _ (.inr k)
  refine wpAny_comprehension_free (use := use) rfl hs (closure_ok hfree) ok.kind (fun y hy e => by rw [ok.uniq y hy, e])
    (thn (hi pins s σ H _ I h) fun xv s1 hx => thn hx fun itv s2 h2 => ?_)
  obtain ⟨it, fp, tn, J, H2, e, I2, T, st2, f2, q⟩ := h2
  subst e
  refine wpAny_newObj_type (newEnv_comp ?_) (by show 0 ≤ sizeLine; decide)
  generalize hD : s2.heap.objs.size = D
  have hDn : H2 D = none := I2.hok.fresh (Nat.le_of_eq hD)
  obtain ⟨W, ⟨m0, w0⟩, turn⟩ := q D hDn
  generalize hs3 : ({ s2 with heap := s2.heap.push { cls := .type "list", data := .seq ([] : List Value).toArray } } : Shared) = s3
  have I3 : Inv X pins σ (upd H2 D (.lst [])) s3 := by
    rw [← hs3]
    refine I2.laid (t' := s2.toks) (fun b o e => Heap.get?_push_of_some _ e) (Nat.le_of_eq hD) ⟨Nat.zero_le _, [], 0, .nil, ?_⟩
    rw [← hD]
    exact Heap.get?_push_size _ rfl
  have h3 : s3.heap = s2.heap.push { cls := .type "list", data := .seq ([] : List Value).toArray } := by rw [← hs3]
  have sz : ∀ b ∈ fp, b < s2.heap.objs.size := fun b hb => by
    obtain ⟨o, e, _⟩ := T.obj _ _ st2 b hb
    exact Heap.lt_size e
  have f3 : ∀ b ∈ fp, FpOk X pins (upd H2 D (.lst [])) b ∧ b < s3.heap.objs.size := fun b hb => by
    have hlt := sz b hb
    refine ⟨⟨?_, (f2 b hb).2⟩, by rw [h3, Heap.size_push]; exact Nat.lt_succ_of_lt hlt⟩
    rw [upd_ne (by rw [← hD]; exact Nat.ne_of_lt hlt)]
    exact (f2 b hb).1
  have st3 : tn 0 s3.heap := T.keep _ _ _ st2 fun b _ o e => by rw [h3]; exact Heap.get?_push_of_some _ e
  have I4 := block_start I3 ok hN f3
  have pg := hg s3 (upd H2 D (.lst [])) s3.heap.objs.size (cellsFrom (s3.heap.objs.size + 1) scope.names (cloFrom X.env.cells scope.names [])) fp
  have pt := ht s3 (upd H2 D (.lst [])) s3.heap.objs.size (cellsFrom (s3.heap.objs.size + 1) scope.names (cloFrom X.env.cells scope.names [])) fp
  have pe := he s3 (upd H2 D (.lst [])) s3.heap.objs.size (cellsFrom (s3.heap.objs.size + 1) scope.names (cloFrom X.env.cells scope.names [])) fp
  show codeAny _ _ (.compStart (.ListComp elt [⟨tg, iter, ifs, 0⟩] scope pos) 0 (.ref it) (.ref D) (compEnvC scope (cellsFrom (s3.heap.objs.size + 1) scope.names (cloFrom X.env.cells scope.names [])) s3.heap.objs.size X.env)) (compPost (model X.prog X.w) X.A X.xe use Qf (.ref D) s3.heap.objs.size) { s3 with heap := pushCells (s3.heap.push { cls := .type "dict", data := .dict #[] }) scope.names }
  have nfp : ∀ b ∈ fp, (upd H2 D (.lst [])) b = none := fun b hb => (f3 b hb).1.1
  generalize hce : compEnvC scope (cellsFrom (s3.heap.objs.size + 1) scope.names (cloFrom X.env.cells scope.names [])) s3.heap.objs.size X.env = ce at I4 pg pt pe ⊢
  have cL : ce.locals = s3.heap.objs.size := by subst hce; rfl
  generalize hH3 : upd H2 D (.lst []) = H3 at I3 I4 pg pt pe w0 nfp f3
  generalize hs4 : ({ s3 with heap := pushCells (s3.heap.push { cls := .type "dict", data := .dict #[] }) scope.names } : Shared) = s4 at I4 ⊢
  have st4 : tn 0 s4.heap := T.keep _ _ _ st3 fun b _ o e => by rw [← hs4]; exact pushCells_keeps _ _ _ _ (Heap.get?_push_of_some _ e)
  have stat : ∀ {σ' : St} {H' : Hp} {s' : Shared}, Inv (X.blk s3 H3 scope ce fp) [] σ' H' s' → (∀ b ∈ fp, H' b = none) → ∀ b ∈ fp, FpOk (X.blk s3 H3 scope ce fp) [] H' b := fun {σ' H' s'} I' hn b hb =>
    ⟨hn b hb, (I'.ok.exf b hb).1, I'.ok.exfs b hb, .inl hb, fun x c e => (I'.ok.exf b hb).2 x c e, fun p hp => absurd (show p ∈ ([] : List (Addr × Obj)) ++ [] from hp) (by simp)⟩
  have loop : codeAny (model X.prog X.w) X.A (.compLoop (.ListComp elt [⟨tg, iter, ifs, 0⟩] scope pos) 0 (.ref it) (.ref D) ce) (compPost (model X.prog X.w) X.A X.xe use Qf (.ref D) s3.heap.objs.size) s4 := by
    refine compLoop_any (fun n s' => ∃ i H', Inv (X.blk s3 H3 scope ce fp) [] (wipe σ (own.map (·.2))) H' s' ∧ tn i s'.heap ∧ (∀ b ∈ fp, H' b = none) ∧ W i n H') ?_ m0 ⟨0, H3, I4, st4, nfp, w0⟩
    rintro n s5 ⟨i, H5, I5, st5, n5, w5⟩
    rcases turn i n H5 w5 with ⟨stop, qq⟩ | ⟨go, Nx, hNx, step⟩
    · have td := T.done (X.blk s3 H3 scope ce fp) rfl rfl rfl hc i [] s5 _ H5 (fun _ _ => False) I5 (stat I5 n5) st5 stop
      refine thnF td fun r s6 ⟨hr, I6⟩ => ?_
      subst hr
      have I7 : Inv X pins σ H5 s6 := I3.call' (ch := fp) I6.os I6.base I6.hok I6.bare fun b hb => ⟨(f3 b hb).1.2.2.2.1, (f3 b hb).1.2.1, (f3 b hb).1.2.2.2.2.1, (f3 b hb).1.2.2.2.2.2⟩
      have nC : H5 s3.heap.objs.size = none := by
        have z : H5 ce.locals = none := I6.free
        rw [cL] at z
        exact z
      obtain ⟨m, hn, _⟩ := I6.loc
      have hn : s6.heap.Ns ce.locals m := hn
      rw [cL] at hn
      exact hRR D s3.heap.objs.size s6 m H5 I7 qq hn (I3.fpOk (Nat.le_refl _) nC)
    · have ti := T.item (X.blk s3 H3 scope ce fp) rfl rfl rfl hc i [] s5 _ H5 (fun _ _ => False) I5 (stat I5 n5) st5 go
      refine thnF ti fun r s6 ⟨u, hr, h6⟩ => ?_
      subst hr
      refine thnF h6 fun _ s7 ⟨x, H7, I7, r7, y7, st7, n7⟩ => ?_
      have I7' := I7.pinned (stat I7 n7) (T.obj _ _ st7)
      refine thnF (pg _ s7 _ H7 x u _ I7' r7 (step x H7 y7)) fun _ s8 ⟨σ8, H8, I8, hw8, q8⟩ => ?_
      refine thnF (pt _ s8 σ8 H8 _ I8 q8) fun b s9 ⟨H9, I9, q9⟩ => ?_
      have fin : ∀ {s' : Shared} {H' : Hp}, Inv (X.blk s3 H3 scope ce fp) ([] ++ pinsAt fp s7.heap) σ8 H' s' → Nx H' → ∃ m, m < n ∧ ∃ i H', Inv (X.blk s3 H3 scope ce fp) [] (wipe σ (own.map (·.2))) H' s' ∧ tn i s'.heap ∧ (∀ b ∈ fp, H' b = none) ∧ W i m H' := fun {s' H'} I' nx => by
        obtain ⟨m', hm, w'⟩ := hNx H' nx
        have pin' : ∀ b ∈ fp, ∀ o, s7.heap.get? b = some o → s'.heap.get? b = some o ∧ H' b = none := fun b hb o e =>
          let z := I'.pin (b, o) (List.mem_append_right _ (List.mem_append_right _ (mem_pinsAt hb e)))
          ⟨z.1, z.2.1⟩
        have hl : (wipe σ (own.map (·.2))).length = σ8.length := by rw [← hw8, wipe_length]
        refine ⟨m', hm, i + 1, H', (I'.unpinned (pins := [])).weak hl (fun j v e => ?_), T.keep _ _ _ st7 fun b hb o e => (pin' b hb o e).1, fun b hb => ?_, w'⟩
        · rw [← hw8] at e
          exact (wipe_some e).1
        · obtain ⟨o, e, _⟩ := T.obj _ _ st7 b hb
          exact (pin' b hb o e).2
      cases b with
      | false =>
        simp only [Bool.false_eq_true, if_false] at q9 ⊢
        exact fin I9 q9
      | true =>
        simp only [if_true] at q9 ⊢
        refine thnF (pe _ s9 σ8 H9 _ I9 q9) fun z s10 ⟨yv, H10, I10, r10, acc, hD10, hz10, nx⟩ => ?_
        exact app_ok (X := X.blk s3 H3 scope ce fp) I10 hD10 hz10 r10 fun s11 I11 => fin I11 nx
  exact codeAny_compStart_list loop (T.self X.A 0 _ _ _ st4 loop)
theorem pe_lc {elt tg iter : Expr} {ifs : List Expr} {scope : Scope} {own : List (Str × Nat)} {pos : Pos} {wi : TI} {g : TG} {tt : TT} {te : TE} (hc : X.calm = true) (hN : X.N.Nodup) (hi : PI X tg iter wi) (ok : BlkOk X.N X.env.scope scope own)
    (hg : ∀ (s : Shared) (H : Hp) (C : Addr) (cl : List (Str × Addr)) (fp : List Addr), PG (X.blk s H scope (compEnvC scope cl C X.env) fp) tg g) (ht : ∀ (s : Shared) (H : Hp) (C : Addr) (cl : List (Str × Addr)) (fp : List Addr), PTs (X.blk s H scope (compEnvC scope cl C X.env) fp) ifs tt)
    (he : ∀ (s : Shared) (H : Hp) (C : Addr) (cl : List (Str × Addr)) (fp : List Addr), PE (X.blk s H scope (compEnvC scope cl C X.env) fp) elt te) (hs : ∀ x, foldedSetIterable iter X.env x = pure x := by intro _; rfl) :
    PE X (.ListComp elt [⟨tg, iter, ifs, 0⟩] scope pos) (tLc wi g tt te (own.map (·.2))) := by
  intro pins s σ H Q I h
  rw [eval_ListComp]
  refine lc_core hc hN I hi ok hg ht he hs h fun D C s' m H' I' q hn f => ⟨m, hn, fun h'' sb => ?_⟩
  obtain ⟨f0, f1, f2, f3, f4, f5⟩ := f
  exact ⟨.ref D, H', I'.turned (t' := s'.toks) (fun b o hb e => (sb.2 b hb).trans e) f0 f1 f3 f4 f5, rfl, q⟩
end
def blkC (N : List Str) (sc scope : Scope) (own : List (Str × Nat)) : Bool :=
  (match scope.kind with | .function => true | _ => false) && (scope.names.all fun y => decide (scope.names.lookup y.1 = some y.2)) && (own.all fun p => decide (N[p.2]? = some p.1)) &&
    (scope.names.all fun y => match y.2 with
      | .free => (match sc.names.lookup y.1 with | some .cell => true | some .free => true | _ => false)
      | .local => decide (y.1 ∈ own.map (·.1)) || decide (y.1 ∉ N)
      | .cell => decide (y.1 ∈ own.map (·.1)) || decide (y.1 ∉ N)
      | _ => true)
theorem blkOk_by {N : List Str} {sc scope : Scope} {own : List (Str × Nat)} (h : blkC N sc scope own = true) : BlkOk N sc scope own := by
  unfold blkC at h
  simp only [Bool.and_eq_true, List.all_eq_true, decide_eq_true_eq] at h
  obtain ⟨⟨⟨h1, h2⟩, h3⟩, h4⟩ := h
  refine ⟨?_, h2, h3, fun y hy e => ?_, fun y hy e => ?_⟩
  · split at h1
    · assumption
    · cases h1
  · have q := h4 y hy
    simp only [e] at q
    split at q <;> first | exact .inl (by assumption) | exact .inr (by assumption) | cases q
  · have q := h4 y hy
    rcases e with e | e <;> (simp only [e, Bool.or_eq_true, decide_eq_true_eq] at q; exact q)
end L2
namespace L2
open PySem PySem.Spec PyProof.Rows
section
variable {prog : Program} {w : World} {A : Around} {R : Result → Shared → Prop} {s : Shared} {elt t0 i0 t1 i1 : Expr} {ifs0 ifs1 : List Expr} {scope : Scope} {pos : Pos} {it acc : Value} {env : Env}
end
section
variable {X : Cx}
end
end L2
namespace L2
open PySem PySem.Spec PyProof.Rows
section
variable {κ : Type} [DecidableEq κ]
def valV (kvs : List (κ × V)) (k : κ) : Option V := (kvs.find? fun kv => decide (kv.1 = k)).map (·.2)
def putK (kvs : List (κ × V)) (k : κ) (v : V) : List (κ × V) :=
  if (kvs.any fun kv => decide (kv.1 = k)) = true then kvs.map (fun kv => if kv.1 = k then (kv.1, v) else kv) else kvs ++ [(k, v)]
def dropK (kvs : List (κ × V)) (k : κ) : List (κ × V) := kvs.filter fun kv => decide (kv.1 ≠ k)
theorem valV_pos {p : κ × V} {r : List (κ × V)} {k : κ} (e : p.1 = k) : valV (p :: r) k = some p.2 := by simp [valV, List.find?_cons, e]
theorem valV_neg {p : κ × V} {r : List (κ × V)} {k : κ} (e : ¬ p.1 = k) : valV (p :: r) k = valV r k := by simp [valV, List.find?_cons, e]
theorem RelO.getD {o : Option V} {u : Option Value} {d : V} {d' : Value} (r : RelO o u) (rd : RelV d d') : RelV (o.getD d) (u.getD d') := by
  cases o with
  | none => cases u with
    | none => exact rd
    | some _ => exact (show False from r).elim
  | some _ => cases u with
    | none => exact (show False from r).elim
    | some _ => exact r
theorem KV.val {kvs : List (κ × V)} {vs : List (κ × Value)} (r : KV kvs vs) (k : κ) : RelO (valV kvs k) (valueAt vs k) := by
  unfold KV at r
  induction r with
  | nil => exact True.intro
  | @cons p q ps qs h t ih =>
    obtain ⟨h1, h2⟩ := h
    by_cases e : p.1 = k
    · have e' : q.1 = k := h1.symm.trans e
      have b : valueAt (q :: qs) k = some q.2 := by simp [valueAt, List.find?_cons, e']
      rw [valV_pos e, b]; exact h2
    · have e' : ¬ q.1 = k := fun z => e (h1.trans z)
      have b : valueAt (q :: qs) k = valueAt qs k := by simp [valueAt, List.find?_cons, e']
      rw [valV_neg e, b]; exact ih
theorem KV.any {kvs : List (κ × V)} {vs : List (κ × Value)} (r : KV kvs vs) (k : κ) : (kvs.any fun kv => decide (kv.1 = k)) = vs.any fun kv => decide (kv.1 = k) := by
  unfold KV at r
  induction r with
  | nil => rfl
  | cons h t ih => rw [List.any_cons, List.any_cons, ih, h.1]
theorem KV.drop {kvs : List (κ × V)} {vs : List (κ × Value)} (r : KV kvs vs) (k : κ) : KV (dropK kvs k) (without vs k) := by
  unfold KV at r ⊢
  unfold dropK without
  induction r with
  | nil => exact .nil
  | @cons p q ps qs h t ih =>
    obtain ⟨h1, h2⟩ := h
    rw [List.filter_cons, List.filter_cons]
    by_cases e : p.1 = k
    · have a : ¬ decide (p.1 ≠ k) = true := by simp [e]
      have b : ¬ decide (q.1 ≠ k) = true := by simp [h1.symm.trans e]
      rw [if_neg a, if_neg b]; exact ih
    · have e' : ¬ q.1 = k := fun z => e (h1.trans z)
      have a : decide (p.1 ≠ k) = true := by simp [e]
      have b : decide (q.1 ≠ k) = true := by simp [e']
      rw [if_pos a, if_pos b]; exact .cons ⟨h1, h2⟩ ih
theorem KV.length {kvs : List (κ × V)} {vs : List (κ × Value)} (r : KV kvs vs) : kvs.length = vs.length := Paired.length r
end
abbrev KT (H : Hp) : List (List Key × V) → List (List Key × Addr × Value) → Prop := Paired fun p q => p.1 = q.1 ∧ H q.2.1 = some (.tup (p.1.map kV)) ∧ RelV p.2 q.2.2
theorem KT.val {H : Hp} {kvs : List (List Key × V)} {xs : List (List Key × Addr × Value)} (r : KT H kvs xs) (k : List Key) : RelO (valV kvs k) ((atKey xs k).map (·.2)) := by
  induction r with
  | nil => exact True.intro
  | @cons p q ps qs h t ih =>
    obtain ⟨h1, _, h2⟩ := h
    by_cases e : p.1 = k
    · have e' : q.1 = k := h1.symm.trans e
      have b : atKey (q :: qs) k = some q.2 := by simp [atKey, List.find?_cons, e']
      rw [valV_pos e, b]; exact h2
    · have e' : ¬ q.1 = k := fun z => e (h1.trans z)
      have b : atKey (q :: qs) k = atKey qs k := by simp [atKey, List.find?_cons, e']
      rw [valV_neg e, b]; exact ih
theorem KT.keeps {H H' : Hp} {kvs : List (List Key × V)} {xs : List (List Key × Addr × Value)} (r : KT H kvs xs) (ht : ∀ b ys, H b = some (.tup ys) → H' b = some (.tup ys)) : KT H' kvs xs :=
  Paired.mapP r fun _ _ z => ⟨z.1, ht _ _ z.2.1, z.2.2⟩
section
variable {P : Program} {w : World} {H : Hp} {h : Heap} {a : Addr}
end
def DGet (H : Hp) (a : Addr) (y : V) (r : Option V) : Prop :=
  (∃ kvs k, Rd H a (.dK kvs) ∧ y = kV k ∧ r = valV kvs k) ∨ ∃ kvs k b, Rd H a (.dT kvs) ∧ y = .ref b ∧ H b = some (.tup (k.map kV)) ∧ r = valV kvs k
def DPut (H : Hp) (a : Addr) (y v : V) (H' : Hp) : Prop :=
  (∃ kvs k, H a = some (.dK kvs) ∧ y = kV k ∧ kvs.length < sizeLine ∧ H' = upd H a (.dK (putK kvs k v))) ∨
  ∃ kvs k b, H a = some (.dT kvs) ∧ y = .ref b ∧ H b = some (.tup (k.map kV)) ∧ kvs.length < sizeLine ∧ H' = upd H a (.dT (putK kvs k v))
theorem DGet.k {H : Hp} {a : Addr} {kvs : List (Key × V)} {k : Key} (e : H a = some (.dK kvs)) : DGet H a (kV k) (valV kvs k) := .inl ⟨kvs, k, .inl e, rfl, rfl⟩
theorem DGet.t {H : Hp} {a b : Addr} {kvs : List (List Key × V)} {k : List Key} (e : H a = some (.dT kvs)) (eb : H b = some (.tup (k.map kV))) : DGet H a (.ref b) (valV kvs k) := .inr ⟨kvs, k, b, .inl e, rfl, eb, rfl⟩
theorem DPut.k {H : Hp} {a : Addr} {kvs : List (Key × V)} {k : Key} {v : V} (e : H a = some (.dK kvs)) (hl : kvs.length < sizeLine) : DPut H a (kV k) v (upd H a (.dK (putK kvs k v))) := .inl ⟨kvs, k, e, rfl, hl, rfl⟩
theorem DPut.t {H : Hp} {a b : Addr} {kvs : List (List Key × V)} {k : List Key} {v : V} (e : H a = some (.dT kvs)) (eb : H b = some (.tup (k.map kV))) (hl : kvs.length < sizeLine) :
    DPut H a (.ref b) v (upd H a (.dT (putK kvs k v))) := .inr ⟨kvs, k, b, e, rfl, eb, hl, rfl⟩
section
variable {X : Cx} {pins : List (Addr × Obj)} {σ : St} {H : Hp} {s : Shared} {a : Addr} {y v : V} {u r : Value} {o : Option V} {A : Around} {E : Value → Shared → Prop}
theorem Inv.big (I : Inv X pins σ H s) : sysModules < s.heap.objs.size := by
  have h : mainGlobals < s.heap.objs.size := (I.mod.glob.keeps I.bk).lt
  exact Nat.lt_trans (by decide) h
end
section
variable {X : Cx} {pins : List (Addr × Obj)} {σ : St} {H : Hp} {s : Shared} {a : Addr} {kvs : List (Key × V)} {k : Key} {u : Value} {A : Around} {E : Value → Shared → Prop}
end
section
variable {X : Cx} {o i e value : Expr} {pos pos' tpos : Pos} {td ty tv : TE}
end
section
variable {X : Cx} {pos : Pos}
end
structure M1 (X : Cx) (o : Expr) (m : Str) (apos : Pos) (e : Expr) (cpos : Pos) : Prop where
  base : attributeBase o m X.env (eval o X.env) = eval o X.env
  few : ((backTo cpos (starEach [e] X.env)).all (fun x => !x.1) && (backToKw cpos (keywordEach [] X.env)).all (fun x => x.1.isSome)
    && decide (([e] : List Expr).length + ([] : List Keyword).length + (if ([] : List Keyword).isEmpty then 0 else 1) < 30)) = true
  line : (apos.endLine == cpos.line) = true
  trees : backTo cpos (starEach [e] X.env) = [(false, eval e X.env)]
structure M2 (X : Cx) (o : Expr) (m : Str) (apos : Pos) (e f : Expr) (cpos : Pos) : Prop where
  base : attributeBase o m X.env (eval o X.env) = eval o X.env
  few : ((backTo cpos (starEach [e, f] X.env)).all (fun x => !x.1) && (backToKw cpos (keywordEach [] X.env)).all (fun x => x.1.isSome)
    && decide (([e, f] : List Expr).length + ([] : List Keyword).length + (if ([] : List Keyword).isEmpty then 0 else 1) < 30)) = true
  line : (apos.endLine == cpos.line) = true
  trees : backTo cpos (starEach [e, f] X.env) = [(false, eval e X.env), (false, eval f X.env)]
section
variable {X : Cx} {pins : List (Addr × Obj)} {σ : St} {H : Hp} {s : Shared} {a : Addr} {y d : V} {u r : Value} {o : Option V} {A : Around} {E : Value → Shared → Prop}
end
section
variable {X : Cx} {o e f : Expr} {apos cpos : Pos} {td ty tx : TE}
end
section
variable {X : Cx} {pins : List (Addr × Obj)} {σ : St} {H : Hp} {s : Shared} {a : Addr} {kvs : List (Key × V)} {A : Around} {E : Value → Shared → Prop}
end
section
variable {X : Cx} {pins : List (Addr × Obj)} {σ : St} {H : Hp} {s : Shared} {a : Addr} {y : V} {u : Value} {A : Around} {E : Value → Shared → Prop}
end
end L2
namespace L2
open PySem PySem.Spec PyProof.Rows
section
variable {prog : Program} {w : World} {A : Around} {E : Value → Shared → Prop}
end
section
variable {X : Cx}
end
end L2
namespace L2
open PySem PySem.Spec PyProof.Rows
section
variable {X : Cx} {pins : List (Addr × Obj)} {σ : St} {H : Hp} {s : Shared} {h' : Heap}
end
section
variable {X : Cx}
theorem pi_one {tg : Expr} {pins : List (Addr × Obj)} {σ : St} {H : Hp} {s : Shared} {R : It → Hp → Prop} {J : It} {tn : Nat → Heap → Prop} {tk : Nat} (I : Inv X pins σ H s) (o : Obj)
    (T : Turn X.prog X.w X.K tg J [s.heap.objs.size] s.heap.objs.size tn) (st : tn 0 (s.heap.push o)) (q : R J H) : PIE X pins σ tg R (.ref s.heap.objs.size) { s with heap := s.heap.push o, toks := tk } := by
  refine ⟨s.heap.objs.size, [s.heap.objs.size], tn, J, H, rfl, I.kept fun b ob e => Heap.get?_push_of_some _ e, T, st, fun b hb => ?_, q⟩
  have e : b = s.heap.objs.size := by simpa using hb
  subst e
  exact I.fpOk (Nat.le_refl _) (I.hok.fresh (Nat.le_refl _))
end
section
variable {X : Cx} {tg : Expr}
end
section
variable {X : Cx} {tg : Expr}
end
def Its (x : Str) : It := ⟨fun i _ => i < x.cps.size, fun i H v H' => H' = H ∧ ∃ c, x.cps[i]? = some c ∧ v = .str ⟨#[c]⟩, fun i _ => x.cps.size ≤ i⟩
theorem turn_str {P : Program} {w : World} {K : PySem.W.Frag} {tg : Expr} (it : Addr) (x : Str) (t : Tok) (ty : String) (hty : ty = "str_ascii_iterator" ∨ ty = "str_iterator") :
    Turn P w K tg (Its x) [it] it (fun i h => h.IsStrIter it ty x t i) where
  mem := by simp
  obj := fun i h st b hb => by
    have e : b = it := by simpa using hb
    subst e
    obtain ⟨o, e, c, d⟩ := st
    exact ⟨o, e, fun v z => by rw [d] at z; cases z⟩
  keep := fun i h h' st k => let ⟨o, ho, r⟩ := st; ⟨o, k it (by simp) o ho, r⟩
  item := by
    intro X hP hw hK hc i pins s σ H E I hf st hg
    subst hP hw hK
    obtain ⟨f0, f1, f2, f3, f4, f5⟩ := hf it (by simp)
    have W : Walks X.prog X.w X.A it [it] [it] x.cps.size (SignAt x) (fun i h => h.IsStrIter it ty x t i) := by
      rcases hty with e | e
      · rw [e]; exact Walks.strAscii (I.ok.hd hc) it x t
      · rw [e]; exact Walks.strWide (I.ok.hd hc) it x t
    have hno : ["enumerate", "zip", "dict_itemiterator", "dict_reverseitemiterator", "odict_iterator", "itertools.zip_longest", "itertools.pairwise"].contains ty = false := by
      rcases hty with e | e
      · rw [e]; decide
      · rw [e]; decide
    refine W.item i s _ _ hg st fun v h' tk hv st' kk => ?_
    obtain ⟨c, u, hcx, rfl⟩ := hv
    have I1 : Inv X pins σ H { s with heap := h', toks := tk } := I.turned (fun b o hb e => kk b o (by simpa using hb) e) f0 f1 f3 f4 f5
    obtain ⟨oi, e, cc, dd⟩ := id st'
    exact ⟨_, rfl, go_of (s := { s with heap := h', toks := tk }) e cc dd hno ⟨.str ⟨#[c]⟩, H, I1, ⟨u, rfl⟩, ⟨rfl, c, hcx, rfl⟩, st', fun b hb => (hf b hb).1⟩⟩
  done := by
    intro X hP hw hK hc i pins s σ H E I hf st hg
    subst hP hw hK
    obtain ⟨f0, f1, f2, f3, f4, f5⟩ := hf it (by simp)
    have hx : x.cps[i]? = none := Array.getElem?_eq_none hg
    rcases hty with e | e
    · rw [e] at st
      exact wpAny_pyNext_ascii_end (I.ok.hd hc) st hx fun h' eb => ⟨rfl, I.turned (t' := s.toks) (fun b o hb e => eb b o hb e) f0 f1 f3 f4 f5⟩
    · rw [e] at st
      exact wpAny_pyNext_wide_end (I.ok.hd hc) st hx fun h' eb => ⟨rfl, I.turned (t' := s.toks) (fun b o hb e => eb b o hb e) f0 f1 f3 f4 f5⟩
  self := fun A i s Q E st h => by
    rcases hty with e | e
    · rw [e] at st; exact wpAny_pyIter_striter_ascii st h
    · rw [e] at st; exact wpAny_pyIter_striter_wide st h
def iStr (te : TE) : TI := fun σ H R => te σ H fun v H1 => ∃ x, v = .str x ∧ R (Its x) H1
theorem pi_str {X : Cx} {tg e : Expr} {te : TE} (he : PE X e te) : PI X tg e (iStr te) := by
  intro pins s σ H R I h
  refine thn (he pins s σ H _ I h) fun v s1 ⟨y, H1, I1, r1, x, ex, q⟩ => ?_
  subst ex
  obtain ⟨t, rfl⟩ := r1
  cases ha : x.cps.all (· < 128)
  · exact wpAny_pyIter_wide ha (pi_one (tk := s1.toks) I1 _ (turn_str _ x t "str_iterator" (.inr rfl)) ⟨_, Heap.get?_push_size _ rfl, rfl, rfl⟩ q)
  · exact wpAny_pyIter_ascii ha (pi_one (tk := s1.toks) I1 _ (turn_str _ x t "str_ascii_iterator" (.inl rfl)) ⟨_, Heap.get?_push_size _ rfl, rfl, rfl⟩ q)
section
variable {prog : Program} {w : World} {A : Around} {E : Value → Shared → Prop} {s : Shared}
end
section
variable {X : Cx} {pins : List (Addr × Obj)} {σ : St} {H : Hp} {s : Shared} {d : Addr} {o : Obj}
end
section
variable {P : Program} {w : World} {K : PySem.W.Frag} {tg : Expr} {d : Addr} {o : Obj} {es : Array DictEntry} {ep : Nat}
end
section
variable {X : Cx} {tg e : Expr} {td : TE} {apos cpos : Pos}
end
end L2
section
namespace Bits
open PySem PyProof.Rows
end Bits
end
section
namespace TL
open PySem PySem.Builtin PySem.Builtin.Str PySem.StrLaws
abbrev tl (x : Str) : List Nat := x.cps.toList
def pre (S l : List Nat) : Bool := l.take S.length == S
def par (S : List Nat) : List Nat → List Nat → Option (List Nat × List Nat)
  | _, [] => none
  | acc, c :: r => if pre S (c :: r) = true then some (acc, (c :: r).drop S.length) else par S (acc ++ [c]) r
end TL
end
namespace L2
open PySem PySem.Spec PyProof.Rows
theorem notLong {n : Nat} (h : n ≤ 16777216) : Builtin.Str.tooLong n = false := by
  have e : (2 : Nat) ^ 24 = 16777216 := by decide
  unfold Builtin.Str.tooLong sizeLine
  exact decide_eq_false (by omega)
theorem strs_of_vals : ∀ {ys : List Str} {us : List Value}, Vals (ys.map V.str) us → StrsAre us ys
  | [], _, .nil => .nil
  | y :: ys, _, .cons r t => by
    obtain ⟨k, rfl⟩ := r
    exact .cons y k (strs_of_vals t)
section
variable {X : Cx} {pins : List (Addr × Obj)} {σ : St} {H : Hp} {s : Shared} {Q : VK}
end
section
variable {X : Cx}
theorem mt_join : MtR X "str.join" (fun x xs H Q => ∃ a p, ∃ ys : List Str, x = .str a ∧ xs = [.ref p] ∧ (SqL X.K H p (ys.map V.str) ∨ SqT X.K H p (ys.map V.str)) ∧
    (ys.map (·.length)).sum + ys.length * a.length ≤ 16777216 ∧ Q (.str (Txt.join a ys)) H) := by
  intro pins s σ H x xs v us Q I rx rs h
  obtain ⟨a, p, ys, rfl, rfl, hp, hz, h⟩ := h
  obtain ⟨t, rfl⟩ := rx
  cases rs with
  | cons r1 rs =>
    cases rs
    cases r1
    rcases hp with hp | hp
    · obtain ⟨its, r, ⟨o, n, ho, hc, _, hd⟩, _⟩ := I.list hp
      exact PyProof.Rows.join_list (items := its.toArray) ⟨o, ho, hc, n, hd⟩ (by rw [List.toList_toArray]; exact strs_of_vals r) hz fun t' k => ⟨.str _, H, I.tok k, ⟨t', rfl⟩, h⟩
    · obtain ⟨its, r, ht, _⟩ := I.tuple hp
      exact PyProof.Rows.join_tuple (items := its.toArray) ht (by rw [List.toList_toArray]; exact strs_of_vals r) hz fun t' k => ⟨.str _, H, I.tok k, ⟨t', rfl⟩, h⟩
theorem mt1 {id : String} {g : Str → Str → V} (rule : ∀ (a b : Str) (t u : Tok) (s : Shared) (Q : Value → Shared → Prop), (∀ (v : Value) (k : Nat), RelV (g a b) v → Q v { s with toks := k }) →
    wpAny (model X.prog X.w) X.A (call (.builtin id) [.str a t, .str b u]) Q X.xe s) : MtR X id (fun x xs H Q => ∃ a b, x = .str a ∧ xs = [.str b] ∧ Q (g a b) H) := by
  intro pins s σ H x xs v us Q I rx rs h
  obtain ⟨a, b, rfl, rfl, h⟩ := h
  obtain ⟨t, rfl⟩ := rx
  cases rs with
  | cons r1 rs =>
    cases rs
    obtain ⟨u, rfl⟩ := r1
    exact rule a b t u s _ fun v k r => ⟨g a b, H, I.tok k, r, h⟩
theorem mt_startswith : MtR X "str.startswith" (fun x xs H Q => ∃ a b, x = .str a ∧ xs = [.str b] ∧ Q (.bl (Txt.startswith a b)) H) :=
  mt1 (g := fun a b => .bl (Txt.startswith a b)) fun _ _ _ _ s _ h => PySem.SC.startswith (h _ s.toks rfl)
theorem mt_count : MtR X "str.count" (fun x xs H Q => ∃ a b, x = .str a ∧ xs = [.str b] ∧ Q (.int (Txt.count a b)) H) :=
  mt1 (g := fun a b => .int (Txt.count a b)) fun _ _ _ _ s _ h => PySem.SC.count (h _ (s.toks + 1) ⟨_, rfl⟩)
end
section
variable {X : Cx} {o e : Expr} {to te : TE}
def tM1 (r : V → List V → Hp → VK → Prop) (to te : TE) : TE := fun σ H Q => to σ H fun x H1 => (∃ a, x = .str a) ∧ te σ H1 fun y H2 => r x [y] H2 Q
theorem pe_m1 {id : String} {name : Str} {apos pos : Pos} {r : V → List V → Hp → VK → Prop} (slot : Slot "str" name id) (ty : typeOf (.builtin id) = pure (.type "method_descriptor")) (rule : MtR X id r) (ho : PE X o to) (he : PE X e te)
    (hs : starEach [e] X.env = [(false, eval e X.env)] := by rfl) (hbase : attributeBase o name X.env (eval o X.env) = eval o X.env := by rfl) (hline : (apos.endLine == pos.line) = true := by rfl) :
    PE X (.Call (.Attribute o name apos) [e] [] pos) (tM1 r to te) := by
  intro pins s σ H Q I h
  refine PySem.Call_method1 hbase hs hline (thn (ho pins s σ H _ I h) fun v s1 ⟨x, H1, I1, r1, q1⟩ => ?_)
  obtain ⟨⟨a, rfl⟩, q1⟩ := q1
  obtain ⟨t, rfl⟩ := _root_.id r1
  refine ⟨"str", _, F.plainAttrs_str, slot, ty, typeIs_str _ _ _, (fun _ e => nomatch e), Calls.callWith_builtin rfl (Calls.evalArgs_plain (Calls.spliced_cons ?_))⟩
  exact thn (he pins s1 σ H1 _ I1 q1) fun u s2 ⟨y, H2, I2, r2, q2⟩ => Calls.spliced_nil (rule pins s2 σ H2 _ [y] _ [u] Q I2 r1 (.cons r2 .nil) q2)
theorem pe_join {apos pos : Pos} (ho : PE X o to) (he : PE X e te) (hs : starEach [e] X.env = [(false, eval e X.env)] := by rfl) (hbase : attributeBase o "join" X.env (eval o X.env) = eval o X.env := by rfl) (hline : (apos.endLine == pos.line) = true := by rfl) :
    PE X (.Call (.Attribute o "join" apos) [e] [] pos) (tM1 (fun x xs H Q => ∃ a p, ∃ ys : List Str, x = .str a ∧ xs = [.ref p] ∧ (SqL X.K H p (ys.map V.str) ∨ SqT X.K H p (ys.map V.str)) ∧
      (ys.map (·.length)).sum + ys.length * a.length ≤ 16777216 ∧ Q (.str (Txt.join a ys)) H) to te) :=
  pe_m1 F.slot_str_join F.type_str_join mt_join ho he hs hbase hline
end
end L2
namespace L2
open PySem PySem.Spec PyProof.Rows
section
variable {X : Cx}
theorem op_le_str : OpR X (compareOp .LtE) (fun x y H Q => ∃ i j, x = .str i ∧ y = .str j ∧ Q (.bl (!decide (j.cps.toList < i.cps.toList))) H) := by
  intro pins s σ H x y v u Q I rx ry h
  obtain ⟨i, j, rfl, rfl, q⟩ := h
  obtain ⟨t, rfl⟩ := rx
  obtain ⟨t', rfl⟩ := ry
  exact PySem.P.le_str (fin_bl I q rfl)
theorem op_gt_str : OpR X (compareOp .Gt) (fun x y H Q => ∃ i j, x = .str i ∧ y = .str j ∧ Q (.bl (decide (j.cps.toList < i.cps.toList))) H) := by
  intro pins s σ H x y v u Q I rx ry h
  obtain ⟨i, j, rfl, rfl, q⟩ := h
  obtain ⟨t, rfl⟩ := rx
  obtain ⟨t', rfl⟩ := ry
  exact PySem.P.gt_str (fin_bl I q rfl)
theorem op_ge_str : OpR X (compareOp .GtE) (fun x y H Q => ∃ i j, x = .str i ∧ y = .str j ∧ Q (.bl (!decide (i.cps.toList < j.cps.toList))) H) := by
  intro pins s σ H x y v u Q I rx ry h
  obtain ⟨i, j, rfl, rfl, q⟩ := h
  obtain ⟨t, rfl⟩ := rx
  obtain ⟨t', rfl⟩ := ry
  exact PySem.P.ge_str (fin_bl I q rfl)
end
theorem IsPart.raw {v : Value} {o : Option Int} (p : IsPart v o) : ∃ l : Option (Int × Tok), v = partValue l ∧ l.map (·.1) = o := by
  cases p with
  | none => exact ⟨none, rfl, rfl⟩
  | int i t => exact ⟨some (i, t), rfl, rfl⟩
def clipS (n d : Nat) : Option Int → Int
  | none => (d : Int)
  | some i => max 0 (min (if i < 0 then i + (n : Int) else i) (n : Int))
theorem clipS_eq (n d : Nat) (o : Option Int) : clipS n d o = ((HT.sIx n d o : Nat) : Int) := by
  cases o with
  | none => rfl
  | some v =>
    show max (0 : Int) (min (if v < 0 then v + (n : Int) else v) (n : Int)) = (((if v < 0 then (v + (n : Int)).toNat else min v.toNat n) : Nat) : Int)
    by_cases hv : v < 0
    · simp only [if_pos hv]
      omega
    · simp only [if_neg hv]
      omega
theorem sidx_clip (a b : Option Int) (n : Nat) : Builtin.Str.strSliceIndices a b 1 n = sliceRange (clipS n 0 a) (clipS n n b) 1 := by
  have h1 : ((1 : Int) > 0) = True := by simp
  cases a <;> cases b <;> first
    | rfl
    | (simp only [Builtin.Str.strSliceIndices, clipS, h1, if_true]; rfl)
    | simp [Builtin.Str.strSliceIndices, clipS]
theorem sidx (a b : Option Int) (n : Nat) : Builtin.Str.strSliceIndices a b 1 n = (List.range (HT.sIx n n b - HT.sIx n 0 a)).map (fun k => HT.sIx n 0 a + k) := by
  rw [sidx_clip, clipS_eq, clipS_eq]
  generalize HT.sIx n 0 a = p
  generalize HT.sIx n n b = q
  simp only [sliceRange, show ((1 : Int) > 0) = True from by simp, if_true]
  by_cases hlt : (p : Int) < q
  · have e3 : (((q : Int) - p + 1 - 1) / 1).toNat = q - p := by first | omega | (simp; done) | (simp; omega)
    simp only [hlt, if_true, e3]
    refine List.map_congr_left fun k _ => ?_
    omega
  · have : q - p = 0 := by omega
    simp [hlt, this]
def cutS (z : Str) (lo hi : Option Int) : Str :=
  ⟨((z.cps.toList.drop (HT.sIx z.length 0 lo)).take (HT.sIx z.length z.length hi - HT.sIx z.length 0 lo)).toArray⟩
theorem sliceText_cut (z : Str) (lo hi : Option Int) : PySem.StrLaws.sliceText z lo hi = cutS z lo hi := by
  have h1 : HT.sIx z.length 0 lo ≤ z.length := HT.sIx_le _ _ (Nat.zero_le _) _
  have h2 : HT.sIx z.length z.length hi ≤ z.length := HT.sIx_le _ _ (Nat.le_refl _) _
  have hp : HT.sIx z.length 0 lo ≤ max (HT.sIx z.length 0 lo) (HT.sIx z.length z.length hi) := Nat.le_max_left _ _
  have hq : max (HT.sIx z.length 0 lo) (HT.sIx z.length z.length hi) ≤ z.length := Nat.max_le.mpr ⟨h1, h2⟩
  have hd : max (HT.sIx z.length 0 lo) (HT.sIx z.length z.length hi) - HT.sIx z.length 0 lo = HT.sIx z.length z.length hi - HT.sIx z.length 0 lo := by omega
  have e : Builtin.Str.strSliceIndices lo hi 1 z.length =
      Builtin.Str.strSliceIndices (some ((HT.sIx z.length 0 lo : Nat) : Int)) (some ((max (HT.sIx z.length 0 lo) (HT.sIx z.length z.length hi) : Nat) : Int)) 1 z.length := by
    rw [PySem.StrLaws.strSliceIndices_plain hp hq, hd, sidx]
  have e2 : PySem.StrLaws.sliceText z lo hi =
      PySem.StrLaws.sliceText z (some ((HT.sIx z.length 0 lo : Nat) : Int)) (some ((max (HT.sIx z.length 0 lo) (HT.sIx z.length z.length hi) : Nat) : Int)) := by
    unfold PySem.StrLaws.sliceText
    rw [e]
  rw [e2, PySem.StrLaws.sliceText_nat z hp hq, hd]
  rfl
theorem cutS_length (z : Str) (lo hi : Option Int) : (cutS z lo hi).length ≤ z.length := by
  show (((z.cps.toList.drop (HT.sIx z.length 0 lo)).take (HT.sIx z.length z.length hi - HT.sIx z.length 0 lo)).toArray).size ≤ z.cps.size
  rw [List.size_toArray, List.length_take, List.length_drop, Array.length_toList]
  omega
def rSlS : V → Option Int → Option Int → Hp → VK → Prop := fun x lo hi H Q => ∃ z, x = .str z ∧ z.length ≤ sizeLine ∧ Q (.str (cutS z lo hi)) H
theorem sl_str {X : Cx} : SlR X rSlS := by
  intro pins s σ H x v vl vu lo hi sl Q I rx hs pl pu h
  obtain ⟨z, rfl, hz, q⟩ := h
  obtain ⟨t, rfl⟩ := rx
  obtain ⟨os, hos, hcs, hds⟩ := hs
  obtain ⟨l, rfl, rfl⟩ := IsPart.raw pl
  obtain ⟨u, rfl, rfl⟩ := IsPart.raw pu
  refine ⟨"str", _, F.slot_str_getitem.lookup, typeIs_str _ _ _, ?_⟩
  refine wpAny_getItem_str_slice (l := l) (u := u) (st := none) ⟨os, hos, hcs, hds⟩ rfl ?_
  have hl : (PySem.StrLaws.sliceText z (l.map (·.1)) (u.map (·.1))).length ≤ sizeLine := by
    rw [sliceText_cut]
    exact Nat.le_trans (cutS_length z _ _) hz
  rw [← sliceText_cut] at q
  unfold PySem.StrLaws.sliceText at q hl
  show Made.post (if ((1 : Int) == 1 && (Builtin.Str.strSliceIndices (l.map (·.1)) (u.map (·.1)) 1 z.length).length == z.length) = true then Made.val (.str z t)
    else Made.str ⟨((Builtin.Str.strSliceIndices (l.map (·.1)) (u.map (·.1)) 1 z.length).filterMap (z.cps[·]?)).toArray⟩) (EP X pins σ Q) s
  by_cases c : ((1 : Int) == 1 && (Builtin.Str.strSliceIndices (l.map (·.1)) (u.map (·.1)) 1 z.length).length == z.length) = true
  · rw [if_pos c] at q ⊢
    exact ⟨.str z, H, I, ⟨t, rfl⟩, q⟩
  · rw [if_neg c] at q hl ⊢
    exact ⟨hl, .str _, H, I.tok _, ⟨_, rfl⟩, q⟩
end L2
namespace Att
open PySem PySem.W PySem.Calls PyProof.Rows
theorem ints_of_wellAll {P : Params} {h : Heap} : ∀ (ns : List Int) (vs : List Value), WellAll P h vs (ns.map WData.int) → IntsAre vs ns := by
  intro ns
  induction ns with
  | nil =>
    intro vs w
    rw [List.map_nil] at w
    cases w
    exact .nil
  | cons n ns ih =>
    intro vs w
    rw [List.map_cons] at w
    cases w with
    | cons a b =>
      cases a
      exact .cons _ _ (ih _ b)
theorem script_of {l : OpenLaw} {n : Nat} (hn : l.most = some n) {P : Params} {h : Heap} {args : List WData} {vals : List Value}
    (hpre : l.row.toRowW.claim.pre args = true) (hwl : WellAll P h vals args) :
    ∃ a vs ns, vals = [Value.ref a] ∧ args = [WData.list (ns.map WData.int)] ∧ h.get? a = some { cls := .type "list", data := .seq vs.toArray } ∧ IntsAre vs ns ∧ ns.length ≤ n := by
  have hsh : WShape.hasAll [] args [.list .int] = true := (pre_splitW hpre).1
  have hc : l.pre.holds [] { args := args } = true := (pre_splitW hpre).2
  obtain ⟨d, r, rfl, h1, h2⟩ := hasAllW_cons hsh
  obtain rfl := hasAllW_nil h2
  obtain ⟨xs, rfl, h3⟩ := hasW_list h1
  obtain ⟨ns, rfl⟩ := items_int h3
  have hlen : ns.length ≤ n := by
    unfold OpenLaw.pre at hc
    have h4 : (WTm.not (.lt (.lit (.int (n : Int))) (.len (.arg 0)))).holds [] { args := [.list (ns.map .int)] } = true := by
      have h4 := (holds_andW hc).1
      rw [hn] at h4
      exact h4
    have h5 := condW_of h4 (w_not (w_lt w_lit (w_len_list (w_arg rfl))))
    rw [List.length_map] at h5
    refine Nat.le_of_not_lt fun q => ?_
    have q' : (n : Int) < ((ns.length : Nat) : Int) := by omega
    first
      | (rw [decide_eq_true q'] at h5; exact absurd h5 (by decide))
      | (simp at h5; omega)
  cases hwl with
  | cons w1 w2 =>
    cases w2
    cases w1 with
    | list ho hall => exact ⟨_, _, ns, rfl, rfl, ho, ints_of_wellAll ns _ hall, hlen⟩
theorem post_true (l : OpenLaw) (args : List WData) : l.row.toRowW.claim.post args (.bool true) args = true :=
  postW_of (r := l.row.toRowW) (X := (true == true))
    (show WShape.has [] (.bool true) .bool = true by first | rfl | decide | simp [WShape.has, WShape.arms, WShape.armsAll])
    (show (WTm.eq .res (.lit (.bool true))).value [] { args := args, res := some (.bool true), after := args } = some (.bool (true == true)) from w_eq_bool (w_res rfl) w_lit) rfl
theorem attach {l : OpenLaw} {n : Nat} {q : Program} {loose : List Str} {XP : (Str → Option Value) → Heap → Prop} {YP : World → Heap → Prop} {d : DefRec} {x : Str}
    (hn : l.most = some n) (hdf : d.params.defaults = [])
    (hbind : ∀ pm cd doc v : Value, bindArgs (docDef d.name d.params d.body d.scope pm cd doc) ⟨[v], []⟩ = pure [(x, v)])
    (hx : d.scope.names.lookup x = some .local ∨ d.scope.names.lookup x = some .cell)
    (hk : d.scope.kind = .function) (hco : d.scope.isCoroutine = false) (hgen : d.scope.isGenerator = false)
    (body : ∀ (w : World) (s₀ s₁ s : Shared) (mg mb : Str → Option Value) (fa : Addr) (o : Obj) (pm cd doc : Value) (a : Addr) (vs : List Value) (ns : List Int),
      Ground q loose [] XP w s₀ mg mb s₁.heap → YP w s₁.heap →
      s₁.heap.get? fa = some o → o.data = .func (docDef d.name d.params d.body d.scope pm cd doc) → s₁.heap.CodeRec cd d.name → mg d.name = some (.ref fa) →
      s₁.heap.get? a = some { cls := .type "list", data := .seq vs.toArray } → IntsAre vs ns → ns.length ≤ n →
      s.gens = #[] → s.os = s₁.os →
      Fr s₁.heap s₁.heap.objs.size s.heap (bindL (envOfC d.name d.scope s₁.heap.objs.size fa cd).kindOf [(x, .ref a)] fun _ => none) →
      Cl s₁.heap.objs.size (cellsFrom (s₁.heap.objs.size + 1) d.scope.names []) s.heap (bindC (envOfC d.name d.scope s₁.heap.objs.size fa cd).kindOf [(x, .ref a)] fun _ => none) →
      wpAny (model l.prog w) (callerA.deeper (envOfC d.name d.scope s₁.heap.objs.size fa cd)) (execs d.body (envOfC d.name d.scope s₁.heap.objs.size fa cd))
        (fun f s' => f = .ret (.bool true) ∧ OldK s₁.heap s'.heap ∧ s'.os = s₁.os ∧ AllBare s'.gens) (fun _ _ => False) s) :
    WalkO q loose XP YP l.row.toRowW d [] (fun f vs => PySem.call f vs) := by
  intro w s₀ s₁ mg mb G Y fa o pm cd doc dV kV ho hd hcd hD hmg hg args vals as hpre hlay hrd hwl hlo
  obtain rfl : dV = .none := Dflts.none hD hdf
  obtain rfl : kV = .none := Dflts.noKw hD
  obtain ⟨a, vs, ns, rfl, rfl, hobj, hints, hlen⟩ := script_of hn hpre hwl
  refine enter_call ?_
  refine call_cells_ret (o := o) (by rw [depth_caller]; decide) ho (fd_plain hd) G.T.nolimit hcd (hbind pm cd doc (.ref a)) (fun y hy => ?_) (fun h₁ tk F X => ?_) hco hgen hk
  · obtain rfl : y = (x, Value.ref a) := List.mem_singleton.mp hy
    rcases hx with e | e
    · exact .inl e
    · exact .inr ⟨e, cellsFrom_some _ _ _ (.inl e)⟩
  · refine wpAny_mono (body w s₀ s₁ { s₁ with heap := h₁, toks := tk } mg mb fa o pm cd doc a vs ns G Y ho (fd_plain hd) hcd hmg hobj hints hlen hg rfl F X) (fun f s' hq => ?_) (fun _ _ hq => hq)
    obtain ⟨rfl, h2, h3, h4⟩ := hq
    exact ⟨.inl ⟨.bool true, .bool true, [], rfl, fun _ => rfl, .bool true, post_true l _, fun _ => ⟨List.Pairwise.nil, fun _ hm => (nomatch hm)⟩⟩, h2, h3, h4⟩
theorem attach_call {l : OpenLaw} {n : Nat} {q : Program} {loose : List Str} {XP : (Str → Option Value) → Heap → Prop} {YP : World → Heap → Prop} {d : DefRec}
    (hn : l.most = some n) (hdf : d.params.defaults = [])
    (call : ∀ (w : World) (s₀ s₁ : Shared) (mg mb : Str → Option Value) (fa : Addr) (o : Obj) (pm cd doc : Value) (a : Addr) (vs : List Value) (ns : List Int),
      Ground q loose [] XP w s₀ mg mb s₁.heap → YP w s₁.heap →
      s₁.heap.get? fa = some o → o.data = .func (docDef d.name d.params d.body d.scope pm cd doc) → s₁.heap.CodeRec cd d.name → mg d.name = some (.ref fa) →
      s₁.heap.get? a = some { cls := .type "list", data := .seq vs.toArray } → IntsAre vs ns → ns.length ≤ n → s₁.gens = #[] →
      codeAny (model l.prog w) callerA (.call (.ref fa) ⟨[.ref a], []⟩) (fun r s' => r = .ok (.ret (.bool true)) ∧ OldK s₁.heap s'.heap ∧ s'.os = s₁.os ∧ AllBare s'.gens) s₁) :
    WalkO q loose XP YP l.row.toRowW d [] (fun f vs => PySem.call f vs) := by
  intro w s₀ s₁ mg mb G Y fa o pm cd doc dV kV ho hd hcd hD hmg hg args vals as hpre hlay hrd hwl hlo
  obtain rfl : dV = .none := Dflts.none hD hdf
  obtain rfl : kV = .none := Dflts.noKw hD
  obtain ⟨a, vs, ns, rfl, rfl, hobj, hints, hlen⟩ := script_of hn hpre hwl
  refine enter_call (codeAny_mono (call w s₀ s₁ mg mb fa o pm cd doc a vs ns G Y ho (fd_plain hd) hcd hmg hobj hints hlen hg) fun r s' hq => ?_)
  obtain ⟨rfl, h2, h3, h4⟩ := hq
  exact ⟨.inl ⟨.bool true, .bool true, [], rfl, fun _ => rfl, .bool true, post_true l _, fun _ => ⟨List.Pairwise.nil, fun _ hm => (nomatch hm)⟩⟩, h2, h3, h4⟩
section
variable {prog : Program} {w : World} {A : Around} {E : Value → Shared → Prop} {s : Shared} {K : Frag}
end
end Att
namespace L2
open PySem PySem.Spec PyProof.Rows
theorem vals_ints : ∀ {vs : List Value} {ns : List Int}, IntsAre vs ns → Vals (ns.map V.int) vs
  | _, _, .nil => .nil
  | _, _, .cons n t h => .cons ⟨t, rfl⟩ (vals_ints h)
end L2
namespace L2
open PySem PySem.Spec PyProof.Rows
end L2
namespace L2
open PySem PySem.Spec PyProof.Rows
def defArgs (s : Stmt) : Arguments := match s with
  | .FunctionDef _ a _ _ _ _ _ _ _ _ => a
  | _ => { posonlyargs := [], args := [], vararg := none, kwonlyargs := [], kw_defaults := [], kwarg := none, defaults := [] }
def defBody (s : Stmt) : List Stmt := match s with
  | .FunctionDef _ _ b _ _ _ _ _ _ _ => b
  | _ => []
def defScope (s : Stmt) : Scope := match s with
  | .FunctionDef _ _ _ _ _ _ sc _ _ _ => sc
  | _ => { kind := .function, names := [], isGenerator := false, isCoroutine := false }
abbrev CX0 : CXT := fun _ _ _ _ _ _ => False
abbrev E0 : XK := fun _ _ _ => False
structure Fun (K : PySem.W.Frag) (x qual : Str) (st : Stmt) (f : Addr) (fd : FuncData) : Prop where
  ex : ∃ (oc : Value) (od : Option Addr) (kV doc pm : Value) (an : Option Addr) (cdv ct : Value) (osl : Array (Option Value)),
    fd = PySem.W.fnOf x qual (defArgs st) (defBody st) (defScope st) .none kV doc pm an cdv ct ∧ K.lookup f = some ⟨oc, od, .func fd, osl⟩ ∧ PySem.W.codeIn K cdv qual = true
  kp : PySem.W.keepIn K (.ref f) = true
section
variable {P : Program} {w : World} {K : PySem.W.Frag} {mg : Str → Option Value} {base : Heap}
theorem Fun.ok {x qual : Str} {st : Stmt} {f : Addr} {fd : FuncData} {N ps : List Str} {k : Nat} {sp : Sp} (F : Fun K x qual st f fd) (S : FnScope N ps (defScope st)) (len : ∀ vs H Q E, sp vs H Q E → vs.length = ps.length)
    (hbody : ∀ (cdv : Value) (A : Around) (outer : List Env) (s : Shared) (H : Hp) (vs : List V) (Q : VK) (E : XK), Room k (A.deeper (envOfC qual (defScope st) s.heap.objs.size f cdv)) → sp vs H Q E →
      ∃ t, PSs (cxOf CX0 P w K mg base N qual (defScope st) f cdv A outer s H E).nox (defBody st) t ∧ t { nx := fun _ H' => Q .non H', rt := Q } (start N vs) H) : FnOk P w K mg base CX0 (k + 1) f fd ps sp := by
  obtain ⟨oc, od, kV, doc, pm, an, cdv, ct, osl, rfl, lk, hcd⟩ := F.ex
  refine fn_of lk hcd S len fun A outer s H vs Q E hr hsp => ?_
  obtain ⟨t, h, q⟩ := hbody cdv A outer s H vs Q E hr hsp
  exact ⟨t, h.nox, q⟩
theorem Fun.binds {x qual : Str} {st : Stmt} {f : Addr} {fd : FuncData} {ps : List Str} (F : Fun K x qual st f fd)
    (h : ∀ (kV doc pm : Value) (an : Option Addr) (cdv ct : Value) (us : List Value), us.length = ps.length → bindArgs (PySem.W.fnOf x qual (defArgs st) (defBody st) (defScope st) .none kV doc pm an cdv ct) ⟨us, []⟩ = pure (ps.zip us)) : Binds K fd ps [] := by
  obtain ⟨oc, od, kV, doc, pm, an, cdv, ct, osl, rfl, lk, hcd⟩ := F.ex
  exact .all (h kV doc pm an cdv ct)
theorem fun_mk {x qual : Str} {st : Stmt} {f : Addr} {oc : Value} {od an : Option Addr} {osl : Array (Option Value)} {kV doc pm cdv ct : Value} (l : K.lookup f = some ⟨oc, od, .func (PySem.W.fnOf x qual (defArgs st) (defBody st) (defScope st) .none kV doc pm an cdv ct), osl⟩)
    (c : PySem.W.codeIn K cdv qual = true) (k : PySem.W.keepIn K (.ref f) = true) : Fun K x qual st f (PySem.W.fnOf x qual (defArgs st) (defBody st) (defScope st) .none kV doc pm an cdv ct) := ⟨⟨oc, od, kV, doc, pm, an, cdv, ct, osl, rfl, l, c⟩, k⟩
end
section
variable {X : Cx}
end
theorem iteF {A B : Prop} (h : B) : if false = true then A else B := by
  rw [if_neg Bool.false_ne_true]
  exact h
theorem iteT {A B : Prop} (h : A) : if true = true then A else B := by
  rw [if_pos rfl]
  exact h
def Same (H H' : Hp) : Prop := ∀ b o, H b = some o → H' b = some o
theorem Same.refl (H : Hp) : Same H H := fun _ _ h => h
theorem Same.trans {H H1 H2 : Hp} (a : Same H H1) (b : Same H1 H2) : Same H H2 := fun c o h => b c o (a c o h)
theorem Same.free {H H' : Hp} (e : Same H H') {l : Addr} (h : H' l = Option.none) : H l = Option.none := by
  cases q : H l with
  | none => rfl
  | some o =>
    rw [e l o q] at h
    cases h
theorem Same.seq {K : PySem.W.Frag} {H H' : Hp} {a : Addr} {xs : List V} (e : Same H H') (h : SqL K H a xs) : SqL K H' a xs := by
  rcases h with (h | ⟨o, h⟩) | h
  · exact .inl (.inl (e _ _ h))
  · exact .inl (.inr ⟨o, e _ _ h⟩)
  · exact .inr h
section
variable {κ : Type} [DecidableEq κ]
end
theorem nd_ix {α : Type} {l : List α} (hN : l.Nodup) {i j : Nat} {x : α} (a : l[i]? = some x) (b : l[j]? = some x) : i = j := by
  obtain ⟨h1, e1⟩ := List.getElem?_eq_some_iff.mp a
  obtain ⟨h2, e2⟩ := List.getElem?_eq_some_iff.mp b
  exact (List.getElem_inj hN).mp (e1.trans e2.symm)
end L2
set_option Elab.async false
set_option linter.all false
set_option maxRecDepth 100000
namespace Ab
open PySem PySem.Spec PyProof.Rows L2
set_option autoImplicit false
set_option relaxedAutoImplicit false
inductive A where
  | non | bl (b : Bool) | int (i : Int) | str (x : Str) | ty (n : String) | tup (xs : List A) | ro (xs : List A) | loc (n : Nat) | raw (a : Addr)
inductive AO where
  | lst (xs : List A)
  | ins (C : Addr) (fs : List (Str × A))
  | dic (hf : Sum Str (List L2.Key) → Int) (kvs : List (Sum Str (List L2.Key) × A))
  | clo (e : Expr) (xs : List (Str × A))
abbrev AHp := List AO
abbrev ASt := List (Option A)
abbrev Rs (α : Type) := Option (α × AHp)
abbrev ME := ASt → AHp → Rs A
abbrev MT := ASt → AHp → Rs Bool
abbrev MA := ASt → AHp → Rs (List A)
inductive Fl where
  | nx (τ : ASt) | rt (a : A) | bk (τ : ASt) | ct (τ : ASt)
abbrev MS := ASt → AHp → Rs Fl
abbrev MF := List A → AHp → Rs A
def RoL (K : PySem.W.Frag) (H : Hp) (a : Addr) (xs : List V) : Prop :=
  (∃ o, H a = some (.frz o (.lst xs))) ∨
    ∃ (o : Obj) (its : Array Value) (n : Nat), K.lookup a = some o ∧ o.cls = .type "list" ∧ o.dict = none ∧ o.data = .seq its n ∧ its.size ≤ sizeLine ∧ Vals xs its.toList
theorem RoL.sq {K : PySem.W.Frag} {H : Hp} {a : Addr} {xs : List V} (h : RoL K H a xs) : SqL K H a xs := by
  rcases h with ⟨o, h⟩ | h
  · exact .inl (.inr ⟨o, h⟩)
  · exact .inr h
mutual
inductive Rep (K : PySem.W.Frag) (ρ : List Addr) (H : Hp) : A → V → Prop
  | non : Rep K ρ H .non .non
  | bl (b : Bool) : Rep K ρ H (.bl b) (.bl b)
  | int (i : Int) : Rep K ρ H (.int i) (.int i)
  | str (x : Str) : Rep K ρ H (.str x) (.str x)
  | ty (n : String) : Rep K ρ H (.ty n) (.ty n)
  | tup {xs : List A} {p : Addr} {vs : List V} : SqT K H p vs → Reps K ρ H xs vs → Rep K ρ H (.tup xs) (.ref p)
  | ro {xs : List A} {p : Addr} {vs : List V} : RoL K H p vs → Reps K ρ H xs vs → Rep K ρ H (.ro xs) (.ref p)
  | loc {n : Nat} {p : Addr} : ρ[n]? = some p → Rep K ρ H (.loc n) (.ref p)
  | raw (a : Addr) : Rep K ρ H (.raw a) (.ref a)
inductive Reps (K : PySem.W.Frag) (ρ : List Addr) (H : Hp) : List A → List V → Prop
  | nil : Reps K ρ H [] []
  | cons {a : A} {v : V} {xs : List A} {vs : List V} : Rep K ρ H a v → Reps K ρ H xs vs → Reps K ρ H (a :: xs) (v :: vs)
end
def KpT (o : HO) (x : Option HO) : Prop := x = some o ∨ ∃ ps ps', o = .tbl ps ∧ x = some (.tbl ps')
theorem KpT.some {o : HO} {x : Option HO} (h : KpT o x) : ∃ o', x = Option.some o' := by
  rcases h with h | ⟨_, ps', _, h⟩
  · exact ⟨_, h⟩
  · exact ⟨_, h⟩
theorem KpT.step {o : HO} {x y : Option HO} (h : KpT o x) (g : ∀ o', x = Option.some o' → KpT o' y) : KpT o y := by
  rcases h with h | ⟨ps, ps', e, h⟩
  · exact g o h
  · rcases g _ h with q | ⟨_, ps2, _, q⟩
    · exact .inr ⟨ps, ps', e, q⟩
    · exact .inr ⟨ps, ps2, e, q⟩
theorem KpT.is {o : HO} {x : Option HO} (h : KpT o x) (n : ∀ ps, o ≠ .tbl ps) : x = Option.some o := by
  rcases h with h | ⟨ps, ps', e, h⟩
  · exact h
  · exact absurd e (n ps)
structure Le (K : PySem.W.Frag) (ρ : List Addr) (H : Hp) (ρ' : List Addr) (H' : Hp) : Prop where
  pre : ρ <+: ρ'
  tup : ∀ p vs, SqT K H p vs → SqT K H' p vs
  ros : ∀ p vs, RoL K H p vs → RoL K H' p vs
  frz : ∀ p o y, H p = some (.frz o (.own y)) → H' p = some (.frz o (.own y))
structure Up (K : PySem.W.Frag) (ρ : List Addr) (H : Hp) (ρ' : List Addr) (H' : Hp) : Prop extends Le K ρ H ρ' H' where
  oth : ∀ p o, p ∉ ρ → H p = some o → KpT o (H' p)
  new : ∀ p, p ∈ ρ' → p ∉ ρ → H p = none
section
variable {K : PySem.W.Frag} {ρ ρ' ρ1 ρ2 : List Addr} {H H' H1 H2 : Hp}
theorem Up.refl : Up K ρ H ρ H := ⟨⟨List.prefix_refl _, fun _ _ h => h, fun _ _ h => h, fun _ _ _ h => h⟩, fun _ _ _ h => .inl h, fun p h n => absurd h n⟩
theorem Up.trans (a : Up K ρ H ρ1 H1) (b : Up K ρ1 H1 ρ2 H2) : Up K ρ H ρ2 H2 := by
  refine ⟨⟨a.pre.trans b.pre, fun p vs h => b.tup p vs (a.tup p vs h), fun p vs h => b.ros p vs (a.ros p vs h), fun p o y h => b.frz p o y (a.frz p o y h)⟩, fun p o n h => (a.oth p o n h).step fun o' h' => b.oth p o' (fun m => ?_) h', fun p m n => ?_⟩
  · have := a.new p m n
    rw [h] at this; cases this
  · by_cases m1 : p ∈ ρ1
    · exact a.new p m1 n
    · have z := b.new p m m1
      cases q : H p with
      | none => rfl
      | some o => obtain ⟨o', z'⟩ := (a.oth p o n q).some; rw [z'] at z; cases z
end
section
variable {K : PySem.W.Frag} {ρ ρ' : List Addr} {H H' : Hp} {h : AHp} {p : Addr} {o : AO} {vs : List V} {xs ys : List A} {n : Nat} {σ : L2.St} {τ : ASt}
theorem pre_get {ρ ρ' : List Addr} {n : Nat} {p : Addr} (h : ρ <+: ρ') (e : ρ[n]? = some p) : ρ'[n]? = some p := by
  obtain ⟨t, rfl⟩ := h
  rw [List.getElem?_append_left (List.getElem?_eq_some_iff.mp e).1]; exact e
mutual
theorem Rep.le (u : Le K ρ H ρ' H') : ∀ {a : A} {v : V}, Rep K ρ H a v → Rep K ρ' H' a v
  | _, _, .non => .non
  | _, _, .bl b => .bl b
  | _, _, .int b => .int b
  | _, _, .str b => .str b
  | _, _, .ty b => .ty b
  | _, _, .tup h r => .tup (u.tup _ _ h) (Reps.le u r)
  | _, _, .ro h r => .ro (u.ros _ _ h) (Reps.le u r)
  | _, _, .loc e => .loc (pre_get u.pre e)
  | _, _, .raw a => .raw a
theorem Reps.le (u : Le K ρ H ρ' H') : ∀ {a : List A} {v : List V}, Reps K ρ H a v → Reps K ρ' H' a v
  | _, _, .nil => .nil
  | _, _, .cons r t => .cons (Rep.le u r) (Reps.le u t)
end
theorem Rep.up {a : A} {v : V} (u : Up K ρ H ρ' H') (r : Rep K ρ H a v) : Rep K ρ' H' a v := r.le u.toLe
theorem Reps.up {a : List A} {v : List V} (u : Up K ρ H ρ' H') (r : Reps K ρ H a v) : Reps K ρ' H' a v := r.le u.toLe
theorem Reps.length  : ∀ {xs : List A} {vs : List V}, Reps K ρ H xs vs → xs.length = vs.length
  | _, _, .nil => rfl
  | _, _, .cons _ t => by rw [List.length_cons, List.length_cons, Reps.length t]
theorem Reps.append  : ∀ {xs ys : List A} {vs ws : List V}, Reps K ρ H xs vs → Reps K ρ H ys ws → Reps K ρ H (xs ++ ys) (vs ++ ws)
  | _, _, _, _, .nil, s => s
  | _, _, _, _, .cons r t, s => .cons r (Reps.append t s)
theorem Reps.get  : ∀ {xs : List A} {vs : List V} {i : Nat} {a : A}, Reps K ρ H xs vs → xs[i]? = some a → ∃ v, vs[i]? = some v ∧ Rep K ρ H a v
  | _, _, _, _, .nil, e => by simp at e
  | _, _, 0, _, .cons r _, e => by simp at e; subst e; exact ⟨_, rfl, r⟩
  | _, _, i + 1, a, .cons _ t, e => by
    obtain ⟨u, h1, h2⟩ := Reps.get (i := i) (a := a) t (by simpa using e)
    exact ⟨u, by simpa using h1, h2⟩
theorem Reps.set  {a : A} {v : V} (r : Rep K ρ H a v) : ∀ {xs : List A} {vs : List V} (i : Nat), Reps K ρ H xs vs → Reps K ρ H (xs.set i a) (vs.set i v)
  | _, _, _, .nil => .nil
  | _, _, 0, .cons _ t => .cons r t
  | _, _, i + 1, .cons q t => .cons q (Reps.set r i t)
theorem Reps.take  : ∀ {xs : List A} {us : List V} (n : Nat), Reps K ρ H xs us → Reps K ρ H (xs.take n) (us.take n)
  | _, _, 0, _ => .nil
  | _, _, _ + 1, .nil => .nil
  | _, _, n + 1, .cons r t => .cons r (Reps.take n t)
theorem Reps.drop  : ∀ {xs : List A} {us : List V} (n : Nat), Reps K ρ H xs us → Reps K ρ H (xs.drop n) (us.drop n)
  | _, _, 0, r => r
  | _, _, _ + 1, .nil => .nil
  | _, _, n + 1, .cons _ t => Reps.drop n t
theorem Reps.ints  : ∀ (ns : List Int), Reps K ρ H (ns.map A.int) (ns.map V.int)
  | [] => .nil
  | n :: r => .cons (.int n) (Reps.ints r)
abbrev MK := Sum Str (List Key)
def DictF (hf : MK → Int) (h : Heap) (d : Addr) (xs : List (MK × Value × Value)) : Prop := ∃ o es ep, h.get? d = some o ∧ o.ExactDict ∧ o.data = .dict es ep ∧ es.toList = xs.map (fun x => (⟨hf x.1, x.2.1, x.2.2⟩ : DictEntry)) ∧ (xs.map (·.1)).Nodup
abbrev DicT (hf : MK → Int) (p : Addr) (xs : List (MK × Value × Value)) : HO := .ext fun h => DictF hf h p xs
def keyV (K : PySem.W.Frag) (H : Hp) : MK → V → Prop
  | .inl x, v => v = .str x
  | .inr ks, v => ∃ a, v = .ref a ∧ SqT K H a (ks.map kV)
def DicOk (K : PySem.W.Frag) (H : Hp) (xs : List (MK × Value × Value)) : Prop := ∀ y ∈ xs, ∃ v, RelV v y.2.1 ∧ keyV K H y.1 v
theorem keyV.le {K : PySem.W.Frag} {ρ ρ' : List Addr} {H H' : Hp} (u : Le K ρ H ρ' H') {k : MK} {v : V} (x : keyV K H k v) : keyV K H' k v := by
  cases k with
  | inl x' => exact x
  | inr ks => obtain ⟨a, e, s⟩ := x; exact ⟨a, e, u.tup _ _ s⟩
theorem DicOk.le {K : PySem.W.Frag} {ρ ρ' : List Addr} {H H' : Hp} (u : Le K ρ H ρ' H') {xs : List (MK × Value × Value)} (x : DicOk K H xs) : DicOk K H' xs := fun y hy => let ⟨v, r, k⟩ := x y hy; ⟨v, r, k.le u⟩
def isLam : Expr → Bool
  | .Lambda .. => true
  | _ => false
def hasLam : FuncBody → Bool
  | .stmts [.Return (some (.Call _ args kws _)) _] => args.any isLam || kws.any fun k => isLam k.value
  | _ => false
def tabOf (K : PySem.W.Frag) (o : Obj) (c : Addr) : Option (Str × Addr) := match o.data with
  | .func fd => if hasLam fd.body then (match fd.code with
    | .ref c' => if c' = c then (match K.lookup c with
      | some oc => (match oc.data with
        | .fields vs => (match (vs[1]? : Option Value), (vs[11]? : Option Value) with
          | some (.str qn _), some (.ref P) => some (qn, P)
          | _, _ => none)
        | _ => none)
      | none => none) else none
    | _ => none) else none
  | _ => none
def CodeF (H : Hp) (q : Str) (cv : Value) : Prop := ∃ c oc vs t y, cv = .ref c ∧ H c = some (.frz oc (.own y)) ∧ oc.data = .fields vs ∧ vs[1]? = some (.str q t)
def IsTab (K : PySem.W.Frag) (c P : Addr) (q : Str) : Prop := ∃ (f : Addr) (o : Obj) (qn : Str), K.lookup f = some o ∧ tabOf K o c = some (qn, P) ∧ q = qn ++ ".<locals>." ++ "<lambda>"
structure TabOk (K : PySem.W.Frag) (H : Hp) : Prop where
  uq : ∀ c1 c2 P q1 q2, IsTab K c1 P q1 → IsTab K c2 P q2 → q1 = q2
  tat : ∀ c P q, IsTab K c P q → ∃ ps, H P = some (.tbl ps) ∧ TriplesOk ps.toList ∧ ∀ pos cv, codeAmong pos ps.toList = some cv → CodeF H q cv
theorem CodeF.le {K : PySem.W.Frag} {ρ ρ' : List Addr} {H H' : Hp} {q : Str} {cv : Value} (u : Le K ρ H ρ' H') (x : CodeF H q cv) : CodeF H' q cv :=
  let ⟨c, oc, vs, t, y, e, hc, r⟩ := x; ⟨c, oc, vs, t, y, e, u.frz _ _ _ hc, r⟩
theorem TabOk.to {K : PySem.W.Frag} {ρ ρ' : List Addr} {H H' : Hp} (u : Le K ρ H ρ' H') (k : ∀ P ps, H P = some (.tbl ps) → H' P = some (.tbl ps)) (x : TabOk K H) : TabOk K H' := ⟨x.uq, fun c P q i =>
  let ⟨ps, hp, t, g⟩ := x.tat c P q i; ⟨ps, k _ _ hp, t, fun pos cv e => (g pos cv e).le u⟩⟩
theorem nf_none {H : Hp} {p : Addr} (e : H p = none) : ∀ o u, H p ≠ some (.frz o u) := fun o u z => by rw [e] at z; cases z
theorem nf_lst {H : Hp} {p : Addr} {xs : List V} (e : H p = some (.lst xs)) : ∀ o u, H p ≠ some (.frz o u) := fun o u z => by rw [e] at z; cases z
theorem nt_none {H : Hp} {p : Addr} (e : H p = none) : ∀ ps, H p ≠ some (.tbl ps) := fun o z => by rw [e] at z; cases z
theorem nt_lst {H : Hp} {p : Addr} {xs : List V} (e : H p = some (.lst xs)) : ∀ ps, H p ≠ some (.tbl ps) := fun o z => by rw [e] at z; cases z
theorem frz_upd {H : Hp} {p q : Addr} {o : Obj} {y : Addr} {u : HO} (n : ∀ o u, H p ≠ some (.frz o u)) (z : H q = some (.frz o (.own y))) : upd H p u q = some (.frz o (.own y)) := by
  rw [upd_ne]; exact z
  intro e; subst e; exact n _ _ z
theorem tbl_upd {H : Hp} {p q : Addr} {ps : Array Value} {u : HO} (n : ∀ ps, H p ≠ some (.tbl ps)) (z : H q = some (.tbl ps)) : upd H p u q = some (.tbl ps) := by
  rw [upd_ne]; exact z
  intro e; subst e; exact n _ z
def CapR (H : Hp) (cl : List (Str × Addr)) (us : List Value) : Prop := Paired (fun (y : Str × Addr) (u : Value) => ∃ (o : Obj) (z : Addr), H y.2 = some (.frz o (.own z)) ∧ o.data = .cell (some u)) cl us
theorem CapR.le {K : PySem.W.Frag} {ρ ρ' : List Addr} {H H' : Hp} (u : Le K ρ H ρ' H') : ∀ {cl : List (Str × Addr)} {us : List Value}, CapR H cl us → CapR H' cl us
  | _, _, .nil => .nil
  | _, _, .cons ⟨o, z, h, d⟩ t => .cons ⟨o, z, u.frz _ _ _ h, d⟩ (CapR.le u t)
def CloR (K : PySem.W.Frag) (ρ : List Addr) (H : Hp) (p : Addr) (e : Expr) (xs : List (Str × A)) : Prop :=
  ∃ args body scope pos qual cl pm c' ctv y us vs, e = .Lambda args body scope pos ∧ H p = some (.frz (PySem.W.kla_obj "<lambda>" qual args body scope cl pm c' ctv) (.own y)) ∧ CodeF H qual (.ref c') ∧ CapR H cl us ∧ cl.map Prod.fst = xs.map Prod.fst ∧ (∀ x y c, cl.lookup x = some c → cl.lookup y = some c → x = y) ∧ Vals vs us ∧ Reps K ρ H (xs.map Prod.snd) vs
theorem CloR.le {K : PySem.W.Frag} {ρ ρ' : List Addr} {H H' : Hp} {p : Addr} {e : Expr} {xs : List (Str × A)} (u : Le K ρ H ρ' H') (x : CloR K ρ H p e xs) : CloR K ρ' H' p e xs :=
  let ⟨args, body, scope, pos, qual, cl, pm, c', ctv, y, us, vs, a, b, c, d, f, i, g, r⟩ := x
  ⟨args, body, scope, pos, qual, cl, pm, c', ctv, y, us, vs, a, u.frz _ _ _ b, c.le u, d.le u, f, i, g, r.le u⟩
def ObjR (K : PySem.W.Frag) (ρ : List Addr) (H : Hp) (p : Addr) : AO → Prop
  | .lst xs => ∃ vs, H p = some (.lst vs) ∧ Reps K ρ H xs vs
  | .ins C fs => ∃ dx vs, H p = some (.ins C dx vs) ∧ vs.map Prod.fst = fs.map Prod.fst ∧ Reps K ρ H (fs.map Prod.snd) (vs.map Prod.snd)
  | .dic hf kvs => (p == sysModules) = false ∧ ∃ xs vs, H p = some (DicT hf p xs) ∧ xs.map (·.1) = kvs.map Prod.fst ∧ DicOk K H xs ∧ Vals vs (xs.map (·.2.2)) ∧ Reps K ρ H (kvs.map Prod.snd) vs
  | .clo e xs => CloR K ρ H p e xs
structure RelH (K : PySem.W.Frag) (ρ : List Addr) (H : Hp) (h : AHp) : Prop where
  len : ρ.length = h.length
  nd : ρ.Nodup
  obj : ∀ (n : Nat) (p : Addr) (o : AO), ρ[n]? = some p → h[n]? = some o → ObjR K ρ H p o
  tb : TabOk K H
structure RelS (K : PySem.W.Frag) (ρ : List Addr) (H : Hp) (σ : L2.St) (τ : ASt) : Prop where
  len : σ.length = τ.length
  get : ∀ (i : Nat) (a : A), τ[i]? = some (some a) → ∃ v, σ[i]? = some (some v) ∧ Rep K ρ H a v
theorem RelS.le (u : Le K ρ H ρ' H') (s : RelS K ρ H σ τ) : RelS K ρ' H' σ τ := ⟨s.len, fun i a e => let ⟨v, h1, h2⟩ := s.get i a e; ⟨v, h1, h2.le u⟩⟩
theorem RelS.up (u : Up K ρ H ρ' H') (s : RelS K ρ H σ τ) : RelS K ρ' H' σ τ := s.le u.toLe
theorem RelS.set  {i : Nat} {a : A} {v : V} (s : RelS K ρ H σ τ) (r : Rep K ρ H a v) : RelS K ρ H (σ.set i (some v)) (τ.set i (some a)) := by
  refine ⟨by rw [List.length_set, List.length_set, s.len], fun j b e => ?_⟩
  by_cases hij : i = j
  · subst hij
    have hl : i < (τ.set i (some a)).length := (List.getElem?_eq_some_iff.mp e).1
    rw [List.length_set] at hl
    rw [List.getElem?_set_self hl] at e
    cases e
    exact ⟨v, by rw [List.getElem?_set_self (by rw [s.len]; exact hl)], r⟩
  · rw [List.getElem?_set_ne hij] at e
    obtain ⟨w, h1, h2⟩ := s.get j b e
    exact ⟨w, by rw [List.getElem?_set_ne hij]; exact h1, h2⟩
theorem RelH.at  (r : RelH K ρ H h) {n : Nat} {o : AO} (e : h[n]? = some o) : ∃ p, ρ[n]? = some p ∧ ObjR K ρ H p o := by
  have hl : n < ρ.length := by rw [r.len]; exact (List.getElem?_eq_some_iff.mp e).1
  exact ⟨ρ[n], by simp [hl], r.obj n _ o (by simp [hl]) e⟩
theorem RelH.locAt  (r : RelH K ρ H h) {n : Nat} {o : AO} {v : V} (e : h[n]? = some o) (x : Rep K ρ H (.loc n) v) : ∃ p, v = .ref p ∧ ρ[n]? = some p ∧ ObjR K ρ H p o := by
  cases x with
  | loc q => exact ⟨_, rfl, q, r.obj n _ o q e⟩
theorem ObjR.some  (h : ObjR K ρ H p o) : ∃ u, H p = Option.some u := by
  cases o with
  | lst xs => obtain ⟨vs, h, _⟩ := h; exact ⟨_, h⟩
  | ins C fs => obtain ⟨dx, vs, h, _⟩ := h; exact ⟨_, h⟩
  | dic hf kvs => obtain ⟨_, xs, vs, h, _⟩ := h; exact ⟨_, h⟩
  | clo e xs => obtain ⟨_, _, _, _, _, _, _, _, _, _, _, _, _, h, _⟩ := h; exact ⟨_, h⟩
theorem SqT_upd {K : PySem.W.Frag} {H : Hp} {p q : Addr} {vs : List V} {o : HO} (hp : H p = Option.none ∨ ∃ xs, H p = Option.some (.lst xs)) (h : SqT K H q vs) : SqT K (upd H p o) q vs := by
  rcases h with (h | ⟨ob, h⟩) | h
  · refine .inl (.inl ?_)
    rw [upd_ne]; exact h
    intro e; subst e; rcases hp with hp | ⟨xs, hp⟩ <;> (rw [h] at hp; cases hp)
  · refine .inl (.inr ⟨ob, ?_⟩)
    rw [upd_ne]; exact h
    intro e; subst e; rcases hp with hp | ⟨xs, hp⟩ <;> (rw [h] at hp; cases hp)
  · exact .inr h
theorem RoL_upd {K : PySem.W.Frag} {H : Hp} {p q : Addr} {vs : List V} {o : HO} (hp : H p = Option.none ∨ ∃ xs, H p = Option.some (.lst xs)) (h : RoL K H q vs) : RoL K (upd H p o) q vs := by
  rcases h with ⟨ob, h⟩ | h
  · refine .inl ⟨ob, ?_⟩
    rw [upd_ne]; exact h
    intro e; subst e; rcases hp with hp | ⟨xs, hp⟩ <;> (rw [h] at hp; cases hp)
  · exact .inr h
theorem ObjR.le (u : Le K ρ H ρ' H') (e : H' p = H p) (h : ObjR K ρ H p o) : ObjR K ρ' H' p o := by
  cases o with
  | lst xs => obtain ⟨vs, h, r⟩ := h; exact ⟨vs, e.trans h, r.le u⟩
  | ins C fs => obtain ⟨dx, vs, h, n, r⟩ := h; exact ⟨dx, vs, e.trans h, n, r.le u⟩
  | dic hf kvs => obtain ⟨q, xs, vs, h, n, d, v, r⟩ := h; exact ⟨q, xs, vs, e.trans h, n, d.le u, v, r.le u⟩
  | clo ex xs => exact CloR.le u h
theorem ObjR.up (u : Up K ρ H ρ' H') (e : H' p = H p) (h : ObjR K ρ H p o) : ObjR K ρ' H' p o := h.le u.toLe e
theorem RelH.notin  (r : RelH K ρ H h) (hp : H p = Option.none) : p ∉ ρ := by
  intro m
  obtain ⟨n, hn, e⟩ := List.mem_iff_getElem.mp m
  have hn' : n < h.length := by rw [← r.len]; exact hn
  obtain ⟨u, hu⟩ := (r.obj n p h[n] (by simp [hn, e]) (by simp [hn'])).some
  rw [hp] at hu; cases hu
theorem RelH.alloc  (r : RelH K ρ H h) (hp : H p = Option.none) (x : Reps K ρ H xs vs) :
    Up K ρ H (ρ ++ [p]) (upd H p (.lst vs)) ∧ RelH K (ρ ++ [p]) (upd H p (.lst vs)) (h ++ [.lst xs]) ∧ Rep K (ρ ++ [p]) (upd H p (.lst vs)) (.loc h.length) (.ref p) := by
  have u : Up K ρ H (ρ ++ [p]) (upd H p (.lst vs)) := ⟨⟨⟨[p], rfl⟩, fun q ws z => SqT_upd (.inl hp) z, fun q ws z => RoL_upd (.inl hp) z, fun q o y z => frz_upd (nf_none hp) z⟩, fun q o n z => by rw [upd_ne (ne_of_none z hp)]; exact .inl z, fun q m n => by
    rcases List.mem_append.mp m with m | m
    · exact absurd m n
    · rw [List.mem_singleton.mp m]; exact hp⟩
  refine ⟨u, ⟨by simp [r.len], ?_, fun n q o e1 e2 => ?_, r.tb.to u.toLe fun P ps z => tbl_upd (nt_none hp) z⟩, .loc (by rw [← r.len]; simp)⟩
  · rw [List.nodup_append]
    refine ⟨r.nd, by simp, fun a ha b hb => ?_⟩
    have : b = p := by simpa using hb
    subst this
    intro e; subst e
    exact r.notin hp ha
  · by_cases hn : n < ρ.length
    · rw [List.getElem?_append_left hn] at e1
      rw [List.getElem?_append_left (by rw [← r.len]; exact hn)] at e2
      refine (r.obj n q o e1 e2).up u (upd_ne fun e => ?_)
      subst e
      exact r.notin hp (List.mem_of_getElem? e1)
    · have hn2 : n = ρ.length := by
        have := (List.getElem?_eq_some_iff.mp e1).1
        rw [List.length_append, List.length_singleton] at this
        omega
      subst hn2
      have e3 : q = p := by simpa using e1.symm
      have e4 : o = .lst xs := by rw [r.len] at e2; simpa using e2.symm
      subst e3 e4
      exact ⟨vs, upd_same, x.up u⟩
theorem RelH.push {D : Addr} (r : RelH K ρ H h) (hD : D ∉ ρ) (hH : H D = Option.some (.lst vs)) (x : Reps K ρ H xs vs) : RelH K (ρ ++ [D]) H (h ++ [.lst xs]) := by
  have l : Le K ρ H (ρ ++ [D]) H := ⟨⟨[D], rfl⟩, fun _ _ z => z, fun _ _ z => z, fun _ _ _ z => z⟩
  refine ⟨by simp [r.len], ?_, fun n q o e1 e2 => ?_, r.tb⟩
  · rw [List.nodup_append]
    refine ⟨r.nd, by simp, fun a ha b hb => ?_⟩
    have : b = D := by simpa using hb
    subst this
    intro e; subst e
    exact hD ha
  · by_cases hn : n < ρ.length
    · rw [List.getElem?_append_left hn] at e1
      rw [List.getElem?_append_left (by rw [← r.len]; exact hn)] at e2
      exact (r.obj n q o e1 e2).le l rfl
    · have hn2 : n = ρ.length := by
        have := (List.getElem?_eq_some_iff.mp e1).1
        rw [List.length_append, List.length_singleton] at this
        omega
      subst hn2
      have e3 : q = D := by simpa using e1.symm
      have e4 : o = .lst xs := by rw [r.len] at e2; simpa using e2.symm
      subst e3 e4
      exact ⟨vs, hH, x.le l⟩
theorem RelH.out {D : Addr} {u : HO} (r : RelH K ρ H h) (hD : D ∉ ρ) (hH : H D = Option.none ∨ ∃ ws, H D = Option.some (.lst ws)) : Le K ρ H ρ (upd H D u) ∧ RelH K ρ (upd H D u) h := by
  have l : Le K ρ H ρ (upd H D u) := ⟨List.prefix_refl _, fun _ _ z => SqT_upd hH z, fun _ _ z => RoL_upd hH z, fun q o y z => frz_upd (hH.elim nf_none fun ⟨_, e⟩ => nf_lst e) z⟩
  refine ⟨l, r.len, r.nd, fun n q o e1 e2 => (r.obj n q o e1 e2).le l (upd_ne fun e => ?_), r.tb.to l fun P ps z => tbl_upd (hH.elim nt_none fun ⟨_, e⟩ => nt_lst e) z⟩
  subst e
  exact hD (List.mem_of_getElem? e1)
theorem RelH.tuple  (r : RelH K ρ H h) (hp : H p = Option.none) (x : Reps K ρ H xs vs) :
    Up K ρ H ρ (upd H p (.tup vs)) ∧ RelH K ρ (upd H p (.tup vs)) h ∧ Rep K ρ (upd H p (.tup vs)) (.tup xs) (.ref p) := by
  have u : Up K ρ H ρ (upd H p (.tup vs)) := ⟨⟨List.prefix_refl _, fun q ws z => SqT_upd (.inl hp) z, fun q ws z => RoL_upd (.inl hp) z, fun q o y z => frz_upd (nf_none hp) z⟩, fun q o n z => by rw [upd_ne (ne_of_none z hp)]; exact .inl z, fun p m n => absurd m n⟩
  refine ⟨u, ⟨r.len, r.nd, fun n q o e1 e2 => (r.obj n q o e1 e2).up u (upd_ne fun e => ?_), r.tb.to u.toLe fun P ps z => tbl_upd (nt_none hp) z⟩, .tup (SqT.of upd_same) (x.up u)⟩
  subst e
  exact r.notin hp (List.mem_of_getElem? e1)
theorem RelH.store  (r : RelH K ρ H h) (hn : ρ[n]? = Option.some p) (hh : h[n]? = Option.some (.lst ys)) (x : Reps K ρ H xs vs) :
    Up K ρ H ρ (upd H p (.lst vs)) ∧ RelH K ρ (upd H p (.lst vs)) (h.set n (.lst xs)) := by
  obtain ⟨ws, hp, _⟩ := r.obj n p _ hn hh
  have u : Up K ρ H ρ (upd H p (.lst vs)) := ⟨⟨List.prefix_refl _, fun q ws z => SqT_upd (.inr ⟨_, hp⟩) z, fun q ws z => RoL_upd (.inr ⟨_, hp⟩) z, fun q o y z => frz_upd (nf_lst hp) z⟩, fun q o m z => by rw [upd_ne (fun e => m (by rw [e]; exact List.mem_of_getElem? hn))]; exact .inl z, fun p m n => absurd m n⟩
  have hl : n < h.length := (List.getElem?_eq_some_iff.mp hh).1
  refine ⟨u, ⟨by rw [List.length_set]; exact r.len, r.nd, fun m q o e1 e2 => ?_, r.tb.to u.toLe fun P ps z => tbl_upd (nt_lst hp) z⟩⟩
  by_cases hm : n = m
  · subst hm
    rw [hn] at e1; cases e1
    rw [List.getElem?_set_self hl] at e2; cases e2
    exact ⟨vs, upd_same, x.up u⟩
  · rw [List.getElem?_set_ne hm] at e2
    refine (r.obj m q o e1 e2).up u (upd_ne fun e => ?_)
    subst e
    exact hm (nd_ix r.nd hn e1)
end
def tE (K : PySem.W.Frag) (m : ME) : TE := fun σ H Q => ∃ ρ τ h a h', RelH K ρ H h ∧ RelS K ρ H σ τ ∧ m τ h = some (a, h') ∧ ∀ ρ' H' v, Up K ρ H ρ' H' → RelH K ρ' H' h' → Rep K ρ' H' a v → Q v H'
def tT (K : PySem.W.Frag) (m : MT) : TT := fun σ H Q => ∃ ρ τ h a h', RelH K ρ H h ∧ RelS K ρ H σ τ ∧ m τ h = some (a, h') ∧ ∀ ρ' H', Up K ρ H ρ' H' → RelH K ρ' H' h' → Q a H'
def tA (K : PySem.W.Frag) (m : MA) : TA := fun σ H Q => ∃ ρ τ h a h', RelH K ρ H h ∧ RelS K ρ H σ τ ∧ m τ h = some (a, h') ∧ ∀ ρ' H' v, Up K ρ H ρ' H' → RelH K ρ' H' h' → Reps K ρ' H' a v → Q v H'
def Fin (K : PySem.W.Frag) (D : Ends) (ρ : List Addr) (H : Hp) : Fl → Prop
  | .nx τ => ∀ σ, RelS K ρ H σ τ → D.nx σ H
  | .rt a => ∀ v, Rep K ρ H a v → D.rt v H
  | .bk τ => ∀ σ, RelS K ρ H σ τ → D.bk σ H
  | .ct τ => ∀ σ, RelS K ρ H σ τ → D.ct σ H
def tS (K : PySem.W.Frag) (m : MS) : TS := fun D σ H => ∃ ρ τ h f h', RelH K ρ H h ∧ RelS K ρ H σ τ ∧ m τ h = some (f, h') ∧ ∀ ρ' H', Up K ρ H ρ' H' → RelH K ρ' H' h' → Fin K D ρ' H' f
structure JE (X : Cx) (e : Expr) (m : ME) : Prop where
  pf : PE X e (tE X.K m)
structure JT (X : Cx) (e : Expr) (m : MT) : Prop where
  pf : PT X e (tT X.K m)
structure JW (X : Cx) (e : Expr) (m : MT) : Prop where
  pf : PW X e (tT X.K m)
structure JA (X : Cx) (e : List Expr) (m : MA) : Prop where
  pf : PA X e (tA X.K m)
structure JS (X : Cx) (e : Stmt) (m : MS) : Prop where
  pf : PS X e (tS X.K m)
structure JB (X : Cx) (e : List Stmt) (m : MS) : Prop where
  pf : PSs X e (tS X.K m)
section
variable {X : Cx} {e : Expr} {es : List Expr} {st : Stmt} {sts : List Stmt}
theorem PE_imp {t t' : TE} (h : PE X e t) (i : ∀ σ H Q, t' σ H Q → t σ H Q) : PE X e t' := fun pins s σ H Q I q => h pins s σ H Q I (i σ H Q q)
theorem PT_imp {t t' : TT} (h : PT X e t) (i : ∀ σ H Q, t' σ H Q → t σ H Q) : PT X e t' := fun pins s σ H Q I q => h pins s σ H Q I (i σ H Q q)
theorem PW_imp {t t' : TT} (h : PW X e t) (i : ∀ σ H Q, t' σ H Q → t σ H Q) : PW X e t' := fun wh pins s σ H Q I q => h wh pins s σ H Q I (i σ H Q q)
theorem PA_imp {t t' : TA} (h : PA X es t) (i : ∀ σ H Q, t' σ H Q → t σ H Q) : PA X es t' := fun pos pins s σ H Q I q => h pos pins s σ H Q I (i σ H Q q)
theorem PS_imp {t t' : TS} (h : PS X st t) (i : ∀ D σ H, t' D σ H → t D σ H) : PS X st t' := fun pins s σ H D I q => h pins s σ H D I (i D σ H q)
theorem PSs_imp {t t' : TS} (h : PSs X sts t) (i : ∀ D σ H, t' D σ H → t D σ H) : PSs X sts t' := fun pins s σ H D I q => h pins s σ H D I (i D σ H q)
end
theorem bindS {α β : Type} {x : Option α} {f : α → Option β} {b : β} (h : x.bind f = some b) : ∃ a, x = some a ∧ f a = some b := Option.bind_eq_some_iff.mp h
def eVar (i : Nat) : ME := fun τ h => match τ[i]? with | some (some a) => some (a, h) | _ => none
def eC (a : A) : ME := fun _ h => some (a, h)
theorem eVar_some {i : Nat} {τ : ASt} {h h' : AHp} {a : A} (e : eVar i τ h = some (a, h')) : τ[i]? = some (some a) ∧ h' = h := by
  unfold eVar at e
  split at e
  · rename_i b hb
    injection e with e; injection e with e1 e2
    subst e1 e2; exact ⟨hb, rfl⟩
  · cases e
section
variable {X : Cx} {a b c e : Expr} {es : List Expr} {pos : Pos}
theorem je_var (i : Nat) {x : Str} (hN : X.N[i]? = some x := by rfl) (hv : Vis X.env.scope x := by first | exact Or.inl rfl | exact Or.inr (Or.inl rfl) | exact Or.inr (Or.inr rfl)) (hd : (x == ("__debug__" : Str)) = false := by decide)
    (hcd : (x == ("__classdict__" : Str)) = false := by decide) : JE X (.Name x pos) (eVar i) := ⟨PE_imp (pe_var (i := i) hN hv hd hcd) fun σ H Q q => by
  obtain ⟨ρ, τ, h, a, h', R, S, e, k⟩ := q
  obtain ⟨e1, rfl⟩ := eVar_some e
  obtain ⟨v, h1, h2⟩ := S.get i a e1
  exact ⟨v, h1, k ρ H v Up.refl R h2⟩⟩
def Cst (K : PySem.W.Frag) (a : A) (v : V) : Prop := ∀ ρ H, Rep K ρ H a v
theorem je_C {v : V} {m : A} (h : PE X e (tC v)) (c : Cst X.K m v) : JE X e (eC m) := ⟨PE_imp h fun σ H Q q => by
  obtain ⟨ρ, τ, h, a, h', R, S, e, k⟩ := q
  cases e
  exact k ρ H v Up.refl R (c ρ H)⟩
theorem je_int {i j pos} : JE X (.Constant (.int i) j pos) (eC (.int i)) := je_C pe_int fun _ _ => .int i
theorem je_bl {i j pos} : JE X (.Constant (.bool i) j pos) (eC (.bl i)) := je_C pe_bl fun _ _ => .bl i
theorem je_non {j pos} : JE X (.Constant .none j pos) (eC .non) := je_C pe_non fun _ _ => .non
theorem je_str {i j pos} : JE X (.Constant (.str i) j pos) (eC (.str i)) := je_C pe_str fun _ _ => .str i
theorem je_glob {x : Str} {v : V} {m : A} {u : Value} {pos : Pos} (c : Cst X.K m v) (hm : X.mg x = some u) (r : RelV v u) (hg : Gl X x := by rfl) (hd : (x == ("__debug__" : Str)) = false := by decide) : JE X (.Name x pos) (eC m) := je_C (pe_glob hg hm r hd) c
theorem je_ty {x : Str} {n : String} {pos : Pos} (hm : X.mg x = none) (hv : bootBuiltins x = some (.type n)) (hg : Gl X x := by rfl) (hn : x ≠ "__name__" := by decide) (hd : (x == ("__debug__" : Str)) = false := by decide) : JE X (.Name x pos) (eC (.ty n)) :=
  je_C (pe_bltn (v := .ty n) hg hm hv rfl hn hd) fun _ _ => .ty n
def eOp (f : A → A → AHp → Rs A) (ma mb : ME) : ME := fun τ h => (ma τ h).bind fun p => (mb τ p.2).bind fun q => f p.1 q.1 q.2
def OpOk (K : PySem.W.Frag) (f : A → A → AHp → Rs A) (r : R2) : Prop := ∀ ρ H h a b c h' x y (Q : VK), RelH K ρ H h → Rep K ρ H a x → Rep K ρ H b y → f a b h = some (c, h') →
  (∀ ρ' H' v, Up K ρ H ρ' H' → RelH K ρ' H' h' → Rep K ρ' H' c v → Q v H') → r x y H Q
theorem imp_op {K : PySem.W.Frag} {ma mb : ME} {f : A → A → AHp → Rs A} {r : R2} (o : OpOk K f r) (σ : L2.St) (H : Hp) (Q : VK) (q : tE K (eOp f ma mb) σ H Q) : tOp r (tE K ma) (tE K mb) σ H Q := by
  obtain ⟨ρ, τ, h, c, h', R, S, e, k⟩ := q
  obtain ⟨⟨x, h1⟩, e1, e⟩ := bindS e
  obtain ⟨⟨y, h2⟩, e2, e⟩ := bindS e
  refine ⟨ρ, τ, h, x, h1, R, S, e1, fun ρ1 H1 v1 u1 R1 r1 => ⟨ρ1, τ, h1, y, h2, R1, S.up u1, e2, fun ρ2 H2 v2 u2 R2 r2 => ?_⟩⟩
  exact o ρ2 H2 h2 x y c h' v1 v2 Q R2 (r1.up u2) r2 e fun ρ3 H3 v u3 R3 r3 => k ρ3 H3 v ((u1.trans u2).trans u3) R3 r3
theorem je_op {op : Operator} {ma mb : ME} {f : A → A → AHp → Rs A} {r : R2} (ho : OpR X (binaryOp op) r) (o : OpOk X.K f r) (ha : JE X a ma) (hb : JE X b mb) : JE X (.BinOp a op b pos) (eOp f ma mb) := ⟨PE_imp (pe_op ho ha.pf hb.pf) (imp_op o)⟩
theorem je_cmp {op : CmpOp} {ma mb : ME} {f : A → A → AHp → Rs A} {r : R2} (ho : OpR X (compareOp op) r) (o : OpOk X.K f r) (ha : JE X a ma) (hb : JE X b mb)
    (hm : behindInMarks op b = false := by first | exact nomark _ | with_unfolding_all rfl) : JE X (.Compare a [op] [b] pos) (eOp f ma mb) := ⟨PE_imp (pe_cmpR ho ha.pf hb.pf hm) (imp_op o)⟩
theorem je_ix {ma mb : ME} {f : A → A → AHp → Rs A} {r : R2} (ho : IxR X r) (o : OpOk X.K f r) (ha : JE X a ma) (hb : JE X b mb) (hs : PlainIx b := by exact fun _ _ => rfl) : JE X (.Subscript a b pos) (eOp f ma mb) := ⟨PE_imp (pe_ix ho ha.pf hb.pf hs) (imp_op o)⟩
def eUn (f : A → AHp → Rs A) (ma : ME) : ME := fun τ h => (ma τ h).bind fun p => f p.1 p.2
def UnOk (K : PySem.W.Frag) (f : A → AHp → Rs A) (r : V → Hp → VK → Prop) : Prop := ∀ ρ H h a c h' x (Q : VK), RelH K ρ H h → Rep K ρ H a x → f a h = some (c, h') →
  (∀ ρ' H' v, Up K ρ H ρ' H' → RelH K ρ' H' h' → Rep K ρ' H' c v → Q v H') → r x H Q
theorem je_un {op : UnaryOp} {ma : ME} {f : A → AHp → Rs A} {r : V → Hp → VK → Prop} (ho : UnR X (unaryOp op) r) (o : UnOk X.K f r) (ha : JE X a ma) : JE X (.UnaryOp op a pos) (eUn f ma) := ⟨PE_imp (pe_un ho ha.pf) fun σ H Q q => by
  obtain ⟨ρ, τ, h, c, h', R, S, e, k⟩ := q
  obtain ⟨⟨x, h1⟩, e1, e⟩ := bindS e
  exact ⟨ρ, τ, h, x, h1, R, S, e1, fun ρ1 H1 v1 u1 R1 r1 => o ρ1 H1 h1 x c h' v1 Q R1 r1 e fun ρ3 H3 v u3 R3 r3 => k ρ3 H3 v (u1.trans u3) R3 r3⟩⟩
def eChain (f g : A → A → AHp → Rs A) (ma mb mc : ME) : ME := fun τ h => (ma τ h).bind fun p => (mb τ p.2).bind fun q => (f p.1 q.1 q.2).bind fun z => match z.1 with
  | .bl true => (mc τ z.2).bind fun w => g q.1 w.1 w.2
  | .bl false => some (.bl false, z.2)
  | _ => none
theorem imp_chain {K : PySem.W.Frag} {ma mb mc : ME} {f g : A → A → AHp → Rs A} {r r' : R2} (o : OpOk K f r) (o' : OpOk K g r') (σ : L2.St) (H : Hp) (Q : VK) (q : tE K (eChain f g ma mb mc) σ H Q) : tChain r r' (tE K ma) (tE K mb) (tE K mc) σ H Q := by
  obtain ⟨ρ, τ, h, d, h', R, S, e, k⟩ := q
  obtain ⟨⟨x, h1⟩, e1, e⟩ := bindS e
  obtain ⟨⟨y, h2⟩, e2, e⟩ := bindS e
  obtain ⟨⟨z, h3⟩, e3, e⟩ := bindS e
  refine ⟨ρ, τ, h, x, h1, R, S, e1, fun ρ1 H1 v1 u1 R1 r1 => ⟨ρ1, τ, h1, y, h2, R1, S.up u1, e2, fun ρ2 H2 v2 u2 R2 r2 => ?_⟩⟩
  refine o ρ2 H2 h2 x y z h3 v1 v2 _ R2 (r1.up u2) r2 e3 fun ρ3 H3 v3 u3 R3 r3 => ?_
  dsimp only at e
  split at e
  · cases r3
    obtain ⟨⟨w, h4⟩, e4, e⟩ := bindS e
    refine ⟨true, rfl, ?_⟩
    rw [if_pos rfl]
    exact ⟨ρ3, τ, h3, w, h4, R3, S.up ((u1.trans u2).trans u3), e4, fun ρ4 H4 v4 u4 R4 r4 => o' ρ4 H4 h4 y w d h' v2 v4 Q R4 (r2.up (u3.trans u4)) r4 e fun ρ5 H5 v u5 R5 r5 => k ρ5 H5 v (((u1.trans u2).trans u3).trans (u4.trans u5)) R5 r5⟩
  · cases r3
    cases e
    refine ⟨false, rfl, ?_⟩
    rw [if_neg Bool.false_ne_true]
    exact k ρ3 H3 _ ((u1.trans u2).trans u3) R3 (.bl false)
  · cases e
theorem je_chain {op op' : CmpOp} {ma mb mc : ME} {f g : A → A → AHp → Rs A} {r r' : R2} (ho : OpR X (compareOp op) r) (o : OpOk X.K f r) (ho' : OpR X (compareOp op') r') (o' : OpOk X.K g r') (ha : JE X a ma) (hb : JE X b mb) (hc : JE X c mc)
    (hm : lastMarks [op, op'] [b, c] = false := by with_unfolding_all rfl) : JE X (.Compare a [op, op'] [b, c] pos) (eChain f g ma mb mc) := ⟨PE_imp (pe_chain ho ho' ha.pf hb.pf hc.pf hm) (imp_chain o o')⟩
def tru : A → AHp → Option Bool
  | .non, _ => some false
  | .bl b, _ => some b
  | .int i, _ => some (i != 0)
  | .str x, _ => if x.length ≤ 100000 then some (x.length != 0) else none
  | .tup xs, _ => some (!xs.isEmpty)
  | .ro xs, _ => some (!xs.isEmpty)
  | .loc n, h => match h[n]? with | some (.lst xs) => some (!xs.isEmpty) | _ => none
  | _, _ => none
def mTru (ma : ME) : MT := fun τ h => (ma τ h).bind fun p => (tru p.1 p.2).bind fun b => some (b, p.2)
theorem isEmpty_reps {K : PySem.W.Frag} {ρ : List Addr} {H : Hp} {xs : List A} {vs : List V} (r : Reps K ρ H xs vs) : xs.isEmpty = vs.isEmpty := by cases r <;> rfl
theorem lim_le {n : Nat} (h : n ≤ 100000) : n ≤ sizeLine := Nat.le_trans h (by decide)
theorem tru_ok' {K : PySem.W.Frag} {ρ : List Addr} {H : Hp} {h : AHp} {a : A} {b : Bool} {v : V} (R : RelH K ρ H h) (r : Rep K ρ H a v) (e : tru a h = some b) : TruV K v H b := by
  cases r with
  | non => cases e; rfl
  | bl b => cases e; rfl
  | int i => cases e; rfl
  | str x =>
    change (if x.length ≤ 100000 then some (x.length != 0) else none) = some b at e
    split at e
    · rename_i hx
      cases e
      exact ⟨lim_le hx, by rw [Bool.eq_iff_iff]; simp⟩
    · cases e
  | ty n => cases e
  | tup hs rs =>
    cases e
    exact .inr (.inl ⟨_, hs, by rw [isEmpty_reps rs]⟩)
  | ro hs rs =>
    cases e
    exact .inl ⟨_, hs.sq, by rw [isEmpty_reps rs]⟩
  | @loc n p hn =>
    change (match h[n]? with | some (.lst xs) => some (!xs.isEmpty) | _ => none) = some b at e
    split at e
    · rename_i xs hx
      cases e
      obtain ⟨vs, h1, h2⟩ := R.obj _ _ _ hn hx
      exact .inl ⟨vs, SqL.of h1, by rw [isEmpty_reps h2]⟩
    · cases e
  | raw a => cases e
theorem imp_tru {K : PySem.W.Frag} {ma : ME} (σ : L2.St) (H : Hp) (Q : Bool → Hp → Prop) (q : tT K (mTru ma) σ H Q) : tE K ma σ H fun x H' => ∃ k, TruV K x H' k ∧ Q k H' := by
  obtain ⟨ρ, τ, h, d, h', R, S, e, k⟩ := q
  obtain ⟨⟨x, h1⟩, e1, e⟩ := bindS e
  obtain ⟨b, e2, e⟩ := bindS e
  cases e
  exact ⟨ρ, τ, h, x, h1, R, S, e1, fun ρ1 H1 v1 u1 R1 r1 => ⟨d, tru_ok' R1 r1 e2, k ρ1 H1 u1 R1⟩⟩
theorem jt_val {ma : ME} (ha : JE X a ma) (he : ∀ whole, isTrue a X.env whole = (do let v ← whole; standAt a.pos; holding [v] (truthy v)) := by intro _; rfl) : JT X a (mTru ma) := ⟨PT_imp (pt_truth ha.pf he) imp_tru⟩
def mB (ma : ME) : MT := fun τ h => (ma τ h).bind fun p => match p.1 with | .bl b => some (b, p.2) | _ => none
theorem imp_b {K : PySem.W.Frag} {ma : ME} (σ : L2.St) (H : Hp) (Q : Bool → Hp → Prop) (q : tT K (mB ma) σ H Q) : tE K ma σ H fun x H' => ∃ k, x = .bl k ∧ Q k H' := by
  obtain ⟨ρ, τ, h, d, h', R, S, e, k⟩ := q
  obtain ⟨⟨x, h1⟩, e1, e⟩ := bindS e
  dsimp only at e
  split at e
  · cases e
    refine ⟨ρ, τ, h, _, _, R, S, e1, fun ρ1 H1 v1 u1 R1 r1 => ?_⟩
    cases r1
    exact ⟨d, rfl, k ρ1 H1 u1 R1⟩
  · cases e
theorem jt_cmp {op : CmpOp} {ma mb : ME} {f : A → A → AHp → Rs A} {r : R2} (ho : OpR X (compareOp op) r) (o : OpOk X.K f r) (ha : JE X a ma) (hb : JE X b mb)
    (hm : behindInMarks op b = false := by first | exact nomark _ | with_unfolding_all rfl) : JT X (.Compare a [op] [b] pos) (mB (eOp f ma mb)) := ⟨PT_imp (pt_cmpR ho ha.pf hb.pf hm) fun σ H Q q => imp_op o σ H _ (imp_b σ H Q q)⟩
theorem jt_chain {op op' : CmpOp} {ma mb mc : ME} {f g : A → A → AHp → Rs A} {r r' : R2} (ho : OpR X (compareOp op) r) (o : OpOk X.K f r) (ho' : OpR X (compareOp op') r') (o' : OpOk X.K g r') (ha : JE X a ma) (hb : JE X b mb) (hc : JE X c mc)
    (hm : lastMarks [op, op'] [b, c] = false := by with_unfolding_all rfl) : JT X (.Compare a [op, op'] [b, c] pos) (mB (eChain f g ma mb mc)) := ⟨PT_imp (pt_chain ho ho' ha.pf hb.pf hc.pf hm) fun σ H Q q => imp_chain o o' σ H _ (imp_b σ H Q q)⟩
def mAnd (m n : MT) : MT := fun τ h => (m τ h).bind fun p => if p.1 = true then n τ p.2 else some (false, p.2)
def mOr (m n : MT) : MT := fun τ h => (m τ h).bind fun p => if p.1 = true then some (true, p.2) else n τ p.2
def mNot (m : MT) : MT := fun τ h => (m τ h).bind fun p => some (!p.1, p.2)
variable {m n : MT} {rest : List Expr}
theorem jw_and1 (ha : JT X a m) : JW X (.BoolOp .And [a] pos) m := ⟨pw_and1 ha.pf⟩
theorem jw_or1 (ha : JT X a m) : JW X (.BoolOp .Or [a] pos) m := ⟨pw_or1 ha.pf⟩
theorem jw_and (ha : JT X a m) (hb : JW X (.BoolOp .And (b :: rest) pos) n) : JW X (.BoolOp .And (a :: b :: rest) pos) (mAnd m n) := ⟨PW_imp (pw_and ha.pf hb.pf) fun σ H Q q => by
  obtain ⟨ρ, τ, h, d, h', R, S, e, k⟩ := q
  obtain ⟨⟨x, h1⟩, e1, e⟩ := bindS e
  refine ⟨ρ, τ, h, x, h1, R, S, e1, fun ρ1 H1 u1 R1 => ?_⟩
  cases x with
  | true =>
    rw [if_pos rfl]
    exact ⟨ρ1, τ, h1, d, h', R1, S.up u1, e, fun ρ2 H2 u2 R2 => k ρ2 H2 (u1.trans u2) R2⟩
  | false =>
    rw [if_neg Bool.false_ne_true]
    cases e
    exact k ρ1 H1 u1 R1⟩
theorem jw_or (ha : JT X a m) (hb : JW X (.BoolOp .Or (b :: rest) pos) n) : JW X (.BoolOp .Or (a :: b :: rest) pos) (mOr m n) := ⟨PW_imp (pw_or ha.pf hb.pf) fun σ H Q q => by
  obtain ⟨ρ, τ, h, d, h', R, S, e, k⟩ := q
  obtain ⟨⟨x, h1⟩, e1, e⟩ := bindS e
  refine ⟨ρ, τ, h, x, h1, R, S, e1, fun ρ1 H1 u1 R1 => ?_⟩
  cases x with
  | true =>
    rw [if_pos rfl]
    cases e
    exact k ρ1 H1 u1 R1
  | false =>
    rw [if_neg Bool.false_ne_true]
    exact ⟨ρ1, τ, h1, d, h', R1, S.up u1, e, fun ρ2 H2 u2 R2 => k ρ2 H2 (u1.trans u2) R2⟩⟩
theorem jt_w (h : JW X a m) : JT X a m := ⟨PW.pt h.pf⟩
theorem jt_not (ha : JT X a m) : JT X (.UnaryOp .Not a pos) (mNot m) := ⟨PT_imp (pt_not ha.pf) fun σ H Q q => by
  obtain ⟨ρ, τ, h, d, h', R, S, e, k⟩ := q
  obtain ⟨⟨x, h1⟩, e1, e⟩ := bindS e
  cases e
  exact ⟨ρ, τ, h, x, h1, R, S, e1, fun ρ1 H1 u1 R1 => k ρ1 H1 u1 R1⟩⟩
def eAnd (ma mb : ME) : ME := fun τ h => (ma τ h).bind fun p => match p.1 with | .bl true => mb τ p.2 | .bl false => some (.bl false, p.2) | _ => none
def eOr (ma mb : ME) : ME := fun τ h => (ma τ h).bind fun p => match p.1 with | .bl false => mb τ p.2 | .bl true => some (.bl true, p.2) | _ => none
def eNot (ma : ME) : ME := fun τ h => (ma τ h).bind fun p => match p.1 with | .bl b => some (.bl (!b), p.2) | _ => none
variable {ma mb mc : ME}
theorem je_one {op : BoolOp} (ha : JE X a ma) : JE X (.BoolOp op [a] pos) ma := ⟨pe_one ha.pf⟩
theorem je_and (ha : JE X a ma) (hb : JE X (.BoolOp .And (b :: rest) pos) mb) : JE X (.BoolOp .And (a :: b :: rest) pos) (eAnd ma mb) := ⟨PE_imp (pe_and ha.pf hb.pf) fun σ H Q q => by
  obtain ⟨ρ, τ, h, d, h', R, S, e, k⟩ := q
  obtain ⟨⟨x, h1⟩, e1, e⟩ := bindS e
  refine ⟨ρ, τ, h, x, h1, R, S, e1, fun ρ1 H1 v1 u1 R1 r1 => ?_⟩
  dsimp only at e
  split at e
  · cases r1
    refine ⟨true, rfl, ?_⟩
    rw [if_pos rfl]
    exact ⟨ρ1, τ, h1, d, h', R1, S.up u1, e, fun ρ2 H2 v u2 R2 r2 => k ρ2 H2 v (u1.trans u2) R2 r2⟩
  · cases r1
    cases e
    refine ⟨false, rfl, ?_⟩
    rw [if_neg Bool.false_ne_true]
    exact k ρ1 H1 _ u1 R1 (.bl false)
  · cases e⟩
theorem je_or (ha : JE X a ma) (hb : JE X (.BoolOp .Or (b :: rest) pos) mb) : JE X (.BoolOp .Or (a :: b :: rest) pos) (eOr ma mb) := ⟨PE_imp (pe_or ha.pf hb.pf) fun σ H Q q => by
  obtain ⟨ρ, τ, h, d, h', R, S, e, k⟩ := q
  obtain ⟨⟨x, h1⟩, e1, e⟩ := bindS e
  refine ⟨ρ, τ, h, x, h1, R, S, e1, fun ρ1 H1 v1 u1 R1 r1 => ?_⟩
  dsimp only at e
  split at e
  · cases r1
    refine ⟨false, rfl, ?_⟩
    rw [if_neg Bool.false_ne_true]
    exact ⟨ρ1, τ, h1, d, h', R1, S.up u1, e, fun ρ2 H2 v u2 R2 r2 => k ρ2 H2 v (u1.trans u2) R2 r2⟩
  · cases r1
    cases e
    refine ⟨true, rfl, ?_⟩
    rw [if_pos rfl]
    exact k ρ1 H1 _ u1 R1 (.bl true)
  · cases e⟩
theorem je_not (ha : JE X a ma) : JE X (.UnaryOp .Not a pos) (eNot ma) := ⟨PE_imp (pe_not ha.pf) fun σ H Q q => by
  obtain ⟨ρ, τ, h, d, h', R, S, e, k⟩ := q
  obtain ⟨⟨x, h1⟩, e1, e⟩ := bindS e
  refine ⟨ρ, τ, h, x, h1, R, S, e1, fun ρ1 H1 v1 u1 R1 r1 => ?_⟩
  dsimp only at e
  split at e
  · cases r1
    cases e
    exact ⟨_, rfl, k ρ1 H1 _ u1 R1 (.bl _)⟩
  · cases e⟩
def eIf (m : MT) (ma mb : ME) : ME := fun τ h => (m τ h).bind fun p => if p.1 = true then ma τ p.2 else mb τ p.2
def aNil : MA := fun _ h => some ([], h)
def aCons (ma : ME) (ms : MA) : MA := fun τ h => (ma τ h).bind fun p => (ms τ p.2).bind fun q => some (p.1 :: q.1, q.2)
def eTup (ms : MA) : ME := fun τ h => (ms τ h).bind fun p => if p.1.length ≤ 100000 then some (.tup p.1, p.2) else none
def eLst (ms : MA) : ME := fun τ h => (ms τ h).bind fun p => if p.1.length ≤ 100000 then some (.loc p.2.length, p.2 ++ [.lst p.1]) else none
variable {ms : MA}
theorem ja_nil : JA X [] aNil := ⟨PA_imp pa_nil fun σ H Q q => by
  obtain ⟨ρ, τ, h, d, h', R, S, e, k⟩ := q
  cases e
  exact k ρ H [] Up.refl R .nil⟩
theorem ja_cons (ha : JE X e ma) (hr : JA X es ms) (hs : starEach (e :: es) X.env = (false, eval e X.env) :: starEach es X.env := by rfl) : JA X (e :: es) (aCons ma ms) := ⟨PA_imp (pa_cons ha.pf hr.pf hs) fun σ H Q q => by
  obtain ⟨ρ, τ, h, d, h', R, S, e, k⟩ := q
  obtain ⟨⟨x, h1⟩, e1, e⟩ := bindS e
  obtain ⟨⟨y, h2⟩, e2, e⟩ := bindS e
  cases e
  exact ⟨ρ, τ, h, x, h1, R, S, e1, fun ρ1 H1 v1 u1 R1 r1 => ⟨ρ1, τ, h1, y, _, R1, S.up u1, e2, fun ρ2 H2 v2 u2 R2 r2 => k ρ2 H2 _ (u1.trans u2) R2 (.cons (r1.up u2) r2)⟩⟩⟩
theorem je_tup {k1 : Nat} (h : JA X es ms) : JE X (.Tuple es k1 pos) (eTup ms) := ⟨PE_imp (pe_tup h.pf) fun σ H Q q => by
  obtain ⟨ρ, τ, h, d, h', R, S, e, k⟩ := q
  obtain ⟨⟨x, h1⟩, e1, e⟩ := bindS e
  dsimp only at e
  split at e
  · rename_i hl
    cases e
    refine ⟨ρ, τ, h, x, _, R, S, e1, fun ρ1 H1 v1 u1 R1 r1 => ⟨by rw [← r1.length]; exact lim_le hl, fun p hp => ?_⟩⟩
    obtain ⟨u2, R2, r2⟩ := R1.tuple hp r1
    exact k _ _ _ (u1.trans u2) R2 r2
  · cases e⟩
theorem je_lst (h : JA X es ms) : JE X (.List es pos) (eLst ms) := ⟨PE_imp (pe_lst h.pf) fun σ H Q q => by
  obtain ⟨ρ, τ, h, d, h', R, S, e, k⟩ := q
  obtain ⟨⟨x, h1⟩, e1, e⟩ := bindS e
  dsimp only at e
  split at e
  · rename_i hl
    cases e
    refine ⟨ρ, τ, h, x, _, R, S, e1, fun ρ1 H1 v1 u1 R1 r1 => ⟨by rw [← r1.length]; exact lim_le hl, fun p hp => ?_⟩⟩
    obtain ⟨u2, R2, r2⟩ := R1.alloc hp r1
    exact k _ _ _ (u1.trans u2) R2 r2
  · cases e⟩
def eCall (F : MF) (ms : MA) : ME := fun τ h => (ms τ h).bind fun p => F p.1 p.2
def spF (K : PySem.W.Frag) (F : MF) (n : Nat) : Sp := fun vs H Q _ => vs.length = n ∧ ∃ ρ as h a h', RelH K ρ H h ∧ Reps K ρ H as vs ∧ F as h = some (a, h') ∧ ∀ ρ' H' v, Up K ρ H ρ' H' → RelH K ρ' H' h' → Rep K ρ' H' a v → Q v H'
theorem imp_call {K : PySem.W.Frag} {F : MF} {n : Nat} {E : XK} (hn : ∀ τ h p, ms τ h = some p → p.1.length = n) (σ : L2.St) (H : Hp) (Q : VK) (q : tE K (eCall F ms) σ H Q) : tCall (spF K F n) [] E (tA K ms) σ H Q := by
  obtain ⟨ρ, τ, h, d, h', R, S, e, k⟩ := q
  obtain ⟨⟨x, h1⟩, e1, e⟩ := bindS e
  refine ⟨ρ, τ, h, x, h1, R, S, e1, fun ρ1 H1 v1 u1 R1 r1 => ?_⟩
  show spF K F n (v1 ++ []) H1 Q E
  rw [List.append_nil]
  exact ⟨by rw [← r1.length]; exact hn _ _ _ e1, ρ1, x, h1, d, h', R1, r1, e, fun ρ2 H2 v u2 R2 r2 => k ρ2 H2 v (u1.trans u2) R2 r2⟩
theorem len_nil : ∀ (τ : ASt) (h : AHp) (p : List A × AHp), aNil τ h = some p → p.1.length = 0 := by
  intro τ h p e; cases e; rfl
theorem len_cons {n : Nat} (i : ∀ (τ : ASt) (h : AHp) (p : List A × AHp), ms τ h = some p → p.1.length = n) : ∀ (τ : ASt) (h : AHp) (p : List A × AHp), aCons ma ms τ h = some p → p.1.length = n + 1 := by
  intro τ h p e
  obtain ⟨⟨x, h1⟩, e1, e⟩ := bindS e
  obtain ⟨⟨y, h2⟩, e2, e⟩ := bindS e
  cases e
  show y.length + 1 = n + 1
  rw [i _ _ _ e2]
theorem je_call {k n : Nat} {f : Addr} {fd : FuncData} {ps : List Str} {F : MF} {x : Str} {p : Pos} (hF : FnOk X.prog X.w X.K X.mg X.base CX0 k f fd ps (spF X.K F n)) (hr : Room k X.A) (hm : X.mg x = some (.ref f)) (hk : PySem.W.keepIn X.K (.ref f) = true)
    (hb : Binds X.K fd ps []) (ha : JA X (e :: es) ms) (hn : ∀ (τ : ASt) (h : AHp) (p : List A × AHp), ms τ h = some p → p.1.length = n := by repeat (first | exact len_nil | refine len_cons ?_))
    (hg : Gl X x := by rfl) (hdb : (x == ("__debug__" : Str)) = false := by decide) (he : starEach (e :: es) X.env = (false, eval e X.env) :: starEach es X.env := by rfl) (hpl : (backTo pos (starEach es X.env)).any (·.1) = false := by rfl) :
    JE X (.Call (.Name x p) (e :: es) [] pos) (eCall F ms) := ⟨PE_imp (pe_call (E := E0) hF hr hg hm hk hb .nil (fun _ _ _ _ _ _ _ h => h.elim) ha.pf hdb he hpl) (imp_call hn)⟩
def CallOk (K : PySem.W.Frag) (F : MF) (r : List V → Hp → VK → Prop) : Prop := ∀ ρ H h as c h' xs (Q : VK), RelH K ρ H h → Reps K ρ H as xs → F as h = some (c, h') →
  (∀ ρ' H' v, Up K ρ H ρ' H' → RelH K ρ' H' h' → Rep K ρ' H' c v → Q v H') → r xs H Q
theorem imp_cb {K : PySem.W.Frag} {F : MF} {r : List V → Hp → VK → Prop} (o : CallOk K F r) (σ : L2.St) (H : Hp) (Q : VK) (q : tE K (eCall F ms) σ H Q) : tCB r (tA K ms) σ H Q := by
  obtain ⟨ρ, τ, h, d, h', R, S, e, k⟩ := q
  obtain ⟨⟨x, h1⟩, e1, e⟩ := bindS e
  exact ⟨ρ, τ, h, x, h1, R, S, e1, fun ρ1 H1 v1 u1 R1 r1 => o ρ1 H1 h1 x d h' v1 Q R1 r1 e fun ρ2 H2 v u2 R2 r2 => k ρ2 H2 v (u1.trans u2) R2 r2⟩
theorem je_callB {x : Str} {p : Pos} {id : String} {F : MF} {r : List V → Hp → VK → Prop} (hc : CallR X (.builtin id) r) (o : CallOk X.K F r) (hm : X.mg x = none) (hv : bootBuiltins x = some (.builtin id)) (ha : JA X (e :: es) ms) (hg : Gl X x := by rfl) (hn : x ≠ "__name__" := by decide) (hdb : (x == ("__debug__" : Str)) = false := by decide)
    (he : starEach (e :: es) X.env = (false, eval e X.env) :: starEach es X.env := by rfl) (hpl : (backTo pos (starEach es X.env)).any (·.1) = false := by rfl) : JE X (.Call (.Name x p) (e :: es) [] pos) (eCall F ms) := ⟨PE_imp (pe_callB hc hg hm hv ha.pf hn hdb he hpl) (imp_cb o)⟩
theorem je_callT {x : Str} {p : Pos} {T : String} {F : MF} {r : List V → Hp → VK → Prop} (hc : CallR X (.type T) r) (o : CallOk X.K F r) (hm : X.mg x = none) (hv : bootBuiltins x = some (.type T)) (ha : JA X (e :: es) ms) (hg : Gl X x := by rfl) (hn : x ≠ "__name__" := by decide) (hdb : (x == ("__debug__" : Str)) = false := by decide)
    (he : starEach (e :: es) X.env = (false, eval e X.env) :: starEach es X.env := by rfl) (hpl : (backTo pos (starEach es X.env)).any (·.1) = false := by rfl) : JE X (.Call (.Name x p) (e :: es) [] pos) (eCall F ms) := ⟨PE_imp (pe_callTy hc hg hm hv ha.pf hn hdb he hpl) (imp_cb o)⟩
end
end Ab
set_option Elab.async false
set_option linter.all false
set_option maxRecDepth 100000
namespace Ab
open PySem PySem.Spec PyProof.Rows L2
set_option autoImplicit false
set_option relaxedAutoImplicit false
def sNx : MS := fun τ h => some (.nx τ, h)
def sSeq (a b : MS) : MS := fun τ h => (a τ h).bind fun p => match p.1 with | .nx τ1 => b τ1 p.2 | f => some (f, p.2)
def sRet (ma : ME) : MS := fun τ h => (ma τ h).bind fun p => some (.rt p.1, p.2)
def sRetN : MS := fun _ h => some (.rt .non, h)
def sIf (m : MT) (a b : MS) : MS := fun τ h => (m τ h).bind fun p => if p.1 = true then a τ p.2 else b τ p.2
def sX (ma : ME) : MS := fun τ h => (ma τ h).bind fun p => some (.nx τ, p.2)
def sNo : MS := fun _ _ => none
def sBk : MS := fun τ h => some (.bk τ, h)
def sCt : MS := fun τ h => some (.ct τ, h)
abbrev MG := A → ASt → AHp → Option (ASt × AHp)
def gN (i : Nat) : MG := fun a τ h => some (τ.set i (some a), h)
def gT (i j : Nat) : MG := fun a τ h => match a with | .tup [x, y] => some ((τ.set i (some x)).set j (some y), h) | _ => none
def gT3 (i j k : Nat) : MG := fun a τ h => match a with | .tup [x, y, z] => some (((τ.set i (some x)).set j (some y)).set k (some z), h) | _ => none
def gIx (mo mi : ME) (f : A → A → A → AHp → Option AHp) : MG := fun a τ h => (mo τ h).bind fun p => (mi τ p.2).bind fun q => (f p.1 q.1 a q.2).bind fun h' => some (τ, h')
def sAsg (ma : ME) (g : MG) : MS := fun τ h => (ma τ h).bind fun p => (g p.1 τ p.2).bind fun q => some (.nx q.1, q.2)
def tG (K : PySem.W.Frag) (g : MG) : TG := fun v σ H Q => ∃ ρ τ h a τ' h', RelH K ρ H h ∧ RelS K ρ H σ τ ∧ Rep K ρ H a v ∧ g a τ h = some (τ', h') ∧ ∀ ρ' H' σ', Up K ρ H ρ' H' → RelH K ρ' H' h' → RelS K ρ' H' σ' τ' → Q σ' H'
structure JG (X : Cx) (e : Expr) (g : MG) : Prop where
  pf : PG X e (tG X.K g)
section
variable {X : Cx} {a b c e o i : Expr} {es : List Expr} {pos : Pos} {st : Stmt} {sts body : List Stmt} {m : MT} {ma mb mo mi : ME} {s t : MS} {g : MG}
theorem PG_imp {t t' : TG} (h : PG X e t) (i : ∀ v σ H Q, t' v σ H Q → t v σ H Q) : PG X e t' := fun pins s σ H v u Q I r q => h pins s σ H v u Q I r (i v σ H Q q)
theorem jb_nil : JB X [] sNx := ⟨PSs_imp pss_nil fun D σ H q => by
  obtain ⟨ρ, τ, h, f, h', R, S, e, k⟩ := q
  cases e
  exact k ρ H Up.refl R σ S⟩
theorem jb_cons (h1 : JS X st s) (h2 : JB X sts t) : JB X (st :: sts) (sSeq s t) := ⟨PSs_imp (pss_cons h1.pf h2.pf) fun D σ H q => by
  obtain ⟨ρ, τ, h, f, h', R, S, e, k⟩ := q
  obtain ⟨⟨x, h1⟩, e1, e⟩ := bindS e
  refine ⟨ρ, τ, h, x, h1, R, S, e1, fun ρ1 H1 u1 R1 => ?_⟩
  cases x with
  | nx τ1 =>
    intro σ1 S1
    exact ⟨ρ1, τ1, h1, f, h', R1, S1, e, fun ρ2 H2 u2 R2 => k ρ2 H2 (u1.trans u2) R2⟩
  | rt a => cases e; exact k ρ1 H1 u1 R1
  | bk τ1 => cases e; exact k ρ1 H1 u1 R1
  | ct τ1 => cases e; exact k ρ1 H1 u1 R1⟩
theorem jb_one (h1 : JS X st s) : JB X [st] s := ⟨pss_one h1.pf⟩
theorem js_no : JS X st sNo := ⟨PS_imp ps_never fun D σ H q => by
  obtain ⟨ρ, τ, h, f, h', R, S, e, k⟩ := q
  cases e⟩
theorem js_x (ha : JE X e ma) (hs : swapsWith e none pos.line X.env = pure false := by rfl) : JS X (.Expr e pos) (sX ma) := ⟨PS_imp (ps_expr ha.pf hs) fun D σ H q => by
  obtain ⟨ρ, τ, h, f, h', R, S, e, k⟩ := q
  obtain ⟨⟨x, h1⟩, e1, e⟩ := bindS e
  cases e
  exact ⟨ρ, τ, h, x, _, R, S, e1, fun ρ1 H1 v1 u1 R1 r1 => k ρ1 H1 u1 R1 σ (S.up u1)⟩⟩
theorem js_ret (ha : JE X e ma) : JS X (.Return (some e) pos) (sRet ma) := ⟨PS_imp (ps_ret ha.pf) fun D σ H q => by
  obtain ⟨ρ, τ, h, f, h', R, S, e, k⟩ := q
  obtain ⟨⟨x, h1⟩, e1, e⟩ := bindS e
  cases e
  exact ⟨ρ, τ, h, x, _, R, S, e1, fun ρ1 H1 v1 u1 R1 r1 => k ρ1 H1 u1 R1 v1 r1⟩⟩
theorem js_if (hc : JT X c m) (ha : JB X sts s) (hb : JB X body t) : JS X (.If c sts body pos) (sIf m s t) := ⟨PS_imp (ps_if hc.pf ha.pf hb.pf) fun D σ H q => by
  obtain ⟨ρ, τ, h, f, h', R, S, e, k⟩ := q
  obtain ⟨⟨x, h1⟩, e1, e⟩ := bindS e
  refine ⟨ρ, τ, h, x, h1, R, S, e1, fun ρ1 H1 u1 R1 => ?_⟩
  cases x with
  | true =>
    rw [if_pos rfl]
    exact ⟨ρ1, τ, h1, f, h', R1, S.up u1, e, fun ρ2 H2 u2 R2 => k ρ2 H2 (u1.trans u2) R2⟩
  | false =>
    rw [if_neg Bool.false_ne_true]
    exact ⟨ρ1, τ, h1, f, h', R1, S.up u1, e, fun ρ2 H2 u2 R2 => k ρ2 H2 (u1.trans u2) R2⟩⟩
theorem jg_name (j : Nat) {x : Str} (hN : X.N.Nodup) (hi : X.N[j]? = some x := by rfl) (hx : Loc X.env.scope x := by first | exact Or.inl rfl | exact Or.inr rfl) (hf : X.fn x = true ∨ X.env.scope.names.lookup x = some .local := by first | exact .inl rfl | exact .inr rfl) : JG X (.Name x pos) (gN j) := ⟨PG_imp (pg_name (i := j) hN hi hx hf) fun v σ H Q q => by
  obtain ⟨ρ, τ, h, a, τ', h', R, S, r, e, k⟩ := q
  cases e
  exact k ρ H _ Up.refl R (S.set r)⟩
theorem jg_tup {x y : Str} {p1 p2 : Pos} {kk : Nat} (j k : Nat) (hc : X.calm = true) (hN : X.N.Nodup) (hi : X.N[j]? = some x := by rfl) (hj : X.N[k]? = some y := by rfl) (hx : Loc X.env.scope x := by first | exact Or.inl rfl | exact Or.inr rfl) (hy : Loc X.env.scope y := by first | exact Or.inl rfl | exact Or.inr rfl)
    (hf : X.fn x = true ∨ X.env.scope.names.lookup x = some .local := by first | exact .inl rfl | exact .inr rfl) (hf2 : X.fn y = true ∨ X.env.scope.names.lookup y = some .local := by first | exact .inl rfl | exact .inr rfl) : JG X (.Tuple [.Name x p1, .Name y p2] kk pos) (gT j k) :=
  ⟨PG_imp (pg_tup (n := 2) hc (pgs_cons (pg_name (i := j) hN hi hx hf) (pgs_cons (pg_name (i := k) hN hj hy hf2) pgs_nil))) fun v σ H Q q => by
  obtain ⟨ρ, τ, h, a, τ', h', R, S, r, e, k⟩ := q
  unfold gT at e
  split at e
  · cases e
    cases r with
    | tup hs rs =>
      cases rs with
      | cons r1 rs =>
        cases rs with
        | cons r2 rs =>
          cases rs
          exact ⟨_, _, rfl, hs, rfl, _, _, rfl, _, _, rfl, rfl, k ρ H _ Up.refl R ((S.set r1).set r2)⟩
  · cases e⟩
def SetOk (K : PySem.W.Frag) (f : A → A → A → AHp → Option AHp) (t : TSet) : Prop := ∀ ρ H h a b c h' x y z (Q : Hp → Prop), RelH K ρ H h → Rep K ρ H a x → Rep K ρ H b y → Rep K ρ H c z → f a b c h = some h' →
  (∀ ρ' H', Up K ρ H ρ' H' → RelH K ρ' H' h' → Q H') → t x y z H Q
theorem jg_sub {f : A → A → A → AHp → Option AHp} {t : TSet} (ho : JE X o mo) (hi : JE X i mi) (hs : PSet X t) (so : SetOk X.K f t)
    (ha : ∀ v, assign (.Subscript o i pos) X.env v = (do
      let ov ← holding [v] (eval o X.env)
      let iv ← holding [v, ov] (eval i X.env)
      standAt pos
      holding [v, ov, iv] (setItem ov iv v)
      release [v, ov, iv] []) := by intro _; rfl) : JG X (.Subscript o i pos) (gIx mo mi f) := ⟨PG_imp (pg_sub ho.pf hi.pf hs ha) fun v σ H Q q => by
  obtain ⟨ρ, τ, h, a, τ', h', R, S, r, e, k⟩ := q
  obtain ⟨⟨x, h1⟩, e1, e⟩ := bindS e
  obtain ⟨⟨y, h2⟩, e2, e⟩ := bindS e
  obtain ⟨h3, e3, e⟩ := bindS e
  cases e
  exact ⟨ρ, τ, h, x, h1, R, S, e1, fun ρ1 H1 v1 u1 R1 r1 => ⟨ρ1, τ, h1, y, h2, R1, S.up u1, e2, fun ρ2 H2 v2 u2 R2 r2 =>
    so ρ2 H2 h2 x y a _ v1 v2 v _ R2 (r1.up u2) r2 (r.up (u1.trans u2)) e3 fun ρ3 H3 u3 R3 => k ρ3 H3 σ ((u1.trans u2).trans u3) R3 (S.up ((u1.trans u2).trans u3))⟩⟩⟩
theorem js_asg {tg : Expr} (he : JE X e ma) (hg : JG X tg g) (hs : swapsWithSole [tg] e pos.line X.env = pure false := by rfl) (hw : swappedStores [tg] e X.env = pure none := by rfl)
    (h1 : (assignEach [tg] X.env).map (·.2) = [assign tg X.env] := by rfl) : JS X (.Assign [tg] e pos) (sAsg ma g) := ⟨PS_imp (ps_asg he.pf hg.pf hs hw h1) fun D σ H q => by
  obtain ⟨ρ, τ, h, f, h', R, S, e, k⟩ := q
  obtain ⟨⟨x, h1⟩, e1, e⟩ := bindS e
  obtain ⟨⟨τ1, h2⟩, e2, e⟩ := bindS e
  cases e
  exact ⟨ρ, τ, h, x, h1, R, S, e1, fun ρ1 H1 v1 u1 R1 r1 => ⟨ρ1, τ, h1, x, τ1, _, R1, S.up u1, r1, e2, fun ρ2 H2 σ2 u2 R2 S2 => k ρ2 H2 (u1.trans u2) R2 σ2 S2⟩⟩⟩
theorem js_set (j : Nat) {x : Str} {pos' : Pos} (hN : X.N.Nodup) (he : JE X e ma) (hi : X.N[j]? = some x := by rfl) (hx : Loc X.env.scope x := by first | exact Or.inl rfl | exact Or.inr rfl) (hs : swapsWith e (some (.Name x pos')) pos.line X.env = pure false := by rfl) (hf : X.fn x = true ∨ X.env.scope.names.lookup x = some .local := by first | exact .inl rfl | exact .inr rfl) :
    JS X (.Assign [.Name x pos'] e pos) (sAsg ma (gN j)) := ⟨PS_imp (ps_set (i := j) hN hi hx he.pf hs hf) fun D σ H q => by
  obtain ⟨ρ, τ, h, f, h', R, S, e, k⟩ := q
  obtain ⟨⟨x, h1⟩, e1, e⟩ := bindS e
  cases e
  exact ⟨ρ, τ, h, x, _, R, S, e1, fun ρ1 H1 v1 u1 R1 r1 => k ρ1 H1 u1 R1 _ ((S.up u1).set r1)⟩⟩
def whileL (m : MT) (s : MS) : Nat → MS
  | 0, _, _ => none
  | n + 1, τ, h => (m τ h).bind fun p => if p.1 = true then (s τ p.2).bind fun q => match q.1 with
      | .nx τ1 => whileL m s n τ1 q.2
      | .ct τ1 => whileL m s n τ1 q.2
      | .bk τ1 => some (.nx τ1, q.2)
      | .rt a => some (.rt a, q.2)
    else some (.nx τ, p.2)
theorem js_while (n : Nat) (hc : JT X c m) (hb : JB X body s) (hx : X.xe = fun _ _ => False := by rfl) : JS X (.While c body [] pos) (whileL m s n) := by
  refine ⟨PS_imp (ps_while (by rw [hx]; exact PassesOwn.never) hc.pf hb.pf) fun D σ H q => ?_⟩
  obtain ⟨ρ, τ, h, f, h', R, S, e, k⟩ := q
  refine ⟨fun j σ1 H1 => ∃ ρ1 τ1 h1, Up X.K ρ H ρ1 H1 ∧ RelH X.K ρ1 H1 h1 ∧ RelS X.K ρ1 H1 σ1 τ1 ∧ whileL m s j τ1 h1 = some (f, h'), ⟨n, ρ, τ, h, Up.refl, R, S, e⟩, ?_⟩
  rintro j σ1 H1 ⟨ρ1, τ1, h1, u1, R1, S1, e1⟩
  cases j with
  | zero => cases e1
  | succ j =>
    obtain ⟨⟨b, h2⟩, e2, e1⟩ := bindS e1
    refine ⟨ρ1, τ1, h1, b, h2, R1, S1, e2, fun ρ2 H2 u2 R2 => ?_⟩
    cases b with
    | false =>
      rw [if_neg Bool.false_ne_true] at e1 ⊢
      cases e1
      exact k ρ2 H2 (u1.trans u2) R2 σ1 (S1.up u2)
    | true =>
      rw [if_pos rfl] at e1 ⊢
      refine ⟨fun σ3 H3 => ∃ ρ3 τ3 h3, Up X.K ρ H ρ3 H3 ∧ RelH X.K ρ3 H3 h3 ∧ RelS X.K ρ3 H3 σ3 τ3 ∧ whileL m s j τ3 h3 = some (f, h'), fun σ3 H3 z => ⟨j, Nat.lt_succ_self j, z⟩, ?_⟩
      obtain ⟨⟨fl, h3⟩, e3, e1⟩ := bindS e1
      refine ⟨ρ2, τ1, h2, fl, h3, R2, S1.up u2, e3, fun ρ3 H3 u3 R3 => ?_⟩
      cases fl with
      | nx τ3 => exact fun σ3 S3 => ⟨ρ3, τ3, h3, (u1.trans u2).trans u3, R3, S3, e1⟩
      | ct τ3 => exact fun σ3 S3 => ⟨ρ3, τ3, h3, (u1.trans u2).trans u3, R3, S3, e1⟩
      | bk τ3 =>
        cases e1
        exact k ρ3 H3 ((u1.trans u2).trans u3) R3
      | rt a =>
        cases e1
        exact k ρ3 H3 ((u1.trans u2).trans u3) R3
structure AIt where
  n : Nat
  get : Nat → AHp → Option A
  fin : AHp → Bool
abbrev MI := ASt → AHp → Rs AIt
def ItOk (K : PySem.W.Frag) (J : It) (it : AIt) (ρ0 : List Addr) (H0 : Hp) : Prop := ∀ ρ H h, Le K ρ0 H0 ρ H → RelH K ρ H h →
  (∀ i a, it.get i h = some a → J.go i H ∧ ∀ x H', J.yld i H x H' → Up K ρ H ρ H' ∧ RelH K ρ H' h ∧ Rep K ρ H' a x) ∧ (it.fin h = true → J.stop it.n H)
def tI (K : PySem.W.Frag) (mi : MI) : TI := fun σ H R => ∃ ρ τ h it h', RelH K ρ H h ∧ RelS K ρ H σ τ ∧ mi τ h = some (it, h') ∧ ∀ ρ' H' J, Up K ρ H ρ' H' → RelH K ρ' H' h' → ItOk K J it ρ' H' → R J H'
structure JI (X : Cx) (tg iter : Expr) (mi : MI) : Prop where
  pf : PI X tg iter (tI X.K mi)
theorem PI_imp {tg : Expr} {t t' : TI} (h : PI X tg e t) (i : ∀ σ H R, t' σ H R → t σ H R) : PI X tg e t' := fun pins s σ H R I q => h pins s σ H R I (i σ H R q)
def forL (it : AIt) (g : MG) (s : MS) : Nat → Nat → MS
  | 0, _, τ, h => if it.fin h = true then some (.nx τ, h) else none
  | n + 1, k, τ, h => (it.get k h).bind fun a => (g a τ h).bind fun p => (s p.1 p.2).bind fun q => match q.1 with
      | .nx τ1 => forL it g s n (k + 1) τ1 q.2
      | .ct τ1 => forL it g s n (k + 1) τ1 q.2
      | .bk τ1 => some (.nx τ1, q.2)
      | .rt a => some (.rt a, q.2)
def sFor (mi : MI) (g : MG) (s : MS) : MS := fun τ h => (mi τ h).bind fun p => forL p.1 g s p.1.n 0 τ p.2
theorem js_for {iter tg : Expr} {mi : MI} (hc : X.calm = true) (hi : JI X tg iter mi) (hg : JG X tg g) (hb : JB X body s) (hs : ∀ x, foldedSetIterable iter X.env x = pure x := by intro _; rfl) (hx : X.xe = fun _ _ => False := by rfl) : JS X (.For tg iter body [] pos) (sFor mi g s) := by
  refine ⟨PS_imp (ps_for (by rw [hx]; exact PassesOwn.never) hc hi.pf hg.pf hb.pf hs) fun D σ H q => ?_⟩
  obtain ⟨ρ, τ, h, f, h', R, S, e, k⟩ := q
  obtain ⟨⟨it, h0⟩, e0, e⟩ := bindS e
  refine ⟨ρ, τ, h, it, h0, R, S, e0, fun ρ0 H0 J u0 R0 ok => ?_⟩
  refine ⟨fun j n σ1 H1 => j + n = it.n ∧ ∃ ρ1 τ1 h1, Up X.K ρ0 H0 ρ1 H1 ∧ RelH X.K ρ1 H1 h1 ∧ RelS X.K ρ1 H1 σ1 τ1 ∧ forL it g s n j τ1 h1 = some (f, h'), ⟨it.n, Nat.zero_add _, ρ0, τ, h0, Up.refl, R0, S.up u0, e⟩, ?_⟩
  rintro j n σ1 H1 ⟨ej, ρ1, τ1, h1, u1, R1, S1, e1⟩
  obtain ⟨okg, okf⟩ := ok ρ1 H1 h1 u1.toLe R1
  cases n with
  | zero =>
    change (if it.fin h1 = true then some (Fl.nx τ1, h1) else none) = _ at e1
    split at e1
    · rename_i hf
      cases e1
      have : j = it.n := by omega
      subst this
      exact .inl ⟨okf hf, k ρ1 H1 (u0.trans u1) R1 σ1 S1⟩
    · cases e1
  | succ n =>
    obtain ⟨a, e2, e1⟩ := bindS e1
    obtain ⟨⟨τ2, h2⟩, e3, e1⟩ := bindS e1
    obtain ⟨⟨fl, h3⟩, e4, e1⟩ := bindS e1
    obtain ⟨go, yl⟩ := okg j a e2
    refine .inr ⟨go, fun σ3 H3 => (j + 1) + n = it.n ∧ ∃ ρ3 τ3 h3, Up X.K ρ0 H0 ρ3 H3 ∧ RelH X.K ρ3 H3 h3 ∧ RelS X.K ρ3 H3 σ3 τ3 ∧ forL it g s n (j + 1) τ3 h3 = some (f, h'), fun σ3 H3 z => ⟨n, Nat.lt_succ_self n, z⟩, fun x Hx yx => ?_⟩
    obtain ⟨ux, Rx, rx⟩ := yl x Hx yx
    refine ⟨ρ1, τ1, h1, a, τ2, h2, Rx, S1.up ux, rx, e3, fun ρ2 H2 σ2 u2 R2 S2 => ?_⟩
    refine ⟨ρ2, τ2, h2, fl, h3, R2, S2, e4, fun ρ3 H3 u3 R3 => ?_⟩
    have uu : Up X.K ρ0 H0 ρ3 H3 := u1.trans (ux.trans (u2.trans u3))
    cases fl with
    | nx τ3 => exact fun σ3 S3 => ⟨by omega, ρ3, τ3, h3, uu, R3, S3, e1⟩
    | ct τ3 => exact fun σ3 S3 => ⟨by omega, ρ3, τ3, h3, uu, R3, S3, e1⟩
    | bk τ3 =>
      cases e1
      exact k ρ3 H3 (u0.trans uu) R3
    | rt a =>
      cases e1
      exact k ρ3 H3 (u0.trans uu) R3
end
def fnOf (n : Nat) (body : MS) : MF := fun as h => (body (as.map some ++ List.replicate (n - as.length) none) h).bind fun p => match p.1 with
  | .rt a => some (a, p.2)
  | .nx _ => some (.non, p.2)
  | _ => none
theorem start_rel {K : PySem.W.Frag} {ρ : List Addr} {H : Hp} {N : List Str} {as : List A} {vs : List V} (r : Reps K ρ H as vs) : RelS K ρ H (L2.start N vs) (as.map some ++ List.replicate (N.length - as.length) none) := by
  have hl := r.length
  refine ⟨by unfold L2.start; simp [hl], fun i a e => ?_⟩
  have hi : i < as.length := by
    by_cases hi : i < as.length
    · exact hi
    · rw [List.getElem?_append_right (by simpa using hi), List.getElem?_replicate] at e
      split at e <;> cases e
  rw [List.getElem?_append_left (by simpa using hi), List.getElem?_map] at e
  have ha : as[i]? = some a := by
    cases q : as[i]? with
    | none => rw [q] at e; cases e
    | some b => rw [q] at e; cases e; rfl
  obtain ⟨v, h1, h2⟩ := r.get ha
  refine ⟨v, ?_, h2⟩
  unfold L2.start
  rw [List.getElem?_append_left (by simpa [hl] using hi), List.getElem?_map, h1]
  rfl
theorem fn_ok {P : Program} {w : World} {K : PySem.W.Frag} {mg : Str → Option Value} {base : Heap} {x qual : Str} {st : Stmt} {f : Addr} {fd : FuncData} {N ps : List Str} {k n : Nat} {body : MS} (F : Fun K x qual st f fd) (S : FnScope N ps (defScope st)) (hn : ps.length = n)
    (hb : ∀ (cdv : Value) (A : Around) (outer : List Env) (s : Shared) (H : Hp) (E : XK), Room k (A.deeper (envOfC qual (defScope st) s.heap.objs.size f cdv)) → JB (cxOf CX0 P w K mg base N qual (defScope st) f cdv A outer s H E).nox (defBody st) body) :
    FnOk P w K mg base CX0 (k + 1) f fd ps (spF K (fnOf N.length body) n) := by
  refine F.ok S (fun vs H Q E h => h.1.trans hn.symm) (fun cdv A outer s H vs Q E hr h => ?_)
  obtain ⟨hl, ρ, as, h, a, h', R, r, e, q⟩ := h
  obtain ⟨⟨fl, h1⟩, e1, e⟩ := bindS e
  refine ⟨_, (hb cdv A outer s H E hr).pf, ρ, _, h, fl, h1, R, start_rel r, e1, fun ρ1 H1 u1 R1 => ?_⟩
  cases fl with
  | nx τ => cases e; exact fun σ _ => q ρ1 H1 .non u1 R1 .non
  | rt b => cases e; exact fun v rv => q ρ1 H1 v u1 R1 rv
  | bk τ => cases e
  | ct τ => cases e
theorem fn_zero {P : Program} {w : World} {K : PySem.W.Frag} {mg : Str → Option Value} {base : Heap} {f : Addr} {fd : FuncData} {ps : List Str} {n k : Nat} : FnOk P w K mg base CX0 k f fd ps (spF K (fun _ _ => none) n) := by
  have no : ∀ vs H Q E, ¬ spF K (fun _ _ => none) n vs H Q E := fun vs H Q E h => by
    obtain ⟨_, _, _, _, _, _, _, _, e, _⟩ := h
    cases e
  exact ⟨fun vs H Q E h => absurd h (no vs H Q E), fun A outer s H args us vs Q E _ _ _ _ h => absurd h (no vs H Q E)⟩
end Ab
set_option Elab.async false
set_option linter.all false
set_option maxRecDepth 100000
namespace Ab
open PySem PySem.Spec PyProof.Rows L2
set_option autoImplicit false
set_option relaxedAutoImplicit false
def oAdd (a b : A) (h : AHp) : Rs A := match a, b with
  | .int i, .int j => some (.int (i + j), h)
  | .str x, .str y => if x.length + y.length ≤ 100000 then some (.str (x ++ y), h) else none
  | .loc m, .loc n => match h[m]?, h[n]? with
    | some (.lst xs), some (.lst ys) => if xs.length + ys.length ≤ 100000 then some (.loc h.length, h ++ [.lst (xs ++ ys)]) else none
    | _, _ => none
  | _, _ => none
def oSub (a b : A) (h : AHp) : Rs A := match a, b with
  | .int i, .int j => some (.int (i - j), h)
  | _, _ => none
def oMod (a b : A) (h : AHp) : Rs A := match a, b with
  | .int i, .int j => if 0 < j then some (.int (i % j), h) else none
  | _, _ => none
def oDiv (a b : A) (h : AHp) : Rs A := match a, b with
  | .int i, .int j => if 0 < j ∧ j < 1073741824 then some (.int (i / j), h) else none
  | _, _ => none
def oMul (a b : A) (h : AHp) : Rs A := match a, b with
  | .int i, .int j => if (-(2 ^ 64) < i ∧ i < 2 ^ 64) ∨ (-(2 ^ 64) < j ∧ j < 2 ^ 64) then some (.int (i * j), h) else none
  | .str x, .int n => if x.length ≤ 1000 ∧ 2 ≤ n ∧ n ≤ 1000 then some (.str (Txt.mul x n), h) else none
  | _, _ => none
def oPow (a b : A) (h : AHp) : Rs A := match a, b with
  | .int i, .int j => if 0 ≤ j ∧ j ≤ 1000000 ∧ i.natAbs < 2 ^ 64 then some (.int (i ^ j.toNat), h) else none
  | _, _ => none
def uNeg (a : A) (h : AHp) : Rs A := match a with
  | .int i => some (.int (-i), h)
  | _ => none
section
variable {X : Cx} {K : PySem.W.Frag}
def rAdd3 : R2 := fun x y H Q => (rI0 fun i j => .int (i + j)) x y H Q ∨ (fun x y H Q => ∃ i j, x = .str i ∧ y = .str j ∧ i.length + j.length ≤ sizeLine ∧ Q (.str (i ++ j)) H) x y H Q ∨ rCat x y H Q
theorem op_add3 : OpR X (binaryOp .Add) rAdd3 := op_add.or (op_add_str.or op_cat)
theorem ok_add : OpOk K oAdd rAdd3 := by
  intro ρ H h a b c h' x y Q R ra rb e k
  unfold oAdd at e
  split at e
  · cases e; cases ra; cases rb
    exact .inl ⟨_, _, rfl, rfl, k ρ H _ Up.refl R (.int _)⟩
  · split at e
    · rename_i hl
      cases e; cases ra; cases rb
      exact .inr (.inl ⟨_, _, rfl, rfl, lim_le hl, k ρ H _ Up.refl R (.str _)⟩)
    · cases e
  · split at e
    · rename_i xs ys hx hy
      split at e
      · rename_i hl
        cases e
        obtain ⟨p, rfl, h1, vs, h2, r1⟩ := R.locAt hx ra
        obtain ⟨q, rfl, h3, ws, h4, r2⟩ := R.locAt hy rb
        refine .inr (.inr ⟨p, q, vs, ws, rfl, rfl, h2, h4, by rw [← r1.length, ← r2.length]; exact lim_le hl, fun z hz => ?_⟩)
        obtain ⟨u, R', r'⟩ := R.alloc hz (r1.append r2)
        exact k _ _ _ u R' r'
      · cases e
    · cases e
  · cases e
theorem ok_sub : OpOk K oSub (rI0 fun i j => .int (i - j)) := by
  intro ρ H h a b c h' x y Q R ra rb e k
  unfold oSub at e
  split at e
  · cases e; cases ra; cases rb
    exact ⟨_, _, rfl, rfl, k ρ H _ Up.refl R (.int _)⟩
  · cases e
theorem ok_mod : OpOk K oMod (rI (fun _ j => 0 < j) fun i j => .int (i % j)) := by
  intro ρ H h a b c h' x y Q R ra rb e k
  unfold oMod at e
  split at e
  · split at e
    · rename_i hj
      cases e; cases ra; cases rb
      exact ⟨_, _, rfl, rfl, hj, k ρ H _ Up.refl R (.int _)⟩
    · cases e
  · cases e
theorem ok_div : OpOk K oDiv (rI CDiv fun i j => .int (i / j)) := by
  intro ρ H h a b c h' x y Q R ra rb e k
  unfold oDiv at e
  split at e
  · split at e
    · rename_i hj
      cases e; cases ra; cases rb
      exact ⟨_, _, rfl, rfl, hj, k ρ H _ Up.refl R (.int _)⟩
    · cases e
  · cases e
theorem op_mul_str : OpR X (binaryOp .Mult) (fun x y H Q => ∃ z n, x = .str z ∧ y = .int n ∧ (z.length ≤ 1000 ∧ 2 ≤ n ∧ n ≤ 1000) ∧ Q (.str (Txt.mul z n)) H) := by
  intro pins s σ H x y v u Q I rx ry h
  obtain ⟨z, n, rfl, rfl, ⟨h1, h2, h3⟩, q⟩ := h
  obtain ⟨t, rfl⟩ := rx
  obtain ⟨t', rfl⟩ := ry
  refine SB.mul ⟨?_, fun _ _ => ?_, fun _ _ => ?_⟩ fun t' k => ⟨.str (Txt.mul z n), H, I.tok _, ⟨_, rfl⟩, q⟩
  · have e1 : decide (n < -(2 ^ 63 : Int)) = false := decide_eq_false (by omega)
    have e2 : decide (n ≥ 2 ^ 63) = false := decide_eq_false (by omega)
    rw [e1, e2, Bool.or_false]
  · have hq : (1000 : Int) ≤ (2 ^ 63 - 1) / n := by
      refine Int.le_ediv_of_mul_le (by omega) ?_
      omega
    omega
  · exact notLong (Nat.le_trans (Nat.mul_le_mul h1 (show n.toNat ≤ 1000 by omega)) (by decide))
theorem ok_mul : OpOk K oMul (fun x y H Q => (rI CMul fun i j => .int (i * j)) x y H Q ∨ (fun x y H Q => ∃ z n, x = .str z ∧ y = .int n ∧ (z.length ≤ 1000 ∧ 2 ≤ n ∧ n ≤ 1000) ∧ Q (.str (Txt.mul z n)) H) x y H Q) := by
  intro ρ H h a b c h' x y Q R ra rb e k
  unfold oMul at e
  split at e
  · split at e
    · rename_i hj
      cases e; cases ra; cases rb
      exact .inl ⟨_, _, rfl, rfl, hj, k ρ H _ Up.refl R (.int _)⟩
    · cases e
  · split at e
    · rename_i hj
      cases e; cases ra; cases rb
      exact .inr ⟨_, _, rfl, rfl, hj, k ρ H _ Up.refl R (.str _)⟩
    · cases e
  · cases e
theorem ok_pow : OpOk K oPow (rI CPow fun i j => .int (i ^ j.toNat)) := by
  intro ρ H h a b c h' x y Q R ra rb e k
  unfold oPow at e
  split at e
  · split at e
    · rename_i hj
      cases e; cases ra; cases rb
      exact ⟨_, _, rfl, rfl, hj, k ρ H _ Up.refl R (.int _)⟩
    · cases e
  · cases e
theorem ok_neg : UnOk K uNeg (rU fun i => .int (-i)) := by
  intro ρ H h a c h' x Q R ra e k
  unfold uNeg at e
  split at e
  · cases e; cases ra
    exact ⟨_, rfl, k ρ H _ Up.refl R (.int _)⟩
  · cases e
end
section
variable {X : Cx} {a b c e : Expr} {pos : Pos} {ma mb mc : ME}
theorem je_add (ha : JE X a ma) (hb : JE X b mb) : JE X (.BinOp a .Add b pos) (eOp oAdd ma mb) := je_op op_add3 ok_add ha hb
theorem je_sub (ha : JE X a ma) (hb : JE X b mb) : JE X (.BinOp a .Sub b pos) (eOp oSub ma mb) := je_op op_sub ok_sub ha hb
theorem je_mod (ha : JE X a ma) (hb : JE X b mb) : JE X (.BinOp a .Mod b pos) (eOp oMod ma mb) := je_op op_mod ok_mod ha hb
theorem je_div (ha : JE X a ma) (hb : JE X b mb) : JE X (.BinOp a .FloorDiv b pos) (eOp oDiv ma mb) := je_op op_fdiv ok_div ha hb
theorem je_mul (ha : JE X a ma) (hb : JE X b mb) : JE X (.BinOp a .Mult b pos) (eOp oMul ma mb) := je_op (op_mul.or op_mul_str) ok_mul ha hb
theorem je_pow (ha : JE X a ma) (hb : JE X b mb) : JE X (.BinOp a .Pow b pos) (eOp oPow ma mb) := je_op op_pow ok_pow ha hb
theorem je_neg (ha : JE X a ma) : JE X (.UnaryOp .USub a pos) (eUn uNeg ma) := je_un un_neg ok_neg ha
end
def cOrd (f : Int → Int → Bool) (g : List Nat → List Nat → Bool) (a b : A) (h : AHp) : Rs A := match a, b with
  | .int i, .int j => some (.bl (f i j), h)
  | .str x, .str y => some (.bl (g x.cps.toList y.cps.toList), h)
  | _, _ => none
def cLt := cOrd (fun i j => decide (i < j)) (fun x y => decide (x < y))
def cLe := cOrd (fun i j => decide (i ≤ j)) (fun x y => !decide (y < x))
def cGt := cOrd (fun i j => decide (j < i)) (fun x y => decide (y < x))
def cGe := cOrd (fun i j => decide (j ≤ i)) (fun x y => !decide (x < y))
section
variable {X : Cx} {K : PySem.W.Frag} {a b c e : Expr} {pos : Pos} {ma mb mc : ME}
theorem ok_ord {f : Int → Int → Bool} {g : List Nat → List Nat → Bool} : OpOk K (cOrd f g) (fun x y H Q => (rI0 fun i j => .bl (f i j)) x y H Q ∨ (fun x y H Q => ∃ i j, x = .str i ∧ y = .str j ∧ Q (.bl (g i.cps.toList j.cps.toList)) H) x y H Q) := by
  intro ρ H h a b c h' x y Q R ra rb e k
  unfold cOrd at e
  split at e
  · cases e; cases ra; cases rb
    exact .inl ⟨_, _, rfl, rfl, k ρ H _ Up.refl R (.bl _)⟩
  · cases e; cases ra; cases rb
    exact .inr ⟨_, _, rfl, rfl, k ρ H _ Up.refl R (.bl _)⟩
  · cases e
theorem op_lt2 : OpR X (compareOp .Lt) (fun x y H Q => (rI0 fun i j => .bl (decide (i < j))) x y H Q ∨ (fun x y H Q => ∃ i j, x = .str i ∧ y = .str j ∧ Q (.bl (decide (i.cps.toList < j.cps.toList))) H) x y H Q) := op_lt.or op_lt_str
theorem op_le2 : OpR X (compareOp .LtE) (fun x y H Q => (rI0 fun i j => .bl (decide (i ≤ j))) x y H Q ∨ (fun x y H Q => ∃ i j, x = .str i ∧ y = .str j ∧ Q (.bl (!decide (j.cps.toList < i.cps.toList))) H) x y H Q) := op_le.or op_le_str
theorem op_gt2 : OpR X (compareOp .Gt) (fun x y H Q => (rI0 fun i j => .bl (decide (j < i))) x y H Q ∨ (fun x y H Q => ∃ i j, x = .str i ∧ y = .str j ∧ Q (.bl (decide (j.cps.toList < i.cps.toList))) H) x y H Q) := op_gt.or op_gt_str
theorem op_ge2 : OpR X (compareOp .GtE) (fun x y H Q => (rI0 fun i j => .bl (decide (j ≤ i))) x y H Q ∨ (fun x y H Q => ∃ i j, x = .str i ∧ y = .str j ∧ Q (.bl (!decide (i.cps.toList < j.cps.toList))) H) x y H Q) := op_ge.or op_ge_str
theorem ok_lt : OpOk K cLt (fun x y H Q => (rI0 fun i j => .bl (decide (i < j))) x y H Q ∨ (fun x y H Q => ∃ i j, x = .str i ∧ y = .str j ∧ Q (.bl (decide (i.cps.toList < j.cps.toList))) H) x y H Q) := ok_ord
theorem ok_le : OpOk K cLe (fun x y H Q => (rI0 fun i j => .bl (decide (i ≤ j))) x y H Q ∨ (fun x y H Q => ∃ i j, x = .str i ∧ y = .str j ∧ Q (.bl (!decide (j.cps.toList < i.cps.toList))) H) x y H Q) := ok_ord (g := fun x y => !decide (y < x))
theorem ok_gt : OpOk K cGt (fun x y H Q => (rI0 fun i j => .bl (decide (j < i))) x y H Q ∨ (fun x y H Q => ∃ i j, x = .str i ∧ y = .str j ∧ Q (.bl (decide (j.cps.toList < i.cps.toList))) H) x y H Q) := ok_ord (f := fun i j => decide (j < i)) (g := fun x y => decide (y < x))
theorem ok_ge : OpOk K cGe (fun x y H Q => (rI0 fun i j => .bl (decide (j ≤ i))) x y H Q ∨ (fun x y H Q => ∃ i j, x = .str i ∧ y = .str j ∧ Q (.bl (!decide (i.cps.toList < j.cps.toList))) H) x y H Q) := ok_ord (f := fun i j => decide (j ≤ i)) (g := fun x y => !decide (x < y))
end
def flatA : A → Bool
  | .non => true | .bl _ => true | .int _ => true | .str _ => true
  | _ => false
def eqF : A → A → Bool
  | .non, .non => true
  | .bl a, .bl b => a == b
  | .bl a, .int b => (if a then 1 else 0) == b
  | .int a, .bl b => a == (if b then 1 else 0)
  | .int a, .int b => a == b
  | .str a, .str b => a == b
  | _, _ => false
def datL (f : A → Option PyData) : List A → Option (List PyData)
  | [] => some []
  | x :: xs => (f x).bind fun d => (datL f xs).bind fun ds => some (d :: ds)
def dat (h : AHp) : Nat → A → Option PyData
  | _, .non => some .none
  | _, .bl b => some (.bool b)
  | _, .int i => some (.int i)
  | _, .str x => some (.str x)
  | n + 1, .tup xs => (datL (dat h n) xs).bind fun ds => some (.tuple ds)
  | n + 1, .ro xs => (datL (dat h n) xs).bind fun ds => some (.list ds)
  | n + 1, .loc k => match h[k]? with
    | some (.lst xs) => (datL (dat h n) xs).bind fun ds => some (.list ds)
    | _ => none
  | _, _ => none
def seqA : A → AHp → Option (Bool × List A)
  | .tup xs, _ => some (true, xs)
  | .ro xs, _ => some (false, xs)
  | .loc n, h => match h[n]? with | some (.lst xs) => some (false, xs) | _ => none
  | _, _ => none
def eqD (h : AHp) (a b : A) : Option Bool := (dat h 60 a).bind fun d => (dat h 60 b).bind fun e => if SeqAt.shaped d = true ∧ SeqAt.shaped e = true then some (PyData.eqv d e) else none
def eqA (h : AHp) (a b : A) : Option Bool :=
  if flatA a = true ∧ flatA b = true then some (eqF a b) else
  if flatA a = true then (seqA b h).bind fun _ => some false else
  if flatA b = true then (seqA a h).bind fun _ => some false else eqD h a b
section
variable {X : Cx} {K : PySem.W.Frag} {pins : List (Addr × Obj)} {ρ : List Addr} {H : Hp} {h : AHp} {s : Shared} {σ : L2.St}
theorem rep_flat {a : A} {x : V} (r : Rep K ρ H a x) (f : flatA a = true) : flatV x = true := by cases r <;> first | rfl | cases f
theorem rep_eqF {a b : A} {x y : V} (ra : Rep K ρ H a x) (rb : Rep K ρ H b y) (fa : flatA a = true) (fb : flatA b = true) : eqV x y = eqF a b := by
  cases ra <;> first | cases fa | skip
  all_goals (cases rb <;> first | rfl | cases fb)
theorem seq_some {a : A} {x : V} {p : Bool × List A} (R : RelH K ρ H h) (r : Rep K ρ H a x) (e : seqA a h = some p) : ∃ q vs, x = .ref q ∧ Reps K ρ H p.2 vs ∧ ((p.1 = true ∧ SqT K H q vs) ∨ (p.1 = false ∧ SqL K H q vs)) := by
  cases r with
  | tup hs rs => cases e; exact ⟨_, _, rfl, rs, .inl ⟨rfl, hs⟩⟩
  | ro hs rs => cases e; exact ⟨_, _, rfl, rs, .inr ⟨rfl, hs.sq⟩⟩
  | @loc n q hn =>
    change (match h[n]? with | some (.lst xs) => some (false, xs) | _ => none) = some p at e
    split at e
    · rename_i xs hx
      cases e
      obtain ⟨vs, h1, h2⟩ := R.obj _ _ _ hn hx
      exact ⟨_, vs, rfl, h2, .inr ⟨rfl, SqL.of h1⟩⟩
    · cases e
  | _ => cases e
mutual
theorem dat_ok (R : RelH K ρ H h) : ∀ (n : Nat) (a : A) (x : V) (d : PyData), Rep K ρ H a x → dat h n a = some d → Dp K H x d
  | _, .non, _, _, r, e => by cases r; unfold dat at e; cases e; exact .non
  | _, .bl _, _, _, r, e => by cases r; unfold dat at e; cases e; exact .bl _
  | _, .int _, _, _, r, e => by cases r; unfold dat at e; cases e; exact .int _
  | _, .str _, _, _, r, e => by cases r; unfold dat at e; cases e; exact .str _
  | 0, .tup _, _, _, r, e => by cases e
  | 0, .loc _, _, _, r, e => by cases e
  | 0, .ro _, _, _, r, e => by cases e
  | 0, .ty _, _, _, r, e => by cases e
  | 0, .raw _, _, _, r, e => by cases e
  | _ + 1, .ty _, _, _, r, e => by cases e
  | _ + 1, .raw _, _, _, r, e => by cases e
  | n + 1, .tup xs, _, _, r, e => by
    cases r with
    | tup hs rs =>
      change (datL (dat h n) xs).bind _ = _ at e
      obtain ⟨ds, e1, e⟩ := bindS e
      cases e
      exact .tup hs (datL_ok R n xs _ ds rs e1)
  | n + 1, .ro xs, _, _, r, e => by
    cases r with
    | ro hs rs =>
      change (datL (dat h n) xs).bind _ = _ at e
      obtain ⟨ds, e1, e⟩ := bindS e
      cases e
      exact .lst hs.sq (datL_ok R n xs _ ds rs e1)
  | n + 1, .loc k, _, _, r, e => by
    cases r with
    | loc hn =>
      change (match h[k]? with
        | some (.lst xs) => (datL (dat h n) xs).bind fun ds => some (PyData.list ds)
        | _ => none) = _ at e
      split at e
      · rename_i xs hx
        obtain ⟨ds, e1, e⟩ := bindS e
        cases e
        obtain ⟨vs, h1, h2⟩ := R.obj _ _ _ hn hx
        exact .lst (SqL.of h1) (datL_ok R n xs _ ds h2 e1)
      · cases e
  termination_by n a => (n, 0)
theorem datL_ok (R : RelH K ρ H h) : ∀ (n : Nat) (xs : List A) (vs : List V) (ds : List PyData), Reps K ρ H xs vs → datL (dat h n) xs = some ds → DpAll K H vs ds
  | n, [], _, _, r, e => by cases r; cases e; exact .nil
  | n, x :: xs, _, _, r, e => by
    cases r with
    | cons r1 r2 =>
      change (dat h n x).bind _ = _ at e
      obtain ⟨d, e1, e⟩ := bindS e
      obtain ⟨ds, e2, e⟩ := bindS e
      cases e
      exact .cons (dat_ok R n x _ d r1 e1) (datL_ok R n xs _ ds r2 e2)
  termination_by n xs => (n, xs.length + 1)
end
theorem rcAt_V {Ar : Around} {y x : V} {u v : Value} (ry : RelV y u) (rx : RelV x v) (fy : flatV y = true) (fx : flatV x = true) : SeqAt.RcAt Ar s u v (eqV y x) ∧ SeqAt.RcNeAt Ar s u v (!eqV y x) := by
  cases y with
  | non =>
    cases ry
    cases x with
    | non => cases rx; exact ⟨SeqAt.RcAt.none_none, SeqAt.RcNeAt.none_none⟩
    | bl b => cases rx; exact ⟨SeqAt.RcAt.none_bool b, SeqAt.RcNeAt.none_bool b⟩
    | int b => obtain ⟨u, rfl⟩ := rx; exact ⟨SeqAt.RcAt.none_int b u, SeqAt.RcNeAt.none_int b u⟩
    | str b => obtain ⟨u, rfl⟩ := rx; exact ⟨SeqAt.RcAt.none_str b u, SeqAt.RcNeAt.none_str b u⟩
    | _ => exact absurd (show false = true from fx) Bool.false_ne_true
  | bl a =>
    cases ry
    cases x with
    | non => cases rx; exact ⟨SeqAt.RcAt.bool_none a, SeqAt.RcNeAt.bool_none a⟩
    | bl b => cases rx; exact ⟨SeqAt.RcAt.bool_bool a b, SeqAt.RcNeAt.bool_bool a b⟩
    | int b => obtain ⟨u, rfl⟩ := rx; exact ⟨SeqAt.RcAt.bool_int a b u, SeqAt.RcNeAt.bool_int a b u⟩
    | str b => obtain ⟨u, rfl⟩ := rx; exact ⟨SeqAt.RcAt.bool_str a b u, SeqAt.RcNeAt.bool_str a b u⟩
    | _ => exact absurd (show false = true from fx) Bool.false_ne_true
  | int a =>
    obtain ⟨t, rfl⟩ := ry
    cases x with
    | non => cases rx; exact ⟨SeqAt.RcAt.int_none a t, SeqAt.RcNeAt.int_none a t⟩
    | bl b => cases rx; exact ⟨SeqAt.RcAt.int_bool a t b, SeqAt.RcNeAt.int_bool a t b⟩
    | int b => obtain ⟨u, rfl⟩ := rx; exact ⟨SeqAt.RcAt.int_int a t b u, SeqAt.RcNeAt.int_int a t b u⟩
    | str b => obtain ⟨u, rfl⟩ := rx; exact ⟨SeqAt.RcAt.int_str a t b u, SeqAt.RcNeAt.int_str a t b u⟩
    | _ => exact absurd (show false = true from fx) Bool.false_ne_true
  | str a =>
    obtain ⟨t, rfl⟩ := ry
    cases x with
    | non => cases rx; exact ⟨SeqAt.RcAt.str_none a t, SeqAt.RcNeAt.str_none a t⟩
    | bl b => cases rx; exact ⟨SeqAt.RcAt.str_bool a t b, SeqAt.RcNeAt.str_bool a t b⟩
    | int b => obtain ⟨u, rfl⟩ := rx; exact ⟨SeqAt.RcAt.str_int a t b u, SeqAt.RcNeAt.str_int a t b u⟩
    | str b => obtain ⟨u, rfl⟩ := rx; exact ⟨SeqAt.RcAt.str_str a t b u, SeqAt.RcNeAt.str_str a t b u⟩
    | _ => exact absurd (show false = true from fx) Bool.false_ne_true
  | _ => exact absurd (show false = true from fy) Bool.false_ne_true
theorem fs_tuple {Ar : Around} {x : V} {u : Value} {l : Addr} {items : Array Value} (rx : RelV x u) (fx : flatV x = true) (hl : s.heap.IsTuple l items) (hu : Ar.units < cLine) : (SeqAt.RcAt Ar s u (.ref l) false ∧ SeqAt.EqAt Ar s u (.ref l) false ∧ SeqAt.RcNeAt Ar s u (.ref l) true) ∧ (SeqAt.RcAt Ar s (.ref l) u false ∧ SeqAt.EqAt Ar s (.ref l) u false ∧ SeqAt.RcNeAt Ar s (.ref l) u true) := by
  cases x with
  | non => cases rx; exact ⟨⟨SeqAt.RcAt.none_tuple hl hu, SeqAt.EqAt.none_tuple hl hu, SeqAt.RcNeAt.none_tuple hl hu⟩, ⟨SeqAt.RcAt.tuple_none hl hu, SeqAt.EqAt.tuple_none hl hu, SeqAt.RcNeAt.tuple_none hl hu⟩⟩
  | bl b => cases rx; exact ⟨⟨SeqAt.RcAt.bool_tuple b hl hu, SeqAt.EqAt.bool_tuple b hl hu, SeqAt.RcNeAt.bool_tuple b hl hu⟩, ⟨SeqAt.RcAt.tuple_bool b hl hu, SeqAt.EqAt.tuple_bool b hl hu, SeqAt.RcNeAt.tuple_bool b hl hu⟩⟩
  | int b => obtain ⟨t, rfl⟩ := rx; exact ⟨⟨SeqAt.RcAt.int_tuple b t hl hu, SeqAt.EqAt.int_tuple b t hl hu, SeqAt.RcNeAt.int_tuple b t hl hu⟩, ⟨SeqAt.RcAt.tuple_int b t hl hu, SeqAt.EqAt.tuple_int b t hl hu, SeqAt.RcNeAt.tuple_int b t hl hu⟩⟩
  | str b => obtain ⟨t, rfl⟩ := rx; exact ⟨⟨SeqAt.RcAt.str_tuple b t hl hu, SeqAt.EqAt.str_tuple b t hl hu, SeqAt.RcNeAt.str_tuple b t hl hu⟩, ⟨SeqAt.RcAt.tuple_str b t hl hu, SeqAt.EqAt.tuple_str b t hl hu, SeqAt.RcNeAt.tuple_str b t hl hu⟩⟩
  | _ => exact absurd (show false = true from fx) Bool.false_ne_true
theorem fs_list {Ar : Around} {x : V} {u : Value} {l : Addr} {items : Array Value} (rx : RelV x u) (fx : flatV x = true) (hl : s.heap.IsList l items) (hu : Ar.units < cLine) : (SeqAt.RcAt Ar s u (.ref l) false ∧ SeqAt.EqAt Ar s u (.ref l) false ∧ SeqAt.RcNeAt Ar s u (.ref l) true) ∧ (SeqAt.RcAt Ar s (.ref l) u false ∧ SeqAt.EqAt Ar s (.ref l) u false ∧ SeqAt.RcNeAt Ar s (.ref l) u true) := by
  cases x with
  | non => cases rx; exact ⟨⟨SeqAt.RcAt.none_list hl hu, SeqAt.EqAt.none_list hl hu, SeqAt.RcNeAt.none_list hl hu⟩, ⟨SeqAt.RcAt.list_none hl hu, SeqAt.EqAt.list_none hl hu, SeqAt.RcNeAt.list_none hl hu⟩⟩
  | bl b => cases rx; exact ⟨⟨SeqAt.RcAt.bool_list b hl hu, SeqAt.EqAt.bool_list b hl hu, SeqAt.RcNeAt.bool_list b hl hu⟩, ⟨SeqAt.RcAt.list_bool b hl hu, SeqAt.EqAt.list_bool b hl hu, SeqAt.RcNeAt.list_bool b hl hu⟩⟩
  | int b => obtain ⟨t, rfl⟩ := rx; exact ⟨⟨SeqAt.RcAt.int_list b t hl hu, SeqAt.EqAt.int_list b t hl hu, SeqAt.RcNeAt.int_list b t hl hu⟩, ⟨SeqAt.RcAt.list_int b t hl hu, SeqAt.EqAt.list_int b t hl hu, SeqAt.RcNeAt.list_int b t hl hu⟩⟩
  | str b => obtain ⟨t, rfl⟩ := rx; exact ⟨⟨SeqAt.RcAt.str_list b t hl hu, SeqAt.EqAt.str_list b t hl hu, SeqAt.RcNeAt.str_list b t hl hu⟩, ⟨SeqAt.RcAt.list_str b t hl hu, SeqAt.EqAt.list_str b t hl hu, SeqAt.RcNeAt.list_str b t hl hu⟩⟩
  | _ => exact absurd (show false = true from fx) Bool.false_ne_true
theorem eqA_rc (I : Inv X pins σ H s) (R : RelH X.K ρ H h) {a b : A} {x y : V} {u v : Value} {k : Bool} {Ar : Around} (hu : Ar.units + 64 < cLine) (ra : Rep X.K ρ H a x) (rb : Rep X.K ρ H b y) (rx : RelV x u) (ry : RelV y v) (e : eqA h a b = some k) :
    SeqAt.RcAt Ar s u v k ∧ SeqAt.EqAt Ar s u v k ∧ SeqAt.RcNeAt Ar s u v (!k) := by
  have hu0 : Ar.units < cLine := by omega
  unfold eqA at e
  split at e
  · rename_i hf
    cases e
    rw [← rep_eqF ra rb hf.1 hf.2]
    have z := rcAt_V (s := s) (Ar := Ar) rx ry (rep_flat ra hf.1) (rep_flat rb hf.2)
    exact ⟨z.1, eqAt_V rx ry (rep_flat ra hf.1) (rep_flat rb hf.2), z.2⟩
  · split at e
    · rename_i fa
      obtain ⟨p, e1, e⟩ := bindS e
      cases e
      obtain ⟨q, vs, rfl, rs, hs⟩ := seq_some R rb e1
      cases ry
      rcases hs with ⟨_, hs⟩ | ⟨_, hs⟩
      · obtain ⟨its, _, tp, _⟩ := I.tuple hs
        exact (fs_tuple rx (rep_flat ra fa) tp hu0).1
      · obtain ⟨its, _, tp, _⟩ := I.list hs
        exact (fs_list rx (rep_flat ra fa) tp.isList hu0).1
    · split at e
      · rename_i fa
        obtain ⟨p, e1, e⟩ := bindS e
        cases e
        obtain ⟨q, vs, rfl, rs, hs⟩ := seq_some R ra e1
        cases rx
        rcases hs with ⟨_, hs⟩ | ⟨_, hs⟩
        · obtain ⟨its, _, tp, _⟩ := I.tuple hs
          exact (fs_tuple ry (rep_flat rb fa) tp hu0).2
        · obtain ⟨its, _, tp, _⟩ := I.list hs
          exact (fs_list ry (rep_flat rb fa) tp.isList hu0).2
      · obtain ⟨d, e1, e⟩ := bindS e
        obtain ⟨d', e2, e⟩ := bindS e
        split at e
        · rename_i sh
          cases e
          obtain ⟨as, r1⟩ := Dp.reads I d x u (dat_ok R _ a x d ra e1) rx
          obtain ⟨bs, r2⟩ := Dp.reads I d' y v (dat_ok R _ b y d' rb e2) ry
          have rm := SeqAt.room_of_shaped (db := d') sh.1 hu
          exact ⟨fun prog w E Q q => SeqAt.compareEq_shaped r1 r2 sh.1 sh.2 hu q, SeqAt.eqAt_reads d d' Ar s u v as bs r1 r2 (SeqAt.canLay_of_shaped sh.1) (SeqAt.canLay_of_shaped sh.2) rm, fun prog w E Q q => SeqAt.compareNe_shaped r1 r2 sh.1 sh.2 hu q⟩
        · cases e
end
end Ab
set_option Elab.async false
set_option linter.all false
set_option maxRecDepth 100000
namespace Ab
open PySem PySem.Spec PyProof.Rows L2
set_option autoImplicit false
set_option relaxedAutoImplicit false
def rA (K : PySem.W.Frag) (f : A → A → AHp → Rs A) : R2 := fun x y H Q => ∃ ρ h a b c h', RelH K ρ H h ∧ Rep K ρ H a x ∧ Rep K ρ H b y ∧ f a b h = some (c, h') ∧ ∀ ρ' H' v, Up K ρ H ρ' H' → RelH K ρ' H' h' → Rep K ρ' H' c v → Q v H'
theorem ok_rA {K : PySem.W.Frag} {f : A → A → AHp → Rs A} : OpOk K f (rA K f) := fun ρ H h a b c h' x y Q R ra rb e k => ⟨ρ, h, a, b, c, h', R, ra, rb, e, k⟩
def cEq (a b : A) (h : AHp) : Rs A := (eqA h a b).bind fun k => some (.bl k, h)
def cNe (a b : A) (h : AHp) : Rs A := (eqA h a b).bind fun k => some (.bl (!k), h)
def anyA (h : AHp) (x : A) : List A → Option Bool
  | [] => some false
  | y :: ys => (eqA h y x).bind fun k => (anyA h x ys).bind fun l => some (k || l)
def cIn (a b : A) (h : AHp) : Rs A := match a, b with
  | .str x, .str y => if x.cps.size = 1 then some (.bl (y.cps.toList.contains (x.cps.getD 0 0)), h) else none
  | _, _ => (seqA b h).bind fun p => (anyA h a p.2).bind fun k => some (.bl k, h)
def cNi (a b : A) (h : AHp) : Rs A := match a, b with
  | .str x, .str y => if x.cps.size = 1 then some (.bl (!y.cps.toList.contains (x.cps.getD 0 0)), h) else none
  | _, _ => (seqA b h).bind fun p => (anyA h a p.2).bind fun k => some (.bl (!k), h)
def isA : A → A → Option Bool
  | .bl a, .bl b => some (a == b)
  | .non, .bl _ => some false
  | .int _, .bl _ => some false
  | .str _, .bl _ => some false
  | .tup _, .bl _ => some false
  | .ro _, .bl _ => some false
  | .loc _, .bl _ => some false
  | .bl _, .non => some false
  | .non, .non => some true
  | .int _, .non => some false
  | .str _, .non => some false
  | .tup _, .non => some false
  | .ro _, .non => some false
  | .loc _, .non => some false
  | _, _ => none
def cIs (a b : A) (h : AHp) : Rs A := (isA a b).bind fun k => some (.bl k, h)
section
variable {X : Cx} {K : PySem.W.Frag} {a b c e : Expr} {es : List Expr} {pos : Pos} {ma mb mc : ME}
theorem op_eqA (hu : X.A.units + 64 < cLine) : OpR X (compareOp .Eq) (rA X.K cEq) := by
  intro pins s σ H x y v u Q I rx ry h
  obtain ⟨ρ, h, a, b, c, h', R, ra, rb, e, k⟩ := h
  obtain ⟨z, e1, e⟩ := bindS e
  cases e
  exact (eqA_rc I R hu ra rb rx ry e1).1 _ _ _ _ ⟨.bl z, H, I, rfl, k ρ H _ Up.refl R (.bl z)⟩
theorem op_neA (hu : X.A.units + 64 < cLine) : OpR X (compareOp .NotEq) (rA X.K cNe) := by
  intro pins s σ H x y v u Q I rx ry h
  obtain ⟨ρ, h, a, b, c, h', R, ra, rb, e, k⟩ := h
  obtain ⟨z, e1, e⟩ := bindS e
  cases e
  exact (eqA_rc I R hu ra rb rx ry e1).2.2 _ _ _ _ ⟨.bl (!z), H, I, rfl, k ρ H _ Up.refl R (.bl _)⟩
variable {pins : List (Addr × Obj)} {ρ : List Addr} {H : Hp} {h : AHp} {s : Shared} {σ : L2.St} {Ar : Around}
theorem rep_flat_eq {a a' : A} {v : V} (r : Rep K ρ H a v) (r' : Rep K ρ H a' v) (f : flatA a = true) : a' = a := by
  cases r <;> first | cases f | skip
  all_goals (cases r'; rfl)
theorem eqA_det (I : Inv X pins σ H s) (R : RelH X.K ρ H h) {a a' x : A} {v : V} {u : Value} {k k' : Bool} (r : Rep X.K ρ H a v) (r' : Rep X.K ρ H a' v) (ru : RelV v u) (e : eqA h a x = some k) (e' : eqA h a' x = some k') : k = k' := by
  by_cases fa : flatA a = true
  · have := rep_flat_eq r r' fa
    subst this
    rw [e] at e'; cases e'; rfl
  by_cases fa' : flatA a' = true
  · have := rep_flat_eq r' r fa'
    subst this
    rw [e] at e'; cases e'; rfl
  unfold eqA at e e'
  rw [if_neg (fun z => fa z.1), if_neg fa] at e
  rw [if_neg (fun z => fa' z.1), if_neg fa'] at e'
  split at e
  · rename_i fx
    rw [if_pos fx] at e'
    obtain ⟨_, _, e⟩ := bindS e
    obtain ⟨_, _, e'⟩ := bindS e'
    cases e; cases e'; rfl
  · rename_i fx
    rw [if_neg fx] at e'
    obtain ⟨d, e1, e⟩ := bindS e
    obtain ⟨d2, e2, e⟩ := bindS e
    obtain ⟨d', e1', e'⟩ := bindS e'
    obtain ⟨d2', e2', e'⟩ := bindS e'
    rw [e2] at e2'; cases e2'
    obtain ⟨as, r1⟩ := Dp.reads I d v u (dat_ok R _ a v d r e1) ru
    obtain ⟨as', r1'⟩ := Dp.reads I d' v u (dat_ok R _ a' v d' r' e1') ru
    have := (Reads.unique r1 d' as' r1').1
    subst this
    rw [e] at e'; cases e'; rfl
open Classical in
noncomputable def fOf (K : PySem.W.Frag) (ρ : List Addr) (H : Hp) (h : AHp) (x : A) (y : Value) : Bool := decide (∃ (a : A) (w : V), Rep K ρ H a w ∧ RelV w y ∧ eqA h a x = some true)
theorem fOf_eq (I : Inv X pins σ H s) (R : RelH X.K ρ H h) {a x : A} {v : V} {u : Value} {k : Bool} (r : Rep X.K ρ H a v) (ru : RelV v u) (e : eqA h a x = some k) : fOf X.K ρ H h x u = k := by
  classical
  unfold fOf
  cases k with
  | true => exact decide_eq_true ⟨a, v, r, ru, e⟩
  | false =>
    refine decide_eq_false ?_
    intro z
    obtain ⟨a', w, r', rw', e'⟩ := z
    have := ru.inj rw'
    subst this
    exact absurd (eqA_det I R r r' ru e e') Bool.false_ne_true
theorem any_eqAt (I : Inv X pins σ H s) (R : RelH X.K ρ H h) (hu : Ar.units + 64 < cLine) {a : A} {x : V} {u : Value} (ra : Rep X.K ρ H a x) (rx : RelV x u) :
    ∀ {ys : List A} {vs : List V} {its : List Value} {k : Bool}, Reps X.K ρ H ys vs → Vals vs its → anyA h a ys = some k → (∀ y ∈ its, SeqAt.EqAt Ar s y u (fOf X.K ρ H h a y)) ∧ its.any (fOf X.K ρ H h a) = k
  | _, _, _, _, .nil, .nil, e => by cases e; exact ⟨fun y hy => absurd hy (by simp), rfl⟩
  | y :: ys, _, i :: its, k, .cons r rs, .cons v vs, e => by
    change (eqA h y a).bind _ = _ at e
    obtain ⟨k1, e1, e⟩ := bindS e
    obtain ⟨k2, e2, e⟩ := bindS e
    cases e
    obtain ⟨h1, h2⟩ := any_eqAt I R hu ra rx rs vs e2
    have f1 := fOf_eq I R r v e1
    refine ⟨fun z hz => ?_, by rw [List.any_cons, h2, f1]⟩
    rcases List.mem_cons.mp hz with rfl | hz
    · rw [f1]; exact (eqA_rc I R hu r ra v rx e1).2.1
    · exact h1 z hz
theorem op_inA (hu : X.A.units + 65 < cLine) : OpR X (compareOp .In) (rA X.K cIn) := by
  intro pins s σ H x y v u Q I rx ry h
  obtain ⟨ρ, h, a, b, c, h', R, ra, rb, e, k⟩ := h
  unfold cIn at e
  split at e
  · split at e
    · rename_i hx
      cases e; cases ra; cases rb
      rename_i x y
      obtain ⟨t, rfl⟩ := rx
      obtain ⟨t', rfl⟩ := ry
      have ex : x = ⟨#[x.cps.getD 0 0]⟩ := by
        obtain ⟨cs⟩ := x
        congr 1
        apply Array.ext
        · exact hx
        · intro i h1 h2
          have : i = 0 := by simpa using h2
          subst this
          simp [Array.getD, h1]
      have q := k ρ H (.bl _) Up.refl R (.bl _)
      generalize x.cps.getD 0 0 = cc at ex q
      subst ex
      refine PyProof.Rows.in_str (fin_bl I q ?_)
      rw [PySem.StrLaws.found_one]; simp
    · cases e
  · obtain ⟨p, e1, e⟩ := bindS e
    obtain ⟨kk, e2, e⟩ := bindS e
    cases e
    obtain ⟨q, vs, rfl, rs, hs⟩ := seq_some R rb e1
    cases ry
    rcases hs with ⟨_, hs⟩ | ⟨_, hs⟩
    · obtain ⟨its, rv, tp, _⟩ := I.tuple hs
      obtain ⟨h1, h2⟩ := any_eqAt (Ar := X.A.in1) I R (by show X.A.units + 1 + 64 < cLine; omega) ra rx rs rv e2
      refine SeqAt.in_tupleAt _ tp (fun w hw => h1 w (by simpa using hw)) ⟨.bl _, H, I, rfl, ?_⟩
      rw [List.any_toArray, h2]
      exact k ρ H _ Up.refl R (.bl _)
    · obtain ⟨its, rv, tp, _⟩ := I.list hs
      obtain ⟨h1, h2⟩ := any_eqAt (Ar := X.A.in1) I R (by show X.A.units + 1 + 64 < cLine; omega) ra rx rs rv e2
      refine SeqAt.in_listAt _ tp.isList (fun w hw => h1 w (by simpa using hw)) ⟨.bl _, H, I, rfl, ?_⟩
      rw [List.any_toArray, h2]
      exact k ρ H _ Up.refl R (.bl _)
theorem op_niA (hu : X.A.units + 65 < cLine) : OpR X (compareOp .NotIn) (rA X.K cNi) := by
  intro pins s σ H x y v u Q I rx ry h
  obtain ⟨ρ, h, a, b, c, h', R, ra, rb, e, k⟩ := h
  unfold cNi at e
  split at e
  · split at e
    · rename_i hx
      cases e; cases ra; cases rb
      rename_i x y
      obtain ⟨t, rfl⟩ := rx
      obtain ⟨t', rfl⟩ := ry
      have ex : x = ⟨#[x.cps.getD 0 0]⟩ := by
        obtain ⟨cs⟩ := x
        congr 1
        apply Array.ext
        · exact hx
        · intro i h1 h2
          have : i = 0 := by simpa using h2
          subst this
          simp [Array.getD, h1]
      have q := k ρ H (.bl _) Up.refl R (.bl _)
      generalize x.cps.getD 0 0 = cc at ex q
      subst ex
      refine PyProof.Rows.notIn_str (fin_bl I q ?_)
      rw [PySem.StrLaws.found_one]; simp
    · cases e
  · obtain ⟨p, e1, e⟩ := bindS e
    obtain ⟨kk, e2, e⟩ := bindS e
    cases e
    obtain ⟨q, vs, rfl, rs, hs⟩ := seq_some R rb e1
    cases ry
    rcases hs with ⟨_, hs⟩ | ⟨_, hs⟩
    · obtain ⟨its, rv, tp, _⟩ := I.tuple hs
      obtain ⟨h1, h2⟩ := any_eqAt (Ar := X.A.in1) I R (by show X.A.units + 1 + 64 < cLine; omega) ra rx rs rv e2
      refine SeqAt.notIn_tupleAt _ tp (fun w hw => h1 w (by simpa using hw)) ⟨.bl _, H, I, rfl, ?_⟩
      rw [List.any_toArray, h2]
      exact k ρ H _ Up.refl R (.bl _)
    · obtain ⟨its, rv, tp, _⟩ := I.list hs
      obtain ⟨h1, h2⟩ := any_eqAt (Ar := X.A.in1) I R (by show X.A.units + 1 + 64 < cLine; omega) ra rx rs rv e2
      refine SeqAt.notIn_listAt _ tp.isList (fun w hw => h1 w (by simpa using hw)) ⟨.bl _, H, I, rfl, ?_⟩
      rw [List.any_toArray, h2]
      exact k ρ H _ Up.refl R (.bl _)
theorem isA_plain {a b : A} {x y : V} {v u : Value} {k : Bool} (ra : Rep K ρ H a x) (rb : Rep K ρ H b y) (rx : RelV x v) (ry : RelV y u) (e : isA a b = some k) : plainIs v u = true ∧ (v == u) = k := by
  cases rb with
  | non =>
    cases ry
    cases ra with
    | non => cases rx; cases e; exact ⟨rfl, rfl⟩
    | bl b => cases rx; cases e; exact ⟨rfl, rfl⟩
    | int i => obtain ⟨t, rfl⟩ := rx; cases e; exact ⟨rfl, rfl⟩
    | str i => obtain ⟨t, rfl⟩ := rx; cases e; exact ⟨rfl, rfl⟩
    | tup _ _ => cases rx; cases e; exact ⟨rfl, rfl⟩
    | ro _ _ => cases rx; cases e; exact ⟨rfl, rfl⟩
    | loc _ => cases rx; cases e; exact ⟨rfl, rfl⟩
    | ty _ => cases e
    | raw _ => cases e
  | bl c =>
    cases ry
    cases ra with
    | non => cases rx; cases e; exact ⟨rfl, rfl⟩
    | bl b => cases rx; cases e; exact ⟨rfl, by cases b <;> cases c <;> rfl⟩
    | int i => obtain ⟨t, rfl⟩ := rx; cases e; exact ⟨rfl, rfl⟩
    | str i => obtain ⟨t, rfl⟩ := rx; cases e; exact ⟨rfl, rfl⟩
    | tup _ _ => cases rx; cases e; exact ⟨rfl, rfl⟩
    | ro _ _ => cases rx; cases e; exact ⟨rfl, rfl⟩
    | loc _ => cases rx; cases e; exact ⟨rfl, rfl⟩
    | ty _ => cases e
    | raw _ => cases e
  | _ => cases ra <;> cases e
theorem op_isA : OpR X (compareOp .Is) (rA X.K cIs) := by
  intro pins s σ H x y v u Q I rx ry h
  obtain ⟨ρ, h, a, b, c, h', R, ra, rb, e, k⟩ := h
  obtain ⟨z, e1, e⟩ := bindS e
  cases e
  obtain ⟨h1, h2⟩ := isA_plain ra rb rx ry e1
  exact wpAny_is_plain h1 ⟨.bl z, H, I, by rw [h2]; rfl, k ρ H _ Up.refl R (.bl _)⟩
def xIx (a b : A) (h : AHp) : Rs A := match a, b with
  | .str x, .int i => if x.length ≤ 100000 then (atI x.cps.toList i).bind fun c => some (.str ⟨#[c]⟩, h) else none
  | _, .int i => (seqA a h).bind fun p => (atI p.2 i).bind fun v => some (v, h)
  | _, _ => none
theorem atI_reps {xs : List A} {vs : List V} {i : Int} {c : A} (r : Reps K ρ H xs vs) (e : atI xs i = some c) : ∃ v, atI vs i = some v ∧ Rep K ρ H c v := by
  unfold atI at e ⊢
  obtain ⟨j, e1, e⟩ := bindS e
  obtain ⟨v, h1, h2⟩ := r.get e
  rw [← r.length, e1]
  exact ⟨v, h1, h2⟩
theorem ok_ix : OpOk K xIx (rIx K) := by
  intro ρ H h a b c h' x y Q R ra rb e k
  unfold xIx at e
  split at e
  · split at e
    · rename_i hl
      obtain ⟨cc, e1, e⟩ := bindS e
      cases e; cases ra; cases rb
      exact .inr (.inr ⟨_, _, cc, rfl, rfl, lim_le hl, e1, k ρ H _ Up.refl R (.str _)⟩)
    · cases e
  · obtain ⟨p, e1, e⟩ := bindS e
    obtain ⟨v, e2, e⟩ := bindS e
    cases e
    cases rb
    obtain ⟨q, vs, rfl, rs, hs⟩ := seq_some R ra e1
    obtain ⟨v, h1, h2⟩ := atI_reps rs e2
    rcases hs with ⟨_, hs⟩ | ⟨_, hs⟩
    · exact .inr (.inl ⟨q, vs, _, v, rfl, rfl, hs, h1, k ρ H _ Up.refl R h2⟩)
    · exact .inl ⟨q, vs, _, v, rfl, rfl, hs, h1, k ρ H _ Up.refl R h2⟩
  · cases e
def xSet (o i v : A) (h : AHp) : Option AHp := match o, i with
  | .loc n, .int k => match h[n]? with
    | some (.lst xs) => (ixN xs.length k).bind fun j => some (h.set n (.lst (xs.set j v)))
    | _ => none
  | _, _ => none
theorem ok_set : SetOk K xSet rSetL := by
  intro ρ H h a b c h' x y z Q R ra rb rc e k
  unfold xSet at e
  split at e
  · split at e
    · rename_i n i xs hx
      obtain ⟨j, e1, e⟩ := bindS e
      cases e
      obtain ⟨p, rfl, h1, vs, h2, r1⟩ := R.locAt hx ra
      cases rb
      obtain ⟨u, R'⟩ := R.store h1 hx (r1.set rc j)
      exact ⟨p, vs, _, j, rfl, rfl, h2, by rw [← r1.length]; exact e1, k ρ _ u R'⟩
    · cases e
  · cases e
theorem je_index (ha : JE X a ma) (hb : JE X b mb) (hs : PlainIx b := by exact fun _ _ => rfl) : JE X (.Subscript a b pos) (eOp xIx ma mb) := je_ix ix_seq ok_ix ha hb hs
def cutA {α : Type} (xs : List α) (lo hi : Option Int) : List α := (xs.drop (HT.sIx xs.length 0 lo)).take (HT.sIx xs.length xs.length hi - HT.sIx xs.length 0 lo)
def xSl (a : A) (lo hi : Option Int) (h : AHp) : Rs A := match a with
  | .str x => if x.length ≤ 100000 then some (.str (cutS x lo hi), h) else none
  | .loc n => match h[n]? with
    | some (.lst xs) => some (.loc h.length, h ++ [.lst (cutA xs lo hi)])
    | _ => none
  | .ro xs => some (.loc h.length, h ++ [.lst (cutA xs lo hi)])
  | .tup xs => if HT.sIx xs.length 0 lo = 0 ∧ HT.sIx xs.length xs.length hi = xs.length then none else some (.tup (cutA xs lo hi), h)
  | _ => none
theorem cut_reps {xs : List A} {vs : List V} {lo hi : Option Int} (r : Reps K ρ H xs vs) : Reps K ρ H (cutA xs lo hi) (cutV vs lo hi) := by
  unfold cutA cutV
  rw [r.length]
  exact (r.drop _).take _
def mNoPart : ASt → AHp → Rs (Option Int) := fun _ h => some (none, h)
def mPart (ma : ME) : ASt → AHp → Rs (Option Int) := fun τ h => (ma τ h).bind fun p => match p.1 with | .int i => some (some i, p.2) | _ => none
def tO (K : PySem.W.Frag) (m : ASt → AHp → Rs (Option Int)) : TO := fun σ H Q => ∃ ρ τ h a h', RelH K ρ H h ∧ RelS K ρ H σ τ ∧ m τ h = some (a, h') ∧ ∀ ρ' H', Up K ρ H ρ' H' → RelH K ρ' H' h' → Q a H'
structure JO (X : Cx) (e : Option Expr) (m : ASt → AHp → Rs (Option Int)) : Prop where
  pf : PO X e (tO X.K m)
theorem jo_none : JO X none mNoPart := ⟨fun pins s σ H Q I q => po_none pins s σ H Q I (by
  obtain ⟨ρ, τ, h, a, h', R, S, e, k⟩ := q
  cases e
  exact k ρ H Up.refl R)⟩
theorem jo_some (ha : JE X a ma) : JO X (some a) (mPart ma) := ⟨fun pins s σ H Q I q => po_some ha.pf pins s σ H Q I (by
  obtain ⟨ρ, τ, h, b, h', R, S, e, k⟩ := q
  obtain ⟨⟨x, h1⟩, e1, e⟩ := bindS e
  dsimp only at e
  split at e
  · cases e
    refine ⟨ρ, τ, h, _, _, R, S, e1, fun ρ1 H1 v1 u1 R1 r1 => ?_⟩
    cases r1
    exact ⟨_, rfl, k ρ1 H1 u1 R1⟩
  · cases e)⟩
def eSl (ma : ME) (ml mh : ASt → AHp → Rs (Option Int)) : ME := fun τ h => (ma τ h).bind fun p => (ml τ p.2).bind fun l => (mh τ l.2).bind fun u => xSl p.1 l.1 u.1 u.2
theorem je_slice {lo hi : Option Expr} {ml mh : ASt → AHp → Rs (Option Int)} {p2 : Pos} (ha : JE X a ma) (hl : JO X lo ml) (hu : JO X hi mh) : JE X (.Subscript a (.Slice lo hi none p2) pos) (eSl ma ml mh) := ⟨PE_imp (pe_slice (sl_list.or (sl_str.or sl_tup)) ha.pf hl.pf hu.pf) fun σ H Q q => by
  obtain ⟨ρ, τ, h, d, h', R, S, e, k⟩ := q
  obtain ⟨⟨x, h1⟩, e1, e⟩ := bindS e
  obtain ⟨⟨l, h2⟩, e2, e⟩ := bindS e
  obtain ⟨⟨u, h3⟩, e3, e⟩ := bindS e
  refine ⟨ρ, τ, h, x, h1, R, S, e1, fun ρ1 H1 v1 u1 R1 r1 => ⟨ρ1, τ, h1, l, h2, R1, S.up u1, e2, fun ρ2 H2 u2 R2 => ⟨ρ2, τ, h2, u, h3, R2, S.up (u1.trans u2), e3, fun ρ3 H3 u3 R3 => ?_⟩⟩⟩
  have r3 := r1.up (u2.trans u3)
  have uu := (u1.trans u2).trans u3
  unfold xSl at e
  dsimp only at e
  split at e
  · split at e
    · rename_i hx
      cases e; cases r3
      exact .inr (.inl ⟨_, rfl, lim_le hx, k ρ3 H3 _ uu R3 (.str _)⟩)
    · cases e
  · split at e
    · rename_i xs hx
      cases e
      obtain ⟨p, rfl, h1, vs, h2, rr⟩ := R3.locAt hx r3
      refine .inl ⟨p, vs, rfl, SqL.of h2, fun z hz => ?_⟩
      obtain ⟨u4, R4, r4⟩ := R3.alloc hz (cut_reps rr)
      exact k _ _ _ (uu.trans u4) R4 r4
    · cases e
  · cases e
    cases r3 with
    | ro hs rr =>
      refine .inl ⟨_, _, rfl, hs.sq, fun z hz => ?_⟩
      obtain ⟨u4, R4, r4⟩ := R3.alloc hz (cut_reps rr)
      exact k _ _ _ (uu.trans u4) R4 r4
  · split at e
    · cases e
    · rename_i hn
      cases e
      cases r3 with
      | tup hs rs =>
        refine .inr (.inr ⟨_, _, rfl, hs, by rw [← rs.length]; exact hn, fun z hz => ?_⟩)
        obtain ⟨u4, R4, r4⟩ := R3.tuple hz (cut_reps rs)
        exact k _ _ _ (uu.trans u4) R4 r4
  · cases e⟩
end
end Ab
set_option Elab.async false
set_option linter.all false
set_option maxRecDepth 100000
namespace Ab
open PySem PySem.Spec PyProof.Rows L2
set_option autoImplicit false
open PySem.AutoSeq1 in
section
variable {X : Cx} {K : PySem.W.Frag}
def rC (K : PySem.W.Frag) (F : MF) : List V → Hp → VK → Prop := fun vs H Q => ∃ ρ h as c h', RelH K ρ H h ∧ Reps K ρ H as vs ∧ F as h = some (c, h') ∧ ∀ ρ' H' v, Up K ρ H ρ' H' → RelH K ρ' H' h' → Rep K ρ' H' c v → Q v H'
theorem ok_rC {F : MF} : CallOk K F (rC K F) := fun ρ H h as c h' xs Q R r e k => ⟨ρ, h, as, c, h', R, r, e, k⟩
def bLen : MF := fun as h => match as with
  | [.str x] => if x.length ≤ 100000 then some (.int x.length, h) else none
  | [a] => (seqA a h).bind fun p => some (.int p.2.length, h)
  | _ => none
theorem ok_len : CallOk K bLen (fun xs H Q => (∃ p ys, xs = [.ref p] ∧ (SqL K H p ys ∨ SqT K H p ys) ∧ Q (.int ys.length) H) ∨ (∃ z, xs = [.str z] ∧ z.length ≤ sizeLine ∧ Q (.int z.length) H)) := by
  intro ρ H h as c h' xs Q R r e k
  unfold bLen at e
  split at e
  · split at e
    · rename_i hl
      cases e
      cases r with
      | cons r1 r2 =>
        cases r2; cases r1
        exact .inr ⟨_, rfl, lim_le hl, k ρ H _ Up.refl R (.int _)⟩
    · cases e
  · obtain ⟨p, e1, e⟩ := bindS e
    cases e
    cases r with
    | cons r1 r2 =>
      cases r2
      obtain ⟨q, vs, rfl, rs, hs⟩ := seq_some R r1 e1
      refine .inl ⟨q, vs, rfl, ?_, by rw [← rs.length]; exact k ρ H _ Up.refl R (.int _)⟩
      rcases hs with ⟨_, hs⟩ | ⟨_, hs⟩
      · exact .inr hs
      · exact .inl hs
  · cases e
theorem call_len2 : CallR X (.builtin "len") (fun xs H Q => (∃ p ys, xs = [.ref p] ∧ (SqL X.K H p ys ∨ SqT X.K H p ys) ∧ Q (.int ys.length) H) ∨ (∃ z, xs = [.str z] ∧ z.length ≤ sizeLine ∧ Q (.int z.length) H)) := call_len_seq.or call_len_str
def blsOf : List A → Option (List Bool)
  | [] => some []
  | .bl b :: r => (blsOf r).bind fun bs => some (b :: bs)
  | _ => none
def strsOf : List A → Option (List Str)
  | [] => some []
  | .str b :: r => (strsOf r).bind fun bs => some (b :: bs)
  | _ => none
theorem bls_reps {ρ : List Addr} {H : Hp} : ∀ {xs : List A} {vs : List V} {bs : List Bool}, Reps K ρ H xs vs → blsOf xs = some bs → vs = bs.map V.bl
  | _, _, _, .nil, e => by cases e; rfl
  | a :: xs, _, _, .cons r rs, e => by
    cases r with
    | bl b =>
      obtain ⟨bs, e1, e⟩ := bindS (show (blsOf xs).bind _ = _ from e)
      cases e
      rw [bls_reps rs e1]; rfl
    | _ => cases e
theorem strs_reps {ρ : List Addr} {H : Hp} : ∀ {xs : List A} {vs : List V} {bs : List Str}, Reps K ρ H xs vs → strsOf xs = some bs → vs = bs.map V.str
  | _, _, _, .nil, e => by cases e; rfl
  | a :: xs, _, _, .cons r rs, e => by
    cases r with
    | str b =>
      obtain ⟨bs, e1, e⟩ := bindS (show (strsOf xs).bind _ = _ from e)
      cases e
      rw [strs_reps rs e1]; rfl
    | _ => cases e
def lstA : A → AHp → Option (List A)
  | .ro xs, _ => some xs
  | .loc n, h => match h[n]? with | some (.lst xs) => some xs | _ => none
  | _, _ => none
theorem lst_some {ρ : List Addr} {H : Hp} {h : AHp} {a : A} {x : V} {p : List A} (R : RelH K ρ H h) (r : Rep K ρ H a x) (e : lstA a h = some p) : ∃ q vs, x = .ref q ∧ Reps K ρ H p vs ∧ SqL K H q vs := by
  cases r with
  | ro hs rs => cases e; exact ⟨_, _, rfl, rs, hs.sq⟩
  | @loc n q hn =>
    change (match h[n]? with | some (.lst xs) => some xs | _ => none) = some p at e
    split at e
    · rename_i xs hx
      cases e
      obtain ⟨vs, h1, h2⟩ := R.obj _ _ _ hn hx
      exact ⟨_, vs, rfl, h2, SqL.of h1⟩
    · cases e
  | _ => cases e
def bAll : MF := fun as h => match as with
  | [a] => (lstA a h).bind fun xs => (blsOf xs).bind fun bs => some (.bl (bs.all id), h)
  | _ => none
theorem ok_all : CallOk K bAll (rAll K) := by
  intro ρ H h as c h' xs Q R r e k
  unfold bAll at e
  split at e
  · obtain ⟨p, e1, e⟩ := bindS e
    obtain ⟨bs, e2, e⟩ := bindS e
    cases e
    cases r with
    | cons r1 r2 =>
      cases r2
      obtain ⟨q, vs, rfl, rs, hs⟩ := lst_some R r1 e1
      rw [bls_reps rs e2] at hs
      exact ⟨q, bs, rfl, hs, k ρ H _ Up.refl R (.bl _)⟩
  · cases e
def bMax2 : MF := fun as h => match as with
  | [.int i, .int j] => some (.int (if j > i then j else i), h)
  | _ => none
def bMin2 : MF := fun as h => match as with
  | [.int i, .int j] => some (.int (if j < i then j else i), h)
  | _ => none
theorem ok_max2 : CallOk K bMax2 (fun xs H Q => ∃ i j, xs = [.int i, .int j] ∧ Q (.int (if j > i then j else i)) H) := by
  intro ρ H h as c h' xs Q R r e k
  unfold bMax2 at e
  split at e
  · cases e
    cases r with
    | cons r1 r2 =>
      cases r2 with
      | cons r2 r3 =>
        cases r3; cases r1; cases r2
        exact ⟨_, _, rfl, k ρ H _ Up.refl R (.int _)⟩
  · cases e
theorem ok_min2 : CallOk K bMin2 (fun xs H Q => ∃ i j, xs = [.int i, .int j] ∧ Q (.int (if j < i then j else i)) H) := by
  intro ρ H h as c h' xs Q R r e k
  unfold bMin2 at e
  split at e
  · cases e
    cases r with
    | cons r1 r2 =>
      cases r2 with
      | cons r2 r3 =>
        cases r3; cases r1; cases r2
        exact ⟨_, _, rfl, k ρ H _ Up.refl R (.int _)⟩
  · cases e
def isiA : A → String → Option Bool
  | .non, t => if t = "str" ∨ t = "tuple" ∨ t = "bool" ∨ t = "int" ∨ t = "list" then some false else none
  | .bl _, t => if t = "str" ∨ t = "tuple" ∨ t = "list" then some false else if t = "bool" ∨ t = "int" then some true else none
  | .int _, t => if t = "str" ∨ t = "tuple" ∨ t = "bool" ∨ t = "list" then some false else if t = "int" then some true else none
  | .str _, t => if t = "tuple" ∨ t = "bool" ∨ t = "int" ∨ t = "list" then some false else if t = "str" then some true else none
  | .tup _, t => if t = "str" ∨ t = "bool" ∨ t = "int" ∨ t = "list" then some false else if t = "tuple" then some true else none
  | .ro _, t => if t = "str" ∨ t = "bool" ∨ t = "int" ∨ t = "tuple" then some false else if t = "list" then some true else none
  | .loc _, t => if t = "str" ∨ t = "bool" ∨ t = "int" ∨ t = "tuple" then some false else if t = "list" then some true else none
  | _, _ => none
def isLstO : AO → Bool
  | .lst _ => true
  | _ => false
def bIsi : MF := fun as h => match as with
  | [.loc n, .ty t] => (h[n]?).bind fun o => if isLstO o = true then (isiA (.loc n) t).bind fun b => some (.bl b, h) else none
  | [a, .ty t] => (isiA a t).bind fun b => some (.bl b, h)
  | _ => none
theorem call_isi : CallR X (.builtin "isinstance") (rC X.K bIsi) := by
  intro pins s σ H xs us Q I rv hh
  obtain ⟨ρ, h, as, c, h', R, r, e, k⟩ := hh
  have key : ∃ a t x u b, as = [a, .ty t] ∧ xs = [x, .ty t] ∧ us = [u, .type t] ∧ Rep X.K ρ H a x ∧ RelV x u ∧ isiA a t = some b ∧ c = .bl b ∧ h' = h ∧ (∀ n, a = .loc n → ∃ o, h[n]? = some o ∧ isLstO o = true) := by
    unfold bIsi at e
    split at e
    · rename_i n t
      obtain ⟨o, e0, e⟩ := bindS e
      have ho : isLstO o = true := by
        cases q : isLstO o with
        | true => rfl
        | false => rw [q, if_neg Bool.false_ne_true] at e; cases e
      rw [ho, if_pos rfl] at e
      obtain ⟨b, e1, e⟩ := bindS e
      cases e
      cases r with
      | cons r1 r2 =>
        cases r2 with
        | cons r2 r3 =>
          cases r3; cases r2
          cases rv with
          | cons v1 v2 =>
            cases v2 with
            | cons v2 v3 =>
              cases v3; cases v2
              exact ⟨_, _, _, _, b, rfl, rfl, rfl, r1, v1, e1, rfl, rfl, fun m hm => by cases hm; exact ⟨o, e0, ho⟩⟩
    · rename_i a t hne
      obtain ⟨b, e1, e⟩ := bindS e
      cases e
      cases r with
      | cons r1 r2 =>
        cases r2 with
        | cons r2 r3 =>
          cases r3; cases r2
          cases rv with
          | cons v1 v2 =>
            cases v2 with
            | cons v2 v3 =>
              cases v3; cases v2
              exact ⟨_, _, _, _, b, rfl, rfl, rfl, r1, v1, e1, rfl, rfl, fun m hm => by subst hm; exact (hne m rfl).elim⟩
    · cases e
  obtain ⟨a, t, x, u, b, rfl, rfl, rfl, ra, rx, e1, rfl, rfl, hloc⟩ := key
  have fin : ∀ tk : Nat, EP X pins σ Q (.bool b) { s with toks := tk } := fun tk => ⟨.bl b, H, I.tok _, rfl, k ρ H _ Up.refl R (.bl b)⟩
  have fin0 : EP X pins σ Q (.bool b) s := fin s.toks
  cases ra with
  | non =>
    cases rx
    simp only [isiA] at e1
    split at e1
    · rename_i ht
      cases e1
      rcases ht with rfl | rfl | rfl | rfl | rfl
      · exact IsiPair.NoneType_str (fin _)
      · exact IsiPair.NoneType_tuple (fin _)
      · exact IsiPair.NoneType_bool (fin _)
      · exact IsiPair.NoneType_int (fin _)
      · exact IsiPair.NoneType_list (fin _)
    · cases e1
  | bl bb =>
    cases rx
    simp only [isiA] at e1
    split at e1
    · rename_i ht
      cases e1
      rcases ht with rfl | rfl | rfl
      · exact IsiPair.bool_str (fin _)
      · exact IsiPair.bool_tuple (fin _)
      · exact IsiPair.bool_list (fin _)
    · split at e1
      · rename_i ht
        cases e1
        rcases ht with rfl | rfl
        · exact IsiPair.bool_bool fin0
        · exact IsiPair.bool_int fin0
      · cases e1
  | int bb =>
    obtain ⟨tk, rfl⟩ := rx
    simp only [isiA] at e1
    split at e1
    · rename_i ht
      cases e1
      rcases ht with rfl | rfl | rfl | rfl
      · exact IsiPair.int_str (fin _)
      · exact IsiPair.int_tuple (fin _)
      · exact IsiPair.int_bool (fin _)
      · exact IsiPair.int_list (fin _)
    · split at e1
      · rename_i ht
        cases e1
        subst ht
        exact IsiPair.int_int fin0
      · cases e1
  | str bb =>
    obtain ⟨tk, rfl⟩ := rx
    simp only [isiA] at e1
    split at e1
    · rename_i ht
      cases e1
      rcases ht with rfl | rfl | rfl | rfl
      · exact IsiPair.str_tuple (fin _)
      · exact IsiPair.str_bool (fin _)
      · exact IsiPair.str_int (fin _)
      · exact IsiPair.str_list (fin _)
    · split at e1
      · rename_i ht
        cases e1
        subst ht
        exact IsiPair.str_str fin0
      · cases e1
  | tup hs rs =>
    cases rx
    obtain ⟨its, r2, ⟨o, e2, hc2, n2, hd2⟩, z2⟩ := I.tuple hs
    simp only [isiA] at e1
    split at e1
    · rename_i ht
      cases e1
      rcases ht with rfl | rfl | rfl | rfl
      · exact IsiPair.tuple_str e2 hc2 (fin _)
      · exact IsiPair.tuple_bool e2 hc2 (fin _)
      · exact IsiPair.tuple_int e2 hc2 (fin _)
      · exact IsiPair.tuple_list e2 hc2 (fin _)
    · split at e1
      · rename_i ht
        cases e1
        subst ht
        exact IsiPair.tuple_tuple e2 hc2 fin0
      · cases e1
  | ro hro rs =>
    cases rx
    have hq := hro.sq
    obtain ⟨its, r2, ⟨o2, n2, e2, hc2, _, _⟩, z2⟩ := I.list hq
    simp only [isiA] at e1
    split at e1
    · rename_i ht
      cases e1
      rcases ht with rfl | rfl | rfl | rfl
      · exact IsiPair.list_str e2 hc2 (fin _)
      · exact IsiPair.list_bool e2 hc2 (fin _)
      · exact IsiPair.list_int e2 hc2 (fin _)
      · exact IsiPair.list_tuple e2 hc2 (fin _)
    · split at e1
      · rename_i ht
        cases e1
        subst ht
        exact IsiPair.list_list e2 hc2 fin0
      · cases e1
  | @loc n p hn =>
    cases rx
    obtain ⟨o, ho, hlo⟩ := hloc n rfl
    have hq : ∃ vs, SqL X.K H p vs := by
      have z := R.obj _ _ _ hn ho
      cases o with
      | lst xs => obtain ⟨vs, h1, _⟩ := z; exact ⟨vs, SqL.of h1⟩
      | ins C fs => exact absurd hlo Bool.false_ne_true
      | dic hf kvs => exact absurd hlo Bool.false_ne_true
      | clo ex xs => exact absurd hlo Bool.false_ne_true
    obtain ⟨vs, hq⟩ := hq
    obtain ⟨its, r2, ⟨o2, n2, e2, hc2, _, _⟩, z2⟩ := I.list hq
    simp only [isiA] at e1
    split at e1
    · rename_i ht
      cases e1
      rcases ht with rfl | rfl | rfl | rfl
      · exact IsiPair.list_str e2 hc2 (fin _)
      · exact IsiPair.list_bool e2 hc2 (fin _)
      · exact IsiPair.list_int e2 hc2 (fin _)
      · exact IsiPair.list_tuple e2 hc2 (fin _)
    · split at e1
      · rename_i ht
        cases e1
        subst ht
        exact IsiPair.list_list e2 hc2 fin0
      · cases e1
  | ty _ => cases e1
  | raw _ => cases e1
end
end Ab
set_option Elab.async false
set_option linter.all false
set_option maxRecDepth 100000
namespace Ab
open PySem PySem.Spec PyProof.Rows L2
set_option autoImplicit false
def isLst : A → AHp → Bool
  | .ro _, _ => true
  | .loc n, h => ((h[n]?).map isLstO).getD false
  | _, _ => false
def eMt (F : A → List A → AHp → Rs A) (mo : ME) (ms : MA) : ME := fun τ h => (mo τ h).bind fun p => if isLst p.1 p.2 = true then (ms τ p.2).bind fun q => F p.1 q.1 q.2 else none
def MtOk (K : PySem.W.Frag) (F : A → List A → AHp → Rs A) (r : V → List V → Hp → VK → Prop) : Prop := ∀ ρ H h o as c h' x xs (Q : VK), RelH K ρ H h → Rep K ρ H o x → Reps K ρ H as xs → F o as h = some (c, h') →
  (∀ ρ' H' v, Up K ρ H ρ' H' → RelH K ρ' H' h' → Rep K ρ' H' c v → Q v H') → r x xs H Q
section
variable {X : Cx} {K : PySem.W.Frag} {o e : Expr} {es : List Expr} {mo ma : ME} {ms : MA} {F : A → List A → AHp → Rs A} {r : V → List V → Hp → VK → Prop} {name : Str} {apos cpos pos : Pos} {id : String}
theorem tyV_lst {ρ : List Addr} {H : Hp} {h : AHp} {a : A} {x : V} (R : RelH K ρ H h) (ra : Rep K ρ H a x) (e : isLst a h = true) : tyV K "list" x H := by
  cases ra with
  | ro hs _ => exact .inl ⟨rfl, _, hs.sq⟩
  | @loc n p hn =>
    change ((h[n]?).map isLstO).getD false = true at e
    cases ho : h[n]? with
    | none => rw [ho] at e; cases e
    | some ob =>
      rw [ho] at e
      have z := R.obj _ _ _ hn ho
      cases ob with
      | lst xs => obtain ⟨vs, h1, _⟩ := z; exact .inl ⟨rfl, vs, SqL.of h1⟩
      | ins C fs => exact absurd e Bool.false_ne_true
      | dic hf kvs => exact absurd e Bool.false_ne_true
      | clo ex xs => exact absurd e Bool.false_ne_true
  | _ => cases e
theorem je_mt (slot : Slot "list" name id) (hty : typeOf (.builtin id) = pure (.type "method_descriptor")) (hm : MtR X id r) (ok : MtOk X.K F r) (ho : JE X o mo) (ha : JA X (e :: es) ms)
    (hbase : attributeBase o name X.env (eval o X.env) = eval o X.env := by rfl)
    (hfew : ((backTo cpos (starEach (e :: es) X.env)).all (fun x => !x.1) && (backToKw cpos (keywordEach [] X.env)).all (fun x => x.1.isSome)
      && decide ((e :: es).length + ([] : List Keyword).length + (if ([] : List Keyword).isEmpty then 0 else 1) < 30)) = true := by rfl)
    (hline : (apos.endLine == cpos.line) = true := by rfl) (hs : starEach (e :: es) X.env = (false, eval e X.env) :: starEach es X.env := by rfl) (hplain : (backTo cpos (starEach es X.env)).any (·.1) = false := by rfl) :
    JE X (.Call (.Attribute o name apos) (e :: es) [] cpos) (eMt F mo ms) := ⟨PE_imp (pe_bm PySem.F.plainAttrs_list slot hty hm ho.pf ha.pf hbase hfew hline hs hplain) fun σ H Q q => by
  obtain ⟨ρ, τ, h, d, h', R, S, e, k⟩ := q
  obtain ⟨⟨x, h1⟩, e1, e⟩ := bindS e
  dsimp only at e
  split at e
  · rename_i hl
    obtain ⟨⟨as, h2⟩, e2, e⟩ := bindS e
    refine ⟨ρ, τ, h, x, h1, R, S, e1, fun ρ1 H1 v1 u1 R1 r1 => ⟨tyV_lst R1 r1 hl, ρ1, τ, h1, as, h2, R1, S.up u1, e2, fun ρ2 H2 v2 u2 R2 r2 => ?_⟩⟩
    exact ok ρ2 H2 h2 x as d h' v1 v2 Q R2 (r1.up u2) r2 e fun ρ3 H3 v u3 R3 r3 => k ρ3 H3 v ((u1.trans u2).trans u3) R3 r3
  · cases e⟩
theorem je_mt0 (slot : Slot "list" name id) (hty : typeOf (.builtin id) = pure (.type "method_descriptor")) (hm : MtR X id r) (ok : MtOk X.K F r) (ho : JE X o mo)
    (hbase : attributeBase o name X.env (eval o X.env) = eval o X.env := by rfl) (hline : (apos.endLine == cpos.line) = true := by rfl) :
    JE X (.Call (.Attribute o name apos) [] [] cpos) (eMt F mo aNil) := ⟨PE_imp (pe_bm0 PySem.F.plainAttrs_list slot hty hm ho.pf hbase hline) fun σ H Q q => by
  obtain ⟨ρ, τ, h, d, h', R, S, e, k⟩ := q
  obtain ⟨⟨x, h1⟩, e1, e⟩ := bindS e
  dsimp only at e
  split at e
  · rename_i hl
    obtain ⟨⟨as, h2⟩, e2, e⟩ := bindS e
    cases e2
    refine ⟨ρ, τ, h, x, _, R, S, e1, fun ρ1 H1 v1 u1 R1 r1 => ⟨tyV_lst R1 r1 hl, ?_⟩⟩
    exact ok ρ1 H1 _ x [] d h' v1 [] Q R1 r1 .nil e fun ρ3 H3 v u3 R3 r3 => k ρ3 H3 v (u1.trans u3) R3 r3
  · cases e⟩
def fAppend (o : A) (as : List A) (h : AHp) : Rs A := match o, as with
  | .loc n, [v] => match h[n]? with
    | some (.lst xs) => if xs.length < 100000 then some (.non, h.set n (.lst (xs ++ [v]))) else none
    | _ => none
  | _, _ => none
theorem ok_append : MtOk K fAppend rAppend := by
  intro ρ H h o as c h' x xs Q R ro ra e k
  unfold fAppend at e
  split at e
  · split at e
    · rename_i ys hx
      split at e
      · rename_i hl
        cases e
        obtain ⟨p, rfl, h1, vs, h2, r1⟩ := R.locAt hx ro
        cases ra with
        | cons r2 rs =>
          cases rs
          obtain ⟨u, R'⟩ := R.store h1 hx (r1.append (.cons r2 .nil))
          exact ⟨p, vs, _, rfl, rfl, h2, by rw [← r1.length]; exact Nat.lt_of_lt_of_le hl (by decide), k ρ _ _ u R' .non⟩
      · cases e
    · cases e
  · cases e
def fPop (o : A) (as : List A) (h : AHp) : Rs A := match o, as with
  | .loc n, [] => match h[n]? with
    | some (.lst xs) => (xs[xs.length - 1]?).bind fun y => some (y, h.set n (.lst xs.dropLast))
    | _ => none
  | _, _ => none
theorem reps_dropLast {ρ : List Addr} {H : Hp} {xs : List A} {vs : List V} (r : Reps K ρ H xs vs) : Reps K ρ H xs.dropLast vs.dropLast := by
  rw [List.dropLast_eq_take, List.dropLast_eq_take, r.length]
  exact r.take _
theorem ok_pop : MtOk K fPop rPop := by
  intro ρ H h o as c h' x xs Q R ro ra e k
  unfold fPop at e
  split at e
  · split at e
    · rename_i ys hx
      obtain ⟨y, e1, e⟩ := bindS e
      cases e
      obtain ⟨p, rfl, h1, vs, h2, r1⟩ := R.locAt hx ro
      cases ra
      obtain ⟨v, h3, r3⟩ := r1.get e1
      obtain ⟨u, R'⟩ := R.store h1 hx (reps_dropLast r1)
      exact ⟨p, vs, v, rfl, rfl, h2, by rw [← r1.length]; exact h3, k ρ _ _ u R' (r3.up u)⟩
    · cases e
  · cases e
def eMs (F : A → List A → AHp → Rs A) (mo : ME) (ms : MA) : ME := fun τ h => (mo τ h).bind fun p => match p.1 with | .str _ => (ms τ p.2).bind fun q => F p.1 q.1 q.2 | _ => none
end
def itL (n : Nat) (len : Nat) : AIt := ⟨len, fun i h => (lstA (.loc n) h).bind fun xs => xs[i]?, fun h => match lstA (.loc n) h with | some xs => decide (xs.length ≤ len) | none => false⟩
def itT (xs : List A) : AIt := ⟨xs.length, fun i _ => xs[i]?, fun _ => true⟩
def itS (x : Str) : AIt := ⟨x.cps.size, fun i _ => (x.cps[i]?).bind fun c => some (.str ⟨#[c]⟩), fun _ => true⟩
def itR (lo : Int) (n : Nat) : AIt := ⟨n, fun i _ => if i < n then some (.int (lo + i)) else none, fun _ => true⟩
def iLst (ma : ME) : MI := fun τ h => (ma τ h).bind fun p => match p.1 with
  | .loc n => (lstA (.loc n) p.2).bind fun xs => some (itL n xs.length, p.2)
  | .ro xs => some (itT xs, p.2)
  | _ => none
def iStrM (ma : ME) : MI := fun τ h => (ma τ h).bind fun p => match p.1 with
  | .str x => some (itS x, p.2)
  | _ => none
def iRng1M (ms : MA) : MI := fun τ h => (ms τ h).bind fun p => match p.1 with
  | [.int j] => if -(2 ^ 62) ≤ j ∧ j < 2 ^ 62 then some (itR 0 j.toNat, p.2) else none
  | _ => none
section
variable {X : Cx} {K : PySem.W.Frag} {a b e tg : Expr} {ma : ME} {ms : MA} {p pos : Pos}
theorem it_list {ρ0 : List Addr} {H0 : Hp} {n len : Nat} {q : Addr} (hq : ρ0[n]? = some q) : ItOk K (Itl K q) (itL n len) ρ0 H0 := by
  intro ρ H h hp R
  have hq' := pre_get hp.pre hq
  refine ⟨fun i a e => ?_, fun e => ?_⟩
  · obtain ⟨xs, e1, e⟩ := bindS e
    obtain ⟨q', vs, eq, rs, hs⟩ := lst_some R (.loc hq') e1
    cases eq
    obtain ⟨v, h1, h2⟩ := rs.get e
    refine ⟨⟨vs, v, hs, h1⟩, fun x H' y => ?_⟩
    obtain ⟨rfl, y⟩ := y
    have := y vs hs
    rw [h1] at this; cases this
    exact ⟨Up.refl, R, h2⟩
  · change (match lstA (.loc n) h with | some xs => decide (xs.length ≤ len) | none => false) = true at e
    split at e
    · rename_i xs e1
      obtain ⟨q', vs, eq, rs, hs⟩ := lst_some R (.loc hq') e1
      cases eq
      exact ⟨vs, hs, by rw [← rs.length]; exact of_decide_eq_true e⟩
    · cases e
theorem it_str {ρ0 : List Addr} {H0 : Hp} {x : Str} : ItOk K (Its x) (itS x) ρ0 H0 := by
  intro ρ H h hp R
  refine ⟨fun i a e => ?_, fun _ => Nat.le_refl _⟩
  obtain ⟨c, e1, e⟩ := bindS e
  cases e
  refine ⟨(Array.getElem?_eq_some_iff.mp e1).1, fun x' H' y => ?_⟩
  obtain ⟨rfl, c', h1, rfl⟩ := y
  rw [e1] at h1; cases h1
  exact ⟨Up.refl, R, .str _⟩
theorem it_rng {ρ0 : List Addr} {H0 : Hp} {lo : Int} {n : Nat} : ItOk K (Itr lo n) (itR lo n) ρ0 H0 := by
  intro ρ H h hp R
  refine ⟨fun i a e => ?_, fun _ => Nat.le_refl _⟩
  change (if i < n then some (A.int (lo + i)) else none) = some a at e
  split at e
  · rename_i hi
    cases e
    refine ⟨hi, fun x' H' y => ?_⟩
    obtain ⟨rfl, rfl⟩ := y
    exact ⟨Up.refl, R, .int _⟩
  · cases e
theorem it_ro {ρ0 : List Addr} {xs : List A} {q : Addr} {H0 : Hp} {vs : List V} (hs : RoL K H0 q vs) (rs : Reps K ρ0 H0 xs vs) : ItOk K (Itl K q) (itT xs) ρ0 H0 := by
  intro ρ H h hp R
  have hs' := (hp.ros _ _ hs).sq
  have rs' := rs.le hp
  refine ⟨fun i a e => ?_, fun _ => ⟨vs, hs', by rw [← rs.length]; exact Nat.le_refl _⟩⟩
  change xs[i]? = some a at e
  obtain ⟨v, h1, h2⟩ := rs'.get e
  refine ⟨⟨vs, v, hs', h1⟩, fun x H' y => ?_⟩
  obtain ⟨rfl, y⟩ := y
  have := y vs hs'
  rw [h1] at this; cases this
  exact ⟨Up.refl, R, h2⟩
theorem ji_list (ha : JE X a ma) : JI X tg a (iLst ma) := ⟨PI_imp (pi_list ha.pf) fun σ H R q => by
  obtain ⟨ρ, τ, h, it, h', Rh, S, e, k⟩ := q
  obtain ⟨⟨x, h1⟩, e1, e⟩ := bindS e
  dsimp only at e
  split at e
  · obtain ⟨xs, e2, e⟩ := bindS e
    cases e
    refine ⟨ρ, τ, h, _, _, Rh, S, e1, fun ρ1 H1 v1 u1 R1 r1 => ?_⟩
    obtain ⟨q', vs, rfl, rs, hs⟩ := lst_some R1 r1 e2
    cases r1 with
    | loc hn => exact ⟨q', rfl, ⟨vs, hs⟩, k ρ1 H1 _ u1 R1 (it_list hn)⟩
  · cases e
    refine ⟨ρ, τ, h, _, _, Rh, S, e1, fun ρ1 H1 v1 u1 R1 r1 => ?_⟩
    cases r1 with
    | ro hs rs => exact ⟨_, rfl, ⟨_, hs.sq⟩, k ρ1 H1 _ u1 R1 (it_ro hs rs)⟩
  · cases e⟩
theorem ji_str (ha : JE X a ma) : JI X tg a (iStrM ma) := ⟨PI_imp (pi_str ha.pf) fun σ H R q => by
  obtain ⟨ρ, τ, h, it, h', Rh, S, e, k⟩ := q
  obtain ⟨⟨x, h1⟩, e1, e⟩ := bindS e
  dsimp only at e
  split at e
  · cases e
    refine ⟨ρ, τ, h, _, _, Rh, S, e1, fun ρ1 H1 v1 u1 R1 r1 => ?_⟩
    cases r1
    exact ⟨_, rfl, k ρ1 H1 _ u1 R1 it_str⟩
  · cases e⟩
theorem ji_rng1 (hm : X.mg "range" = none) (ha : JA X [a] ms) (hg : Gl X "range" := by rfl) (hs : starEach [a] X.env = [(false, eval a X.env)] := by rfl) : JI X tg (.Call (.Name "range" p) [a] [] pos) (iRng1M ms) := ⟨PI_imp (pi_range1 hg hm ha.pf hs) fun σ H R q => by
  obtain ⟨ρ, τ, h, it, h', Rh, S, e, k⟩ := q
  obtain ⟨⟨x, h1⟩, e1, e⟩ := bindS e
  dsimp only at e
  split at e
  · split at e
    · rename_i hj
      cases e
      refine ⟨ρ, τ, h, _, _, Rh, S, e1, fun ρ1 H1 v1 u1 R1 r1 => ?_⟩
      cases r1 with
      | cons r1 r2 =>
        cases r2; cases r1
        exact ⟨_, rfl, hj.1, hj.2, k ρ1 H1 _ u1 R1 it_rng⟩
    · cases e
  · cases e⟩
def lcL (it : AIt) (j : Nat) (mt : MT) (me : ME) (τ : ASt) : Nat → Nat → List A → AHp → Rs (List A)
  | 0, _, acc, h => if it.fin h = true then some (acc, h) else none
  | n + 1, k, acc, h => (it.get k h).bind fun a => (mt (τ.set j (some a)) h).bind fun b => if b.1 = true then (me (τ.set j (some a)) b.2).bind fun y => if acc.length < 100000 then lcL it j mt me τ n (k + 1) (acc ++ [y.1]) y.2 else none else lcL it j mt me τ n (k + 1) acc b.2
def mYes : MT := fun _ h => some (true, h)
def eLc (mi : MI) (j : Nat) (mt : MT) (me : ME) : ME := fun τ h => (mi τ h).bind fun p => (lcL p.1 j mt me (τ.set j none) p.1.n 0 [] p.2).bind fun q => some (.loc q.2.length, q.2 ++ [.lst q.1])
structure JTs (X : Cx) (ifs : List Expr) (m : MT) : Prop where
  pf : PTs X ifs (tT X.K m)
theorem jts_nil : JTs X [] mYes := ⟨fun pins s σ H Q I q => pts_nil pins s σ H Q I (by
  obtain ⟨ρ, τ, h, a, h', R, S, e, k⟩ := q
  cases e
  exact k ρ H Up.refl R)⟩
theorem jts_one {m : MT} (h : JT X a m) : JTs X [a] m := ⟨pts_one h.pf⟩
theorem set_none {ρ : List Addr} {H : Hp} {σ : L2.St} {τ : ASt} {j : Nat} (S : RelS K ρ H σ τ) : RelS K ρ H (σ.set j none) (τ.set j none) := by
  refine ⟨by rw [List.length_set, List.length_set, S.len], fun i a e => ?_⟩
  by_cases hij : j = i
  · subst hij
    have hl : j < (τ.set j none).length := (List.getElem?_eq_some_iff.mp e).1
    rw [List.length_set] at hl
    rw [List.getElem?_set_self hl] at e
    cases e
  · rw [List.getElem?_set_ne hij] at e ⊢
    exact S.get i a e
theorem imp_lc {mi : MI} {mt : MT} {me : ME} {j : Nat} (σ : L2.St) (H : Hp) (Q : VK) (q : tE K (eLc mi j mt me) σ H Q) : tLc (tI K mi) (gName j) (tT K mt) (tE K me) [j] σ H Q := by
  obtain ⟨ρ, τ, h, d, h', R, S, e, k⟩ := q
  obtain ⟨⟨it, h0⟩, e0, e⟩ := bindS e
  obtain ⟨⟨ls, h1⟩, e1, e⟩ := bindS e
  cases e
  refine ⟨ρ, τ, h, it, h0, R, S, e0, fun ρ0 H0 J u0 R0 okI D hD => ?_⟩
  have hDρ : D ∉ ρ0 := R0.notin hD
  obtain ⟨l0, R0'⟩ := R0.out (u := .lst []) hDρ (.inl hD)
  have U0 : Up K ρ0 H0 (ρ0 ++ [D]) (upd H0 D (.lst [])) := ⟨⟨⟨[D], rfl⟩, l0.tup, l0.ros, l0.frz⟩, fun p o n z => by rw [upd_ne (ne_of_none z hD)]; exact .inl z, fun p m n => by
    rcases List.mem_append.mp m with m | m
    · exact absurd m n
    · rw [List.mem_singleton.mp m]; exact hD⟩
  have Sw : RelS K ρ0 H0 (σ.set j none) (τ.set j none) := set_none (S.up u0)
  refine ⟨fun i n H2 => i + n = it.n ∧ ∃ ρ2 h2 acc vs, ρ0 <+: ρ2 ∧ D ∉ ρ2 ∧ Up K ρ0 H0 (ρ2 ++ [D]) H2 ∧ RelH K ρ2 H2 h2 ∧ H2 D = some (.lst vs) ∧ Reps K ρ2 H2 acc vs ∧ lcL it j mt me (τ.set j none) n i acc h2 = some (ls, h1),
    ⟨it.n, Nat.zero_add _, ρ0, h0, [], [], List.prefix_refl _, hDρ, U0, R0', upd_same, .nil, e1⟩, ?_⟩
  rintro i n H2 ⟨ei, ρ2, h2, acc, vs, p2, D2, U2, R2, HD, ra, e2⟩
  have L2' : Le K ρ0 H0 ρ2 H2 := ⟨p2, U2.tup, U2.ros, U2.frz⟩
  obtain ⟨okg, okf⟩ := okI ρ2 H2 h2 L2' R2
  cases n with
  | zero =>
    change (if it.fin h2 = true then some (acc, h2) else none) = _ at e2
    split at e2
    · rename_i hf
      cases e2
      have : i = it.n := by omega
      subst this
      exact .inl ⟨okf hf, k _ H2 _ (u0.trans U2) (R2.push D2 HD ra) (.loc (by rw [← R2.len]; simp))⟩
    · cases e2
  | succ n =>
    obtain ⟨a, e3, e2⟩ := bindS e2
    obtain ⟨⟨b, h3⟩, e4, e2⟩ := bindS e2
    obtain ⟨go, yl⟩ := okg i a e3
    refine .inr ⟨go, fun H5 => (i + 1) + n = it.n ∧ ∃ ρ2 h2 acc vs, ρ0 <+: ρ2 ∧ D ∉ ρ2 ∧ Up K ρ0 H0 (ρ2 ++ [D]) H5 ∧ RelH K ρ2 H5 h2 ∧ H5 D = some (.lst vs) ∧ Reps K ρ2 H5 acc vs ∧ lcL it j mt me (τ.set j none) n (i + 1) acc h2 = some (ls, h1), fun H5 z => ⟨n, Nat.lt_succ_self n, z⟩, fun x Hx yx => ?_⟩
    obtain ⟨ux, Rx, rx⟩ := yl x Hx yx
    have ew : (((σ.set j none).set j (some x)).set j none) = σ.set j none := by rw [List.set_set, List.set_set]
    refine And.intro ew ?_
    have Sx : RelS K ρ2 Hx ((σ.set j none).set j (some x)) ((τ.set j none).set j (some a)) := (Sw.le (Le.mk (p2) (fun p vs z => ux.tup _ _ (U2.tup _ _ z)) (fun p vs z => ux.ros _ _ (U2.ros _ _ z)) (fun p o y z => ux.frz _ _ _ (U2.frz _ _ _ z)))).set rx
    refine ⟨ρ2, _, h2, b, h3, Rx, Sx, e4, fun ρ3 H3 u3 R3 => ?_⟩
    have step : ∀ {ρa ρb : List Addr} {Ha Hb : Hp} (_ : ρ0 <+: ρa) (_ : D ∉ ρa) (_ : Up K ρ0 H0 (ρa ++ [D]) Ha) (_ : ∃ ws, Ha D = some (.lst ws)) (_ : Up K ρa Ha ρb Hb), ρ0 <+: ρb ∧ D ∉ ρb ∧ Up K ρ0 H0 (ρb ++ [D]) Hb ∧ Hb D = Ha D := by
      intro ρa ρb Ha Hb pa Da Ua Wa ub
      obtain ⟨ws, Wa⟩ := Wa
      have Db : D ∉ ρb := fun m => by have := ub.new D m Da; rw [Wa] at this; cases this
      refine ⟨pa.trans ub.pre, Db, ⟨⟨(pa.trans ub.pre).trans ⟨[D], rfl⟩, fun p vs z => ub.tup _ _ (Ua.tup _ _ z), fun p vs z => ub.ros _ _ (Ua.ros _ _ z), fun p o y z => ub.frz _ _ _ (Ua.frz _ _ _ z)⟩, fun p o n z => (Ua.oth p o n z).step fun o' z' => ub.oth p o' (fun m => ?_) z', fun p m n => ?_⟩, by rw [Wa]; exact (ub.oth D _ Da Wa).is nofun⟩
      · have := Ua.new p (List.mem_append_left _ m) n
        rw [z] at this; cases this
      · rcases List.mem_append.mp m with m | m
        · by_cases ma : p ∈ ρa
          · exact Ua.new p (List.mem_append_left _ ma) n
          · have z := ub.new p m ma
            cases q : H0 p with
            | none => rfl
            | some o => obtain ⟨o', z'⟩ := (Ua.oth p o n q).some; rw [z'] at z; cases z
        · rw [List.mem_singleton.mp m]; exact hD
    obtain ⟨p3, D3, U3, E3⟩ := step p2 D2 U2 ⟨vs, HD⟩ (ux.trans u3)
    rw [HD] at E3
    have ra3 : Reps K ρ3 H3 acc vs := ra.up (ux.trans u3)
    have S3 := Sx.up u3
    cases b with
    | false =>
      rw [if_neg Bool.false_ne_true] at e2
      refine iteF ?_
      exact ⟨by omega, ρ3, h3, acc, vs, p3, D3, U3, R3, E3, ra3, e2⟩
    | true =>
      rw [if_pos rfl] at e2
      refine iteT ?_
      obtain ⟨⟨y, h4⟩, e5, e2⟩ := bindS e2
      dsimp only at e2
      split at e2
      · rename_i hl
        refine ⟨ρ3, _, h3, y, h4, R3, S3, e5, fun ρ4 H4 v4 u4 R4 r4 => ?_⟩
        obtain ⟨p4, D4, U4, E4⟩ := step p3 D3 U3 ⟨vs, E3⟩ u4
        rw [E3] at E4
        have ra4 : Reps K ρ4 H4 acc vs := ra3.up u4
        refine ⟨vs, E4, by rw [← ra.length]; exact Nat.lt_of_lt_of_le hl (by decide), by omega, ρ4, h4, acc ++ [y], vs ++ [v4], p4, D4, ?_, ?_⟩
        · refine ⟨⟨U4.pre, fun p vs z => SqT_upd (.inr ⟨_, E4⟩) (U4.tup _ _ z), fun p vs z => RoL_upd (.inr ⟨_, E4⟩) (U4.ros _ _ z), fun p o y z => frz_upd (nf_lst E4) (U4.frz _ _ _ z)⟩, fun p o n z => by rw [upd_ne (ne_of_none z hD)]; exact U4.oth p o n z, U4.new⟩
        · obtain ⟨l5, R5⟩ := R4.out (u := .lst (vs ++ [v4])) D4 (.inr ⟨_, E4⟩)
          exact ⟨R5, upd_same, (ra4.append (.cons r4 .nil)).le l5, e2⟩
      · cases e2
theorem je_lc {elt iter : Expr} {ifs : List Expr} {scope : Scope} {x : Str} {tpos : Pos} {mi : MI} {mt : MT} {me : ME} (j : Nat) (hc : X.calm = true) (hN : X.N.Nodup) (hi : JI X (.Name x tpos) iter mi) (ok : BlkOk X.N X.env.scope scope [(x, j)])
    (hg : ∀ (s : Shared) (H : Hp) (C : Addr) (cl : List (Str × Addr)) (fp : List Addr), PG (X.blk s H scope (compEnvC scope cl C X.env) fp) (.Name x tpos) (gName j))
    (ht : ∀ (s : Shared) (H : Hp) (C : Addr) (cl : List (Str × Addr)) (fp : List Addr), JTs (X.blk s H scope (compEnvC scope cl C X.env) fp) ifs mt)
    (he : ∀ (s : Shared) (H : Hp) (C : Addr) (cl : List (Str × Addr)) (fp : List Addr), JE (X.blk s H scope (compEnvC scope cl C X.env) fp) elt me) (hs : ∀ x, foldedSetIterable iter X.env x = pure x := by intro _; rfl) :
    JE X (.ListComp elt [⟨.Name x tpos, iter, ifs, 0⟩] scope pos) (eLc mi j mt me) := ⟨PE_imp (pe_lc (own := [(x, j)]) (g := gName j) (tt := tT X.K mt) (te := tE X.K me) hc hN hi.pf ok hg (fun s H C cl fp => (ht s H C cl fp).pf) (fun s H C cl fp => (he s H C cl fp).pf) hs) imp_lc⟩
end
end Ab
set_option Elab.async false
set_option linter.all false
set_option maxRecDepth 100000
namespace Ab
open PySem PySem.Spec PyProof.Rows L2
set_option autoImplicit false
theorem u65 {k : Nat} {Ar : Around} (r : Room k Ar) : Ar.units + 65 < cLine := by have := r.un; omega
section
variable {X : Cx} {a b c e o i : Expr} {es : List Expr} {pos p : Pos} {ma mb mc mo mi : ME} {ms : MA} {k : Nat}
theorem je_eq (hr : Room k X.A) (ha : JE X a ma) (hb : JE X b mb) : JE X (.Compare a [.Eq] [b] pos) (eOp cEq ma mb) := je_cmp (op_eqA hr.units) ok_rA ha hb (nomark _)
theorem je_ne (hr : Room k X.A) (ha : JE X a ma) (hb : JE X b mb) : JE X (.Compare a [.NotEq] [b] pos) (eOp cNe ma mb) := je_cmp (op_neA hr.units) ok_rA ha hb (nomark _)
theorem je_in (hr : Room k X.A) (ha : JE X a ma) (hb : JE X b mb) (hm : behindInMarks .In b = false := by with_unfolding_all rfl) : JE X (.Compare a [.In] [b] pos) (eOp cIn ma mb) := je_cmp (op_inA (u65 hr)) ok_rA ha hb hm
theorem je_ni (hr : Room k X.A) (ha : JE X a ma) (hb : JE X b mb) (hm : behindInMarks .NotIn b = false := by with_unfolding_all rfl) : JE X (.Compare a [.NotIn] [b] pos) (eOp cNi ma mb) := je_cmp (op_niA (u65 hr)) ok_rA ha hb hm
theorem je_lele (hr : Room k X.A) (ha : JE X a ma) (hb : JE X b mb) (hc : JE X c mc) (hm : lastMarks [.LtE, .LtE] [b, c] = false := by with_unfolding_all rfl) : JE X (.Compare a [.LtE, .LtE] [b, c] pos) (eChain cLe cLe ma mb mc) := je_chain op_le2 ok_le op_le2 ok_le ha hb hc hm
theorem jt_eq (hr : Room k X.A) (ha : JE X a ma) (hb : JE X b mb) : JT X (.Compare a [.Eq] [b] pos) (mB (eOp cEq ma mb)) := jt_cmp (op_eqA hr.units) ok_rA ha hb (nomark _)
theorem jt_ne (hr : Room k X.A) (ha : JE X a ma) (hb : JE X b mb) : JT X (.Compare a [.NotEq] [b] pos) (mB (eOp cNe ma mb)) := jt_cmp (op_neA hr.units) ok_rA ha hb (nomark _)
theorem jt_in (hr : Room k X.A) (ha : JE X a ma) (hb : JE X b mb) (hm : behindInMarks .In b = false := by with_unfolding_all rfl) : JT X (.Compare a [.In] [b] pos) (mB (eOp cIn ma mb)) := jt_cmp (op_inA (u65 hr)) ok_rA ha hb hm
theorem jt_ni (hr : Room k X.A) (ha : JE X a ma) (hb : JE X b mb) (hm : behindInMarks .NotIn b = false := by with_unfolding_all rfl) : JT X (.Compare a [.NotIn] [b] pos) (mB (eOp cNi ma mb)) := jt_cmp (op_niA (u65 hr)) ok_rA ha hb hm
theorem jt_is (hr : Room k X.A) (ha : JE X a ma) (hb : JE X b mb) : JT X (.Compare a [.Is] [b] pos) (mB (eOp cIs ma mb)) := jt_cmp op_isA ok_rA ha hb (nomark _)
theorem jt_lt (hr : Room k X.A) (ha : JE X a ma) (hb : JE X b mb) : JT X (.Compare a [.Lt] [b] pos) (mB (eOp cLt ma mb)) := jt_cmp op_lt2 ok_lt ha hb (nomark _)
theorem jt_le (hr : Room k X.A) (ha : JE X a ma) (hb : JE X b mb) : JT X (.Compare a [.LtE] [b] pos) (mB (eOp cLe ma mb)) := jt_cmp op_le2 ok_le ha hb (nomark _)
theorem jt_gt (hr : Room k X.A) (ha : JE X a ma) (hb : JE X b mb) : JT X (.Compare a [.Gt] [b] pos) (mB (eOp cGt ma mb)) := jt_cmp op_gt2 ok_gt ha hb (nomark _)
theorem jt_ge (hr : Room k X.A) (ha : JE X a ma) (hb : JE X b mb) : JT X (.Compare a [.GtE] [b] pos) (mB (eOp cGe ma mb)) := jt_cmp op_ge2 ok_ge ha hb (nomark _)
theorem jt_lele (hr : Room k X.A) (ha : JE X a ma) (hb : JE X b mb) (hc : JE X c mc) (hm : lastMarks [.LtE, .LtE] [b, c] = false := by with_unfolding_all rfl) : JT X (.Compare a [.LtE, .LtE] [b, c] pos) (mB (eChain cLe cLe ma mb mc)) := jt_chain op_le2 ok_le op_le2 ok_le ha hb hc hm
theorem je_len (hm : X.mg "len" = none) (ha : JA X (e :: es) ms) (hg : Gl X "len" := by rfl)
    (he : starEach (e :: es) X.env = (false, eval e X.env) :: starEach es X.env := by rfl) (hpl : (backTo pos (starEach es X.env)).any (·.1) = false := by rfl) : JE X (.Call (.Name "len" p) (e :: es) [] pos) (eCall bLen ms) := je_callB call_len2 ok_len hm (by decide +kernel) ha hg (by decide) (by decide) he hpl
theorem je_isi (hm : X.mg "isinstance" = none) (ha : JA X (e :: es) ms) (hg : Gl X "isinstance" := by rfl)
    (he : starEach (e :: es) X.env = (false, eval e X.env) :: starEach es X.env := by rfl) (hpl : (backTo pos (starEach es X.env)).any (·.1) = false := by rfl) : JE X (.Call (.Name "isinstance" p) (e :: es) [] pos) (eCall bIsi ms) := je_callB call_isi ok_rC hm (by decide +kernel) ha hg (by decide) (by decide) he hpl
theorem je_all (hm : X.mg "all" = none) (ha : JA X (e :: es) ms) (hc : X.calm = true := by rfl) (hg : Gl X "all" := by rfl)
    (he : starEach (e :: es) X.env = (false, eval e X.env) :: starEach es X.env := by rfl) (hpl : (backTo pos (starEach es X.env)).any (·.1) = false := by rfl) : JE X (.Call (.Name "all" p) (e :: es) [] pos) (eCall bAll ms) := je_callB (cr_all hc) ok_all hm (by decide +kernel) ha hg (by decide) (by decide) he hpl
theorem je_max2 (hm : X.mg "max" = none) (ha : JA X (e :: es) ms) (hc : X.calm = true := by rfl) (hg : Gl X "max" := by rfl)
    (he : starEach (e :: es) X.env = (false, eval e X.env) :: starEach es X.env := by rfl) (hpl : (backTo pos (starEach es X.env)).any (·.1) = false := by rfl) : JE X (.Call (.Name "max" p) (e :: es) [] pos) (eCall bMax2 ms) := je_callB (call_max2 hc) ok_max2 hm (by decide +kernel) ha hg (by decide) (by decide) he hpl
theorem je_min2 (hm : X.mg "min" = none) (ha : JA X (e :: es) ms) (hc : X.calm = true := by rfl) (hg : Gl X "min" := by rfl)
    (he : starEach (e :: es) X.env = (false, eval e X.env) :: starEach es X.env := by rfl) (hpl : (backTo pos (starEach es X.env)).any (·.1) = false := by rfl) : JE X (.Call (.Name "min" p) (e :: es) [] pos) (eCall bMin2 ms) := je_callB (call_min2 hc) ok_min2 hm (by decide +kernel) ha hg (by decide) (by decide) he hpl
variable {apos cpos : Pos}
theorem je_append (ho : JE X o mo) (ha : JA X (e :: es) ms)
    (hbase : attributeBase o "append" X.env (eval o X.env) = eval o X.env := by rfl)
    (hfew : ((backTo cpos (starEach (e :: es) X.env)).all (fun x => !x.1) && (backToKw cpos (keywordEach [] X.env)).all (fun x => x.1.isSome)
      && decide ((e :: es).length + ([] : List Keyword).length + (if ([] : List Keyword).isEmpty then 0 else 1) < 30)) = true := by rfl)
    (hline : (apos.endLine == cpos.line) = true := by rfl) (hs : starEach (e :: es) X.env = (false, eval e X.env) :: starEach es X.env := by rfl) (hplain : (backTo cpos (starEach es X.env)).any (·.1) = false := by rfl) :
    JE X (.Call (.Attribute o "append" apos) (e :: es) [] cpos) (eMt fAppend mo ms) := je_mt PySem.F.slot_list_append PySem.F.type_list_append mt_append ok_append ho ha hbase hfew hline hs hplain
theorem je_pop0 (ho : JE X o mo) (hbase : attributeBase o "pop" X.env (eval o X.env) = eval o X.env := by rfl) (hline : (apos.endLine == cpos.line) = true := by rfl) :
    JE X (.Call (.Attribute o "pop" apos) [] [] cpos) (eMt fPop mo aNil) := je_mt0 PySem.F.slot_list_pop PySem.F.type_list_pop mt_pop ok_pop ho hbase hline
theorem js_setIx {pos' : Pos} (hv : JE X e ma) (ho : JE X o mo) (hi : JE X i mi)
    (hs : swapsWithSole [.Subscript o i pos'] e pos.line X.env = pure false := by rfl) (hw : swappedStores [.Subscript o i pos'] e X.env = pure none := by rfl)
    (h1 : (assignEach [.Subscript o i pos'] X.env).map (·.2) = [assign (.Subscript o i pos') X.env] := by rfl)
    (ha : ∀ v, assign (.Subscript o i pos') X.env v = (do
      let ov ← holding [v] (eval o X.env)
      let iv ← holding [v, ov] (eval i X.env)
      standAt pos'
      holding [v, ov, iv] (setItem ov iv v)
      release [v, ov, iv] []) := by intro _; rfl) : JS X (.Assign [.Subscript o i pos'] e pos) (sAsg ma (gIx mo mi xSet)) := js_asg hv (jg_sub ho hi set_list ok_set ha) hs hw h1
end
structure Fn (P : Program) (w : World) (K : PySem.W.Frag) (mg : Str → Option Value) (base : Heap) (k : Nat) (x : Str) (F : MF) (n : Nat) : Prop where
  ex : ∃ f fd ps, FnOk P w K mg base CX0 k f fd ps (spF K F n) ∧ Binds K fd ps [] ∧ PySem.W.keepIn K (.ref f) = true ∧ mg x = some (.ref f)
theorem je_fn {X : Cx} {e : Expr} {es : List Expr} {pos p : Pos} {ms : MA} {k n : Nat} {x : Str} {F : MF} (h : Fn X.prog X.w X.K X.mg X.base k x F n) (hr : Room k X.A) (ha : JA X (e :: es) ms)
    (hn : ∀ (τ : ASt) (h : AHp) (p : List A × AHp), ms τ h = some p → p.1.length = n := by repeat (first | exact len_nil | refine len_cons ?_))
    (hg : Gl X x := by rfl) (hdb : (x == ("__debug__" : Str)) = false := by decide) (he : starEach (e :: es) X.env = (false, eval e X.env) :: starEach es X.env := by rfl) (hpl : (backTo pos (starEach es X.env)).any (·.1) = false := by rfl) :
    JE X (.Call (.Name x p) (e :: es) [] pos) (eCall F ms) := by
  obtain ⟨f, fd, ps, h1, h2, h3, h4⟩ := h.ex
  exact je_call h1 hr h4 h3 h2 ha hn hg hdb he hpl
structure Def (K : PySem.W.Frag) (mg : Str → Option Value) (x : Str) (st : Stmt) (ps : List Str) : Prop where
  ex : ∃ f fd, Fun K x x st f fd ∧ Binds K fd ps [] ∧ mg x = some (.ref f)
theorem fn_mk {P : Program} {w : World} {K : PySem.W.Frag} {mg : Str → Option Value} {base : Heap} {x : Str} {st : Stmt} {N ps : List Str} {k n : Nat} {body : MS} (D : Def K mg x st ps) (S : FnScope N ps (defScope st)) (hn : ps.length = n)
    (hb : ∀ (f : Addr) (cdv : Value) (A : Around) (outer : List Env) (s : Shared) (H : Hp) (E : XK), Room k (A.deeper (envOfC x (defScope st) s.heap.objs.size f cdv)) → JB (cxOf CX0 P w K mg base N x (defScope st) f cdv A outer s H E).nox (defBody st) body) :
    Fn P w K mg base (k + 1) x (fnOf N.length body) n := by
  obtain ⟨f, fd, F, b, m⟩ := D.ex
  exact ⟨f, fd, ps, fn_ok F S hn (hb f), b, F.kp, m⟩
theorem fn_no {P : Program} {w : World} {K : PySem.W.Frag} {mg : Str → Option Value} {base : Heap} {x : Str} {st : Stmt} {ps : List Str} {k n : Nat} (D : Def K mg x st ps) : Fn P w K mg base k x (fun _ _ => none) n := by
  obtain ⟨f, fd, F, b, m⟩ := D.ex
  exact ⟨f, fd, ps, fn_zero, b, F.kp, m⟩
theorem Fn.mono {P : Program} {w : World} {K : PySem.W.Frag} {mg : Str → Option Value} {base : Heap} {x : Str} {k j n : Nat} {F : MF} (h : Fn P w K mg base k x F n) (hk : k ≤ j) : Fn P w K mg base j x F n := by
  obtain ⟨f, fd, ps, h1, h2, h3, h4⟩ := h.ex
  exact ⟨f, fd, ps, h1.mono hk, h2, h3, h4⟩
end Ab
set_option Elab.async false
set_option linter.all false
set_option maxRecDepth 100000
namespace Ab
open PySem PySem.Spec PyProof.Rows L2
set_option autoImplicit false
structure Cn (K : PySem.W.Frag) (mg : Str → Option Value) (x : Str) (a : A) : Prop where
  ex : ∃ v u, Cst K a v ∧ mg x = some u ∧ RelV v u
theorem je_cn {X : Cx} {x : Str} {a : A} {pos : Pos} (h : Cn X.K X.mg x a) (hg : Gl X x := by rfl) (hd : (x == ("__debug__" : Str)) = false := by decide) : JE X (.Name x pos) (eC a) := by
  obtain ⟨v, u, h1, h2, h3⟩ := h.ex
  exact je_glob h1 h2 h3 hg hd
theorem cn_int {K : PySem.W.Frag} {mg : Str → Option Value} {x : Str} {i : Int} {t : Tok} (h : mg x = some (.int i t)) : Cn K mg x (.int i) := ⟨.int i, _, fun _ _ => .int i, h, ⟨t, rfl⟩⟩
theorem cn_str {K : PySem.W.Frag} {mg : Str → Option Value} {x i : Str} {t : Tok} (h : mg x = some (.str i t)) : Cn K mg x (.str i) := ⟨.str i, _, fun _ _ => .str i, h, ⟨t, rfl⟩⟩
theorem strs_rep {K : PySem.W.Frag} {ρ : List Addr} {H : Hp} : ∀ (xs : List Str), Reps K ρ H (xs.map A.str) (xs.map V.str)
  | [] => .nil
  | x :: r => .cons (.str x) (strs_rep r)
theorem cn_strs {K : PySem.W.Frag} {mg : Str → Option Value} {x : Str} {p : Addr} {xs : List Str} {oc : Value} {od : Option Addr} {its : Array Value} {n : Nat} {sl : Array (Option Value)} (h : mg x = some (.ref p)) (l : K.lookup p = some ⟨oc, od, .seq its n, sl⟩) (hc : oc = .type "tuple") (hz : its.size ≤ sizeLine) (hv : Vals (xs.map V.str) its.toList) : Cn K mg x (.tup (xs.map A.str)) :=
  ⟨.ref p, _, fun _ _ => .tup (.inr ⟨_, its, n, l, hc, rfl, hz, hv⟩) (strs_rep xs), h, rfl⟩
def spLaw (K : PySem.W.Frag) : Sp := fun vs H Q _ => ∃ (a : Addr) (ns : List Int), vs = [.ref a] ∧ RoL K H a (ns.map V.int) ∧ TabOk K H ∧ ns.length ≤ 63 ∧ ∀ H', Q (.bl true) H'
theorem law_imp {K : PySem.W.Frag} {F : MF} (hF : ∀ ns : List Int, ns.length ≤ 63 → ∃ h, F [.ro (ns.map A.int)] [] = some (.bl true, h)) : ∀ vs H Q E, spLaw K vs H Q E → spF K F 1 vs H Q E := by
  intro vs H Q E h
  obtain ⟨a, ns, rfl, hr, ht, hl, q⟩ := h
  obtain ⟨h', e⟩ := hF ns hl
  refine ⟨rfl, [], _, [], .bl true, h', ⟨rfl, List.nodup_nil, fun n p o e => by simp at e, ht⟩, .cons (.ro hr (Reps.ints ns)) .nil, e, fun ρ' H' v _ _ r => ?_⟩
  cases r
  exact q H'
def BMod (base : Heap) (mg : Str → Option Value) : Prop := ∃ bm o, mg "__builtins__" = some (.ref bm) ∧ bm ≠ builtinsNs ∧ bm ≠ mainGlobals ∧ base.get? bm = some o ∧ o.cls = .type "module" ∧ o.dict = some builtinsNs ∧ o.data = .plain
def OnlyT (ts : List Addr) (H : Hp) : Prop := ∀ b, (H b = none ∧ b ∉ ts) ∨ (∃ o xs, H b = some (.frz o (.lst xs)) ∧ b ∉ ts) ∨ (b ∈ ts ∧ H b = some (.tbl #[]))
theorem ro_ofT {K : PySem.W.Frag} {ts : List Addr} {H : Hp} {a : Addr} {xs : List V} (hO : OnlyT ts H) (h : SqL K H a xs) : RoL K H a xs := by
  rcases h with (h | ⟨o, h⟩) | h
  · rcases hO a with ⟨z, _⟩ | ⟨o, ys, z, _⟩ | ⟨_, z⟩ <;> (rw [h] at z; cases z)
  · exact .inl ⟨o, h⟩
  · exact .inr h
theorem law_callT {P : Program} {w : World} {K : PySem.W.Frag} {mg mb : Str → Option Value} {k : Nat} {fa a : Addr} {fd : FuncData} {x : Str} {sp : Sp} {s₁ : Shared} {vs : List Value} {ns : List Int} {ts : List Addr}
    (KX : K.In s₁.heap) (hns : s₁.heap.Ns mainGlobals mg) (hb : s₁.heap.Ns builtinsNs mb) (hbb : ∀ x : Str, x ≠ "__name__" → mb x = bootBuiltins x) (hlim : s₁.heap.NoLimit) (hg : s₁.gens = #[])
    (ha : s₁.heap.get? a = some { cls := .type "list", data := .seq vs.toArray }) (hi : IntsAre vs ns) (hl : ns.length ≤ sizeLine) (hr : Room k callerA)
    (hT : ∀ Q ∈ ts, s₁.heap.get? Q = some (PySem.W.tabObj #[]) ∧ isCodeTable s₁.heap Q) (hK : PySem.W.noTabs K = true) (hbm : BMod s₁.heap mg)
    (F : ∀ base : Heap, K.In base → base.Ns mainGlobals mg → BMod base mg → FnOk P w K mg base CX0 k fa fd [x] sp) (hbind : ∀ (s : Shared) (u : Value), BindsTo s fd ⟨[u], []⟩ [(x, u)])
    (hsp : ∀ H : Hp, OnlyT ts H → SqL K H a (ns.map V.int) → sp [.ref a] H (fun v _ => v = .bl true) fun _ _ _ => False) :
    codeAny (model P w) callerA (.call (.ref fa) ⟨[.ref a], []⟩) (fun r s' => r = .ok (.ret (.bool true)) ∧ OldK s₁.heap s'.heap ∧ s'.os = s₁.os ∧ AllBare s'.gens) s₁ := by
  have rv := vals_ints hi
  have lenV := hi.length
  have aT : a ∉ ts := fun m => by
    have e := (hT a m).1
    rw [ha] at e
    cases e
  have kT : ∀ b o, K.lookup b = some o → b ∉ ts := fun b o e m => by
    have e1 := KX b o e
    rw [(hT b m).1] at e1
    have h2 := List.all_eq_true.mp hK (b, o) (PySem.W.mem_of_lookupK e)
    cases e1
    exact absurd (show false = true from h2) Bool.false_ne_true
  have core : ∀ H : Hp, OnlyT ts H → SqL K H a (ns.map V.int) → HOk P w H s₁.heap → (∀ b, H b ≠ none → b = a ∨ b ∈ ts) → (H a ≠ none → K.lookup a = none) →
      codeAny (model P w) callerA (.call (.ref fa) ⟨[.ref a], []⟩) (fun r s' => r = .ok (.ret (.bool true)) ∧ OldK s₁.heap s'.heap ∧ s'.os = s₁.os ∧ AllBare s'.gens) s₁ := by
    intro H hO hS hok hA hKa
    have base_of : ∀ {b : Addr} {o : Obj}, s₁.heap.get? b = some o → H b = none → (hidT s₁.heap H).get? b = some o := fun e n => hidT_get e n
    have noA : ∀ {b : Addr} {o : Obj} {es : Array DictEntry} {ep : Nat}, s₁.heap.get? b = some o → o.data = .dict es ep → H b = none := fun {b o es ep} e d => by
      cases q : H b with
      | none => rfl
      | some u =>
        rcases hA b (by rw [q]; simp) with e' | e'
        · subst e'
          rw [ha] at e; cases e
          have d' : Data.seq vs.toArray _ = Data.dict es ep := d
          cases d'
        · rw [(hT b e').1] at e
          cases e
          have d' : Data.fields #[] = Data.dict es ep := d
          cases d'
    have nsK : ∀ {b : Addr} {m : Str → Option Value}, s₁.heap.Ns b m → (hidT s₁.heap H).Ns b m := fun {b m} ⟨o, es, ep, e, d, r⟩ => ⟨o, es, ep, base_of e (noA e d), d, r⟩
    have hKb : K.In (hidT s₁.heap H) := fun b o e => base_of (KX b o e) (by
      cases q : H b with
      | none => rfl
      | some u =>
        rcases hA b (by rw [q]; simp) with e' | e'
        · subst e'
          rw [hKa (by rw [q]; simp)] at e; cases e
        · exact absurd e' (kT b o e))
    have hM : Mod K mg (hidT s₁.heap H) := ⟨hKb, nsK hns, ⟨mb, nsK hb, hbb⟩, let ⟨mc, h1, h2⟩ := hlim; ⟨mc, nsK h1, h2⟩⟩
    have e0 : Env0 P w K mg (hidT s₁.heap H) callerA [] s₁ H := ⟨rfl, hM, fun b o e => of_hidT e, Nat.le_of_eq (hidT_size _ _), trivial, fun b hb => absurd (show b ∈ ([] : List Addr) from hb) (by simp), hok, .of_eq hg⟩
    have hBM : BMod (hidT s₁.heap H) mg := by
      obtain ⟨bm, ob, b1, b2, b3, b4, b5, b6, b7⟩ := hbm
      refine ⟨bm, ob, b1, b2, b3, base_of b4 ?_, b5, b6, b7⟩
      cases q : H bm with
      | none => rfl
      | some u =>
        rcases hA bm (by rw [q]; simp) with e' | e'
        · subst e'
          rw [ha] at b4; cases b4
          cases b7
        · rw [(hT bm e').1] at b4
          cases b4
          cases b7
    refine codeAny_mono ((F _ hKb (nsK hns) hBM).run callerA [] s₁ H ⟨[.ref a], []⟩ [.ref a] [.ref a] _ _ hr e0 (hbind s₁ (.ref a)) (.cons rfl .nil) (hsp H hO hS)) fun r s' h => ?_
    cases r with
    | error e => exact False.elim h
    | ok fl =>
      cases fl with
      | next => exact False.elim h
      | brk => exact False.elim h
      | cont => exact False.elim h
      | ret u =>
        obtain ⟨v, H', os, bare, un, hok', r', q⟩ := h
        have q' : v = .bl true := q
        subst q'
        obtain rfl : u = Value.bool true := r'
        have kp : ∀ b o, b ∉ ts → s₁.heap.get? b = some o → s'.heap.get? b = some o := fun b o hb e => by
          rcases hO b with ⟨z, _⟩ | ⟨ob, xs, z, _⟩ | ⟨z, _⟩
          · exact un.keep b o e z (by intro z; exact absurd (show b ∈ ([] : List Addr) from z) (by simp)) (by simp)
          · have z2 := un.frzs b ob _ z
            obtain ⟨e1, _⟩ := hok b _ z
            obtain ⟨e2, _⟩ := hok' b _ z2
            rw [e] at e1; cases e1
            exact e2
          · exact absurd z hb
        have tb : ∀ b, b ∈ ts → ∃ ps, s'.heap.get? b = some (PySem.W.tabObj ps) := fun b hb => by
          rcases hO b with ⟨_, z⟩ | ⟨_, _, _, z⟩ | ⟨_, z⟩
          · exact absurd hb z
          · exact absurd hb z
          · obtain ⟨more, z2⟩ := un.tbls b _ z
            exact ⟨_, hok' b _ z2⟩
        refine ⟨rfl, ⟨fun b o e => ?_, fun b o e => ?_⟩, os, bare⟩
        · by_cases hb : b ∈ ts
          · obtain ⟨ps, hP⟩ := tb b hb
            obtain ⟨h1, h2⟩ := hT b hb
            rw [e] at h1
            cases h1
            exact .inr (.inl ⟨h2, rfl, #[], ps, rfl, by rw [Array.empty_append]; exact hP⟩)
          · exact .inl (kp b o hb e)
        · by_cases hb : b ∈ ts
          · obtain ⟨ps, hP⟩ := tb b hb
            exact ⟨_, hP⟩
          · exact ⟨o, kp b o hb e⟩
  have tO : ∀ b ∈ ts, ObjOk P w (fun b => if b ∈ ts then some (.tbl #[]) else none) s₁.heap b (.tbl #[]) := fun b hb => (hT b hb).1
  cases hk : K.lookup a with
  | some o =>
    have e := KX a o hk
    rw [ha] at e
    cases e
    refine core (fun b => if b ∈ ts then some (.tbl #[]) else none) (fun b => ?_) (.inr ⟨_, vs.toArray, _, hk, rfl, rfl, rfl, by rw [List.size_toArray, lenV]; exact hl, by simpa using rv⟩) (fun b u z => ?_) (fun b z => ?_) fun z => absurd (if_neg aT) z
    · by_cases hb : b ∈ ts
      · exact .inr (.inr ⟨hb, if_pos hb⟩)
      · exact .inl ⟨if_neg hb, hb⟩
    · by_cases hb : b ∈ ts
      · have z' := (if_pos hb).symm.trans z
        cases z'
        exact (hT b hb).1
      · have z' := (if_neg hb).symm.trans z
        cases z'
    · by_cases hb : b ∈ ts
      · exact .inr hb
      · exact absurd (if_neg hb) z
  | none =>
    refine core (fun b => if b = a then some (.frz { cls := .type "list", data := .seq vs.toArray } (.lst (ns.map V.int))) else if b ∈ ts then some (.tbl #[]) else none) (fun b => ?_) (.inl (.inr ⟨{ cls := .type "list", data := .seq vs.toArray }, if_pos rfl⟩)) (fun b u z => ?_) (fun b z => ?_) fun _ => hk
    · by_cases hb : b = a
      · subst hb; exact .inr (.inl ⟨_, _, if_pos rfl, aT⟩)
      · by_cases hb2 : b ∈ ts
        · exact .inr (.inr ⟨hb2, (if_neg hb).trans (if_pos hb2)⟩)
        · exact .inl ⟨(if_neg hb).trans (if_neg hb2), hb2⟩
    · by_cases hb : b = a
      · have z' := (if_pos hb).symm.trans z
        cases z'
        subst hb
        exact ⟨ha, by rw [List.length_map]; exact hl, vs, _, rv, ha⟩
      · have z' := (if_neg hb).symm.trans z
        by_cases hb2 : b ∈ ts
        · have z2 := (if_pos hb2).symm.trans z'
          cases z2
          exact (hT b hb2).1
        · have z2 := (if_neg hb2).symm.trans z'
          cases z2
    · by_cases hb : b = a
      · exact .inl hb
      · by_cases hb2 : b ∈ ts
        · exact .inr hb2
        · exact absurd ((if_neg hb).trans (if_neg hb2)) z
def tabAll (K : PySem.W.Frag) (o : Obj) : Option (Str × Addr) := match o.data with
  | .func fd => if hasLam fd.body then (match fd.code with
    | .ref c => tabOf K o c
    | _ => none) else none
  | _ => none
theorem tabAll_of {K : PySem.W.Frag} {o : Obj} {c : Addr} {z : Str × Addr} (h : tabOf K o c = some z) : tabAll K o = some z := by
  have h0 := h
  unfold tabOf at h
  unfold tabAll
  split at h
  · rename_i fd hd
    split at h
    · rename_i hl
      split at h
      · rename_i c' hc
        split at h
        · rename_i e
          subst e
          simp only [hd, hl, if_true, hc]
          exact h0
        · cases h
      · cases h
    · cases h
  · cases h
def tabsIn (K : PySem.W.Frag) (ts : List Addr) : Bool := K.all fun p => match tabAll K p.2 with
  | some (_, P) => ts.contains P
  | none => true
theorem tabs_in {K : PySem.W.Frag} {ts : List Addr} (h : tabsIn K ts = true) {c P : Addr} {q : Str} (i : IsTab K c P q) : P ∈ ts := by
  obtain ⟨f, o, qn, l, t, _⟩ := i
  have z := List.all_eq_true.mp h (f, o) (PySem.W.mem_of_lookupK l)
  simp only [tabAll_of t] at z
  simpa using z
def tabUniq (K : PySem.W.Frag) : Bool := K.all fun p => match tabAll K p.2 with
  | none => true
  | some (q1, P1) => K.all fun r => match tabAll K r.2 with
    | none => true
    | some (q2, P2) => !(P1 == P2) || q1 == q2
theorem tab_uq {K : PySem.W.Frag} (h : tabUniq K = true) {c1 c2 P : Addr} {q1 q2 : Str} (i : IsTab K c1 P q1) (j : IsTab K c2 P q2) : q1 = q2 := by
  obtain ⟨f1, o1, n1, l1, t1, rfl⟩ := i
  obtain ⟨f2, o2, n2, l2, t2, rfl⟩ := j
  have z := List.all_eq_true.mp h (f1, o1) (PySem.W.mem_of_lookupK l1)
  simp only [tabAll_of t1] at z
  have z2 := List.all_eq_true.mp z (f2, o2) (PySem.W.mem_of_lookupK l2)
  simp only [tabAll_of t2] at z2
  have : n1 = n2 := by simpa using z2
  rw [this]
theorem walk {l : PySem.W.OpenLaw} {q : Program} {loose : List Str} {XP : (Str → Option Value) → Heap → Prop} {YP : World → Heap → Prop} {d : DefRec} {K : Params → PySem.W.Frag} {ts : List Addr} {k : Nat} {x : Str} (hn : l.most = some 63) (hdf : d.params.defaults = []) (hr : Room k callerA)
    (hY : ∀ (w : World) (h : Heap), YP w h → (K w.params).In h) (hT : ∀ (w : World) (h : Heap), YP w h → ∀ Q ∈ ts, h.get? Q = some (PySem.W.tabObj #[])) (hC : ∀ w : World, (ts.all fun Q => (K w.params).any fun p => PySem.W.codeHdIn (K w.params) p.1 Q) = true)
    (hN : ∀ w : World, PySem.W.noTabs (K w.params) = true) (hI : ∀ w : World, tabsIn (K w.params) ts = true) (hU : ∀ w : World, tabUniq (K w.params) = true)
    (F : ∀ (w : World) (mg : Str → Option Value) (fa : Addr) (h : Heap), (K w.params).In h → h.Ns mainGlobals mg → mg d.name = some (.ref fa) →
      ∃ fd : FuncData, (∀ (s : Shared) (u : Value), BindsTo s fd ⟨[u], []⟩ [(x, u)]) ∧ ∀ base : Heap, (K w.params).In base → base.Ns mainGlobals mg → BMod base mg → FnOk l.prog w (K w.params) mg base CX0 k fa fd [x] (spLaw (K w.params))) :
    PySem.W.WalkO q loose XP YP l.row.toRowW d [] (fun f vs => PySem.call f vs) := by
  refine Att.attach_call hn hdf fun w s₀ s₁ mg mb fa o pm cd doc a vs ns G Y ho hd hcd hmg hobj hints hlen hg => ?_
  have KX := hY w _ Y
  obtain ⟨fd, hb, hF⟩ := F w mg fa _ KX G.T.g hmg
  refine law_callT KX G.T.g G.T.b G.T.builtins G.T.nolimit hg hobj hints (Nat.le_trans hlen (by decide)) hr (fun Q m => ⟨hT w _ Y Q m, ?_⟩) (hN w) ?_ hF hb fun H hO hS => ?_
  · obtain ⟨⟨c, _⟩, _, e⟩ := List.any_eq_true.mp (List.all_eq_true.mp (hC w) Q m)
    exact ((PySem.W.codeHd_of_K KX e).tab (hT w _ Y Q m)).isCodeTable
  · obtain ⟨bm, ob, b1, b2, b3, b4, b5, b6⟩ := G.T.bmain
    refine ⟨bm, ob, b1, b2, fun q => ?_, b3, b4, b5, b6⟩
    obtain ⟨o, es, ep, e, hd, _⟩ := G.T.g
    rw [q, e] at b3; cases b3; rw [hd] at b6; cases b6
  · refine ⟨a, ns, rfl, ro_ofT hO hS, ⟨fun _ _ _ _ _ i j => tab_uq (hU w) i j, fun c P q i => ?_⟩, hlen, fun _ => rfl⟩
    have m := tabs_in (hI w) i
    rcases hO P with ⟨_, z⟩ | ⟨_, _, _, z⟩ | ⟨_, z⟩
    · exact absurd m z
    · exact absurd m z
    · exact ⟨#[], z, trivial, fun pos cv e => by cases e⟩
end Ab
set_option Elab.async false
set_option linter.all false
set_option maxRecDepth 100000
namespace Ab
open PySem PyProof.Rows L2
set_option autoImplicit false
section
variable {f g : A → A → AHp → Rs A} {ma mb mc : ME} {m m' : MT} {ms : MA} {τ τ' : ASt} {h h' : AHp} {a b c : A} {s t : MS} {as : List A}
theorem ev_bind {α β : Type} {x : α} {k : α → Option β} : Option.bind (some x) k = k x := id rfl
def k1 (f : A → A → AHp → Rs A) (mb : ME) (τ : ASt) : A × AHp → Rs A := fun p => (mb τ p.2).bind fun q => f p.1 q.1 q.2
def k2 (f : A → A → AHp → Rs A) (a : A) : A × AHp → Rs A := fun q => f a q.1 q.2
theorem ev_op : eOp f ma mb τ h = (ma τ h).bind (k1 f mb τ) := id rfl
theorem ev_k1 : k1 f mb τ (a, h) = (mb τ h).bind (k2 f a) := id rfl
theorem ev_k2 : k2 f a (b, h) = f a b h := id rfl
theorem ev_C : eC a τ h = some (a, h) := id rfl
def kVar (h : AHp) : Option (Option A) → Rs A
  | some (some a) => some (a, h)
  | _ => none
theorem ev_var {i : Nat} : eVar i τ h = kVar h (τ[i]?) := by
  unfold eVar kVar
  cases τ[i]? with
  | none => rfl
  | some o => cases o <;> rfl
theorem ev_kVar : kVar h (some (some a)) = some (a, h) := id rfl
def ku (f : A → AHp → Rs A) : A × AHp → Rs A := fun p => f p.1 p.2
theorem ev_un {f : A → AHp → Rs A} : eUn f ma τ h = (ma τ h).bind (ku f) := id rfl
theorem ev_ku {f : A → AHp → Rs A} : ku f (a, h) = f a h := id rfl
def kc1 (f g : A → A → AHp → Rs A) (mb mc : ME) (τ : ASt) : A × AHp → Rs A := fun p => (mb τ p.2).bind fun q => (f p.1 q.1 q.2).bind fun z => match z.1 with
  | .bl true => (mc τ z.2).bind fun w => g q.1 w.1 w.2
  | .bl false => some (.bl false, z.2)
  | _ => none
def kc2 (f g : A → A → AHp → Rs A) (mc : ME) (τ : ASt) (a : A) : A × AHp → Rs A := fun q => (f a q.1 q.2).bind fun z => match z.1 with
  | .bl true => (mc τ z.2).bind fun w => g q.1 w.1 w.2
  | .bl false => some (.bl false, z.2)
  | _ => none
def kc3 (g : A → A → AHp → Rs A) (mc : ME) (τ : ASt) (b : A) : A × AHp → Rs A := fun z => match z.1 with
  | .bl true => (mc τ z.2).bind fun w => g b w.1 w.2
  | .bl false => some (.bl false, z.2)
  | _ => none
theorem ev_chain : eChain f g ma mb mc τ h = (ma τ h).bind (kc1 f g mb mc τ) := id rfl
theorem ev_kc1 : kc1 f g mb mc τ (a, h) = (mb τ h).bind (kc2 f g mc τ a) := id rfl
theorem ev_kc2 : kc2 f g mc τ a (b, h) = (f a b h).bind (kc3 g mc τ b) := id rfl
theorem ev_kc3t : kc3 g mc τ b (.bl true, h) = (mc τ h).bind (k2 g b) := id rfl
theorem ev_kc3f : kc3 g mc τ b (.bl false, h) = some (.bl false, h) := id rfl
def kTr : A × AHp → Rs Bool := fun p => (tru p.1 p.2).bind fun b => some (b, p.2)
theorem ev_tru : mTru ma τ h = (ma τ h).bind kTr := id rfl
theorem ev_kTrb {b : Bool} : kTr (.bl b, h) = some (b, h) := id rfl
theorem ev_kTrl {n : Nat} {xs : List A} (e : h[n]? = some (.lst xs)) : kTr (.loc n, h) = some (!xs.isEmpty, h) := by
  unfold kTr tru; simp only [e]; rfl
theorem ev_kTri {i : Int} : kTr (.int i, h) = some (i != 0, h) := id rfl
def kB : A × AHp → Rs Bool := fun p => match p.1 with | .bl b => some (b, p.2) | _ => none
theorem ev_B : mB ma τ h = (ma τ h).bind kB := id rfl
theorem ev_kB {b : Bool} : kB (.bl b, h) = some (b, h) := id rfl
def kAnd (m : MT) (τ : ASt) : Bool × AHp → Rs Bool := fun p => if p.1 = true then m τ p.2 else some (false, p.2)
def kOr (m : MT) (τ : ASt) : Bool × AHp → Rs Bool := fun p => if p.1 = true then some (true, p.2) else m τ p.2
def kNot : Bool × AHp → Rs Bool := fun p => some (!p.1, p.2)
theorem ev_and : mAnd m m' τ h = (m τ h).bind (kAnd m' τ) := id rfl
theorem ev_or : mOr m m' τ h = (m τ h).bind (kOr m' τ) := id rfl
theorem ev_not : mNot m τ h = (m τ h).bind kNot := id rfl
theorem ev_kAt : kAnd m τ (true, h) = m τ h := id rfl
theorem ev_kAf : kAnd m τ (false, h) = some (false, h) := id rfl
theorem ev_kOt : kOr m τ (true, h) = some (true, h) := id rfl
theorem ev_kOf : kOr m τ (false, h) = m τ h := id rfl
theorem ev_kN {b : Bool} : kNot (b, h) = some (!b, h) := id rfl
def kEA (mb : ME) (τ : ASt) : A × AHp → Rs A := fun p => match p.1 with | .bl true => mb τ p.2 | .bl false => some (.bl false, p.2) | _ => none
def kEO (mb : ME) (τ : ASt) : A × AHp → Rs A := fun p => match p.1 with | .bl false => mb τ p.2 | .bl true => some (.bl true, p.2) | _ => none
def kEN : A × AHp → Rs A := fun p => match p.1 with | .bl b => some (.bl (!b), p.2) | _ => none
theorem ev_eand : eAnd ma mb τ h = (ma τ h).bind (kEA mb τ) := id rfl
theorem ev_eor : eOr ma mb τ h = (ma τ h).bind (kEO mb τ) := id rfl
theorem ev_enot : eNot ma τ h = (ma τ h).bind kEN := id rfl
theorem ev_kEAt : kEA mb τ (.bl true, h) = mb τ h := id rfl
theorem ev_kEAf : kEA mb τ (.bl false, h) = some (.bl false, h) := id rfl
theorem ev_kEOt : kEO mb τ (.bl true, h) = some (.bl true, h) := id rfl
theorem ev_kEOf : kEO mb τ (.bl false, h) = mb τ h := id rfl
theorem ev_kEN {b : Bool} : kEN (.bl b, h) = some (.bl (!b), h) := id rfl
def kEI (ma mb : ME) (τ : ASt) : Bool × AHp → Rs A := fun p => if p.1 = true then ma τ p.2 else mb τ p.2
theorem ev_eif : eIf m ma mb τ h = (m τ h).bind (kEI ma mb τ) := id rfl
theorem ev_kEIt : kEI ma mb τ (true, h) = ma τ h := id rfl
theorem ev_kEIf : kEI ma mb τ (false, h) = mb τ h := id rfl
def ka1 (ms : MA) (τ : ASt) : A × AHp → Rs (List A) := fun p => (ms τ p.2).bind fun q => some (p.1 :: q.1, q.2)
def ka2 (a : A) : List A × AHp → Rs (List A) := fun q => some (a :: q.1, q.2)
theorem ev_anil : aNil τ h = some ([], h) := id rfl
theorem ev_acons : aCons ma ms τ h = (ma τ h).bind (ka1 ms τ) := id rfl
theorem ev_ka1 : ka1 ms τ (a, h) = (ms τ h).bind (ka2 a) := id rfl
theorem ev_ka2 : ka2 a (as, h) = some (a :: as, h) := id rfl
def kTu : List A × AHp → Rs A := fun p => if p.1.length ≤ 100000 then some (.tup p.1, p.2) else none
def kLs : List A × AHp → Rs A := fun p => if p.1.length ≤ 100000 then some (.loc p.2.length, p.2 ++ [.lst p.1]) else none
theorem ev_tup : eTup ms τ h = (ms τ h).bind kTu := id rfl
theorem ev_lst : eLst ms τ h = (ms τ h).bind kLs := id rfl
theorem ev_kTu (e : as.length ≤ 100000) : kTu (as, h) = some (.tup as, h) := if_pos e
theorem ev_kLs (e : as.length ≤ 100000) : kLs (as, h) = some (.loc h.length, h ++ [.lst as]) := if_pos e
def kCa (F : MF) : List A × AHp → Rs A := fun p => F p.1 p.2
theorem ev_call {F : MF} : eCall F ms τ h = (ms τ h).bind (kCa F) := id rfl
theorem ev_kCa {F : MF} : kCa F (as, h) = F as h := id rfl
def kSq (t : MS) : Fl × AHp → Rs Fl := fun p => match p.1 with | .nx τ1 => t τ1 p.2 | f => some (f, p.2)
theorem ev_seq : sSeq s t τ h = (s τ h).bind (kSq t) := id rfl
theorem ev_kSn : kSq t (.nx τ, h) = t τ h := id rfl
theorem ev_kSr : kSq t (.rt a, h) = some (.rt a, h) := id rfl
theorem ev_kSb : kSq t (.bk τ, h) = some (.bk τ, h) := id rfl
theorem ev_kSc : kSq t (.ct τ, h) = some (.ct τ, h) := id rfl
theorem ev_nx : sNx τ h = some (.nx τ, h) := id rfl
theorem ev_bk : sBk τ h = some (.bk τ, h) := id rfl
theorem ev_ct : sCt τ h = some (.ct τ, h) := id rfl
def kRt : A × AHp → Rs Fl := fun p => some (.rt p.1, p.2)
theorem ev_ret : sRet ma τ h = (ma τ h).bind kRt := id rfl
theorem ev_kRt : kRt (a, h) = some (.rt a, h) := id rfl
theorem ev_retN : sRetN τ h = some (.rt .non, h) := id rfl
def kIf (s t : MS) (τ : ASt) : Bool × AHp → Rs Fl := fun p => if p.1 = true then s τ p.2 else t τ p.2
theorem ev_if : sIf m s t τ h = (m τ h).bind (kIf s t τ) := id rfl
theorem ev_kIt : kIf s t τ (true, h) = s τ h := id rfl
theorem ev_kIf : kIf s t τ (false, h) = t τ h := id rfl
def kX (τ : ASt) : A × AHp → Rs Fl := fun p => some (.nx τ, p.2)
theorem ev_x : sX ma τ h = (ma τ h).bind (kX τ) := id rfl
theorem ev_kX : kX τ (a, h) = some (.nx τ, h) := id rfl
def kAs (g : MG) (τ : ASt) : A × AHp → Rs Fl := fun p => (g p.1 τ p.2).bind fun q => some (.nx q.1, q.2)
def kAs2 : ASt × AHp → Rs Fl := fun q => some (.nx q.1, q.2)
theorem ev_asg {g : MG} : sAsg ma g τ h = (ma τ h).bind (kAs g τ) := id rfl
theorem ev_kAs {g : MG} : kAs g τ (a, h) = (g a τ h).bind kAs2 := id rfl
theorem ev_kAs2 : kAs2 (τ, h) = some (.nx τ, h) := id rfl
theorem ev_gN {i : Nat} : gN i a τ h = some (τ.set i (some a), h) := id rfl
theorem ev_gT {i j : Nat} : gT i j (.tup [a, b]) τ h = some ((τ.set i (some a)).set j (some b), h) := id rfl
theorem ev_gT3 {i j k : Nat} : gT3 i j k (.tup [a, b, c]) τ h = some (((τ.set i (some a)).set j (some b)).set k (some c), h) := id rfl
def kG1 (mi : ME) (f : A → A → A → AHp → Option AHp) (a : A) (τ : ASt) : A × AHp → Option (ASt × AHp) := fun p => (mi τ p.2).bind fun q => (f p.1 q.1 a q.2).bind fun h' => some (τ, h')
def kG2 (f : A → A → A → AHp → Option AHp) (a o : A) (τ : ASt) : A × AHp → Option (ASt × AHp) := fun q => (f o q.1 a q.2).bind fun h' => some (τ, h')
def kG3 (τ : ASt) : AHp → Option (ASt × AHp) := fun h' => some (τ, h')
theorem ev_gIx {mo mi : ME} {f : A → A → A → AHp → Option AHp} : gIx mo mi f a τ h = (mo τ h).bind (kG1 mi f a τ) := id rfl
theorem ev_kG1 {mi : ME} {f : A → A → A → AHp → Option AHp} : kG1 mi f a τ (b, h) = (mi τ h).bind (kG2 f a b τ) := id rfl
theorem ev_kG2 {f : A → A → A → AHp → Option AHp} : kG2 f a b τ (c, h) = (f b c a h).bind (kG3 τ) := id rfl
theorem ev_kG3 : kG3 τ h = some (τ, h) := id rfl
def kFn : Fl × AHp → Rs A := fun p => match p.1 with
  | .rt a => some (a, p.2)
  | .nx _ => some (.non, p.2)
  | _ => none
theorem ev_kFr : kFn (.rt a, h) = some (a, h) := id rfl
theorem ev_kFn : kFn (.nx τ, h) = some (.non, h) := id rfl
def kFo (g : MG) (s : MS) (τ : ASt) : AIt × AHp → Rs Fl := fun p => forL p.1 g s p.1.n 0 τ p.2
theorem ev_for {mi : MI} {g : MG} : sFor mi g s τ h = (mi τ h).bind (kFo g s τ) := id rfl
theorem ev_kFo {it : AIt} {g : MG} : kFo g s τ (it, h) = forL it g s it.n 0 τ h := id rfl
def kMt1 (F : A → List A → AHp → Rs A) (ms : MA) (τ : ASt) : A × AHp → Rs A := fun p => if isLst p.1 p.2 = true then (ms τ p.2).bind fun q => F p.1 q.1 q.2 else none
def kMt2 (F : A → List A → AHp → Rs A) (o : A) : List A × AHp → Rs A := fun q => F o q.1 q.2
theorem ev_mt {F : A → List A → AHp → Rs A} : eMt F ma ms τ h = (ma τ h).bind (kMt1 F ms τ) := id rfl
theorem ev_kMt1 {F : A → List A → AHp → Rs A} {n : Nat} {xs : List A} (e : h[n]? = some (.lst xs)) : kMt1 F ms τ (.loc n, h) = (ms τ h).bind (kMt2 F (.loc n)) := by
  unfold kMt1 isLst; simp only [e]; rfl
theorem ev_kMt2 {F : A → List A → AHp → Rs A} : kMt2 F a (as, h) = F a as h := id rfl
def kMs1 (F : A → List A → AHp → Rs A) (ms : MA) (τ : ASt) : A × AHp → Rs A := fun p => match p.1 with | .str _ => (ms τ p.2).bind fun q => F p.1 q.1 q.2 | _ => none
theorem ev_ms {F : A → List A → AHp → Rs A} : eMs F ma ms τ h = (ma τ h).bind (kMs1 F ms τ) := id rfl
theorem ev_kMs1 {F : A → List A → AHp → Rs A} {x : Str} : kMs1 F ms τ (.str x, h) = (ms τ h).bind (kMt2 F (.str x)) := id rfl
def kSl1 (ml mh : ASt → AHp → Rs (Option Int)) (τ : ASt) : A × AHp → Rs A := fun p => (ml τ p.2).bind fun l => (mh τ l.2).bind fun u => xSl p.1 l.1 u.1 u.2
def kSl2 (mh : ASt → AHp → Rs (Option Int)) (τ : ASt) (a : A) : Option Int × AHp → Rs A := fun l => (mh τ l.2).bind fun u => xSl a l.1 u.1 u.2
def kSl3 (a : A) (l : Option Int) : Option Int × AHp → Rs A := fun u => xSl a l u.1 u.2
variable {ml mh : ASt → AHp → Rs (Option Int)} {lo hi : Option Int}
theorem ev_sl : eSl ma ml mh τ h = (ma τ h).bind (kSl1 ml mh τ) := id rfl
theorem ev_kSl1 : kSl1 ml mh τ (a, h) = (ml τ h).bind (kSl2 mh τ a) := id rfl
theorem ev_kSl2 : kSl2 mh τ a (lo, h) = (mh τ h).bind (kSl3 a lo) := id rfl
theorem ev_kSl3 : kSl3 a lo (hi, h) = xSl a lo hi h := id rfl
theorem ev_noPart : mNoPart τ h = some (none, h) := id rfl
def kPt : A × AHp → Rs (Option Int) := fun p => match p.1 with | .int i => some (some i, p.2) | _ => none
theorem ev_part : mPart ma τ h = (ma τ h).bind kPt := id rfl
theorem ev_kPt {i : Int} : kPt (.int i, h) = some (some i, h) := id rfl
def kR1 : List A × AHp → Rs AIt := fun p => match p.1 with
  | [.int j] => if -(2 ^ 62) ≤ j ∧ j < 2 ^ 62 then some (itR 0 j.toNat, p.2) else none
  | _ => none
theorem ev_rng1 : iRng1M ms τ h = (ms τ h).bind kR1 := id rfl
theorem ev_kR1 {j : Int} (e : -(2 ^ 62) ≤ j ∧ j < 2 ^ 62) : kR1 ([.int j], h) = some (itR 0 j.toNat, h) := if_pos e
def kIS : A × AHp → Rs AIt := fun p => match p.1 with
  | .str x => some (itS x, p.2)
  | _ => none
theorem ev_istr : iStrM ma τ h = (ma τ h).bind kIS := id rfl
theorem ev_kIS {x : Str} : kIS (.str x, h) = some (itS x, h) := id rfl
def kIL : A × AHp → Rs AIt := fun p => match p.1 with
  | .loc n => (lstA (.loc n) p.2).bind fun xs => some (itL n xs.length, p.2)
  | .ro xs => some (itT xs, p.2)
  | _ => none
theorem ev_ilst : iLst ma τ h = (ma τ h).bind kIL := id rfl
theorem ev_kILr {xs : List A} : kIL (.ro xs, h) = some (itT xs, h) := id rfl
theorem ev_kILl {n : Nat} {xs : List A} (e : h[n]? = some (.lst xs)) : kIL (.loc n, h) = some (itL n xs.length, h) := by
  unfold kIL lstA; simp only [e]; rfl
def kLc (j : Nat) (mt : MT) (me : ME) (τ : ASt) : AIt × AHp → Rs A := fun p => (lcL p.1 j mt me (τ.set j none) p.1.n 0 [] p.2).bind fun q => some (.loc q.2.length, q.2 ++ [.lst q.1])
def kLc2 : List A × AHp → Rs A := fun q => some (.loc q.2.length, q.2 ++ [.lst q.1])
theorem ev_lc {mi : MI} {j : Nat} {mt : MT} {me : ME} : eLc mi j mt me τ h = (mi τ h).bind (kLc j mt me τ) := id rfl
theorem ev_kLc {it : AIt} {j : Nat} {mt : MT} {me : ME} : kLc j mt me τ (it, h) = (lcL it j mt me (τ.set j none) it.n 0 [] h).bind kLc2 := id rfl
theorem ev_kLc2 : kLc2 (as, h) = some (.loc h.length, h ++ [.lst as]) := id rfl
theorem ev_yes : mYes τ h = some (true, h) := id rfl
theorem v_addI {i j : Int} : oAdd (.int i) (.int j) h = some (.int (i + j), h) := id rfl
theorem v_addS {x y : Str} (e : x.length + y.length ≤ 100000) : oAdd (.str x) (.str y) h = some (.str (x ++ y), h) := if_pos e
theorem v_addL {m n : Nat} {xs ys : List A} (e1 : h[m]? = some (.lst xs)) (e2 : h[n]? = some (.lst ys)) (e : xs.length + ys.length ≤ 100000) : oAdd (.loc m) (.loc n) h = some (.loc h.length, h ++ [.lst (xs ++ ys)]) := by
  show (match h[m]?, h[n]? with
    | some (AO.lst xs), some (AO.lst ys) => if xs.length + ys.length ≤ 100000 then some (A.loc h.length, h ++ [AO.lst (xs ++ ys)]) else none
    | _, _ => none) = _
  rw [e1, e2]; exact if_pos e
theorem v_sub {i j : Int} : oSub (.int i) (.int j) h = some (.int (i - j), h) := id rfl
theorem v_mod {i j : Int} (e : 0 < j) : oMod (.int i) (.int j) h = some (.int (i % j), h) := if_pos e
theorem v_div {i j : Int} (e : 0 < j ∧ j < 1073741824) : oDiv (.int i) (.int j) h = some (.int (i / j), h) := if_pos e
theorem v_mulL {i j : Int} (e : -(2 ^ 64) < i) (e2 : i < 2 ^ 64) : oMul (.int i) (.int j) h = some (.int (i * j), h) := if_pos (.inl ⟨e, e2⟩)
theorem v_mulR {i j : Int} (e : -(2 ^ 64) < j) (e2 : j < 2 ^ 64) : oMul (.int i) (.int j) h = some (.int (i * j), h) := if_pos (.inr ⟨e, e2⟩)
theorem v_pow {i j : Int} (e : 0 ≤ j ∧ j ≤ 1000000 ∧ i.natAbs < 2 ^ 64) : oPow (.int i) (.int j) h = some (.int (i ^ j.toNat), h) := if_pos e
theorem v_neg {i : Int} : uNeg (.int i) h = some (.int (-i), h) := id rfl
theorem v_lt {i j : Int} : cLt (.int i) (.int j) h = some (.bl (decide (i < j)), h) := id rfl
theorem v_le {i j : Int} : cLe (.int i) (.int j) h = some (.bl (decide (i ≤ j)), h) := id rfl
theorem v_gt {i j : Int} : cGt (.int i) (.int j) h = some (.bl (decide (j < i)), h) := id rfl
theorem v_ge {i j : Int} : cGe (.int i) (.int j) h = some (.bl (decide (j ≤ i)), h) := id rfl
theorem v_leS {x y : Str} : cLe (.str x) (.str y) h = some (.bl (!decide (y.cps.toList < x.cps.toList)), h) := id rfl
theorem v_eqI {i j : Int} : cEq (.int i) (.int j) h = some (.bl (i == j), h) := id rfl
theorem v_neI {i j : Int} : cNe (.int i) (.int j) h = some (.bl (!(i == j)), h) := id rfl
theorem v_eqS {i j : Str} : cEq (.str i) (.str j) h = some (.bl (i == j), h) := id rfl
theorem v_neS {i j : Str} : cNe (.str i) (.str j) h = some (.bl (!(i == j)), h) := id rfl
theorem v_neB {i j : Bool} : cNe (.bl i) (.bl j) h = some (.bl (!(i == j)), h) := id rfl
theorem v_eqB {i j : Bool} : cEq (.bl i) (.bl j) h = some (.bl (i == j), h) := id rfl
theorem v_ixL {n : Nat} {i : Int} {xs : List A} {v : A} (e : h[n]? = some (.lst xs)) (e2 : atI xs i = some v) : xIx (.loc n) (.int i) h = some (v, h) := by
  show ((match h[n]? with | some (.lst xs) => some (false, xs) | _ => none).bind fun p : Bool × List A => (atI p.2 i).bind fun v => some (v, h)) = _
  rw [e]; show (atI xs i).bind _ = _; rw [e2]; rfl
theorem v_ixT {i : Int} {xs : List A} {v : A} (e2 : atI xs i = some v) : xIx (.tup xs) (.int i) h = some (v, h) := by
  show (atI xs i).bind _ = _; rw [e2]; rfl
theorem v_ixR {i : Int} {xs : List A} {v : A} (e2 : atI xs i = some v) : xIx (.ro xs) (.int i) h = some (v, h) := by
  show (atI xs i).bind _ = _; rw [e2]; rfl
theorem v_ixS {i : Int} {x : Str} {c : Nat} (e : x.length ≤ 100000) (e2 : atI x.cps.toList i = some c) : xIx (.str x) (.int i) h = some (.str ⟨#[c]⟩, h) := by
  show (if x.length ≤ 100000 then (atI x.cps.toList i).bind fun c => some (A.str ⟨#[c]⟩, h) else none) = _
  rw [if_pos e, e2]; rfl
theorem v_set {n j : Nat} {k : Int} {xs : List A} (e : h[n]? = some (.lst xs)) (e2 : ixN xs.length k = some j) : xSet (.loc n) (.int k) a h = some (h.set n (.lst (xs.set j a))) := by
  show (match h[n]? with | some (.lst xs) => (ixN xs.length k).bind fun j => some (h.set n (AO.lst (xs.set j a))) | _ => none) = _
  rw [e]; show (ixN xs.length k).bind _ = _; rw [e2]; rfl
theorem v_lenL {n : Nat} {xs : List A} (e : h[n]? = some (.lst xs)) : bLen [.loc n] h = some (.int xs.length, h) := by
  show ((match h[n]? with | some (.lst xs) => some (false, xs) | _ => none).bind fun p : Bool × List A => some (A.int p.2.length, h)) = _
  rw [e]; rfl
theorem v_lenT {xs : List A} : bLen [.tup xs] h = some (.int xs.length, h) := id rfl
theorem v_lenR {xs : List A} : bLen [.ro xs] h = some (.int xs.length, h) := id rfl
theorem v_lenS {x : Str} (e : x.length ≤ 100000) : bLen [.str x] h = some (.int x.length, h) := if_pos e
theorem v_max {i j : Int} : bMax2 [.int i, .int j] h = some (.int (if j > i then j else i), h) := id rfl
theorem v_min {i j : Int} : bMin2 [.int i, .int j] h = some (.int (if j < i then j else i), h) := id rfl
theorem v_append {n : Nat} {xs : List A} (e : h[n]? = some (.lst xs)) (e2 : xs.length < 100000) : fAppend (.loc n) [a] h = some (.non, h.set n (.lst (xs ++ [a]))) := by
  show (match h[n]? with | some (.lst xs) => if xs.length < 100000 then some (A.non, h.set n (AO.lst (xs ++ [a]))) else none | _ => none) = _
  rw [e]; exact if_pos e2
theorem v_pop {n : Nat} {xs : List A} (e : h[n]? = some (.lst (xs ++ [a]))) : fPop (.loc n) [] h = some (a, h.set n (.lst xs)) := by
  show (match h[n]? with | some (.lst xs) => (xs[xs.length - 1]?).bind fun y => some (y, h.set n (AO.lst xs.dropLast)) | _ => none) = _
  rw [e]; simp
theorem v_slS {x : Str} (e : x.length ≤ 100000) : xSl (.str x) lo hi h = some (.str (cutS x lo hi), h) := if_pos e
end
end Ab
set_option Elab.async false
set_option linter.all false
set_option maxRecDepth 100000
namespace Ab
open PySem PySem.Spec PyProof.Rows L2
set_option autoImplicit false
section
variable {X : Cx} {K : PySem.W.Frag} {a b c e o i : Expr} {es : List Expr} {pos p : Pos} {ma mb mc mo mi : ME} {ms : MA} {k : Nat} {apos cpos : Pos}
def bInt : MF := fun as h => match as with
  | [.int i] => some (.int i, h)
  | [.bl b] => some (.int (if b then 1 else 0), h)
  | _ => none
theorem ok_int1 : CallOk K bInt (fun xs H Q => (∃ i, xs = [.int i] ∧ Q (.int i) H) ∨ ∃ k, xs = [.bl k] ∧ Q (.int (if k then 1 else 0)) H) := by
  intro ρ H h as c h' xs Q R r e k
  unfold bInt at e
  split at e
  · cases e
    cases r with
    | cons r1 r2 => cases r2; cases r1; exact .inl ⟨_, rfl, k ρ H _ Up.refl R (.int _)⟩
  · cases e
    cases r with
    | cons r1 r2 => cases r2; cases r1; exact .inr ⟨_, rfl, k ρ H _ Up.refl R (.int _)⟩
  · cases e
theorem je_toint (hm : X.mg "int" = none) (ha : JA X (e :: es) ms) (hg : Gl X "int" := by rfl)
    (he : starEach (e :: es) X.env = (false, eval e X.env) :: starEach es X.env := by rfl) (hpl : (backTo pos (starEach es X.env)).any (·.1) = false := by rfl) : JE X (.Call (.Name "int" p) (e :: es) [] pos) (eCall bInt ms) := je_callT call_int1 ok_int1 hm (by decide +kernel) ha hg (by decide) (by decide) he hpl
def itV (n len : Nat) : AIt := ⟨len, fun i h => if i < len then (lstA (.loc n) h).bind fun xs => xs[len - 1 - i]? else none, fun _ => true⟩
def iReversed (ms : MA) : MI := fun τ h => (ms τ h).bind fun p => match p.1 with
  | [.loc n] => (lstA (.loc n) p.2).bind fun xs => some (itV n xs.length, p.2)
  | _ => none
def kIV : List A × AHp → Rs AIt := fun p => match p.1 with
  | [.loc n] => (lstA (.loc n) p.2).bind fun xs => some (itV n xs.length, p.2)
  | _ => none
theorem ev_irev {τ : ASt} {h : AHp} : iReversed ms τ h = (ms τ h).bind kIV := id rfl
end
end Ab
set_option Elab.async false
set_option linter.all false
set_option maxRecDepth 100000
namespace Ab
open PySem PySem.Spec PyProof.Rows L2
set_option autoImplicit false
section
variable {X : Cx} {K : PySem.W.Frag} {a b c e o i : Expr} {es : List Expr} {pos p : Pos} {ma mb mc mo mi : ME} {ms : MA} {k : Nat} {apos cpos : Pos}
end
end Ab
set_option Elab.async false
set_option linter.all false
set_option maxRecDepth 100000
namespace Ab
open PySem PySem.Spec PyProof.Rows L2
set_option autoImplicit false
section
variable {X : Cx} {K : PySem.W.Frag} {a b c e o i : Expr} {es : List Expr} {pos p p2 p3 p4 : Pos} {ma mb mc mo mi : ME} {ms : MA} {k : Nat} {apos cpos : Pos} {te : TE}
end
end Ab
set_option Elab.async false
set_option linter.all false
set_option maxRecDepth 100000
namespace Ab
open PySem PySem.Spec PyProof.Rows L2
set_option autoImplicit false
section
variable {X : Cx} {K : PySem.W.Frag} {e : Expr} {pos p : Pos} {ms : MA}
theorem strsOfT_map (ys : List Str) : strsOf (ys.map A.str) = some ys := by
  induction ys with
  | nil => rfl
  | cons y r ih =>
    show (strsOf (r.map A.str)).bind _ = _
    rw [ih]; rfl
end
end Ab
set_option Elab.async false
set_option linter.all false
set_option maxRecDepth 100000
namespace Ab
open PySem PySem.Spec PyProof.Rows L2
set_option autoImplicit false
section
variable {X : Cx} {K : PySem.W.Frag} {a b c e o i : Expr} {es : List Expr} {pos p apos cpos : Pos} {ma mb mc mo mi : ME} {ms : MA}
def fJoin (o : A) (as : List A) (h : AHp) : Rs A := match o, as with
  | .str x, [b] => (lstA b h).bind fun xs => (strsOf xs).bind fun ys => if (ys.map (·.length)).sum + ys.length * x.length ≤ 100000 then some (.str (Txt.join x ys), h) else none
  | _, _ => none
theorem je_join (ho : JE X o mo) (ha : JE X e ma) (hs : starEach [e] X.env = [(false, eval e X.env)] := by rfl) (hbase : attributeBase o "join" X.env (eval o X.env) = eval o X.env := by rfl) (hline : (apos.endLine == cpos.line) = true := by rfl) :
    JE X (.Call (.Attribute o "join" apos) [e] [] cpos) (eMs fJoin mo (aCons ma aNil)) := ⟨PE_imp (pe_join ho.pf ha.pf hs hbase hline) fun σ H Q q => by
  obtain ⟨ρ, τ, h, d, h', R, S, e, k⟩ := q
  obtain ⟨⟨x, h1⟩, e1, e⟩ := bindS e
  dsimp only at e
  split at e
  · obtain ⟨⟨as, h2⟩, e2, e⟩ := bindS e
    obtain ⟨⟨y, h3⟩, e3, e2⟩ := bindS e2
    cases e2
    refine ⟨ρ, τ, h, _, _, R, S, e1, fun ρ1 H1 v1 u1 R1 r1 => ?_⟩
    cases r1
    refine ⟨⟨_, rfl⟩, ρ1, τ, h1, y, _, R1, S.up u1, e3, fun ρ2 H2 v2 u2 R2 r2 => ?_⟩
    change ((lstA y _).bind fun xs => (strsOf xs).bind fun ys => if (ys.map (·.length)).sum + ys.length * _ ≤ 100000 then some (A.str (Txt.join _ ys), _) else none) = _ at e
    obtain ⟨xs, e4, e⟩ := bindS e
    obtain ⟨ys, e5, e⟩ := bindS e
    split at e
    · rename_i hl
      cases e
      obtain ⟨q, vs, rfl, rs, hq⟩ := lst_some R2 r2 e4
      rw [strs_reps rs e5] at hq
      exact ⟨_, q, ys, rfl, rfl, .inl hq, by omega, k _ _ _ (u1.trans u2) R2 (.str _)⟩
    · cases e
  · cases e⟩
theorem v_join {n : Nat} {x : Str} {ys : List Str} {h : AHp} (g : h[n]? = some (.lst (ys.map A.str))) (hl : (ys.map (·.length)).sum + ys.length * x.length ≤ 100000) : fJoin (.str x) [.loc n] h = some (.str (Txt.join x ys), h) := by
  show ((lstA (.loc n) h).bind fun xs => (strsOf xs).bind fun ys => if (ys.map (·.length)).sum + ys.length * x.length ≤ 100000 then some (A.str (Txt.join x ys), h) else none) = _
  have : lstA (.loc n) h = some (ys.map A.str) := by unfold lstA; simp only [g]
  rw [this, Option.bind_some, strsOfT_map, Option.bind_some, if_pos hl]
end
end Ab
set_option Elab.async false
set_option linter.all false
set_option maxRecDepth 100000
namespace Ab
open PySem PySem.Spec PyProof.Rows L2
set_option autoImplicit false
section
variable {prog : Program} {w : World} {A : Around} {E : Value → Shared → Prop} {s : Shared} {R : Result → Shared → Prop} {I : Addr} {fp wr : List Addr} {n : Nat} {P : Nat → Value → Prop} {St : Nat → Heap → Prop}
end
end Ab
set_option Elab.async false
set_option linter.all false
set_option maxRecDepth 100000
namespace Ab
open PySem PySem.Spec PyProof.Rows L2
set_option autoImplicit false
section
variable {X : Cx} {K : PySem.W.Frag} {a b e : Expr} {es : List Expr} {pos p p2 p3 p4 : Pos} {ma : ME} {ms : MA} {k : Nat}
end
end Ab
set_option Elab.async false
set_option linter.all false
set_option maxRecDepth 100000
namespace Ab
open PySem PySem.Spec PyProof.Rows L2
set_option autoImplicit false
set_option relaxedAutoImplicit false
def putA (f : Str) (v : A) : List (Str × A) → List (Str × A)
  | [] => [(f, v)]
  | (g, x) :: r => if g = f then (g, v) :: r else (g, x) :: putA f v r
section
variable {K : PySem.W.Frag} {ρ ρ' : List Addr} {H H' : Hp} {h : AHp} {p C dx : Addr} {n : Nat}
end
def fldA (C : Addr) (a : A) (f : Str) (h : AHp) : Option A := match a with
  | .loc n => match h[n]? with
    | some (.ins D fs) => if D = C then fs.lookup f else none
    | _ => none
  | _ => none
def setA (C : Addr) (a : A) (f : Str) (v : A) (h : AHp) : Option AHp := match a with
  | .loc n => match h[n]? with
    | some (.ins D fs) => if D = C ∧ fs.length < 900 then some (h.set n (.ins C (putA f v fs))) else none
    | _ => none
  | _ => none
def isInsA (C : Addr) (a : A) (m : Str) (h : AHp) : Bool := match a with
  | .loc n => match h[n]? with
    | some (.ins D fs) => decide (D = C) && (fs.lookup m).isNone
    | _ => false
  | _ => false
def eFld (C : Addr) (ma : ME) (f : Str) : ME := fun τ h => (ma τ h).bind fun p => (fldA C p.1 f p.2).bind fun v => some (v, p.2)
def sFldM (C : Addr) (mo mv : ME) (f : Str) : MS := fun τ h => (mv τ h).bind fun v => (mo τ v.2).bind fun o => (setA C o.1 f v.1 o.2).bind fun h' => some (.nx τ, h')
def eMth (C : Addr) (m : Str) (F : MF) (mo : ME) (ms : MA) : ME := fun τ h => (mo τ h).bind fun p => if isInsA C p.1 m p.2 = true then (ms τ p.2).bind fun q => F (p.1 :: q.1) q.2 else none
def eMake (C : Addr) (F : MF) (ms : MA) : ME := fun τ h => (ms τ h).bind fun q => (F (.loc q.2.length :: q.1) (q.2 ++ [.ins C []])).bind fun r => match r.1 with
  | .non => some (.loc q.2.length, r.2)
  | _ => none
section
variable {X : Cx} {e o value : Expr} {es : List Expr} {ma mo mv : ME} {ms : MA} {f m x : Str} {C g : Addr} {pos pos' apos p : Pos} {k n : Nat} {F : MF} {fd : FuncData} {ps : List Str}
end
end Ab
set_option Elab.async false
set_option linter.all false
set_option maxRecDepth 100000
namespace Ab
open PySem PySem.Spec PyProof.Rows L2
set_option autoImplicit false
set_option relaxedAutoImplicit false
section
variable {P : Program} {w : World}
def hashM (P : Program) (w : World) : MK → Int
  | .inl x => hashStr w x
  | .inr ks => tupleKeyHash (mixKind P w) ks
variable {A : Around} {E : Value → Shared → Prop} {s : Shared}
def entM (P : Program) (w : World) (x : MK × Value × Value) : DictEntry := ⟨hashM P w x.1, x.2.1, x.2.2⟩
def DictM (P : Program) (w : World) (h : Heap) (d : Addr) (xs : List (MK × Value × Value)) : Prop := ∃ o es ep, h.get? d = some o ∧ o.ExactDict ∧ o.data = .dict es ep ∧ es.toList = xs.map (entM P w) ∧ (xs.map (·.1)).Nodup
variable {d : Addr} {xs : List (MK × Value × Value)} {k : MK} {kv : Value}
theorem DictM.typeIs (m : DictM P w s.heap d xs) : s.TypeIs (.ref d) "dict" := let ⟨o, _, _, ho, hc, _⟩ := m; ⟨o, ho, hc.1⟩
end
end Ab
set_option Elab.async false
set_option linter.all false
set_option maxRecDepth 100000
namespace Ab
open PySem PySem.Spec PyProof.Rows L2
set_option autoImplicit false
set_option relaxedAutoImplicit false
section
variable {X : Cx} {pins : List (Addr × Obj)} {σ : L2.St} {H : Hp} {s : Shared}
end
section
variable {K : PySem.W.Frag} {ρ : List Addr} {H : Hp} {h : AHp} {p : Addr} {n : Nat} {hf : MK → Int}
end
open Classical in
open Classical in
open Classical in
section
variable {K : PySem.W.Frag} {hf : MK → Int}
end
section
variable {X : Cx} {a b e o i value : Expr} {ma mb mo mi mv : ME} {pos pos' : Pos} {k : Nat}
theorem u1 {k : Nat} {Ar : Around} (r : Room k Ar) : Ar.units + 1 < cLine := by have := r.un; omega
end
end Ab
set_option Elab.async false
set_option linter.all false
set_option maxRecDepth 100000
namespace Ab
open PySem PySem.Spec PyProof.Rows L2
set_option autoImplicit false
section
variable {X : Cx} {K : PySem.W.Frag} {a b c e e2 o i : Expr} {es : List Expr} {pos p p2 p3 p4 tpos : Pos} {ma mb mc mo mi : ME} {ms : MA} {k n : Nat} {apos cpos : Pos} {te : TE} {elts : List Expr} {kk : Nat}
def itE (n len : Nat) : AIt := ⟨len, fun i h => (lstA (.loc n) h).bind fun xs => (xs[i]?).bind fun x => some (.tup [.int (i : Nat), x]), fun h => match lstA (.loc n) h with | some xs => decide (xs.length ≤ len) | none => false⟩
def kIE : List A × AHp → Rs AIt := fun p => match p.1 with
  | [.loc n] => (lstA (.loc n) p.2).bind fun xs => some (itE n xs.length, p.2)
  | _ => none
def iEnumerate (ms : MA) : MI := fun τ h => (ms τ h).bind fun p => match p.1 with
  | [.loc n] => (lstA (.loc n) p.2).bind fun xs => some (itE n xs.length, p.2)
  | _ => none
theorem ev_ienum {τ : ASt} {h : AHp} : iEnumerate ms τ h = (ms τ h).bind kIE := id rfl
def itZ (m n len : Nat) : AIt := ⟨len, fun i h => (lstA (.loc m) h).bind fun xs => (lstA (.loc n) h).bind fun ys => (xs[i]?).bind fun x => (ys[i]?).bind fun y => some (.tup [x, y]),
  fun h => match lstA (.loc m) h, lstA (.loc n) h with | some xs, some ys => decide (xs.length ≤ len ∨ ys.length ≤ len) | _, _ => false⟩
def kIZ : List A × AHp → Rs AIt := fun p => match p.1 with
  | [.loc m, .loc n] => (lstA (.loc m) p.2).bind fun xs => (lstA (.loc n) p.2).bind fun ys => some (itZ m n (min xs.length ys.length), p.2)
  | _ => none
def iZipM (ms : MA) : MI := fun τ h => (ms τ h).bind fun p => match p.1 with
  | [.loc m, .loc n] => (lstA (.loc m) p.2).bind fun xs => (lstA (.loc n) p.2).bind fun ys => some (itZ m n (min xs.length ys.length), p.2)
  | _ => none
theorem ev_izip {τ : ASt} {h : AHp} : iZipM ms τ h = (ms τ h).bind kIZ := id rfl
inductive Ents (w : World) : List DictEntry → List (Str × Addr) → Prop
  | nil : Ents w [] []
  | cons {x : Str} {t : Tok} {a : Addr} {hh : Int} {es : List DictEntry} {kvs : List (Str × Addr)} : hh = hashStr w x → Ents w es kvs → Ents w (⟨hh, .str x t, .ref a⟩ :: es) ((x, a) :: kvs)
structure KDict (w : World) (K : PySem.W.Frag) (mg : Str → Option Value) (D : Str) (kvs : List (Str × Addr)) : Prop where
  ex : ∃ (p : Addr) (es : Array DictEntry) (ep : Nat), mg D = some (.ref p) ∧ K.lookup p = some ⟨.type "dict", none, .dict es ep, #[]⟩ ∧ (p == sysModules) = false ∧ Ents w es.toList kvs ∧ (kvs.map (·.1)).Nodup
def eInD (kvs : List (Str × Addr)) (ma : ME) : ME := fun τ h => (ma τ h).bind fun p => match p.1 with | .str x => some (.bl (kvs.lookup x).isSome, p.2) | _ => none
def eGetD (kvs : List (Str × Addr)) (ma : ME) : ME := fun τ h => (ma τ h).bind fun p => match p.1 with | .str x => (kvs.lookup x).bind fun a => some (.raw a, p.2) | _ => none
def kInD (kvs : List (Str × Addr)) : A × AHp → Rs A := fun p => match p.1 with | .str x => some (.bl (kvs.lookup x).isSome, p.2) | _ => none
def kGetD (kvs : List (Str × Addr)) : A × AHp → Rs A := fun p => match p.1 with | .str x => (kvs.lookup x).bind fun a => some (.raw a, p.2) | _ => none
theorem ev_inD {kvs : List (Str × Addr)} {τ : ASt} {h : AHp} : eInD kvs ma τ h = (ma τ h).bind (kInD kvs) := id rfl
theorem ev_getD {kvs : List (Str × Addr)} {τ : ASt} {h : AHp} : eGetD kvs ma τ h = (ma τ h).bind (kGetD kvs) := id rfl
theorem ev_kInD {kvs : List (Str × Addr)} {x : Str} {h : AHp} : kInD kvs (.str x, h) = some (.bl (kvs.lookup x).isSome, h) := id rfl
theorem ev_kGetD {kvs : List (Str × Addr)} {x : Str} {h : AHp} : kGetD kvs (.str x, h) = (kvs.lookup x).bind fun a => some (.raw a, h) := id rfl
structure FnAt (P : Program) (w : World) (K : PySem.W.Frag) (mg : Str → Option Value) (base : Heap) (k : Nat) (f : Addr) (F : MF) (n : Nat) : Prop where
  ex : ∃ fd ps, FnOk P w K mg base CX0 k f fd ps (spF K F n) ∧ Binds K fd ps [] ∧ PySem.W.keepIn K (.ref f) = true
end
end Ab
set_option Elab.async false
set_option linter.all false
set_option maxRecDepth 100000
namespace Ab
open PySem PySem.Spec PyProof.Rows L2
set_option autoImplicit false
set_option relaxedAutoImplicit false
section
variable {K : PySem.W.Frag}
end
def sAug (i : Nat) (f : A → A → AHp → Rs A) (me : ME) : MS := fun τ h => (eVar i τ h).bind fun p => (me τ p.2).bind fun q => (f p.1 q.1 q.2).bind fun r => some (.nx (τ.set i (some r.1)), r.2)
section
variable {X : Cx} {a b e o i : Expr} {ma mb me mo mi : ME} {pos pos' tpos : Pos}
theorem js_aug {op : Operator} {f : A → A → AHp → Rs A} {t : TIp} (i : Nat) {x : Str} (hN : X.N.Nodup) (ho : PIp X op t) (ok : OpOk X.K f t) (he : JE X e me) (hi : X.N[i]? = some x := by rfl) (hx : Loc X.env.scope x := by first | exact Or.inl rfl | exact Or.inr rfl)
    (hf : X.fn x = true ∨ X.env.scope.names.lookup x = some .local := by first | exact .inl rfl | exact .inr rfl) : JS X (.AugAssign (.Name x pos') op e pos) (sAug i f me) := ⟨PS_imp (ps_aug (i := i) hN hi hx he.pf ho hf) fun D σ H q => by
  obtain ⟨ρ, τ, h, fl, h', R, S, e, k⟩ := q
  obtain ⟨⟨y, h1⟩, e1, e⟩ := bindS e
  obtain ⟨⟨z, h2⟩, e2, e⟩ := bindS e
  obtain ⟨⟨r, h3⟩, e3, e⟩ := bindS e
  cases e
  obtain ⟨e4, rfl⟩ := eVar_some e1
  obtain ⟨v, g1, g2⟩ := S.get i y e4
  refine ⟨v, g1, ρ, τ, _, z, h2, R, S, e2, fun ρ1 H1 v1 u1 R1 r1 => ?_⟩
  exact ok ρ1 H1 h2 y z r _ v v1 _ R1 (g2.up u1) r1 e3 fun ρ3 H3 v3 u3 R3 r3 => k ρ3 H3 (u1.trans u3) R3 _ ((S.up (u1.trans u3)).set r3)⟩
end
section
variable {P : Program} {w : World} {K : PySem.W.Frag} {mg : Str → Option Value} {base : Heap}
structure MDef (K : PySem.W.Frag) (C : Addr) (m qual : Str) (st : Stmt) (ps : List Str) : Prop where
  ex : ∃ g fd, Meth K C m g ∧ Fun K m qual st g fd ∧ Binds K fd ps []
structure MFn (P : Program) (w : World) (K : PySem.W.Frag) (mg : Str → Option Value) (base : Heap) (k : Nat) (C : Addr) (m : Str) (F : MF) (n : Nat) : Prop where
  ex : ∃ g fd ps, Meth K C m g ∧ FnOk P w K mg base CX0 k g fd ps (spF K F n) ∧ Binds K fd ps []
theorem MFn.mono {C : Addr} {m : Str} {k j n : Nat} {F : MF} (h : MFn P w K mg base k C m F n) (hk : k ≤ j) : MFn P w K mg base j C m F n := by
  obtain ⟨g, fd, ps, h1, h2, h3⟩ := h.ex
  exact ⟨g, fd, ps, h1, h2.mono hk, h3⟩
structure Klass (K : PySem.W.Frag) (mg : Str → Option Value) (x : Str) (C : Addr) : Prop where
  cl : Cls K C
  mks : PySem.W.makesIn K C = true
  kp : PySem.W.keepIn K (.ref C) = true
  at_ : mg x = some (.ref C)
end
section
variable {X : Cx} {e o : Expr} {es : List Expr} {mo : ME} {ms : MA} {m x : Str} {C : Addr} {pos apos p : Pos} {k n : Nat} {F : MF}
end
section
variable {X : Cx} {pos : Pos}
end
end Ab
set_option Elab.async false
set_option linter.all false
set_option maxRecDepth 100000
namespace Ab
open PySem PySem.Spec PyProof.Rows L2
set_option autoImplicit false
section
variable {K : PySem.W.Frag} {ρ ρ' : List Addr} {H H' : Hp} {h : AHp}
theorem RelH.take {p : Addr} {o : AO} (r : RelH K ρ H h) (hn : p ∉ ρ) (x : ObjR K (ρ ++ [p]) H p o) : Le K ρ H (ρ ++ [p]) H ∧ RelH K (ρ ++ [p]) H (h ++ [o]) := by
  have l : Le K ρ H (ρ ++ [p]) H := ⟨⟨[p], rfl⟩, fun _ _ z => z, fun _ _ z => z, fun _ _ _ z => z⟩
  refine ⟨l, by simp [r.len], ?_, fun n q u e1 e2 => ?_, r.tb⟩
  · rw [List.nodup_append]
    refine ⟨r.nd, by simp, fun a ha b hb => ?_⟩
    have : b = p := by simpa using hb
    subst this
    intro e; subst e
    exact hn ha
  · by_cases hl : n < ρ.length
    · rw [List.getElem?_append_left hl] at e1
      rw [List.getElem?_append_left (by rw [← r.len]; exact hl)] at e2
      exact (r.obj n q u e1 e2).le l rfl
    · have hn2 : n = ρ.length := by
        have := (List.getElem?_eq_some_iff.mp e1).1
        rw [List.length_append, List.length_singleton] at this
        omega
      subst hn2
      have e3 : q = p := by simpa using e1.symm
      have e4 : u = o := by rw [r.len] at e2; simpa using e2.symm
      subst e3 e4
      exact x
end
open Classical in
section
variable {cells : List (Str × Addr)} {h : Heap} {H : Hp} {b : Addr}
open Classical in
open Classical in
end
section
variable {X : Cx} {pins : List (Addr × Obj)} {σ : L2.St} {H : Hp} {s : Shared}
end
section
variable {X : Cx} {pins : List (Addr × Obj)} {σ : L2.St} {H : Hp} {s : Shared} {ρ : List Addr} {h : AHp}
end
section
variable {X : Cx} {pins : List (Addr × Obj)} {σ : L2.St} {H : Hp} {s : Shared} {ρ : List Addr} {h : AHp} {c P : Addr} {q : Str} {args : Arguments} {body : Expr} {scope : Scope} {pos : Pos} {clos : List (Str × Addr)} {Q : Value → Shared → Prop} {E : Value → Shared → Prop} {M : Model} {A : Around}
end
end Ab
set_option Elab.async false
set_option linter.all false
set_option maxRecDepth 100000
namespace Ab
open PySem PySem.Spec PyProof.Rows L2
set_option autoImplicit false
section
variable {X : Cx} {pins : List (Addr × Obj)} {σ : L2.St} {τ : ASt} {H H3 : Hp} {s : Shared} {ρ : List Addr}
end
section
variable {X : Cx} {args : Arguments} {body : Expr} {scope : Scope} {pos : Pos} {c P : Addr} {q : Str}
end
end Ab
set_option Elab.async false
set_option linter.all false
set_option maxRecDepth 100000
namespace Ab
open PySem PySem.Spec PyProof.Rows L2
set_option autoImplicit false
structure LamScope (ns ps : List Str) (args : Arguments) (body : Expr) (scope : Scope) : Prop where
  kind : scope.kind = .function
  co : scope.isCoroutine = false
  gen : scope.isGenerator = false
  nd : (ns ++ ps).Nodup
  nc : ∀ y ∈ scope.names, y.2 ≠ .cell
  fr : ∀ x ∈ ns, scope.names.lookup x = some .free
  lo : ∀ x ∈ ps, scope.names.lookup x = some .local
  al : ∀ y ∈ scope.names, y.2 = .free → y.1 ∈ ns
  bd : ∀ (qual : Str) (cl : List (Str × Addr)) (pm cdv ct : Value) (us : List Value), us.length = ps.length → bindArgs (PySem.W.kla_fn "<lambda>" qual args body scope cl pm cdv ct) ⟨us, []⟩ = pure (ps.zip us)
section
variable {P : Program} {w : World} {K : PySem.W.Frag} {mg : Str → Option Value} {base : Heap} {k : Nat}
end
def FnC (P : Program) (w : World) (K : PySem.W.Frag) (mg : Str → Option Value) (base : Heap) (k : Nat) (e : Expr) (ns : List Str) (F : List A → MF) (n : Nat) : Prop :=
  ∀ (A : Around) (outer : List Env) (s : Shared) (H : Hp) (p : Addr) (bs : List Value) (as : List V) (Q : VK), Room k A → Env0 P w K mg base A outer s H → Vals as bs → as.length = n →
    (∃ ρ h xs as' a h', RelH K ρ H h ∧ CloR K ρ H p e xs ∧ xs.map Prod.fst = ns ∧ Reps K ρ H as' as ∧ F (xs.map Prod.snd) as' h = some (a, h') ∧ ∀ ρ' H' v, Up K ρ H ρ' H' → RelH K ρ' H' h' → Rep K ρ' H' a v → Q v H') →
    codeAny (model P w) A (.call (.ref p) ⟨bs, []⟩) (CR CX0 outer P w H s Q E0) s
section
variable {P : Program} {w : World} {K : PySem.W.Frag} {mg : Str → Option Value} {base : Heap} {k : Nat}
theorem FnC.mono {j : Nat} {e : Expr} {ns : List Str} {F : List A → MF} {n : Nat} (h : FnC P w K mg base k e ns F n) (hk : k ≤ j) : FnC P w K mg base j e ns F n := fun A outer s H p bs as Q hr => h A outer s H p bs as Q (hr.mono hk)
end
open Classical in
section
variable {X : Cx} {e : Expr} {es : List Expr} {pos p : Pos} {ms : MA} {k n : Nat} {x : Str}
end
section
variable {P : Program} {w : World} {K : PySem.W.Frag} {mg : Str → Option Value} {base : Heap}
structure Mkr (K : PySem.W.Frag) (f : Addr) : Prop where
  ex : ∃ (o : Obj) (fd : FuncData) (c Pt : Addr), K.lookup f = some o ∧ o.data = .func fd ∧ fd.code = .ref c ∧ PySem.W.codeHdIn K c Pt = true
structure MkD (K : PySem.W.Frag) (mg : Str → Option Value) (x : Str) : Prop where
  ex : ∃ f, mg x = some (.ref f) ∧ Mkr K f
structure MkM (K : PySem.W.Frag) (C : Addr) (m : Str) : Prop where
  ex : ∃ g, PySem.W.findIn K (.ref C) m = some (some (.ref g)) ∧ Mkr K g
end
end Ab
set_option Elab.async false
set_option linter.all false
set_option maxRecDepth 100000
namespace Ab
open PySem PySem.Spec PyProof.Rows L2
set_option autoImplicit false
section
variable {X : Cx} {p p2 pos pos2 : Pos} {a b c : Expr} {ms : MA}
def bigI (i : Int) : Prop := -(2 ^ 62) ≤ i ∧ i < 2 ^ 62
instance (i : Int) : Decidable (bigI i) := by unfold bigI; infer_instance
end
end Ab
set_option Elab.async false
set_option linter.all false
set_option maxRecDepth 100000
namespace Ab
open PySem PySem.Spec PyProof.Rows L2
set_option autoImplicit false
section
variable {X : Cx} {K : PySem.W.Frag} {a b c e o i : Expr} {es : List Expr} {pos p apos cpos : Pos} {ma mb mc mo mi : ME} {ms : MA}
end
end Ab
set_option Elab.async false
set_option linter.all false
set_option maxRecDepth 100000
namespace Ab
open PySem PySem.Spec PyProof.Rows L2
set_option autoImplicit false
abbrev MFs := Str → ME
def fsN : MFs := fun acc τ h => if acc.length ≤ 100000 then some (.str acc, h) else none
def fsC (c : Str) (mf : MFs) : MFs := fun acc τ h => if (acc ++ c).length ≤ 100000 then mf (acc ++ c) τ h else none
def kFs (mf : MFs) (acc : Str) (τ : ASt) : A × AHp → Rs A := fun p => match p.1 with
  | .str y => if (acc ++ y).length ≤ 100000 then mf (acc ++ y) τ p.2 else none
  | _ => none
def fsV (me : ME) (mf : MFs) : MFs := fun acc τ h => (me τ h).bind (kFs mf acc τ)
section
variable {X : Cx} {K : PySem.W.Frag} {a b c e o i : Expr} {es : List Expr} {pos p apos cpos : Pos} {ma mb mc mo mi : ME} {ms : MA} {mf : MFs}
structure JFs (X : Cx) (es : List Expr) (mf : MFs) : Prop where
  pf : ∀ (acc : Str) (pins : List (Addr × Obj)) (s : Shared) (σ : L2.St) (H : Hp) (Q : VK), Inv X pins σ H s → tE X.K (mf acc) σ H Q →
    Joins (model X.prog X.w) X.A X.xe (evalEach es X.env) acc (fun out s₁ => out.length ≤ sizeLine ∧ EP X pins σ Q (.str out s₁.toks) { s₁ with toks := s₁.toks + 1 }) s
theorem small_line {n : Nat} (h : n ≤ 100000) : n ≤ sizeLine := Nat.le_trans h (by decide)
theorem jfs_nil : JFs X [] fsN := ⟨fun acc pins s σ H Q I q => by
  obtain ⟨ρ, τ, h, d, h', R, S, e, k⟩ := q
  show _ ∧ _
  unfold fsN at e
  split at e
  · rename_i hl
    cases e
    exact ⟨small_line hl, .str acc, H, I.tok _, ⟨_, rfl⟩, k _ _ _ Up.refl R (.str _)⟩
  · cases e⟩
theorem jfs_c {x : Str} {j : Nat} (h : JFs X es mf) : JFs X (.Constant (.str x) j pos :: es) (fsC x mf) := ⟨fun acc pins s σ H Q I q => by
  obtain ⟨ρ, τ, hp, d, h', R, S, e, k⟩ := q
  unfold fsC at e
  split at e
  · rename_i hl
    show wpAny _ _ (eval (.Constant (.str x) j pos) X.env) _ _ _
    exact Calls.Constant_str ⟨x, _, rfl, small_line hl, h.pf (acc ++ x) pins _ σ H Q (I.tok _) ⟨ρ, τ, hp, d, h', R, S, e, k⟩⟩
  · cases e⟩
theorem jfs_v {e : Expr} {me : ME} (he : JE X e me) (h : JFs X es mf) : JFs X (.FormattedValue e (-1) none pos :: es) (fsV me mf) := ⟨fun acc pins s σ H Q I q => by
  obtain ⟨ρ, τ, hp, d, h', R, S, e, k⟩ := q
  obtain ⟨⟨x, h1⟩, e1, e⟩ := bindS e
  unfold kFs at e
  dsimp only at e
  split at e
  · rename_i y
    split at e
    · rename_i hl
      show wpAny _ _ (eval (.FormattedValue _ (-1) none pos) X.env) _ _ _
      refine wpAny_FormattedValue_plain (thn (he.pf pins s σ H (fun v H1 => v = .str y ∧ tE X.K (mf (acc ++ y)) σ H1 Q) I ⟨ρ, τ, hp, _, _, R, S, e1, fun ρ1 H1 v1 u1 R1 r1 => ?_⟩) fun v s1 ⟨x1, H1, I1, r1, q1⟩ => ?_)
      · cases r1
        exact ⟨rfl, ρ1, τ, h1, d, h', R1, S.up u1, e, fun ρ2 H2 v2 u2 => k ρ2 H2 v2 (u1.trans u2)⟩
      · obtain ⟨rfl, q1⟩ := q1
        obtain ⟨t, rfl⟩ := r1
        have hy : y.length ≤ sizeLine := small_line (by rw [strLen_append] at hl; omega)
        exact wpAny_formatField_str ⟨y, t, rfl, small_line hl, h.pf (acc ++ y) pins s1 σ H1 Q I1 q1⟩ ⟨y, _, rfl, small_line hl, h.pf (acc ++ y) pins _ σ H1 Q (I1.tok _) q1⟩ hy
    · cases e
  · cases e⟩
def eFs (mf : MFs) : ME := mf Str.empty
theorem je_fs {v1 v2 : Expr} {rest : List Expr} (h : JFs X (v1 :: v2 :: rest) mf) : JE X (.JoinedStr (v1 :: v2 :: rest) pos) (eFs mf) := ⟨fun pins s σ H Q I q => wpAny_JoinedStr (h.pf Str.empty pins s σ H Q I q)⟩
def oAddI (a b : A) (h : AHp) : Rs A := match a, b with
  | .int i, .int j => some (.int (i + j), h)
  | _, _ => none
theorem ok_iadd : OpOk K oAddI (ipI fun i j => i + j) := by
  intro ρ H h a b c h' x y Q R ra rb e k
  unfold oAddI at e
  split at e
  · cases e; cases ra; cases rb
    exact ⟨_, _, rfl, rfl, k ρ H _ Up.refl R (.int _)⟩
  · cases e
theorem v_addI2 {i j : Int} {h : AHp} : oAddI (.int i) (.int j) h = some (.int (i + j), h) := id rfl
def fSw (o : A) (as : List A) (h : AHp) : Rs A := match o, as with
  | .str x, [.str y] => some (.bl (Txt.startswith x y), h)
  | _, _ => none
def fCntS (o : A) (as : List A) (h : AHp) : Rs A := match o, as with
  | .str x, [.str y] => some (.int (Txt.count x y), h)
  | _, _ => none
theorem je_sw (ho : JE X o mo) (ha : JE X e ma) (hs : starEach [e] X.env = [(false, eval e X.env)] := by rfl) (hbase : attributeBase o "startswith" X.env (eval o X.env) = eval o X.env := by rfl) (hline : (apos.endLine == cpos.line) = true := by rfl) :
    JE X (.Call (.Attribute o "startswith" apos) [e] [] cpos) (eMs fSw mo (aCons ma aNil)) := ⟨PE_imp (pe_m1 F.slot_str_startswith F.type_str_startswith mt_startswith ho.pf ha.pf hs hbase hline) fun σ H Q q => by
  obtain ⟨ρ, τ, h, d, h', R, S, e, k⟩ := q
  obtain ⟨⟨x, h1⟩, e1, e⟩ := bindS e
  dsimp only at e
  split at e
  · obtain ⟨⟨as, h2⟩, e2, e⟩ := bindS e
    obtain ⟨⟨y, h3⟩, e3, e2⟩ := bindS e2
    cases e2
    refine ⟨ρ, τ, h, _, _, R, S, e1, fun ρ1 H1 v1 u1 R1 r1 => ?_⟩
    cases r1
    refine ⟨⟨_, rfl⟩, ρ1, τ, h1, y, _, R1, S.up u1, e3, fun ρ2 H2 v2 u2 R2 r2 => ?_⟩
    unfold fSw at e
    split at e
    · rename_i q1 q2
      cases q1
      cases q2
      cases r2
      cases e
      exact ⟨_, _, rfl, rfl, k _ _ _ (u1.trans u2) R2 (.bl _)⟩
    · cases e
  · cases e⟩
theorem je_cntS (ho : JE X o mo) (ha : JE X e ma) (hs : starEach [e] X.env = [(false, eval e X.env)] := by rfl) (hbase : attributeBase o "count" X.env (eval o X.env) = eval o X.env := by rfl) (hline : (apos.endLine == cpos.line) = true := by rfl) :
    JE X (.Call (.Attribute o "count" apos) [e] [] cpos) (eMs fCntS mo (aCons ma aNil)) := ⟨PE_imp (pe_m1 F.slot_str_count F.type_str_count mt_count ho.pf ha.pf hs hbase hline) fun σ H Q q => by
  obtain ⟨ρ, τ, h, d, h', R, S, e, k⟩ := q
  obtain ⟨⟨x, h1⟩, e1, e⟩ := bindS e
  dsimp only at e
  split at e
  · obtain ⟨⟨as, h2⟩, e2, e⟩ := bindS e
    obtain ⟨⟨y, h3⟩, e3, e2⟩ := bindS e2
    cases e2
    refine ⟨ρ, τ, h, _, _, R, S, e1, fun ρ1 H1 v1 u1 R1 r1 => ?_⟩
    cases r1
    refine ⟨⟨_, rfl⟩, ρ1, τ, h1, y, _, R1, S.up u1, e3, fun ρ2 H2 v2 u2 R2 r2 => ?_⟩
    unfold fCntS at e
    split at e
    · rename_i q1 q2
      cases q1
      cases q2
      cases r2
      cases e
      exact ⟨_, _, rfl, rfl, k _ _ _ (u1.trans u2) R2 (.int _)⟩
    · cases e
  · cases e⟩
theorem ev_fs {τ : ASt} {h : AHp} : eFs mf τ h = mf Str.empty τ h := id rfl
theorem ev_fsN {acc : Str} {τ : ASt} {h : AHp} (e : acc.length ≤ 100000) : fsN acc τ h = some (.str acc, h) := if_pos e
theorem ev_fsC {acc x : Str} {τ : ASt} {h : AHp} (e : (acc ++ x).length ≤ 100000) : fsC x mf acc τ h = mf (acc ++ x) τ h := if_pos e
theorem ev_fsV {me : ME} {acc : Str} {τ : ASt} {h : AHp} : fsV me mf acc τ h = (me τ h).bind (kFs mf acc τ) := id rfl
theorem ev_kFs {acc y : Str} {τ : ASt} {h : AHp} (e : (acc ++ y).length ≤ 100000) : kFs mf acc τ (.str y, h) = mf (acc ++ y) τ h := if_pos e
end
end Ab
set_option Elab.async false
set_option linter.all false
set_option maxRecDepth 100000
namespace Ab
open PySem PySem.Spec PyProof.Rows L2
set_option autoImplicit false
section
variable {X : Cx} {K : PySem.W.Frag} {a b c e e2 o i : Expr} {es : List Expr} {pos p p2 p3 p4 tpos : Pos} {ma mb mc mo mi : ME} {ms : MA} {k n : Nat} {apos cpos : Pos}
inductive EntsS (w : World) : List DictEntry → List (Str × Value) → List (Str × Str) → Prop
  | nil : EntsS w [] [] []
  | cons {x y : Str} {t t' : Tok} {hh : Int} {es : List DictEntry} {vs : List (Str × Value)} {kvs : List (Str × Str)} : hh = hashStr w x → EntsS w es vs kvs → EntsS w (⟨hh, .str x t, .str y t'⟩ :: es) ((x, .str y t') :: vs) ((x, y) :: kvs)
structure KDictS (w : World) (K : PySem.W.Frag) (mg : Str → Option Value) (D : Str) (kvs : List (Str × Str)) : Prop where
  ex : ∃ (p : Addr) (es : Array DictEntry) (ep : Nat) (vs : List (Str × Value)), mg D = some (.ref p) ∧ K.lookup p = some ⟨.type "dict", none, .dict es ep, #[]⟩ ∧ (p == sysModules) = false ∧ EntsS w es.toList vs kvs ∧ (kvs.map (·.1)).Nodup
end
end Ab
set_option Elab.async false
set_option linter.all false
set_option maxRecDepth 100000
namespace Ab
open PySem PySem.Spec PyProof.Rows L2
set_option autoImplicit false
def Kn (X : Cx) (pins : List (Addr × Obj)) (b : Addr) : Prop := (∃ o, X.s_0.heap.get? b = some o) ∨ (∃ p ∈ X.pn ++ pins, p.1 = b) ∨ ∃ y, X.env.cells.lookup y = some b
def Cov (l : List Env) (k : Addr → Prop) (H : Hp) (g B : Heap) : Prop := ∀ b o, b ∉ frs l → (k b ∨ (H b).isSome = true) → g.get? b = some o → B.get? b = some o
theorem un_on {X : Cx} {pins : List (Addr × Obj)} {σ : L2.St} {H : Hp} {s : Shared} {h' B : Heap} (I : Inv X pins σ H s) (cov : Cov X.stack (Kn X pins) H s.heap B) (st : B.StaysIn h') (up : s.heap.UpToSlots h') (hex : X.ex = []) :
    Un X.fs X.ex X.H_0 H X.s_0.heap h' ∧ HOk X.prog X.w H h' := by
  have neL : ∀ b o, X.s_0.heap.get? b = some o → b ≠ X.env.locals := fun b o e => Nat.ne_of_lt (Nat.lt_of_lt_of_le (Heap.lt_size e) I.ok.above)
  have nst : ∀ b o, X.s_0.heap.get? b = some o → b ∉ X.fs → b ∉ frs X.stack := fun b o e hb z => by
    rcases List.mem_cons.mp (I.stkSub b z) with q | q
    · exact neL b o e q
    · exact hb q
  have hx : ∀ b : Addr, b ∉ X.ex := fun b => by rw [hex]; simp
  have slot : ∀ b o, X.s_0.heap.get? b = some o → b ∈ X.fs → ∃ sl, h'.get? b = some { o with slots := sl } := fun b o e hb => by
    obtain ⟨sl, e1⟩ := I.base.slot b o e (I.ok.frf b hb) hb (hx b)
    obtain ⟨_, o2, e2, nf⟩ := I.ok.funs.mem hb
    rw [e] at e2; cases e2
    obtain ⟨sl', e3⟩ := up b _ e1 nf
    exact ⟨sl', e3⟩
  refine ⟨⟨fun b o e n hb _ => ?_, fun b o e n hb _ => slot b o e hb, I.base.free, fun b o e _ => ?_, I.base.tups, I.base.frzs, I.base.tbls⟩, fun a o e => ?_⟩
  · exact st b o (cov b o (nst b o e hb) (.inl (.inl ⟨o, e⟩)) (I.base.keep b o e n hb (hx b)))
  · by_cases hb : b ∈ X.fs
    · obtain ⟨sl, q⟩ := slot b o e hb
      exact ⟨_, q⟩
    · obtain ⟨o', e1⟩ := I.base.there b o e (hx b)
      exact ⟨o', st b o' (cov b o' (nst b o e hb) (.inl (.inl ⟨o, e⟩)) e1)⟩
  · have tr : ∀ b u, H b = some u → b ∉ frs X.stack := fun b u q z => by rw [I.stkFree b z] at q; cases q
    refine (I.hok a o e).stay (fun b u hc q => ?_) (fun _ q => q) fun _ _ q => q
    rcases hc with rfl | hc
    · exact st b u (cov b u (tr b o e) (.inr (by rw [e]; rfl)) q)
    · exact st b u (cov b u (tr b _ hc) (.inr (by rw [hc]; rfl)) q)
theorem inv_on {X : Cx} {pins : List (Addr × Obj)} {σ : L2.St} {H : Hp} {s : Shared} {h' B : Heap} (I : Inv X pins σ H s) (cov : Cov X.stack (Kn X pins) H s.heap B) (st : B.StaysIn h') (up : s.heap.UpToSlots h') (hex : X.ex = []) :
    Inv X pins σ H { s with heap := h' } := by
  obtain ⟨un, hok⟩ := un_on I cov st up hex
  have cellK : ∀ x c v, X.env.cells.lookup x = some c → s.heap.IsCell c v → h'.IsCell c v := fun x c v e ⟨o, ho, hd⟩ => by
    obtain ⟨sl, q⟩ := up c o ho fun vs z => by rw [hd] at z; cases z
    exact ⟨_, q, hd⟩
  refine ⟨I.ok, I.os, I.bare, un, ?_, fun x c e => ?_, I.free, I.freeC, fun p hp => ?_, hok, I.len⟩
  · obtain ⟨m, hn, hl⟩ := I.loc
    refine ⟨m, up.ns hn, fun i x v e1 e2 e3 => ?_⟩
    obtain ⟨u, r, l⟩ := hl i x v e1 e2 e3
    refine ⟨u, r, ?_⟩
    rcases l with l | ⟨k, c, e, z⟩
    · exact .inl l
    · exact .inr ⟨k, c, e, cellK x c _ e z⟩
  · obtain ⟨v, z⟩ := I.cell x c e
    exact ⟨v, cellK x c v e z⟩
  · obtain ⟨e, n, ne, nf, d⟩ := I.pin p hp
    refine ⟨st p.1 p.2 (cov p.1 p.2 (fun z => ?_) (.inl (.inr (.inl ⟨p, hp, rfl⟩))) e), n, ne, nf, d⟩
    rcases List.mem_cons.mp (I.stkSub p.1 z) with q | q
    · exact ne q
    · exact nf q
def CXx (P : Program) (w : World) (mg : Str → Option Value) : CXT := fun outer H s E e s' => ∃ (ea : Addr) (x : Str) (C : Addr) (H' : Hp) (B : Heap) (a0 : Value), e = .ref ea ∧ mg x = some (.ref C) ∧ s'.os = s.os ∧ AllBare s'.gens ∧
  Un (frs outer) [] H H' s.heap s'.heap ∧ HOk P w H' s'.heap ∧ Heap.FlyingW B outer ea (.ref C) a0 s'.heap ∧ Cov outer (fun b => ∃ o, s.heap.get? b = some o) H' s'.heap B ∧ E (.str x 0) none H'
def XP (X : Cx) (pins : List (Addr × Obj)) (E : Str → L2.St → Hp → Prop) (mk : Bool) (e : Value) (s' : Shared) : Prop :=
  ∃ (ea : Addr) (x : Str) (C : Addr) (σ : L2.St) (H' : Hp), e = .ref ea ∧ X.mg x = some (.ref C) ∧ E x σ H' ∧
    ((∃ (B : Heap) (a0 : Value), Inv X pins σ H' s' ∧ Heap.FlyingW B X.stack ea (.ref C) a0 s'.heap ∧ Cov X.stack (Kn X pins) H' s'.heap B) ∨
      (mk = true ∧ ∃ (h : Heap) (args : List Value), Inv X pins σ H' { s' with heap := h } ∧ Heap.MadeExcOf h s'.heap ea (.ref C) args))
theorem Inv.knows {X : Cx} {pins : List (Addr × Obj)} {σ : L2.St} {H : Hp} {s : Shared} (I : Inv X pins σ H s) (hex : X.ex = []) {b : Addr} (k : Kn X pins b) : ∃ o, s.heap.get? b = some o := by
  rcases k with ⟨o, e⟩ | ⟨p, hp, rfl⟩ | ⟨y, e⟩
  · exact I.base.there b o e (by rw [hex]; simp)
  · exact ⟨_, (I.pin p hp).1⟩
  · obtain ⟨v, o, ho, _⟩ := I.cell y b e
    exact ⟨o, ho⟩
theorem xp_of {X : Cx} {pins : List (Addr × Obj)} {σ : L2.St} {H : Hp} {s s' : Shared} {e : Value} {E : XK} {E' : Str → L2.St → Hp → Prop} {mk : Bool} (I : Inv X pins σ H s) (hex : X.ex = []) (hE : ∀ x H', E (.str x 0) none H' → E' x σ H')
    (h : CXx X.prog X.w X.mg X.stack H s E e s') : XP X pins E' mk e s' := by
  obtain ⟨ea, x, C, H', B, a0, rfl, hm, os, bare, un, hok, fl, cov, q⟩ := h
  have I' : Inv X pins σ H' s' := I.call' (ch := []) os un hok bare (fun b z => absurd z (by simp))
  refine ⟨ea, x, C, σ, H', rfl, hm, hE x H' q, .inl ⟨B, a0, I', fl, fun b o hb hk e => cov b o hb ?_ e⟩⟩
  rcases hk with hk | hk
  · exact .inl (Inv.knows I hex hk)
  · exact .inr hk
theorem xp_leaves {X : Cx} {pins : List (Addr × Obj)} {s' : Shared} {e : Value} {E : XK} {E' : Str → L2.St → Hp → Prop} {mk : Bool} {Er : Value → Shared → Prop} {M : Model} (hst : X.stack = X.env :: X.outer) (hf : X.env.frame = some X.env.locals) (hex : X.ex = [])
    (hE : ∀ x σ H', E' x σ H' → E (.str x 0) none H') (h : XP X pins E' mk e s') :
    wpAny M X.A (leaving X.env e) (fun _ s'' => CXx X.prog X.w X.mg X.outer X.H_0 X.s_0 E e s'') Er s' := by
  obtain ⟨ea, x, C, σ, H', rfl, hm, q, hq⟩ := h
  have fin : ∀ {s1 : Shared} {B : Heap} {a0 : Value} {h' : Heap}, s1.os = s'.os → s1.gens = s'.gens → Inv X pins σ H' s1 → Cov X.stack (Kn X pins) H' s1.heap B → s1.heap.UpToSlots h' → Heap.FlyingW B X.outer ea (.ref C) a0 h' →
      CXx X.prog X.w X.mg X.outer X.H_0 X.s_0 E (.ref ea) { s' with heap := h' } := fun {s1 B a0 h'} o1 g1 I cov up fl => by
    obtain ⟨un, hok⟩ := un_on I cov fl.1 up hex
    have un' : Un (frs X.outer) [] X.H_0 H' X.s_0.heap h' := by rw [hex] at un; exact un
    refine ⟨ea, x, C, H', B, a0, rfl, hm, o1.symm.trans I.os, by show AllBare s'.gens; rw [← g1]; exact I.bare, un', hok, fl, fun b o hb hk e => ?_, hE x σ H' q⟩
    have hb2 : b ∉ frs X.stack := fun z => by
      rcases List.mem_cons.mp (I.stkSub b z) with y | y
      · rcases hk with ⟨o0, hk⟩ | hk
        · exact absurd (Nat.lt_of_lt_of_le (Heap.lt_size hk) I.ok.above) (by rw [y]; exact Nat.lt_irrefl _)
        · rw [y, I.free] at hk; cases hk
      · exact hb y
    have ex : ∃ o1, s1.heap.get? b = some o1 := by
      rcases hk with ⟨o0, hk⟩ | hk
      · exact I.base.there b o0 hk (by rw [hex]; simp)
      · obtain ⟨u, hu⟩ := Option.isSome_iff_exists.mp hk
        have lt := (I.hok b u hu)
        cases hz : s1.heap.get? b with
        | some o => exact ⟨o, rfl⟩
        | none => exact absurd lt (by
            intro ok
            obtain ⟨o3, e3⟩ : ∃ o3, s1.heap.get? b = some o3 := by
              cases u with
              | lst xs => obtain ⟨_, _, _, _, e⟩ := ok; exact ⟨_, e⟩
              | tup xs => obtain ⟨_, _, _, _, e, _⟩ := ok; exact ⟨_, e⟩
              | dK kvs => obtain ⟨_, _, _, _, o, _, _, e, _⟩ := ok; exact ⟨_, e⟩
              | dT kvs => obtain ⟨_, _, _, _, o, _, _, e, _⟩ := ok; exact ⟨_, e⟩
              | set S n => obtain ⟨o, _, _, _, e, _⟩ := ok; exact ⟨_, e⟩
              | ins C dx fs => obtain ⟨_, _, _, e, _⟩ := ok; exact ⟨_, e⟩
              | own y => obtain ⟨_, e⟩ := ok; exact ⟨_, e⟩
              | xd fs => obtain ⟨_, ⟨_, _, _, e, _⟩, _⟩ := ok; exact ⟨_, e⟩
              | rng lo hi => obtain ⟨_, _, _, e⟩ := ok; exact ⟨_, e⟩
              | frz ob u => obtain ⟨e, _⟩ := ok; exact ⟨_, e⟩
              | tbl ps => exact ⟨_, ok⟩
              | met f y => exact ⟨_, ok⟩
              | ext φ => obtain ⟨_, e, _⟩ := ok; exact e
            rw [hz] at e3; cases e3)
    obtain ⟨o1, e1⟩ := ex
    have hB : B.get? b = some o1 := by
      refine cov b o1 hb2 ?_ e1
      rcases hk with hk | hk
      · exact .inl (.inl hk)
      · exact .inr hk
    have e2 := fl.1 b o1 hB
    have : h'.get? b = some o := e
    rw [this] at e2; cases e2
    exact hB
  rcases hq with ⟨B, a0, I, fl, cov⟩ | ⟨_, h, args, I, hx⟩
  · rw [hst] at fl
    exact wpAny_leaves_onW (I.ok.frames.trans (by rw [hst])) hf fl fun h' fl' up => fin rfl rfl I cov up fl'
  · have hS := I.stack
    have hin : ∀ env ∈ X.stack, ∀ b, env.frame = some b → b ∈ frs X.stack := fun env he b hb => List.mem_filterMap.mpr ⟨env, he, hb⟩
    have hl := PySem.W.funFrames_hide hS hin
    have cov : Cov X.stack (Kn X pins) H' h (PySem.W.hideAll h (frs X.stack)) := fun b o hb _ e => PySem.W.hideAll_get _ e hb
    rw [hst] at hl
    refine wpAny_leaves_madeW (I.ok.frames.trans (by rw [hst])) hf (fun b o q => PySem.W.of_hideAll _ q) hl hx fun h' t fl _ _ up => ?_
    refine fin (s1 := { s' with heap := h }) rfl rfl I (B := PySem.W.hideAll h (frs (X.env :: X.outer))) (by rw [hst] at cov; rw [hst]; exact cov) ((Heap.UpToSlots.of_keeps hx.keeps).trans up) fl
end Ab
set_option Elab.async false
set_option linter.all false
set_option maxRecDepth 100000
namespace Ab
open PySem PySem.Spec PyProof.Rows L2
set_option autoImplicit false
abbrev MX := ASt → AHp → Option (Str × AHp)
abbrev MY := ASt → AHp → Option (Str × ASt × AHp)
abbrev RF := List A → AHp → Option (Str × AHp)
abbrev EK := Str → L2.St → Hp → Prop
def tX (K : PySem.W.Frag) (m : MX) (E : EK) (σ : L2.St) (H : Hp) : Prop := ∃ ρ τ h x h', RelH K ρ H h ∧ RelS K ρ H σ τ ∧ m τ h = some (x, h') ∧ ∀ ρ' H', Up K ρ H ρ' H' → RelH K ρ' H' h' → E x σ H'
def tY (K : PySem.W.Frag) (m : MY) (E : EK) (σ : L2.St) (H : Hp) : Prop := ∃ ρ τ h x τ' h', RelH K ρ H h ∧ RelS K ρ H σ τ ∧ m τ h = some (x, τ', h') ∧ ∀ ρ' H' σ', Up K ρ H ρ' H' → RelH K ρ' H' h' → RelS K ρ' H' σ' τ' → E x σ' H'
def NoV {α : Type} : α → Shared → Prop := fun _ _ => False
structure RE (X : Cx) (e : Expr) (m : MX) : Prop where
  pf : ∀ (pins : List (Addr × Obj)) (s : Shared) (σ : L2.St) (H : Hp) (E : EK) (mk : Bool), Inv X pins σ H s → tX X.K m E σ H → wpAny (model X.prog X.w) X.A (eval e X.env) NoV (XP X pins E mk) s
structure RA (X : Cx) (es : List Expr) (m : MX) : Prop where
  pf : ∀ (pos : Pos) (pins : List (Addr × Obj)) (s : Shared) (σ : L2.St) (H : Hp) (E : EK) (mk : Bool), Inv X pins σ H s → tX X.K m E σ H → wpAny (model X.prog X.w) X.A (spliced (backTo pos (starEach es X.env))) NoV (XP X pins E mk) s
structure RS (X : Cx) (mk : Bool) (st : Stmt) (m : MY) : Prop where
  pf : ∀ (pins : List (Addr × Obj)) (s : Shared) (σ : L2.St) (H : Hp) (E : EK), Inv X pins σ H s → tY X.K m E σ H → wpAny (model X.prog X.w) X.A (exec st X.env) NoV (XP X pins E mk) s
structure RB (X : Cx) (mk : Bool) (sts : List Stmt) (m : MY) : Prop where
  pf : ∀ (pins : List (Addr × Obj)) (s : Shared) (σ : L2.St) (H : Hp) (E : EK), Inv X pins σ H s → tY X.K m E σ H → wpAny (model X.prog X.w) X.A (execs sts X.env) NoV (XP X pins E mk) s
theorem ano {α : Type} {t : Sem α} {Q : α → Shared → Prop} {M : Model} {Ar : Around} {E : Value → Shared → Prop} {s : Shared} (h : wpAny M Ar t NoV E s) : wpAny M Ar t Q E s := wpAny_mono h (fun _ _ z => z.elim) fun _ _ z => z
theorem bnd {α : Type} {X : Cx} {t : Sem α} {Q Q' : α → Shared → Prop} {M : Model} {Ar : Around} {E : Value → Shared → Prop} {s : Shared} (hx : X.xe = fun _ _ => False) (h : wpAny M Ar t Q X.xe s) (k : ∀ a s, Q a s → Q' a s) : wpAny M Ar t Q' E s := by
  rw [hx] at h
  exact wpAny_mono h k fun _ _ z => z.elim
def yNo : MY := fun _ _ => none
def yOr (a b : MY) : MY := fun τ h => match a τ h with | some r => some r | none => b τ h
def xTl (ma : ME) (m : MX) : MX := fun τ h => (ma τ h).bind fun p => m τ p.2
def xCall (R : RF) (ms : MA) : MX := fun τ h => (ms τ h).bind fun p => R p.1 p.2
def yE (m : MX) : MY := fun τ h => (m τ h).bind fun p => some (p.1, τ, p.2)
def yIf (m : MT) (a b : MY) : MY := fun τ h => (m τ h).bind fun p => if p.1 = true then a τ p.2 else b τ p.2
def ySeq (s : MS) (r : MY) : MY := fun τ h => (s τ h).bind fun p => match p.1 with | .nx τ1 => r τ1 p.2 | _ => none
def yRaise (x : Str) (ms : MA) : MY := fun τ h => (ms τ h).bind fun p => if p.1.length ≤ 100000 then some (x, τ, p.2) else none
theorem tY_or {K : PySem.W.Frag} {a b : MY} {E : EK} {σ : L2.St} {H : Hp} (h : tY K (yOr a b) E σ H) : tY K a E σ H ∨ tY K b E σ H := by
  obtain ⟨ρ, τ, h, x, τ', h', R, S, e, k⟩ := h
  unfold yOr at e
  split at e
  · rename_i r hr
    cases e
    exact .inl ⟨ρ, τ, h, x, τ', h', R, S, hr, k⟩
  · exact .inr ⟨ρ, τ, h, x, τ', h', R, S, e, k⟩
section
variable {X : Cx} {a b c e : Expr} {es : List Expr} {pos p : Pos} {st : Stmt} {sts body : List Stmt} {m : MT} {ma mb : ME} {ms : MA} {s : MS} {x1 x2 : MX} {y1 y2 : MY} {mk : Bool} {k n : Nat}
theorem rb_no : RB X mk sts yNo := ⟨fun _ _ _ _ _ _ h => by obtain ⟨_, _, _, _, _, _, _, _, e, _⟩ := h; cases e⟩
theorem rb_or (h1 : RB X mk sts y1) (h2 : RB X mk sts y2) : RB X mk sts (yOr y1 y2) := ⟨fun pins s σ H E I h => (tY_or h).elim (h1.pf pins s σ H E I) (h2.pf pins s σ H E I)⟩
theorem ra_head (h : RE X e x1) (hs : starEach (e :: es) X.env = (false, eval e X.env) :: starEach es X.env := by rfl) : RA X (e :: es) x1 := ⟨fun pos pins s σ H E mk I t => by
  rw [hs]
  show wpAny _ _ (spliced ((false, eval e X.env) :: backTo pos (starEach es X.env))) _ _ s
  exact Calls.spliced_cons (ano (h.pf pins s σ H E mk I t))⟩
theorem ra_tail (ha : JE X e ma) (h : RA X es x1) (hx : X.xe = fun _ _ => False := by rfl) (hs : starEach (e :: es) X.env = (false, eval e X.env) :: starEach es X.env := by rfl) : RA X (e :: es) (xTl ma x1) := ⟨fun pos pins s σ H E mk I t => by
  obtain ⟨ρ, τ, h0, x, h', R, S, e0, k⟩ := t
  obtain ⟨⟨y, h1⟩, e1, e2⟩ := bindS e0
  rw [hs]
  show wpAny _ _ (spliced ((false, eval e X.env) :: backTo pos (starEach es X.env))) _ _ s
  refine Calls.spliced_cons (bnd hx (ha.pf pins s σ H (fun _ H1 => tX X.K x1 E σ H1) I ⟨ρ, τ, h0, y, h1, R, S, e1, fun ρ1 H1 v u1 R1 r1 => ⟨ρ1, τ, h1, x, h', R1, S.up u1, e2, fun ρ2 H2 u2 R2 => k ρ2 H2 (u1.trans u2) R2⟩⟩) fun u s1 ⟨v, H1, I1, r1, q1⟩ => ?_)
  exact ano (h.pf pos pins s1 σ H1 E mk I1 q1)⟩
theorem re_tup {j : Nat} (h : RA X es x1) : RE X (.Tuple es j pos) x1 := ⟨fun pins s σ H E mk I t => wpAny_Tuple_spliced (ano (h.pf pos pins s σ H E mk I t))⟩
def spX (K : PySem.W.Frag) (R : RF) (n : Nat) : Sp := fun vs H _ E => vs.length = n ∧ ∃ ρ as h x h', RelH K ρ H h ∧ Reps K ρ H as vs ∧ R as h = some (x, h') ∧ ∀ ρ' H', Up K ρ H ρ' H' → RelH K ρ' H' h' → E (.str x 0) none H'
structure Rn (P : Program) (w : World) (K : PySem.W.Frag) (mg : Str → Option Value) (base : Heap) (k : Nat) (x : Str) (R : RF) (n : Nat) : Prop where
  ex : ∃ f fd ps, FnOk P w K mg base (CXx P w mg) k f fd ps (spX K R n) ∧ Binds K fd ps [] ∧ PySem.W.keepIn K (.ref f) = true ∧ mg x = some (.ref f)
theorem Rn.mono {P : Program} {w : World} {K : PySem.W.Frag} {mg : Str → Option Value} {base : Heap} {x : Str} {k j n : Nat} {R : RF} (h : Rn P w K mg base k x R n) (hk : k ≤ j) : Rn P w K mg base j x R n := by
  obtain ⟨f, fd, ps, h1, h2, h3, h4⟩ := h.ex
  exact ⟨f, fd, ps, h1.mono hk, h2, h3, h4⟩
theorem run_rn {f : Addr} {fd : FuncData} {ps : List Str} {R : RF} {pins : List (Addr × Obj)} {σ : L2.St} {H : Hp} {s : Shared} {us : List Value} {vs : List V} {E : EK} (hF : FnOk X.prog X.w X.K X.mg X.base (CXx X.prog X.w X.mg) k f fd ps (spX X.K R n)) (hr : Room k X.A) (hb : Binds X.K fd ps []) (hex : X.ex = [])
    (I : Inv X pins σ H s) (r : Vals vs us) (h : spX X.K R n vs H (fun _ _ => False) (fun v _ H' => ∃ x, v = .str x 0 ∧ E x σ H')) : wpAny (model X.prog X.w) X.A (call (.ref f) us) NoV (XP X pins E mk) s := by
  have hl : (us ++ []).length = ps.length := by rw [List.append_nil, ← r.length]; exact hF.len _ _ _ _ h
  refine wpAny_call (codeAny_mono (hF.run X.A X.stack s H ⟨us, []⟩ us vs _ _ hr I.env0 (by have := hb s us I.kIn hl; rw [List.append_nil] at this; exact this) r h) fun r s' hq => ?_)
  cases r with
  | error e => exact xp_of (E := fun v _ H' => ∃ x, v = .str x 0 ∧ E x σ H') I hex (fun x H' ⟨y, e1, e2⟩ => by cases e1; exact e2) hq
  | ok fl =>
    cases fl with
    | ret u => obtain ⟨v, H', _, _, _, _, _, q⟩ := hq; exact q.elim
    | next => exact False.elim hq
    | brk => exact False.elim hq
    | cont => exact False.elim hq
theorem re_call {x : Str} {R : RF} (h : Rn X.prog X.w X.K X.mg X.base k x R n) (hr : Room k X.A) (ha : JA X (e :: es) ms) (hn : ∀ (τ : ASt) (h : AHp) (p : List A × AHp), ms τ h = some p → p.1.length = n := by repeat (first | exact len_nil | refine len_cons ?_))
    (hx : X.xe = fun _ _ => False := by rfl) (hex : X.ex = [] := by rfl) (hg : Gl X x := by rfl) (hdb : (x == ("__debug__" : Str)) = false := by decide) (he : starEach (e :: es) X.env = (false, eval e X.env) :: starEach es X.env := by rfl) (hpl : (backTo pos (starEach es X.env)).any (·.1) = false := by rfl) :
    RE X (.Call (.Name x p) (e :: es) [] pos) (xCall R ms) := ⟨fun pins s σ H E mk I t => by
  obtain ⟨f, fd, ps, h1, h2, h3, h4⟩ := h.ex
  obtain ⟨ρ, τ, h0, z, h', R0, S, e0, k0⟩ := t
  obtain ⟨⟨as, ha1⟩, e1, e2⟩ := bindS e0
  refine wpAny_Call_Name_kw (ld_glob I hg h4 ?_ hdb)
  refine PySem.W.callWith_K (h₀ := X.base) I.ok.mod.kin h3 (bnd hx (ha.pf pos pins s σ H (fun vs H1 => spX X.K R n vs H1 (fun _ _ => False) (fun v _ H' => ∃ x, v = .str x 0 ∧ E x σ H')) I ⟨ρ, τ, h0, as, ha1, R0, S, e1, fun ρ1 H1 v1 u1 R1 r1 => ?_⟩) fun us s1 ⟨vs, H1, I1, r, q⟩ => ⟨I1.kIn, ?_⟩) he hpl
  · exact ⟨by rw [← r1.length]; exact hn _ _ _ e1, ρ1, as, ha1, z, h', R1, r1, e2, fun ρ2 H2 u2 R2 => ⟨z, rfl, k0 ρ2 H2 (u1.trans u2) R2⟩⟩
  · exact run_rn h1 hr h2 hex I1 r q⟩
structure RnAt (P : Program) (w : World) (K : PySem.W.Frag) (mg : Str → Option Value) (base : Heap) (k : Nat) (f : Addr) (R : RF) (n : Nat) : Prop where
  ex : ∃ fd ps, FnOk P w K mg base (CXx P w mg) k f fd ps (spX K R n) ∧ Binds K fd ps [] ∧ PySem.W.keepIn K (.ref f) = true
theorem rs_of {K : PySem.W.Frag} {E : EK} {σ : L2.St} {H : Hp} (h : tY K (yE x1) E σ H) : tX K x1 E σ H := by
  obtain ⟨ρ, τ, h0, x, τ', h', R, S, e, k⟩ := h
  obtain ⟨⟨y, h1⟩, e1, e⟩ := bindS e
  cases e
  exact ⟨ρ, τ, h0, _, _, R, S, e1, fun ρ1 H1 u1 R1 => k ρ1 H1 σ u1 R1 (S.up u1)⟩
theorem rs_ret (h : RE X e x1) : RS X mk (.Return (some e) pos) (yE x1) := ⟨fun pins s σ H E I t => wpAny_Return_some (ano (h.pf pins s σ H E mk I (rs_of t)))⟩
theorem rs_asg {tg : Expr} (h : RE X e x1) (hs : swapsWithSole [tg] e pos.line X.env = pure false := by rfl) (hw : swappedStores [tg] e X.env = pure none := by rfl) : RS X mk (.Assign [tg] e pos) (yE x1) := ⟨fun pins s σ H E I t => wpAny_Assign_stores (ano (h.pf pins s σ H E mk I (rs_of t))) hs hw⟩
theorem rs_set {x : Str} {pos' : Pos} (h : RE X e x1) (hs : swapsWith e (some (.Name x pos')) pos.line X.env = pure false := by rfl) : RS X mk (.Assign [.Name x pos'] e pos) (yE x1) := ⟨fun pins s σ H E I t => wpAny_Assign_Name (ano (h.pf pins s σ H E mk I (rs_of t))) hs⟩
theorem rs_if (hc : JT X c m) (ha : RB X mk sts y1) (hb : RB X mk body y2) (hx : X.xe = fun _ _ => False := by rfl) : RS X mk (.If c sts body pos) (yIf m y1 y2) := ⟨fun pins s σ H E I t => by
  obtain ⟨ρ, τ, h0, z, τ', h', R, S, e0, k0⟩ := t
  obtain ⟨⟨d, h1⟩, e1, e2⟩ := bindS e0
  refine wpAny_If (bnd hx (hc.pf pins s σ H (fun b H1 => if b = true then tY X.K y1 E σ H1 else tY X.K y2 E σ H1) I ⟨ρ, τ, h0, d, h1, R, S, e1, fun ρ1 H1 u1 R1 => ?_⟩) fun b s1 ⟨H1, I1, q1⟩ => ?_)
  · cases d with
    | true => rw [if_pos rfl] at e2 ⊢; exact ⟨ρ1, τ, h1, z, τ', h', R1, S.up u1, e2, fun ρ2 H2 σ2 u2 R2 S2 => k0 ρ2 H2 σ2 (u1.trans u2) R2 S2⟩
    | false => rw [if_neg Bool.false_ne_true] at e2 ⊢; exact ⟨ρ1, τ, h1, z, τ', h', R1, S.up u1, e2, fun ρ2 H2 σ2 u2 R2 S2 => k0 ρ2 H2 σ2 (u1.trans u2) R2 S2⟩
  · cases b with
    | true => exact ano (ha.pf pins s1 σ H1 E I1 q1)
    | false => exact ano (hb.pf pins s1 σ H1 E I1 q1)⟩
theorem rb_head (h : RS X mk st y1) : RB X mk (st :: sts) y1 := ⟨fun pins s σ H E I t => wpAny_execs_cons (ano (h.pf pins s σ H E I t))⟩
theorem rb_tail (h1 : JS X st s) (h2 : RB X mk sts y1) (hx : X.xe = fun _ _ => False := by rfl) : RB X mk (st :: sts) (ySeq s y1) := ⟨fun pins s0 σ H E I t => by
  obtain ⟨ρ, τ, h0, z, τ', h', R, S, e0, k0⟩ := t
  obtain ⟨⟨fl, hh1⟩, e1, e2⟩ := bindS e0
  refine wpAny_execs_cons (bnd hx (h1.pf pins s0 σ H { nx := tY X.K y1 E, rt := fun _ _ => False } I ⟨ρ, τ, h0, fl, hh1, R, S, e1, fun ρ1 H1 u1 R1 => ?_⟩) fun f s1 q => ?_)
  · cases fl with
    | nx τ1 => exact fun σ1 S1 => ⟨ρ1, τ1, hh1, z, τ', h', R1, S1, e2, fun ρ2 H2 σ2 u2 R2 S2 => k0 ρ2 H2 σ2 (u1.trans u2) R2 S2⟩
    | rt a => cases e2
    | bk τ1 => cases e2
    | ct τ1 => cases e2
  · cases f with
    | next => obtain ⟨σ1, H1, I1, q⟩ := q; exact ano (h2.pf pins s1 σ1 H1 E I1 q)
    | ret v => obtain ⟨_, _, _, _, _, q⟩ := q; exact q.elim
    | brk => obtain ⟨_, _, _, q⟩ := q; exact q.elim
    | cont => obtain ⟨_, _, _, q⟩ := q; exact q.elim⟩
end
end Ab
set_option Elab.async false
set_option linter.all false
set_option maxRecDepth 100000
namespace Ab
open PySem PySem.Spec PyProof.Rows L2
set_option autoImplicit false
def vE : List Value := [.type "ValueError", .type "Exception", .type "BaseException", .type "object"]
theorem own_K {K : PySem.W.Frag} {C : Addr} {bmB : List Value} {newId : String} {h : Heap} (X : K.In h) (z : PySem.W.excIn K C bmB newId = true) : ∃ bm N nm q bs hdct sn sub ab col dd k0 k1 k2 k3 k5 mN,
    h.get? C = some (excClassObj nm q C N bs bm hdct sn sub ab col dd k0 k1 k2 k3 k5 newId) ∧ h.Ns N mN ∧ mN "__init__" = none ∧ OwnTail h bmB bm := by
  unfold PySem.W.excIn at z
  split at z
  · rename_i dd cd sl look
    split at z
    · rename_i C2 rest j0 j1 j2 j3 id j5 em es
      rw [Bool.and_eq_true, Bool.and_eq_true, Bool.and_eq_true, Bool.and_eq_true, Bool.and_eq_true] at z
      obtain ⟨⟨⟨⟨⟨z1, z2⟩, z3⟩, z4⟩, z5⟩, z6⟩ := z
      obtain rfl := beq_iff_eq.mp z1
      obtain rfl := beq_iff_eq.mp z2
      have w6 := beq_iff_eq.mp z6
      have w3 : cd.hasDel = false := by cases q : cd.hasDel <;> rw [q] at z3 <;> first | rfl | cases z3
      obtain ⟨a1, a2, a3, a4, a5, a6, a7, a8, a9, a10, a11⟩ := cd
      have w3 : a11 = false := w3
      have em : a3 = .ref C2 :: rest := em
      subst em w3
      obtain ⟨l⟩ := sl
      have es : l = [j0, j1, j2, j3, some (.builtin id), j5] := es
      subst es
      exact ⟨rest, a4, a1, a5, a2, a6, a7, a8, a9, a10, dd, j0, j1, j2, j3, j5, _, X _ _ look, .of_isNs (PySem.W.isNs_of_in X z5), PySem.W.nsMap_none_of_in X z5 w6, PySem.W.tail_of_in X z4⟩
    · cases z
  · cases z
structure Exc (K : PySem.W.Frag) (mg : Str → Option Value) (x : Str) : Prop where
  ex : ∃ C, mg x = some (.ref C) ∧ PySem.W.excIn K C vE "ValueError.__new__" = true
section
variable {X : Cx} {a b c e : Expr} {es : List Expr} {pos p np cpos : Pos} {st : Stmt} {sts body : List Stmt} {ms : MA} {s : MS} {x1 x2 : MX} {y1 y2 : MY} {k n : Nat} {x : Str}
theorem rs_raise (hC : Exc X.K X.mg x) (ha : JA X (e :: es) ms) (hx : X.xe = fun _ _ => False := by rfl) (hc : X.calm = true := by rfl) (hg : Gl X x := by rfl) (hdb : (x == ("__debug__" : Str)) = false := by decide)
    (he : starEach (e :: es) X.env = (false, eval e X.env) :: starEach es X.env := by rfl) (hpl : (backTo cpos (starEach es X.env)).any (·.1) = false := by rfl) :
    RS X true (.Raise (some (.Call (.Name x np) (e :: es) [] cpos)) none pos) (yRaise x ms) := ⟨fun pins s σ H E I t => by
  obtain ⟨C, hm, hin⟩ := hC.ex
  obtain ⟨ρ, τ, h0, z, τ', h', R, S, e0, k0⟩ := t
  obtain ⟨⟨as, h1⟩, e1, e2⟩ := bindS e0
  dsimp only at e2
  split at e2
  · rename_i hl
    cases e2
    obtain ⟨bm, N, nm, q, bs, hdct, sn, sub, ab, col, dd, k0', k1, k2, k3, k5, mN, hC1, hN, hni, T⟩ := own_K I.mod.kin hin
    refine wpAny_Raise_call_subT (C := C) (nm := nm) (q := q) (N := N) (bs := bs) (bm := bm) (hdct := hdct) (sn := sn) (sub := sub) (ab := ab) (col := col) (dd := dd) (k0 := k0') (k1 := k1) (k2 := k2) (k3 := k3) (k5 := k5)
      PySem.F.excBase_ValueError (mN := mN) (T.hasType PySem.F.excBase_ValueError.hasBase) (I.ok.hd hc) (by rw [he]; show (false || (backTo cpos (starEach es X.env)).any (·.1)) = false; rw [hpl]; rfl) hni (ld_glob I hg hm ⟨rfl, ?_⟩ hdb)
    have hsp := ha.pf cpos pins s σ H (fun vs H1 => vs.length ≤ sizeLine ∧ E x σ H1) I ⟨ρ, τ, h0, as, _, R, S, e1, fun ρ1 H1 v1 u1 R1 r1 => ⟨by rw [← r1.length]; exact lim_le hl, k0 ρ1 H1 σ u1 R1 (S.up u1)⟩⟩
    rw [he] at hsp ⊢
    refine Calls.evalArgs_plain (bnd hx hsp fun us s2 ⟨vs, H2, I2, r2, hz, q2⟩ => ?_)
    exact ⟨rfl, by rw [← r2.length]; exact hz, I2.bk _ _ hC1, hN.keeps I2.bk, T.keeps I2.bk, fun h'' ee hmade => ⟨ee, x, C, σ, H2, rfl, hm, q2, .inr ⟨rfl, s2.heap, us, I2, hmade⟩⟩⟩
  · cases e2⟩
end
end Ab
namespace Ab
open PySem PySem.Spec PyProof.Rows L2
set_option autoImplicit false
def fnX (n : Nat) (body : MY) : RF := fun as h => (body (as.map some ++ List.replicate (n - as.length) none) h).bind fun p => some (p.1, p.2.2)
theorem rn_ok {P : Program} {w : World} {K : PySem.W.Frag} {mg : Str → Option Value} {base : Heap} {x qual : Str} {st : Stmt} {f : Addr} {fd : FuncData} {N ps : List Str} {k n : Nat} {body : MY} (F : Fun K x qual st f fd) (S : FnScope N ps (defScope st)) (hn : ps.length = n)
    (hb : ∀ (cdv : Value) (A : Around) (outer : List Env) (s : Shared) (H : Hp) (E : XK), Room k (A.deeper (envOfC qual (defScope st) s.heap.objs.size f cdv)) → RB (cxOf CX0 P w K mg base N qual (defScope st) f cdv A outer s H E).nox true (defBody st) body) :
    FnOk P w K mg base (CXx P w mg) (k + 1) f fd ps (spX K (fnX N.length body) n) := by
  obtain ⟨oc, od, kV, doc, pm, an, cdv, ct, osl, rfl, lk, hcd⟩ := F.ex
  refine fn_of lk hcd S (fun vs H Q E h => h.1.trans hn.symm) fun A outer s H vs Q E hr hsp => ?_
  obtain ⟨hl, ρ, as, h, y, h', R, r, e, q⟩ := hsp
  obtain ⟨⟨z, τ', h1⟩, e1, e⟩ := bindS e
  cases e
  refine ⟨fun D σ H1 => σ = L2.start N vs ∧ H1 = H, fun pins s1 σ H1 D I hq => ?_, rfl, rfl⟩
  obtain ⟨rfl, rfl⟩ := hq
  have I' : Inv (cxOf CX0 P w K mg base N qual (defScope st) f cdv A outer s H1 E).nox pins (L2.start N vs) H1 s1 := I.wish fun _ _ => False
  refine wpAny_mono ((hb cdv A outer s H1 E hr).pf pins s1 (L2.start N vs) H1 (fun x σ H' => E (.str x 0) none H') I' ⟨ρ, _, h, _, _, _, R, start_rel r, e1, fun ρ1 H2 σ1 u1 R1 S1 => q ρ1 H2 u1 R1⟩) (fun _ _ z => z.elim) fun e' s' hx => ?_
  exact xp_leaves (X := (cxOf CX0 P w K mg base N qual (defScope st) f cdv A outer s H1 E).nox) rfl rfl rfl (fun _ _ _ z => z) hx
theorem rn_mk {P : Program} {w : World} {K : PySem.W.Frag} {mg : Str → Option Value} {base : Heap} {x : Str} {st : Stmt} {N ps : List Str} {k n : Nat} {body : MY} (D : Def K mg x st ps) (S : FnScope N ps (defScope st)) (hn : ps.length = n)
    (hb : ∀ (f : Addr) (cdv : Value) (A : Around) (outer : List Env) (s : Shared) (H : Hp) (E : XK), Room k (A.deeper (envOfC x (defScope st) s.heap.objs.size f cdv)) → RB (cxOf CX0 P w K mg base N x (defScope st) f cdv A outer s H E).nox true (defBody st) body) :
    Rn P w K mg base (k + 1) x (fnX N.length body) n := by
  obtain ⟨f, fd, F, b, m⟩ := D.ex
  exact ⟨f, fd, ps, rn_ok F S hn (hb f), b, F.kp, m⟩
abbrev Cx.mkd (X : Cx) (ea : Addr) : Cx := { X with A := X.A.mark (some (.ref ea)), calm := false }
theorem mk_ok {X : Cx} {ea : Addr} (ok : X.Ok) : (Cx.mkd X ea).Ok := ⟨ok.mod, ok.kind, ok.glob, ok.blt, ok.above, ok.inj, ok.has, ok.cab, (fun z => absurd z Bool.false_ne_true), ok.frames, ok.stk, ok.exf, ok.bs, ok.bsz, ok.noex, ok.exfs, ok.funs, ok.frf⟩
theorem mk_inv {X : Cx} {ea : Addr} {pins : List (Addr × Obj)} {σ : L2.St} {H : Hp} {s : Shared} (I : Inv X pins σ H s) : Inv (Cx.mkd X ea) pins σ H s := ⟨mk_ok I.ok, I.os, I.bare, I.base, I.loc, I.cell, I.free, I.freeC, I.pin, I.hok, I.len⟩
end Ab
namespace Ab
def kFx : PySem.Str × ASt × AHp → Option (PySem.Str × AHp) := fun p => some (p.1, p.2.2)
end Ab
set_option Elab.async false
set_option linter.all false
set_option maxRecDepth 100000
namespace Ab
open PySem PySem.Spec PyProof.Rows L2
set_option autoImplicit false
def Ex {α β : Type} (m : ASt → AHp → Option α) (x : ASt → AHp → Option β) : Prop := ∀ τ h r, x τ h = some r → m τ h = none
def ExF (F : MF) (R : RF) : Prop := ∀ as h r, R as h = some r → F as h = none
theorem bindN {α β : Type} {x : Option α} {f : α → Option β} (h : x = none) : x.bind f = none := by rw [h]; rfl
section
variable {α β γ : Type} {m : ASt → AHp → Option α} {ma mb : ME} {ms : MA} {F : MF} {R : RF} {x1 x2 : MX} {y1 y2 : MY} {s t : MS} {mt : MT} {g : MG} {f : A → A → AHp → Rs A}
theorem ey_or (h1 : Ex m y1) (h2 : Ex m y2) : Ex m (yOr y1 y2) := fun τ h r e => by
  unfold yOr at e
  split at e
  · rename_i q hq; exact h1 τ h q hq
  · exact h2 τ h r e
theorem ey_no : Ex m yNo := fun τ h r e => by cases e
theorem ex_call (h : ExF F R) : Ex (eCall F ms) (xCall R ms) := fun τ hh r e => by
  obtain ⟨p, e1, e2⟩ := bindS e
  show (ms τ hh).bind _ = none
  rw [e1]
  exact h _ _ _ e2
theorem ex_head (h : Ex ma x1) : Ex (aCons ma ms) x1 := fun τ hh r e => bindN (h τ hh r e)
theorem ex_tail (h : Ex ms x1) : Ex (aCons ma ms) (xTl ma x1) := fun τ hh r e => by
  obtain ⟨p, e1, e2⟩ := bindS e
  show (ma τ hh).bind _ = none
  rw [e1]
  show (ms τ p.2).bind _ = none
  exact bindN (h _ _ _ e2)
theorem ex_tup (h : Ex ms x1) : Ex (eTup ms) x1 := fun τ hh r e => bindN (h τ hh r e)
theorem ey_E {s : MS} (h : Ex m x1) (k : ∀ τ hh, m τ hh = none → s τ hh = none) : Ex s (yE x1) := fun τ hh r e => by
  obtain ⟨p, e1, _⟩ := bindS e
  exact k _ _ (h _ _ _ e1)
theorem ey_ret (h : Ex ma x1) : Ex (sRet ma) (yE x1) := ey_E h fun _ _ e => bindN e
theorem ey_asg (h : Ex ma x1) : Ex (sAsg ma g) (yE x1) := ey_E h fun _ _ e => bindN e
theorem ey_if (h1 : Ex s y1) (h2 : Ex t y2) : Ex (sIf mt s t) (yIf mt y1 y2) := fun τ hh r e => by
  obtain ⟨p, e1, e⟩ := bindS e
  show (mt τ hh).bind _ = none
  rw [e1]
  show (if p.1 = true then s τ p.2 else t τ p.2) = none
  split at e
  · rename_i hp; rw [if_pos hp]; exact h1 _ _ _ e
  · rename_i hp; rw [if_neg hp]; exact h2 _ _ _ e
theorem ey_raise {x : Str} : Ex sNo (yRaise x ms) := fun _ _ _ _ => rfl
theorem ey_head (h : Ex s y1) : Ex (sSeq s t) y1 := fun τ hh r e => bindN (h τ hh r e)
theorem ey_tail (h : Ex t y1) : Ex (sSeq s t) (ySeq s y1) := fun τ hh r e => by
  obtain ⟨p, e1, e⟩ := bindS e
  show (s τ hh).bind _ = none
  rw [e1]
  obtain ⟨fl, h1⟩ := p
  cases fl with
  | nx τ1 => exact h _ _ _ e
  | rt a => cases e
  | bk τ1 => cases e
  | ct τ1 => cases e
theorem ex_fn {n : Nat} (h : Ex s y1) : ExF (fnOf n s) (fnX n y1) := fun as hh r e => by
  obtain ⟨p, e1, _⟩ := bindS e
  exact bindN (h _ _ _ e1)
end
end Ab
set_option Elab.async false
set_option linter.all false
set_option maxRecDepth 100000
namespace Ab
open PySem PySem.Spec PySem.Calls PyProof.Rows L2 PySem.W PySem.Builtin PySem.Builtin.ObjectAttr PySem.Builtin.Getset_descriptor
set_option autoImplicit false
structure ExAt (x D : Addr) (h : Heap) : Prop where
  ex : ∃ (o : Obj) (vs : Array Value), h.get? x = some o ∧ o.cls = .ref D ∧ o.data = .fields vs
theorem ExAt.type {x D : Addr} {h : Heap} {M : Model} (a : ExAt x D h) : Looks M h (typeOf (.ref x)) (.ref D) := by
  obtain ⟨o, vs, h1, h2, h3⟩ := a.ex
  exact h2 ▸ (Looks.ld h1).andThen .now
section
variable {prog : Program} {w : World} {A : Around} {E : Value → Shared → Prop} {s : Shared} {K : Frag} {x D : Addr}
theorem xc_get {R : Result → Shared → Prop} {tp : Value} (X : K.In s.heap) (I : ExAt x D s.heap) (hm : mroIn K D (.type "object") = some true)
    (h : R (.ok (.ret (.ref D))) s) : codeAny (model prog w) A (.call (.builtin "getset_descriptor.__get__") ⟨[.builtin "object.__class__", .ref x, tp], []⟩) R s := by
  obtain ⟨h0, g0, d0, t0, o0⟩ := s
  have LT := I.type (M := model prog w)
  have LM := looks_mroIn (M := model prog w) X hm
  refine codeAny_call_builtin KF.slot_gs.plain KF.entry_gs (KF.slot_gs.check _ _ _ _ _ _ _ _ KF.type_class (KF.args_gs _ _ _) ?_)
  unfold Builtin.«getset_descriptor.__get__» descrGet; rw [dga_obj]
  refine wpAny_bind (wpAny_pure ?_); unfold descrGetter descrCheckInstance descrNameAndClass isInstance
  simp only [KF.owner_class]; repeat lk
  refine ⟨Code.quiet_builtin _ (by decide +kernel), codeAny_builtin KF.entry_class ?_⟩; unfold Builtin.«object.__class__» shownTypeOf
  repeat lk
  exact h
theorem xc_entry {tk : Tok} {Q : PySem.Fin → Shared → Prop} (X : K.In s.heap) (I : ExAt x D s.heap) (hc : findIn K (.ref D) "__class__" = some (some (.builtin "object.__class__"))) (hm : mroIn K D (.type "object") = some true)
    (h : Q (.done (.ret (.ref D))) s) : wpAny (model prog w) A (Builtin.«object.__getattribute__» ⟨[.ref x, .str "__class__" tk], []⟩) Q E s := by
  obtain ⟨h0, g0, d0, t0, o0⟩ := s
  have LT := I.type (M := model prog w)
  have LC := looks_findIn (M := model prog w) X hc
  have f6 := F.slot_gs_get.lookup
  have f7 := F.slot_gs_set.lookup
  have f5 := KF.type_class
  repeat (any_goals (first | assumption | with_reducible refine LT.at ?_ | with_reducible refine LC.at ?_ | wp_step))
  exact xc_get X I hm (wpAny_pure h)
theorem xc_check {M : Model} {nameV : Value} {Q : Unit → Shared → Prop} (X : K.In s.heap) (I : ExAt x D s.heap) (hb : mroIn K D (.type "BaseException") = some true) (hq : Q () s) :
    wpAny M A (checkBuiltinCall "BaseException.__getattribute__" ⟨[.ref x, nameV], []⟩) Q E s := by
  obtain ⟨h0, g0, d0, t0, o0⟩ := s
  have hk : builtinKind "BaseException.__getattribute__" = some .slot := by decide +kernel
  have hsplit : splitId "BaseException.__getattribute__" = some ("BaseException", "__getattribute__") := by decide +kernel
  have ha := F.args_bexc_ga (.ref x) nameV
  have LT := I.type (M := M)
  have LM := looks_mroIn (M := M) X hb
  simp only [checkBuiltinCall, hk, hsplit]
  refine wpAny_bind ?_
  unfold isInstance
  repeat (first | with_reducible refine LT.at ?_ | with_reducible refine LM.at ?_ | wp_step)
  exact hq
theorem xc_call {tk : Tok} {R : Result → Shared → Prop} (X : K.In s.heap) (I : ExAt x D s.heap) (hc : findIn K (.ref D) "__class__" = some (some (.builtin "object.__class__"))) (hm : mroIn K D (.type "object") = some true) (hb : mroIn K D (.type "BaseException") = some true)
    (hq : R (.ok (.ret (.ref D))) s) : codeAny (model prog w) A (.call (.builtin "BaseException.__getattribute__") ⟨[.ref x, .str "__class__" tk], []⟩) R s :=
  codeAny_call_builtin F.excAttr_ValueError.ga.plain F.entry_bexc_ga (xc_check X I hb (xc_entry X I hc hm hq))
theorem xc_by {tk : Tok} {fill expr : Bool} {Q : Value → Shared → Prop} (X : K.In s.heap) (I : ExAt x D s.heap) (hga : findIn K (.ref D) "__getattribute__" = some (some (.builtin "BaseException.__getattribute__"))) (hgt : findIn K (.ref D) "__getattr__" = some none)
    (hc : findIn K (.ref D) "__class__" = some (some (.builtin "object.__class__"))) (hm : mroIn K D (.type "object") = some true) (hb : mroIn K D (.type "BaseException") = some true)
    (hq : Q (.ref D) s) : wpAny (model prog w) A (getAttrBy (.ref x) (.str "__class__" tk) fill expr) Q E s := by
  obtain ⟨h0, g0, d0, t0, o0⟩ := s
  have LT := I.type (M := model prog w)
  have LG := looks_findIn (M := model prog w) X hga
  have LN := looks_findIn (M := model prog w) X hgt
  have f3 := F.excAttr_ValueError.ga.bind (.ref x)
  have hx0 : (expr && onTheHeap (Value.builtin "BaseException.__getattribute__")) = false := by cases expr <;> rfl
  have hx2 : (Value.builtin "BaseException.__getattribute__" == Value.builtin "object.__getattribute__") = false := by decide +kernel
  have hx1 : (onTheHeap (Value.ref D) && Value.builtin "BaseException.__getattribute__" == Value.builtin "object.__getattribute__") = false := by rw [hx2]; rfl
  repeat (any_goals (first | assumption | with_reducible refine LT.at ?_ | with_reducible refine LG.at ?_ | with_reducible refine LN.at ?_ | wp_step))
  refine xc_call X I hc hm hb ?_
  repeat (any_goals (first | assumption | wp_step))
theorem xc_attr {Q : Option Value → Shared → Prop} (X : K.In s.heap) (I : ExAt x D s.heap) (hga : findIn K (.ref D) "__getattribute__" = some (some (.builtin "BaseException.__getattribute__"))) (hgt : findIn K (.ref D) "__getattr__" = some none)
    (hc : findIn K (.ref D) "__class__" = some (some (.builtin "object.__class__"))) (hm : mroIn K D (.type "object") = some true) (hb : mroIn K D (.type "BaseException") = some true)
    (hq : Q (some (.ref D)) { s with toks := s.toks + 1 }) : wpAny (model prog w) A (getAttr? (.ref x) "__class__") Q E s := by
  obtain ⟨h0, g0, d0, t0, o0⟩ := s
  have B : ∀ {tk : Tok} {fill expr : Bool} {Q' : Value → Shared → Prop} {E' : Value → Shared → Prop}, Q' (.ref D) ⟨h0, g0, d0, t0 + 1, o0⟩ → wpAny (model prog w) A (getAttrBy (.ref x) (.str "__class__" tk) fill expr) Q' E' ⟨h0, g0, d0, t0 + 1, o0⟩ :=
    fun q => xc_by (s := ⟨h0, g0, d0, t0 + 1, o0⟩) X I hga hgt hc hm hb q
  unfold getAttr? getAttrBy?
  repeat (any_goals (first | assumption | with_reducible apply B | wp_step))
end
structure ExKit (K : Frag) (D : Addr) : Prop where
  cls : (clsIn K D).isSome = true
  ga : findIn K (.ref D) "__getattribute__" = some (some (.builtin "BaseException.__getattribute__"))
  gt : findIn K (.ref D) "__getattr__" = some none
  cl : findIn K (.ref D) "__class__" = some (some (.builtin "object.__class__"))
  ob : mroIn K D (.type "object") = some true
  be : mroIn K D (.type "BaseException") = some true
theorem kitx_exc {K : Frag} {x D : Addr} (f : ExKit K D) : KitX K (.ref x) (.ref D) (ExAt x D) where
  ty := fun _ _ _ I => I.type
  it := fun _ _ X _ => by
    have z := f.cls
    unfold clsIn at z
    split at z
    · rename_i ho
      intro A' Q' E' s' k q
      unfold isType loadHead
      exact wpAny_bind (wpAny_loadPart (k _ _ (X _ _ ho)) (wpAny_pure q))
    · cases z
  ne := fun h tp dd its n sl X htp => by
    have z := f.cls
    refine Bool.eq_false_iff.mpr fun q => ?_
    have e : D = tp := Value.ref.inj (beq_iff_eq.mp q)
    subst e
    unfold clsIn at z
    split at z
    · rename_i ho
      have y := (X _ _ ho).symm.trans htp
      cases y
    · cases z
  ca := fun X I k => xc_attr X I f.ga f.gt f.cl f.ob f.be k
end Ab
set_option Elab.async false
set_option linter.all false
set_option maxRecDepth 100000
namespace Ab
open PySem PySem.Spec PyProof.Rows L2
set_option autoImplicit false
def eIsC (i : Nat) (ea : Addr) (b : Bool) : ME := fun τ h => match τ[i]? with
  | some (some (.raw a)) => if a = ea then some (.bl b, h) else none
  | _ => none
theorem isC_some {i : Nat} {ea : Addr} {b : Bool} {τ : ASt} {h : AHp} {r : A × AHp} (e : eIsC i ea b τ h = some r) : τ[i]? = some (some (.raw ea)) ∧ r = (.bl b, h) := by
  unfold eIsC at e
  split at e
  · rename_i a q
    split at e
    · rename_i z
      subst z
      cases e
      exact ⟨q, rfl⟩
    · cases e
  · cases e
def cV : Value → V
  | .ref a => .ref a
  | .type n => .ty n
  | _ => .non
def isCV : Value → Bool
  | .ref _ => true
  | .type _ => true
  | _ => false
theorem cV_rel {c u : Value} (h : isCV c = true) (r : RelV (cV c) u) : u = c := by
  cases c <;> first | exact r | exact absurd h Bool.false_ne_true
theorem cVs_rel : ∀ {cs us : List Value}, cs.all isCV = true → Vals (cs.map cV) us → us = cs
  | [], us, _, r => by cases r; rfl
  | c :: cs, us, h, r => by
    rw [List.all_cons, Bool.and_eq_true] at h
    cases r with
    | cons r1 r2 => rw [cV_rel h.1 r1, cVs_rel h.2 r2]
section
variable {X : Cx} {ea D : Addr} {b : Bool}
def Knows (X : Cx) (ea D : Addr) : Prop := ∀ (pins : List (Addr × Obj)) (σ : L2.St) (H : Hp) (s : Shared), Inv X pins σ H s → ExAt ea D s.heap
theorem cr_isx (kn : Knows X ea D) (f : ExKit X.K D) {c : Value} (hc : isCV c = true) (one : PySem.W.kitOne X.K (.ref D) c = some b) :
    CallR X (.builtin "isinstance") (fun vs H Q => vs = [.ref ea, cV c] ∧ Q (.bl b) H) := by
  intro pins s σ H vs us Q I r h
  obtain ⟨rfl, q⟩ := h
  cases r with
  | cons r1 r2 =>
    cases r2 with
    | cons r2 r3 =>
      cases r3
      cases (show _ = Value.ref ea from r1)
      rw [cV_rel hc r2]
      exact PySem.W.kia_one (kitx_exc f) I.kIn (kn pins σ H s I) one (by intro z; cases z) fun tk => ⟨.bl b, H, I.tok tk, rfl, q⟩
theorem cr_isxT (kn : Knows X ea D) (f : ExKit X.K D) {cs : List Value} (hc : cs.all isCV = true) (any : PySem.W.kitAny X.K (.ref D) cs = some b) :
    CallR X (.builtin "isinstance") (fun vs H Q => ∃ p, vs = [.ref ea, .ref p] ∧ H p = some (.tup (cs.map cV)) ∧ Q (.bl b) H) := by
  intro pins s σ H vs us Q I r h
  obtain ⟨p, rfl, hp, q⟩ := h
  cases r with
  | cons r1 r2 =>
    cases r2 with
    | cons r2 r3 =>
      cases r3
      cases (show _ = Value.ref ea from r1)
      cases (show _ = Value.ref p from r2)
      obtain ⟨_, its, rv, o, h1, h2, n, h3⟩ := (show ObjOk X.prog X.w H s.heap p (.tup (cs.map cV)) from I.hok p _ hp)
      have e := cVs_rel hc rv
      subst e
      obtain ⟨oc, od, oda, osl⟩ := o
      dsimp only at h2 h3
      subst h2 h3
      exact PySem.W.kia_tup (kitx_exc f) I.kIn (kn pins σ H s I) h1 any (by intro z; cases z) fun tk => ⟨.bl b, H, I.tok tk, rfl, q⟩
variable {ce : Expr} {i : Nat} {x : Str} {p px pos tpos : Pos} {es : List Expr}
theorem imp_isx {K : PySem.W.Frag} {cv : V} {σ : L2.St} {H : Hp} {Q : VK} (q : tE K (eIsC i ea b) σ H Q) : ∃ ρ τ h, RelH K ρ H h ∧ RelS K ρ H σ τ ∧ τ[i]? = some (some (.raw ea)) ∧ ∀ ρ' H', Up K ρ H ρ' H' → RelH K ρ' H' h → Q (.bl b) H' := by
  obtain ⟨ρ, τ, h, d, h', R, S, e, k⟩ := q
  obtain ⟨e1, e2⟩ := isC_some e
  cases e2
  exact ⟨ρ, τ, h, R, S, e1, fun ρ' H' u R' => k ρ' H' _ u R' (.bl b)⟩
theorem je_isx {c : Value} (i : Nat) (kn : Knows X ea D) (f : ExKit X.K D) (hm : X.mg "isinstance" = none) (hce : PE X ce (tC (cV c))) (one : PySem.W.kitOne X.K (.ref D) c = some b) (hc : isCV c = true := by rfl) (hN : X.N[i]? = some x := by rfl)
    (hv : Vis X.env.scope x := by first | exact Or.inl rfl | exact Or.inr (Or.inl rfl) | exact Or.inr (Or.inr rfl)) (hd : (x == ("__debug__" : Str)) = false := by decide) (hcd : (x == ("__classdict__" : Str)) = false := by decide) (hg : Gl X "isinstance" := by rfl)
    (he : starEach [.Name x px, ce] X.env = (false, eval (.Name x px) X.env) :: starEach [ce] X.env := by rfl) (he2 : starEach [ce] X.env = (false, eval ce X.env) :: starEach [] X.env := by rfl) (hpl : (backTo pos (starEach [ce] X.env)).any (·.1) = false := by rfl) :
    JE X (.Call (.Name "isinstance" p) [.Name x px, ce] [] pos) (eIsC i ea b) := by
  have i1 : PE X (.Name x px) (tE X.K (eVar i)) := (je_var (X := X) (pos := px) i hN hv hd hcd).pf
  have i2 : PE X (.Call (.Name "isinstance" p) [.Name x px, ce] [] pos) _ := pe_callB (cr_isx kn f hc one) hg hm (by decide +kernel) (pa_cons i1 (pa_cons hce pa_nil he2) he) (by decide) (by decide) he hpl
  refine ⟨PE_imp i2 fun σ H Q q => ?_⟩
  obtain ⟨ρ, τ, h, R, S, e, k⟩ := imp_isx (cv := cV c) q
  refine ⟨ρ, τ, h, .raw ea, h, R, S, by unfold eVar; rw [e], fun ρ1 H1 v u1 R1 r1 => ?_⟩
  cases r1
  exact ⟨rfl, k ρ1 H1 u1 R1⟩
theorem je_isxT {cs : List Value} {j : Nat} (i : Nat) (kn : Knows X ea D) (f : ExKit X.K D) (hm : X.mg "isinstance" = none) (hce : PA X es (fun _ H Q => Q (cs.map cV) H)) (any : PySem.W.kitAny X.K (.ref D) cs = some b) (hc : cs.all isCV = true := by rfl) (hz : cs.length ≤ 100 := by simp) (hN : X.N[i]? = some x := by rfl)
    (hv : Vis X.env.scope x := by first | exact Or.inl rfl | exact Or.inr (Or.inl rfl) | exact Or.inr (Or.inr rfl)) (hd : (x == ("__debug__" : Str)) = false := by decide) (hcd : (x == ("__classdict__" : Str)) = false := by decide) (hg : Gl X "isinstance" := by rfl)
    (he : starEach [.Name x px, .Tuple es j tpos] X.env = (false, eval (.Name x px) X.env) :: starEach [.Tuple es j tpos] X.env := by rfl) (he2 : starEach [.Tuple es j tpos] X.env = (false, eval (.Tuple es j tpos) X.env) :: starEach [] X.env := by rfl) (hpl : (backTo pos (starEach [.Tuple es j tpos] X.env)).any (·.1) = false := by rfl) :
    JE X (.Call (.Name "isinstance" p) [.Name x px, .Tuple es j tpos] [] pos) (eIsC i ea b) := by
  have i1 : PE X (.Name x px) (tE X.K (eVar i)) := (je_var (X := X) (pos := px) i hN hv hd hcd).pf
  have i2 : PE X (.Call (.Name "isinstance" p) [.Name x px, .Tuple es j tpos] [] pos) _ := pe_callB (cr_isxT kn f hc any) hg hm (by decide +kernel) (pa_cons i1 (pa_cons (pe_tup hce) pa_nil he2) he) (by decide) (by decide) he hpl
  refine ⟨PE_imp i2 fun σ H Q q => ?_⟩
  obtain ⟨ρ, τ, h, R, S, e, k⟩ := imp_isx (cv := .non) q
  refine ⟨ρ, τ, h, .raw ea, h, R, S, by unfold eVar; rw [e], fun ρ1 H1 v u1 R1 r1 => ?_⟩
  cases r1
  refine ⟨by rw [List.length_map]; exact Nat.le_trans hz (by decide), fun z hz' => ⟨z, rfl, upd_same, ?_⟩⟩
  have nin : z ∉ ρ1 := R1.notin hz'
  obtain ⟨le2, R2⟩ := R1.out (u := .tup (cs.map cV)) nin (.inl hz')
  exact k ρ1 _ (u1.trans ⟨le2, fun q o _ e => by rw [upd_ne (ne_of_none e hz')]; exact .inl e, fun q m n => absurd m n⟩) R2
theorem pa_cls {c : Value} {cs : List Value} (h : PE X ce (tC (cV c))) (t : PA X es (fun _ H Q => Q (cs.map cV) H)) (hs : starEach (ce :: es) X.env = (false, eval ce X.env) :: starEach es X.env := by rfl) : PA X (ce :: es) (fun _ H Q => Q ((c :: cs).map cV) H) := pa_cons h t hs
theorem pa_cls0 : PA X [] (fun _ H Q => Q (([] : List Value).map cV) H) := pa_nil
theorem pe_own {C : Addr} {x : Str} {pos : Pos} (hm : X.mg x = some (.ref C)) (hg : Gl X x := by rfl) (hd : (x == ("__debug__" : Str)) = false := by decide) : PE X (.Name x pos) (tC (cV (.ref C))) := pe_glob hg hm rfl hd
theorem pe_ve {pos : Pos} (hm : X.mg "ValueError" = none) (hg : Gl X "ValueError" := by rfl) : PE X (.Name "ValueError" pos) (tC (cV (.type "ValueError"))) := pe_bltn hg hm (by decide +kernel) rfl
end
end Ab
set_option Elab.async false
set_option linter.all false
set_option maxRecDepth 100000
namespace Ab
open PySem PySem.Spec PyProof.Rows L2
set_option autoImplicit false
structure RoomH (k : Nat) (A : Around) : Prop where
  dp : A.depth + 3 * k + 5 < recursionLimit
  un : A.units + 16 * k + 200 < cLine
theorem RoomH.mono {j k : Nat} {A : Around} (r : RoomH k A) (h : j ≤ k) : RoomH j A := ⟨by have := r.dp; omega, by have := r.un; omega⟩
theorem RoomH.deep {k : Nat} {A : Around} (r : RoomH (k + 1) A) (env : Env) : RoomH k (A.deeper env) := ⟨by have := r.dp; show A.depth + 1 + 3 * k + 5 < _; omega, by have := r.un; show A.units + 3 + 16 * k + 200 < _; omega⟩
theorem Room.toH {k : Nat} {A : Around} (r : Room k A) (v : Option Value) : RoomH k (A.mark v) := ⟨r.dp, r.un⟩
def Apart (ea : Addr) (ob : Obj) (outer : List Env) (s : Shared) (H : Hp) : Prop := s.heap.get? ea = some ob ∧ H ea = none ∧ ea ∉ frs outer
def KnowsO (X : Cx) (ea : Addr) (ob : Obj) : Prop := ∀ (pins : List (Addr × Obj)) (σ : L2.St) (H : Hp) (s : Shared), Inv X pins σ H s → Apart ea ob X.stack s H
theorem KnowsO.kn {X : Cx} {ea D : Addr} {ob : Obj} {vs : Array Value} (k : KnowsO X ea ob) (h1 : ob.cls = .ref D) (h2 : ob.data = .fields vs) : Knows X ea D := fun pins σ H s I => ⟨ob, vs, (k pins σ H s I).1, h1, h2⟩
section
variable {P : Program} {w : World} {K : PySem.W.Frag} {mg : Str → Option Value} {base : Heap}
abbrev cxH (P : Program) (w : World) (K : PySem.W.Frag) (mg : Str → Option Value) (base : Heap) (N : List Str) (qual : Str) (scope : Scope) (f : Addr) (cd : Value) (A : Around) (outer : List Env) (s : Shared) (H : Hp) (E : XK) : Cx :=
  { cxOf CX0 P w K mg base N qual scope f cd A outer s H E with calm := false, xe := fun _ _ => False }
theorem startH {N ps : List Str} {qual : Str} {scope : Scope} {f : Addr} {cd : Value} {A : Around} {outer : List Env} {s s1 : Shared} {H : Hp} {E : XK} {us : List Value} {vs : List V} (S : FnScope N ps scope) (e0 : Env0 P w K mg base A outer s H) (hl : vs.length = ps.length) (r : Vals vs us)
    (x : InCallC s s.heap.objs.size (bindL (envOfC qual scope s.heap.objs.size f cd).kindOf (ps.zip us) fun _ => none) (cellsFrom (s.heap.objs.size + 1) scope.names []) (bindC (envOfC qual scope s.heap.objs.size f cd).kindOf (ps.zip us) fun _ => none) s1) :
    Inv (cxH P w K mg base N qual scope f cd A outer s H E) [] (L2.start N vs) H s1 := by
  have I := inv_start (CX := CX0) (E := E) (A := { A with handled := none }) S rfl (⟨e0.frames, e0.mod, e0.bs, e0.bsz, e0.funs, e0.frf, e0.hok, e0.bare⟩ : Env0 P w K mg base { A with handled := none } outer s H) hl r x
  have o := I.ok
  exact ⟨⟨o.mod, o.kind, o.glob, o.blt, o.above, o.inj, o.has, o.cab, (fun z => absurd z Bool.false_ne_true), Around.frames_deeper e0.frames, o.stk, o.exf, o.bs, o.bsz, o.noex, o.exfs, o.funs, o.frf⟩, I.os, I.bare, I.base, I.loc, I.cell, I.free, I.freeC, I.pin, I.hok, I.len⟩
structure FnH (P : Program) (w : World) (K : PySem.W.Frag) (mg : Str → Option Value) (base : Heap) (k : Nat) (x : Str) (F : MF) (n : Nat) (ea : Addr) (ob : Obj) : Prop where
  ex : ∃ f fd ps, (∀ vs H Q E, spF K F n vs H Q E → vs.length = ps.length) ∧ (∀ (A : Around) (outer : List Env) (s : Shared) (H : Hp) (args : Args) (us : List Value) (vs : List V) (Q : VK) (E : XK), RoomH k A → Env0 P w K mg base A outer s H → Apart ea ob outer s H → BindsTo s fd args (ps.zip us) → Vals vs us → spF K F n vs H Q E →
    codeAny (model P w) A (.call (.ref f) args) (CR CX0 outer P w H s Q E) s) ∧ Binds K fd ps [] ∧ PySem.W.keepIn K (.ref f) = true ∧ mg x = some (.ref f)
theorem fnH_mk {x : Str} {st : Stmt} {N ps : List Str} {k n : Nat} {body : MS} {ea : Addr} {ob : Obj} (D : Def K mg x st ps) (S : FnScope N ps (defScope st)) (hn : ps.length = n)
    (hb : ∀ (f : Addr) (cdv : Value) (A : Around) (outer : List Env) (s : Shared) (H : Hp) (E : XK), RoomH k (A.deeper (envOfC x (defScope st) s.heap.objs.size f cdv)) → KnowsO (cxH P w K mg base N x (defScope st) f cdv A outer s H E) ea ob → JB (cxH P w K mg base N x (defScope st) f cdv A outer s H E) (defBody st) body) :
    FnH P w K mg base (k + 1) x (fnOf N.length body) n ea ob := by
  obtain ⟨f, fd, F, b, m⟩ := D.ex
  have kp := F.kp
  have F0 := F
  obtain ⟨oc, od, kV, doc, pm, an, cdv, ct, osl, rfl, lk, hcd⟩ := F.ex
  have len : ∀ vs H Q E, spF K (fnOf N.length body) n vs H Q E → vs.length = ps.length := fun vs H Q E h => h.1.trans hn.symm
  refine ⟨f, _, ps, len, fun A outer s H args us vs Q E hr e0 ap hbd r hsp => ?_, b, kp, m⟩
  have hl := len _ _ _ _ hsp
  have KX : K.In s.heap := e0.mod.kin.keeps fun b o e => (e0.bs b o e).1
  have lim : s.heap.NoLimit := e0.mod.nolimit.keeps fun b o e => (e0.bs b o e).1
  have hkind : ∀ y ∈ ps.zip us, (defScope st).names.lookup y.1 = some .local ∨ ((defScope st).names.lookup y.1 = some .cell ∧ ((cellsFrom (s.heap.objs.size + 1) (defScope st).names []).lookup y.1).isSome = true) := fun ⟨n, v⟩ hy => by
    rcases S.par n (List.of_mem_zip hy).1 with q | q
    · exact .inl q
    · exact .inr ⟨q, PySem.W.cellsFrom_some _ _ _ (.inl q)⟩
  refine codeAny_call_function (by have := hr.dp; omega) (KX _ _ lk) rfl S.co S.gen rfl (PySem.W.codeRec_of KX hcd) (hbd _ _ _ _ ?_)
  refine wpAny_newFunctionEnv_cells S.kind hkind fun env he s1 xc => ?_
  subst he
  refine ⟨lim.keeps xc.toInCall.keep, codeAny_func ?_⟩
  have I := startH (E := E) S e0 hl r xc
  obtain ⟨hl', ρ, as, h, a, h', R, r', e, q⟩ := hsp
  obtain ⟨⟨fl, h1⟩, e1, e⟩ := bindS e
  have kn : KnowsO (cxH P w K mg base N x (defScope st) f cdv A outer s H E) ea ob := fun pins σ H' s' J => by
    have g := J.base.keep ea ob ap.1 ap.2.1 ap.2.2 (fun z => absurd (show ea ∈ ([] : List Addr) from z) (by simp))
    refine ⟨g, J.base.free ea ob ap.1 ap.2.1 (fun z => absurd (show ea ∈ ([] : List Addr) from z) (by simp)), fun z => ?_⟩
    rcases List.mem_cons.mp (J.stkSub ea z) with y | y
    · have lt := Heap.lt_size ap.1
      rw [y] at lt
      exact absurd (Nat.lt_of_lt_of_le lt J.ok.above) (Nat.lt_irrefl _)
    · exact ap.2.2 y
  have run := (hb f cdv A outer s H E (hr.deep _) kn).pf [] s1 (L2.start N vs) H { nx := fun _ H' => Q .non H', rt := Q } I ⟨ρ, _, h, fl, h1, R, start_rel r', e1, fun ρ1 H1 u1 R1 => by
    cases fl with
    | nx τ => cases e; exact fun σ _ => q ρ1 H1 .non u1 R1 .non
    | rt b => cases e; exact fun v rv => q ρ1 H1 v u1 R1 rv
    | bk τ => cases e
    | ct τ => cases e⟩
  refine wpAny_mono run (fun fl' s' hs => ?_) fun e s' hs => hs.elim
  cases fl' with
  | ret u =>
    obtain ⟨v, σ', H', J, rv, q⟩ := hs
    exact ⟨v, H', J.os, J.bare, J.base, J.hok, rv, q⟩
  | next =>
    obtain ⟨σ', H', J, q⟩ := hs
    exact ⟨V.non, H', J.os, J.bare, J.base, J.hok, rfl, q⟩
  | brk =>
    obtain ⟨_, _, _, q⟩ := hs
    exact False.elim q
  | cont =>
    obtain ⟨_, _, _, q⟩ := hs
    exact False.elim q
end
section
variable {X : Cx}
theorem je_fnH {e : Expr} {es : List Expr} {pos p : Pos} {ms : MA} {k n : Nat} {x : Str} {F : MF} {ea : Addr} {ob : Obj} (h : FnH X.prog X.w X.K X.mg X.base k x F n ea ob) (kn : KnowsO X ea ob) (hr : RoomH k X.A) (ha : JA X (e :: es) ms)
    (hn : ∀ (τ : ASt) (h : AHp) (p : List A × AHp), ms τ h = some p → p.1.length = n := by repeat (first | exact len_nil | refine len_cons ?_)) (hx : X.xe = fun _ _ => False := by rfl)
    (hg : Gl X x := by rfl) (hdb : (x == ("__debug__" : Str)) = false := by decide) (he : starEach (e :: es) X.env = (false, eval e X.env) :: starEach es X.env := by rfl) (hpl : (backTo pos (starEach es X.env)).any (·.1) = false := by rfl) :
    JE X (.Call (.Name x p) (e :: es) [] pos) (eCall F ms) := by
  obtain ⟨f, fd, ps, len, run, hb, hk, hm⟩ := h.ex
  have i1 : PE X (.Call (.Name x p) (e :: es) [] pos) (tCall (spF X.K F n) [] E0 (tA X.K ms)) := by
    intro pins s σ H Q I h
    refine wpAny_Call_Name_kw (ld_glob I hg hm ?_ hdb)
    refine PySem.W.callWith_K (h₀ := X.base) I.ok.mod.kin hk (thn (ha.pf pos pins s σ H _ I h) fun us s1 ⟨vs, H1, I1, r, q⟩ => ⟨I1.kIn, ?_⟩) he hpl
    have hl : (us ++ []).length = ps.length := by rw [List.append_nil, ← r.length]; exact len _ _ _ _ (by simpa using q)
    have bd := hb s1 us I1.kIn hl
    rw [List.append_nil] at bd
    refine wpAny_call (codeAny_mono (run X.A X.stack s1 H1 ⟨us, []⟩ us vs Q E0 hr I1.env0 (kn pins σ H1 s1 I1) bd r (by simpa using q)) fun r s' hq => ?_)
    cases r with
    | error e => exact False.elim hq
    | ok fl =>
      cases fl with
      | ret u => exact I1.after hq
      | next => exact False.elim hq
      | brk => exact False.elim hq
      | cont => exact False.elim hq
  exact ⟨PE_imp i1 (imp_call hn)⟩
end
end Ab
set_option Elab.async false
set_option linter.all false
set_option maxRecDepth 100000
namespace Ab
open PySem PySem.Spec PyProof.Rows L2
set_option autoImplicit false
abbrev Cx.hdl (X : Cx) (ea : Addr) (ob : Obj) : Cx := { X with A := X.A.mark (some (.ref ea)), calm := false, pn := (ea, ob) :: X.pn }
section
variable {X : Cx} {ea : Addr} {ob : Obj} {pins : List (Addr × Obj)} {σ : L2.St} {H : Hp} {s : Shared}
theorem hdl_ok (ok : X.Ok) : (Cx.hdl X ea ob).Ok := ⟨ok.mod, ok.kind, ok.glob, ok.blt, ok.above, ok.inj, ok.has, ok.cab, (fun z => absurd z Bool.false_ne_true), ok.frames, ok.stk, ok.exf, ok.bs, ok.bsz, ok.noex, ok.exfs, ok.funs, ok.frf⟩
theorem hdl_inv (I : Inv X pins σ H s) (h1 : s.heap.get? ea = some ob) (h2 : H ea = none) (h3 : ea ≠ X.env.locals) (h4 : ea ∉ X.fs) {vs : Array Value} (h5 : ob.data = .fields vs) : Inv (Cx.hdl X ea ob) pins σ H s :=
  ⟨hdl_ok I.ok, I.os, I.bare, I.base, I.loc, I.cell, I.free, I.freeC, fun p hp => by
    rcases List.mem_cons.mp (show p ∈ (ea, ob) :: (X.pn ++ pins) from hp) with rfl | hp
    · exact ⟨h1, h2, h3, h4, fun v q => by rw [h5] at q; cases q⟩
    · exact I.pin p hp, I.hok, I.len⟩
theorem hdl_back (ok : X.Ok) (I : Inv (Cx.hdl X ea ob) pins σ H s) : Inv X pins σ H s := ⟨ok, I.os, I.bare, I.base, I.loc, I.cell, I.free, I.freeC, fun p hp => I.pin p (show p ∈ (ea, ob) :: (X.pn ++ pins) from List.mem_cons_of_mem _ hp), I.hok, I.len⟩
theorem hdl_knows : KnowsO (Cx.hdl X ea ob) ea ob := fun pins σ H s I => by
  obtain ⟨a, b, c, d, _⟩ := I.pin (ea, ob) (show _ ∈ (ea, ob) :: (X.pn ++ pins) from List.mem_cons_self ..)
  refine ⟨a, b, fun z => ?_⟩
  rcases List.mem_cons.mp (I.stkSub ea z) with y | y
  · exact c y
  · exact d y
theorem fly_apart {B h' : Heap} {cls a0 : Value} (I : Inv X pins σ H s) (hex : X.ex = []) (cov : Cov X.stack (Kn X pins) H s.heap B) (fl : Heap.FlyingW B X.stack ea cls a0 h') (I' : Inv X pins σ H { s with heap := h' }) : H ea = none ∧ ea ≠ X.env.locals ∧ ea ∉ X.fs := by
  obtain ⟨oe, vs, g, hc, hd, _⟩ := fl.first
  have n1 : ea ≠ X.env.locals := fun z => by
    obtain ⟨m, ⟨o, es, ep, ho, hd', _⟩, _⟩ := I'.loc
    rw [z] at g
    have ho : h'.get? X.env.locals = some o := ho
    rw [g] at ho
    cases ho
    rw [hd] at hd'; cases hd'
  have n2 : ea ∉ X.fs := fun z => by
    obtain ⟨_, o2, e2, nf⟩ := I'.ok.funs.mem z
    obtain ⟨sl, q⟩ := I'.base.slot ea o2 e2 (I'.ok.frf ea z) z (by rw [hex]; simp)
    have q : h'.get? ea = some { o2 with slots := sl } := q
    rw [g] at q
    cases q
    exact nf vs hd
  refine ⟨?_, n1, n2⟩
  cases q : H ea with
  | none => rfl
  | some u =>
    exfalso
    have nf : ea ∉ frs X.stack := fun z => by
      rcases List.mem_cons.mp (I.stkSub ea z) with y | y
      · exact n1 y
      · exact n2 y
    have lt := (I.hok ea u q)
    obtain ⟨o3, e3⟩ : ∃ o3, s.heap.get? ea = some o3 := by
      cases u with
      | lst xs => obtain ⟨_, _, _, _, e⟩ := lt; exact ⟨_, e⟩
      | tup xs => obtain ⟨_, _, _, _, e, _⟩ := lt; exact ⟨_, e⟩
      | dK kvs => obtain ⟨_, _, _, _, o, _, _, e, _⟩ := lt; exact ⟨_, e⟩
      | dT kvs => obtain ⟨_, _, _, _, o, _, _, e, _⟩ := lt; exact ⟨_, e⟩
      | set S n => obtain ⟨o, _, _, _, e, _⟩ := lt; exact ⟨_, e⟩
      | ins C dx fs => obtain ⟨_, _, _, e, _⟩ := lt; exact ⟨_, e⟩
      | own y => obtain ⟨_, e⟩ := lt; exact ⟨_, e⟩
      | xd fs => obtain ⟨_, ⟨_, _, _, e, _⟩, _⟩ := lt; exact ⟨_, e⟩
      | rng lo hi => obtain ⟨_, _, _, e⟩ := lt; exact ⟨_, e⟩
      | frz ob u => obtain ⟨e, _⟩ := lt; exact ⟨_, e⟩
      | tbl ps => exact ⟨_, lt⟩
      | met f y => exact ⟨_, lt⟩
      | ext φ => obtain ⟨_, e, _⟩ := lt; exact e
    have := cov ea o3 nf (.inr (by rw [q]; rfl)) e3
    rw [fl.2.1] at this; cases this
theorem inv_lost {h' : Heap} {m' : Str → Option Value} {t : Nat} (I : Inv X pins σ H s) (hn : h'.Ns X.env.locals m') (sb : Heap.SameBut X.env.locals s.heap h') : Inv X pins (List.replicate X.N.length none) H { s with heap := h', toks := t } := by
  have low : ∀ b o, X.s_0.heap.get? b = some o → b ≠ X.env.locals := fun b o e => Nat.ne_of_lt (Nat.lt_of_lt_of_le (Heap.lt_size e) I.ok.above)
  refine ⟨I.ok, I.os, I.bare, ⟨fun b o e n hb hx => (sb.2 b (low b o e)).trans (I.base.keep b o e n hb hx), fun b o e n hb hx => ?_, I.base.free, fun b o e hx => ?_, I.base.tups, I.base.frzs, I.base.tbls⟩, ⟨m', hn, fun i x v e1 e2 _ => ?_⟩, fun x c e => ?_, I.free, I.freeC, fun p hp => ?_, fun b o e => ?_, by simp⟩
  · obtain ⟨sl, e1⟩ := I.base.slot b o e n hb hx
    exact ⟨sl, (sb.2 b (low b o e)).trans e1⟩
  · obtain ⟨o', e1⟩ := I.base.there b o e hx
    exact ⟨o', (sb.2 b (low b o e)).trans e1⟩
  · rw [List.getElem?_replicate] at e2
    split at e2 <;> cases e2
  · obtain ⟨v, z⟩ := I.cell x c e
    exact ⟨v, z.sameBut sb (I.cne x c e)⟩
  · obtain ⟨e, n, ne, nf, d⟩ := I.pin p hp
    exact ⟨(sb.2 p.1 ne).trans e, n, ne, nf, d⟩
  · refine (I.hok b o e).stay (fun c w' hc q => (sb.2 c ?_).trans q) (fun _ q => q) fun _ _ q => q
    rintro rfl
    rcases hc with rfl | hc
    · rw [I.free] at e; cases e
    · rw [I.free] at hc; cases hc
end
structure ExB (K : PySem.W.Frag) (mg : Str → Option Value) (x c : Str) : Prop where
  ex : ∃ D C, mg x = some (.ref D) ∧ mg c = some (.ref C) ∧ PySem.W.exmOne K (.ref D) (.ref C) = some true
def sTryA (s : MS) (y : MY) (hres : Str → ASt → AHp → Rs A) : MS := fun τ h => match y τ h with
  | some r => (hres r.1 r.2.1 r.2.2).bind fun q => some (.rt q.1, q.2)
  | none => s τ h
theorem js_tryA {X : Cx} {b0 : Stmt} {body suite : List Stmt} {s : MS} {y : MY} {hres : Str → ASt → AHp → Rs A} {c n : Str} {np pos hpos : Pos} (ie : Nat) (hb : JB X body s) (hr : RB X false body y)
    (hk : ∀ x τ h q, hres x τ h = some q → ExB X.K X.mg x c)
    (hh : ∀ x (ea D : Addr) (ob : Obj) (vs : Array Value), X.mg x = some (.ref D) → ob.cls = .ref D → ob.data = .fields vs → ∀ τ h a h', τ.length = X.N.length → hres x τ h = some (a, h') → ∃ g : MS, JB (Cx.hdl X ea ob) (b0 :: suite) g ∧ g (τ.set ie (some (.raw ea))) h = some (.rt a, h'))
    (hN : X.N.Nodup) (hie : X.N[ie]? = some n := by rfl) (hloc : X.env.scope.names.lookup n = some .local := by rfl) (hx : X.xe = fun _ _ => False := by rfl) (hex : X.ex = [] := by rfl)
    (hst : X.stack = X.env :: X.outer := by rfl) (hf : X.env.frame = some X.env.locals := by rfl) (hg : Gl X c := by rfl) (hdb : (c == ("__debug__" : Str)) = false := by decide) : JS X (.Try body [.ExceptHandler (some (.Name c np)) (some n) (b0 :: suite) hpos] [] [] pos) (sTryA s y hres) := ⟨fun pins s0 σ H D I q => by
  obtain ⟨ρ, τ, h, fl, h', R, S, e, k⟩ := q
  unfold sTryA at e
  split at e
  · rename_i r hy
    obtain ⟨z, τ1, h1⟩ := r
    obtain ⟨⟨a, h2⟩, e1, e⟩ := bindS e
    cases e
    dsimp only at e1
    refine wpAny_Try_except (wpAny_mono (hr.pf pins s0 σ H (fun y σ1 H1 => y = z ∧ ∃ ρ1, Up X.K ρ H ρ1 H1 ∧ RelH X.K ρ1 H1 h1 ∧ RelS X.K ρ1 H1 σ1 τ1) I ⟨ρ, τ, h, z, τ1, h1, R, S, hy, fun ρ1 H1 σ1 u1 R1 S1 => ⟨rfl, ρ1, u1, R1, S1⟩⟩) (fun _ _ z => z.elim) fun e' s1 hX => ?_)
    obtain ⟨ea, x, Dx, σ1, H1, rfl, hm, ⟨rfl, ρ1, u1, R1, S1⟩, ⟨B, a0, I1, f1, cov⟩ | ⟨hno, _⟩⟩ := hX
    · obtain ⟨D0, Cb, hm0, hmc, hex1⟩ := (hk _ _ _ _ e1).ex
      rw [hm] at hm0; cases hm0
      rw [hst] at f1
      refine wpAny_looks_onW (I1.ok.frames.trans (by rw [hst])) hf f1 fun h4 held up4 => ?_
      refine wpAny_landsW held fun h5 fl5 up5 => ?_
      have I5 : Inv X pins σ1 H1 { s1 with heap := h5 } := inv_on I1 cov fl5.1 (up4.trans up5) hex
      obtain ⟨o5, v5, hob, hobc, hobd, _⟩ := fl5.first
      have LT : PySem.W.Looks (model X.prog X.w) h5 (typeOf (.ref ea)) (.ref Dx) := ExAt.type ⟨o5, v5, hob, hobc, hobd⟩
      refine wpAny_handleBy_cons (codeAny_handlers_test (ld_glob (X := Cx.mkd X ea) (mk_inv I5) hg hmc ?_ hdb)) (by intro q; cases q)
      refine PySem.W.Looks.here (s := { s1 with heap := h5 }) (PySem.W.exm_one I5.kIn LT hex1) (codeAny_handlers_suite_as ?_)
      refine lands_againW fl5 fun h6 fl6 up6 => ?_
      have I6 : Inv X pins σ1 H1 { s1 with heap := h6 } := inv_on I1 cov fl6.1 ((up4.trans up5).trans up6) hex
      obtain ⟨o6, v6, g6, c6, d6, _⟩ := fl6.first
      obtain ⟨p1, p2, p3⟩ := fly_apart (B := B) (ea := ea) (h' := h6) I1 hex cov (by rw [hst]; exact fl6) I6
      have I7 : Inv (Cx.hdl X ea o6) pins σ1 H1 { s1 with heap := h6 } := hdl_inv I6 g6 p1 p2 p3 d6
      obtain ⟨g, hgJ, hge⟩ := hh _ ea Dx o6 v6 hm c6 d6 τ1 h1 a h2 (by rw [← S1.len, I1.len]) e1
      refine store_ok (X := Cx.hdl X ea o6) (v := .ref ea) I7 hN hie (.inl hloc) rfl (fun s8 I8 => ?_) (.inr hloc)
      have run := hgJ.pf pins s8 _ H1 { nx := fun _ _ => False, rt := D.rt } I8 ⟨ρ1, _, h1, _, h2, R1, S1.set (.raw ea), hge, fun ρ2 H2 u2 R2 v rv => k ρ2 H2 (u1.trans u2) R2 v rv⟩
      rw [show (Cx.hdl X ea o6).xe = fun _ _ => False from hx] at run
      refine wpAny_mono run (fun f s9 hs => ?_) fun _ _ z => z.elim
      cases f with
      | next => obtain ⟨σ', H', J, q⟩ := hs; exact q.elim
      | brk => obtain ⟨σ', H', J, q⟩ := hs; exact q.elim
      | cont => obtain ⟨σ', H', J, q⟩ := hs; exact q.elim
      | ret u =>
        obtain ⟨v, σ', H', J, r, q⟩ := hs
        obtain ⟨m, hn, _⟩ := J.loc
        refine wpAny_nameGoes hloc hn (by rw [I.ok.kind]; rfl) fun h10 m10 hn10 sb => ?_
        exact ⟨v, _, H', inv_lost (hdl_back I.ok J) hn10 sb, r, q⟩
    · cases hno
  · refine wpAny_Try_except (bnd hx (hb.pf pins s0 σ H D I ⟨ρ, τ, h, fl, h', R, S, e, k⟩) fun f s1 hs => ?_)
    cases f with
    | next => exact wpAny_execs_nil hs
    | brk => exact hs
    | cont => exact hs
    | ret u => exact hs⟩
end Ab
set_option Elab.async false
set_option linter.all false
set_option maxRecDepth 100000
namespace Ab
open PySem PySem.Spec PyProof.Rows L2
set_option autoImplicit false
theorem exm_of {K : PySem.W.Frag} {D C : Addr} (a : PySem.W.subIn K (.ref C) (.type "BaseException") = some true) (b : PySem.W.isClsIn K C = true) (c : PySem.W.typeIn K (.ref C) = some (.type "type")) (d : PySem.W.subIn K (.ref D) (.ref C) = some true) :
    PySem.W.exmOne K (.ref D) (.ref C) = some true := by
  unfold PySem.W.exmOne
  rw [a, if_pos (by rfl)]
  show (if ((PySem.W.clsIn K C).isSome && PySem.W.typeIn K (.ref C) == some (.type "type")) = true then PySem.W.subIn K (.ref D) (.ref C) else none) = _
  have b' : (PySem.W.clsIn K C).isSome = true := b
  rw [if_pos (by rw [b', c]; rfl)]
  exact d
def kRtO : Fl × AHp → Rs A := fun p => match p.1 with
  | .rt a => some (a, p.2)
  | _ => none
def rtOf (r : Rs Fl) : Rs A := r.bind kRtO
theorem ev_rtOf {r : Rs Fl} : rtOf r = r.bind kRtO := id rfl
theorem ev_kRtO {a : A} {h : AHp} : kRtO (.rt a, h) = some (a, h) := id rfl
def kIsC (ea : Addr) (b : Bool) (h : AHp) : Option (Option A) → Rs A
  | some (some (.raw a)) => if a = ea then some (.bl b, h) else none
  | _ => none
theorem ev_isc {i : Nat} {ea : Addr} {b : Bool} {τ : ASt} {h : AHp} : eIsC i ea b τ h = kIsC ea b h τ[i]? := by
  unfold eIsC kIsC
  rfl
theorem ev_kIsC {ea : Addr} {b : Bool} {h : AHp} : kIsC ea b h (some (some (.raw ea))) = some (.bl b, h) := by
  show (if ea = ea then _ else _) = _
  exact if_pos rfl
theorem nt2 (a b : A) (h : AHp) : kTu ([a, b], h) = some (.tup [a, b], h) := ev_kTu (by simp)
theorem tryA_ok {s : MS} {y : MY} {hres : Str → ASt → AHp → Rs A} {τ : ASt} {h : AHp} (e : y τ h = none) : sTryA s y hres τ h = s τ h := by
  unfold sTryA; rw [e]
theorem tryA_raise {s : MS} {y : MY} {hres : Str → ASt → AHp → Rs A} {τ τ1 : ASt} {h h1 h2 : AHp} {x : Str} {a : A} (e : y τ h = some (x, τ1, h1)) (e2 : hres x τ1 h1 = some (a, h2)) : sTryA s y hres τ h = some (.rt a, h2) := by
  unfold sTryA; rw [e]
  show (hres x τ1 h1).bind _ = _
  rw [e2]; rfl
end Ab
set_option Elab.async false
set_option linter.all false
set_option maxRecDepth 100000
namespace Ab
open PySem PySem.Spec PyProof.Rows L2
set_option autoImplicit false
section
variable {X : Cx} {K : PySem.W.Frag} {a b c e o i : Expr} {es : List Expr} {pos p apos cpos : Pos} {ma mb mc mo mi : ME} {ms : MA}
end
end Ab
set_option Elab.async false
set_option linter.all false
set_option maxRecDepth 100000
namespace Ab
open PySem PySem.Spec PyProof.Rows L2
set_option autoImplicit false
section
variable {X : Cx} {K : PySem.W.Frag} {a b c e o i : Expr} {es : List Expr} {pos p apos cpos : Pos} {ma mb mc mo mi : ME} {ms : MA}
end
end Ab
namespace Ab
open PySem PySem.Spec PyProof.Rows L2
set_option autoImplicit false
end Ab
set_option Elab.async false
set_option linter.all false
set_option maxRecDepth 100000
namespace Ab
open PySem PySem.Spec PyProof.Rows L2
set_option autoImplicit false
theorem rn_zero {P : Program} {w : World} {K : PySem.W.Frag} {mg : Str → Option Value} {base : Heap} {f : Addr} {fd : FuncData} {ps : List Str} {n k : Nat} : FnOk P w K mg base (CXx P w mg) k f fd ps (spX K (fun _ _ => none) n) := by
  have no : ∀ vs H Q E, ¬ spX K (fun _ _ => none) n vs H Q E := fun vs H Q E h => by
    obtain ⟨_, _, _, _, _, _, _, _, e, _⟩ := h
    cases e
  exact ⟨fun vs H Q E h => absurd h (no vs H Q E), fun A outer s H args us vs Q E _ _ _ _ h => absurd h (no vs H Q E)⟩
theorem rn_no {P : Program} {w : World} {K : PySem.W.Frag} {mg : Str → Option Value} {base : Heap} {x : Str} {st : Stmt} {ps : List Str} {k n : Nat} (D : Def K mg x st ps) : Rn P w K mg base k x (fun _ _ => none) n := by
  obtain ⟨f, fd, F, b, m⟩ := D.ex
  exact ⟨f, fd, ps, rn_zero, b, F.kp, m⟩
end Ab
set_option Elab.async false
set_option linter.all false
set_option maxRecDepth 100000
namespace Ab
open PySem PySem.Spec PyProof.Rows L2
set_option autoImplicit false
set_option relaxedAutoImplicit false
section
variable {C : Addr} {f m : Str} {F : MF} {ma mo mv me mi : ME} {ms : MA} {τ : ASt} {h h' : AHp} {n : Nat} {fs : List (Str × A)} {a v : A} {as : List A} {hf : MK → Int}
def kFl (C : Addr) (f : Str) : A × AHp → Rs A := fun p => (fldA C p.1 f p.2).bind fun v => some (v, p.2)
theorem ev_fld : eFld C ma f τ h = (ma τ h).bind (kFl C f) := id rfl
def kMe2 (F : MF) (o : A) : List A × AHp → Rs A := fun q => F (o :: q.1) q.2
def kMe1 (C : Addr) (m : Str) (F : MF) (ms : MA) (τ : ASt) : A × AHp → Rs A := fun p => if isInsA C p.1 m p.2 = true then (ms τ p.2).bind (kMe2 F p.1) else none
theorem ev_mth : eMth C m F mo ms τ h = (mo τ h).bind (kMe1 C m F ms τ) := id rfl
theorem ev_kMe2 : kMe2 F a (as, h) = F (a :: as) h := id rfl
def kSf2 (C : Addr) (f : Str) (v : A) (τ : ASt) : A × AHp → Rs Fl := fun o => (setA C o.1 f v o.2).bind fun h' => some (.nx τ, h')
def kSf1 (C : Addr) (mo : ME) (f : Str) (τ : ASt) : A × AHp → Rs Fl := fun v => (mo τ v.2).bind (kSf2 C f v.1 τ)
theorem ev_sfld : sFldM C mo mv f τ h = (mv τ h).bind (kSf1 C mo f τ) := id rfl
theorem ev_kSf1 : kSf1 C mo f τ (v, h) = (mo τ h).bind (kSf2 C f v τ) := id rfl
def kMk (C : Addr) (F : MF) : List A × AHp → Rs A := fun q => (F (.loc q.2.length :: q.1) (q.2 ++ [.ins C []])).bind fun r => match r.1 with
  | .non => some (.loc q.2.length, r.2)
  | _ => none
theorem ev_make : eMake C F ms τ h = (ms τ h).bind (kMk C F) := id rfl
def kAu3 (i : Nat) (τ : ASt) : A × AHp → Rs Fl := fun r => some (.nx (τ.set i (some r.1)), r.2)
def kAu2 (i : Nat) (f : A → A → AHp → Rs A) (x : A) (τ : ASt) : A × AHp → Rs Fl := fun q => (f x q.1 q.2).bind (kAu3 i τ)
def kAu1 (i : Nat) (f : A → A → AHp → Rs A) (me : ME) (τ : ASt) : A × AHp → Rs Fl := fun p => (me τ p.2).bind (kAu2 i f p.1 τ)
theorem ev_aug {i : Nat} {f : A → A → AHp → Rs A} : sAug i f me τ h = (eVar i τ h).bind (kAu1 i f me τ) := id rfl
theorem ev_kAu1 {i : Nat} {f : A → A → AHp → Rs A} : kAu1 i f me τ (a, h) = (me τ h).bind (kAu2 i f a τ) := id rfl
theorem ev_kAu2 {i : Nat} {f : A → A → AHp → Rs A} : kAu2 i f a τ (v, h) = (f a v h).bind (kAu3 i τ) := id rfl
theorem ev_kAu3 {i : Nat} : kAu3 i τ (a, h) = some (.nx (τ.set i (some a)), h) := id rfl
end
end Ab
set_option Elab.async false
set_option linter.all false
set_option maxRecDepth 100000
namespace Ab
open PySem PySem.Spec PyProof.Rows L2
set_option autoImplicit false
section
variable {X : Cx} {K : PySem.W.Frag} {a b c e o i : Expr} {es : List Expr} {pos p p2 p3 p4 : Pos} {ma mb mc mo mi : ME} {ms : MA} {te : TE}
def oMulT (a b : A) (h : AHp) : Rs A := match a, b with
  | .str x, .int n => if x.length ≤ 1000 ∧ 0 ≤ n ∧ n ≤ 1000 then some (.str (Txt.mul x n), h) else none
  | _, _ => none
theorem op_mul_t : OpR X (binaryOp .Mult) (fun x y H Q => ∃ z n, x = .str z ∧ y = .int n ∧ (z.length ≤ 1000 ∧ 0 ≤ n ∧ n ≤ 1000) ∧ Q (.str (Txt.mul z n)) H) := by
  intro pins s σ H x y v u Q I rx ry h
  obtain ⟨z, n, rfl, rfl, ⟨h1, h2, h3⟩, q⟩ := h
  obtain ⟨t, rfl⟩ := rx
  obtain ⟨t', rfl⟩ := ry
  refine SB.mul ⟨?_, fun g _ => ?_, fun _ _ => ?_⟩ fun t' k => ⟨.str (Txt.mul z n), H, I.tok _, ⟨_, rfl⟩, q⟩
  · have e1 : decide (n < -(2 ^ 63 : Int)) = false := decide_eq_false (by omega)
    have e2 : decide (n ≥ 2 ^ 63) = false := decide_eq_false (by omega)
    rw [e1, e2, Bool.or_false]
  · have hq : (1000 : Int) ≤ (2 ^ 63 - 1) / n := by
      refine Int.le_ediv_of_mul_le (by omega) ?_
      omega
    omega
  · exact notLong (Nat.le_trans (Nat.mul_le_mul h1 (show n.toNat ≤ 1000 by omega)) (by decide))
theorem ok_mul_t : OpOk K oMulT (fun x y H Q => ∃ z n, x = .str z ∧ y = .int n ∧ (z.length ≤ 1000 ∧ 0 ≤ n ∧ n ≤ 1000) ∧ Q (.str (Txt.mul z n)) H) := by
  intro ρ H h a b c h' x y Q R ra rb e k
  unfold oMulT at e
  split at e
  · split at e
    · rename_i hj
      cases e; cases ra; cases rb
      exact ⟨_, _, rfl, rfl, hj, k ρ H _ Up.refl R (.str _)⟩
    · cases e
  · cases e
theorem je_mulT (ha : JE X a ma) (hb : JE X b mb) : JE X (.BinOp a .Mult b pos) (eOp oMulT ma mb) := je_op op_mul_t ok_mul_t ha hb
theorem v_mulT {x : Str} {n : Int} {h : AHp} (e : x.length ≤ 1000 ∧ 0 ≤ n ∧ n ≤ 1000) : oMulT (.str x) (.int n) h = some (.str (Txt.mul x n), h) := if_pos e
def revS (x : Str) : Str := ⟨((slicePicked x none none (some (-1, 0))).filterMap fun k => x.cps[k]?).toArray⟩
theorem revS_len (x : Str) : (revS x).length ≤ x.length := by
  have key : (slicePicked x none none (some (-1, 0))).length = x.length := by
    show (sliceRange ((x.length : Int) - 1) (-1) (-1)).length = x.length
    unfold sliceRange
    simp only [List.length_map, List.length_range]
    rw [if_neg (by decide)]
    by_cases q : (x.length : Int) - 1 > -1
    · rw [if_pos q, show (- -1 : Int) = 1 from rfl, Int.ediv_one]
      omega
    · rw [if_neg q]
      have : x.length = 0 := by omega
      omega
  show ((slicePicked x none none (some (-1, 0))).filterMap fun k => x.cps[k]?).toArray.size ≤ _
  rw [List.size_toArray]
  have := List.length_filterMap_le (fun k => x.cps[k]?) (slicePicked x none none (some (-1, 0)))
  omega
def tRevS (te : TE) : TE := fun σ H Q => te σ H fun x H1 => ∃ z, x = .str z ∧ z.length ≤ 1000 ∧ Q (.str (revS z)) H1
theorem pe_revS {j : Nat} (he : PE X e te) : PE X (.Subscript e (.Slice none none (some (.UnaryOp .USub (.Constant (.int 1) j p3) p4)) p2) pos) (tRevS te) := by
  intro pins s σ H Q I h
  refine Subscript_ (thn (he pins s σ H _ I h) fun v s1 ⟨x, H1, I1, r1, q1⟩ => ?_)
  refine wpAny_Slice ?_
  rw [evalPart_none]
  refine wpAny_pure (wpAny_pure ?_)
  obtain ⟨z, rfl, hz, q⟩ := q1
  obtain ⟨t, rfl⟩ := r1
  have hst : PE X (.UnaryOp .USub (.Constant (.int 1) j p3) p4) (tUn _ (tC (.int 1))) := pe_un un_neg pe_int
  refine thn (po_some hst pins s1 σ H1 (fun o H2 => o = some (-1) ∧ H2 = H1) I1 ?_) fun u s2 ⟨o2, H2, I2, po, e1, e2⟩ => ?_
  · exact ⟨1, rfl, _, rfl, rfl, rfl⟩
  · subst e1 e2
    have I4 : Inv X pins σ H2 { s2 with heap := s2.heap.push { cls := .type "slice", data := .fields #[.none, .none, u] } } := I2.kept (t' := s2.toks) fun b ob q => Heap.get?_push_of_some _ q
    show wpAny (model X.prog X.w) X.A (subscriptTail e (.Slice none none (some (.UnaryOp .USub (.Constant (.int 1) j p3) p4)) p2) (.str z t) (.ref s2.heap.objs.size)) (EP X pins σ Q) X.xe { s2 with heap := s2.heap.push { cls := .type "slice", data := .fields #[.none, .none, u] } }
    obtain ⟨tk, rfl⟩ : ∃ tk, u = .int (-1) tk := by cases po; exact ⟨_, rfl⟩
    refine tail_any (ops := [.str z t, .ref s2.heap.objs.size]) (T := "str") (typeIs_str _ z t) slot_str_getitem.lookup ?_ (by with_unfolding_all rfl)
    refine wpAny_getItem_str_slice (l := none) (u := none) (st := some (-1, tk)) ⟨_, Heap.get?_push_size _ rfl, rfl, rfl⟩ rfl ?_
    have e : sliceMade z t none none (some (-1, tk)) = Made.str (revS z) := by
      unfold sliceMade
      rw [if_neg (by simp)]
      rfl
    rw [e]
    refine ⟨Nat.le_trans (Nat.le_trans (revS_len z) hz) (by decide), .str (revS z), H2, I4.tok _, ⟨_, rfl⟩, q⟩
def eRevS (ma : ME) : ME := fun τ h => (ma τ h).bind fun p => match p.1 with
  | .str z => if z.length ≤ 1000 then some (.str (revS z), p.2) else none
  | _ => none
theorem je_revS {j : Nat} (ha : JE X a ma) : JE X (.Subscript a (.Slice none none (some (.UnaryOp .USub (.Constant (.int 1) j p3) p4)) p2) pos) (eRevS ma) := ⟨PE_imp (pe_revS ha.pf) fun σ H Q q => by
  obtain ⟨ρ, τ, h, d, h', R, S, e, k⟩ := q
  obtain ⟨⟨x, h1⟩, e1, e⟩ := bindS e
  refine ⟨ρ, τ, h, x, h1, R, S, e1, fun ρ1 H1 v1 u1 R1 r1 => ?_⟩
  dsimp only at e
  split at e
  · split at e
    · rename_i hz
      cases e
      cases r1
      exact ⟨_, rfl, hz, k _ _ _ u1 R1 (.str _)⟩
    · cases e
  · cases e⟩
end
theorem ev_revS {ma : ME} {τ : ASt} {h h1 : AHp} {z : Str} (e : ma τ h = some (.str z, h1)) (hz : z.length ≤ 1000) : eRevS ma τ h = some (.str (revS z), h1) := by
  unfold eRevS
  rw [e, ev_bind]
  exact if_pos hz
end Ab
set_option Elab.async false
set_option linter.all false
set_option maxRecDepth 100000
noncomputable section
namespace Sh
open PySem PyProof.Rows L2 Ab
def c_NOUGHT : A := (.str "nought")
def c_SIGNS : A := (.tup ((["and", "or", "gives"] : List Str).map A.str))
def c_LONGEST : A := (.int 8)
def e1_is_word : ME := (eChain cLe cLe (eC (.str "a")) (eVar 1) (eC (.str "z")))
def b_is_word : MS := (sSeq (sIf (mOr (mNot (mTru (eCall bIsi (aCons (eVar 0) (aCons (eC (.ty "str")) aNil))))) (mNot (mB (eChain cLe cLe (eC (.int 1)) (eCall bLen (aCons (eVar 0) aNil)) (eC c_LONGEST))))) (sRet (eC (.bl false))) sNx) (sRet (eCall bAll (aCons (eLc (iStrM (eVar 0)) 1 mYes e1_is_word) aNil))))
def F_is_word : MF := fnOf 2 (b_is_word)
theorem ap_is_word (a0 : A) (h : AHp) : F_is_word [a0] h = (b_is_word [some a0, none] h).bind kFn := id rfl
def b_is_letter : MS := (sRet (eAnd (eCall F_is_word (aCons (eVar 0) aNil)) (eAnd (eOp cNe (eVar 0) (eC c_NOUGHT)) (eOp cNi (eVar 0) (eC c_SIGNS)))))
def F_is_letter : MF := fnOf 1 (b_is_letter)
theorem ap_is_letter (a0 : A) (h : AHp) : F_is_letter [a0] h = (b_is_letter [some a0] h).bind kFn := id rfl
def b_law_cell : MS := (sSeq (sIf (mB (eOp cLt (eVar 1) (eCall bLen (aCons (eVar 0) aNil)))) (sRet (eOp xIx (eVar 0) (eVar 1))) sNx) (sSeq (sAsg (eOp oMul (eVar 1) (eC (.int 7919))) (gN 2)) (sSeq (sIf (mB (eOp cGt (eCall bLen (aCons (eVar 0) aNil)) (eC (.int 0)))) (sAsg (eOp oAdd (eVar 2) (eOp oMod (eOp xIx (eVar 0) (eOp oMod (eVar 1) (eCall bLen (aCons (eVar 0) aNil)))) (eC (.int 65537)))) (gN 2)) sNx) (sSeq (sAsg (eOp oMod (eOp oMul (eVar 2) (eC (.int 48271))) (eC (.int 65537))) (gN 3)) (sRet (eOp oMod (eOp oDiv (eOp oMul (eVar 3) (eOp oAdd (eOp oAdd (eVar 3) (eOp oMul (eC (.int 2)) (eVar 1))) (eC (.int 1)))) (eC (.int 7))) (eC (.int 65521))))))))
def F_law_cell : MF := fnOf 4 (b_law_cell)
theorem ap_law_cell (a0 a1 : A) (h : AHp) : F_law_cell [a0, a1] h = (b_law_cell [some a0, some a1, none, none] h).bind kFn := id rfl
def b_law_bag : MS := (sSeq (sAsg (eCall F_law_cell (aCons (eVar 0) (aCons (eVar 1) aNil))) (gN 2)) (sSeq (sIf (mOr (mB (eOp cGe (eVar 2) (eOp oPow (eC (.int 10)) (eC (.int 18))))) (mB (eOp cLe (eVar 2) (eUn uNeg (eOp oPow (eC (.int 10)) (eC (.int 18))))))) (sRet (eLst (aCons (eVar 2) (aCons (eC (.int 0)) aNil)))) sNx) (sRet (eLst (aCons (eOp oMod (eVar 2) (eC (.int 2147483647))) (aCons (eOp oAdd (eVar 1) (eC (.int 1))) aNil))))))
def F_law_bag : MF := fnOf 3 (b_law_bag)
theorem ap_law_bag (a0 a1 : A) (h : AHp) : F_law_bag [a0, a1] h = (b_law_bag [some a0, some a1, none] h).bind kFn := id rfl
def b_law_take : MS := (sSeq (sIf (mB (eOp cEq (eOp xIx (eVar 0) (eC (.int 1))) (eC (.int 0)))) (sSeq (sAsg (eOp oMod (eOp xIx (eVar 0) (eC (.int 0))) (eVar 1)) (gN 2)) (sSeq (sAsg (eOp oDiv (eOp xIx (eVar 0) (eC (.int 0))) (eVar 1)) (gIx (eVar 0) (eC (.int 0)) xSet)) (sRet (eVar 2)))) sNx) (sSeq (sAsg (eOp oMod (eOp oAdd (eOp oAdd (eOp oMul (eOp xIx (eVar 0) (eC (.int 0))) (eC (.int 48271))) (eOp oMul (eOp oMul (eC (.int 7919)) (eOp xIx (eVar 0) (eC (.int 1)))) (eOp xIx (eVar 0) (eC (.int 1))))) (eC (.int 17))) (eC (.int 2147483647))) (gIx (eVar 0) (eC (.int 0)) xSet)) (sSeq (sAsg (eOp oAdd (eOp xIx (eVar 0) (eC (.int 1))) (eC (.int 1))) (gIx (eVar 0) (eC (.int 1)) xSet)) (sRet (eOp oMod (eOp oMod (eOp oMul (eOp xIx (eVar 0) (eC (.int 0))) (eC (.int 69621))) (eC (.int 2147483629))) (eVar 1))))))
def F_law_take : MF := fnOf 3 (b_law_take)
theorem ap_law_take (a0 a1 : A) (h : AHp) : F_law_take [a0, a1] h = (b_law_take [some a0, some a1, none] h).bind kFn := id rfl
def l1_law_names : MS := (sAsg (eOp oAdd (eVar 3) (eOp xIx (eVar 2) (eCall F_law_take (aCons (eVar 0) (aCons (eC (.int 26)) aNil))))) (gN 3))
def l2_law_names : MS := (sSeq (sAsg (eOp oAdd (eOp oAdd (eSl (eVar 3) mNoPart (mPart (eVar 6))) (eOp xIx (eVar 2) (eOp oMod (eOp oAdd (eVar 7) (eOp oMul (eC (.int 5)) (eVar 5))) (eC (.int 26))))) (eSl (eVar 3) (mPart (eVar 6)) mNoPart)) (gN 9)) (sIf (mAnd (mB (eOp cNi (eVar 9) (eLst (aCons (eC (.str "nought")) (aCons (eC (.str "and")) (aCons (eC (.str "or")) (aCons (eC (.str "gives")) aNil))))))) (mB (eOp cLt (eCall bLen (aCons (eVar 8) aNil)) (eVar 1)))) (sX (eMt fAppend (eVar 8) (aCons (eVar 9) aNil))) sNx))
def b_law_names : MS := (sSeq (sAsg (eC (.str "abcdefghijklmnopqrstuvwxyz")) (gN 2)) (sSeq (sAsg (eC (.str "")) (gN 3)) (sSeq (sAsg (eCall F_law_take (aCons (eVar 0) (aCons (eC (.int 8)) aNil))) (gN 4)) (sSeq (sFor (iRng1M (aCons (eVar 4) aNil)) (gN 5) l1_law_names) (sSeq (sAsg (eCall F_law_take (aCons (eVar 0) (aCons (eOp oAdd (eVar 4) (eC (.int 1))) aNil))) (gN 6)) (sSeq (sIf (mB (eOp cEq (eCall F_law_take (aCons (eVar 0) (aCons (eC (.int 5)) aNil))) (eC (.int 1)))) (sSeq (sAsg (eOp xIx (eLst (aCons (eC (.str "and")) (aCons (eC (.str "or")) (aCons (eC (.str "gives")) (aCons (eC (.str "nough")) aNil))))) (eCall F_law_take (aCons (eVar 0) (aCons (eC (.int 4)) aNil)))) (gN 3)) (sAsg (eCall bLen (aCons (eVar 3) aNil)) (gN 6))) sNx) (sSeq (sAsg (eCall F_law_take (aCons (eVar 0) (aCons (eC (.int 26)) aNil))) (gN 7)) (sSeq (sAsg (eLst aNil) (gN 8)) (sSeq (sFor (iRng1M (aCons (eC (.int 26)) aNil)) (gN 5) l2_law_names) (sRet (eVar 8)))))))))))
def F_law_names : MF := fnOf 10 (b_law_names)
theorem ap_law_names (a0 a1 : A) (h : AHp) : F_law_names [a0, a1] h = (b_law_names [some a0, some a1, none, none, none, none, none, none, none, none] h).bind kFn := id rfl
def b_law_statement (R : MF) : MS := (sSeq (sIf (mB (eOp cEq (eVar 2) (eC (.int 0)))) (sRet (eOp xIx (eOp oAdd (eOp oAdd (eVar 1) (eVar 1)) (eLst (aCons (eC (.str "nought")) aNil))) (eCall F_law_take (aCons (eVar 0) (aCons (eOp oAdd (eOp oMul (eC (.int 2)) (eCall bLen (aCons (eVar 1) aNil))) (eC (.int 1))) aNil))))) sNx) (sSeq (sAsg (eOp xIx (eLst (aCons (eC (.str "and")) (aCons (eC (.str "or")) (aCons (eC (.str "gives")) (aCons (eC (.str "gives")) (aCons (eC (.str "gives")) aNil)))))) (eCall F_law_take (aCons (eVar 0) (aCons (eC (.int 5)) aNil)))) (gN 3)) (sSeq (sAsg (eCall F_law_take (aCons (eVar 0) (aCons (eVar 2) aNil))) (gN 4)) (sSeq (sAsg (eCall R (aCons (eVar 0) (aCons (eVar 1) (aCons (eVar 4) aNil)))) (gN 5)) (sRet (eTup (aCons (eVar 3) (aCons (eVar 5) (aCons (eCall R (aCons (eVar 0) (aCons (eVar 1) (aCons (eOp oSub (eOp oSub (eVar 2) (eC (.int 1))) (eVar 4)) aNil)))) aNil)))))))))
def F_law_statement : Nat → MF
  | 0 => fun _ _ => none
  | n + 1 => fnOf 6 (b_law_statement (F_law_statement n))
theorem ap_law_statement (n : Nat) (a0 a1 a2 : A) (h : AHp) : F_law_statement (n + 1) [a0, a1, a2] h = (b_law_statement (F_law_statement n) [some a0, some a1, some a2, none, none, none] h).bind kFn := id rfl
def b_law_ends (R : MF) : MS := (sSeq (sIf (mNot (mTru (eCall bIsi (aCons (eVar 0) (aCons (eC (.ty "tuple")) aNil))))) (sRet (eLst (aCons (eVar 0) aNil))) sNx) (sRet (eOp oAdd (eCall R (aCons (eOp xIx (eVar 0) (eC (.int 1))) aNil)) (eCall R (aCons (eOp xIx (eVar 0) (eC (.int 2))) aNil)))))
def F_law_ends : Nat → MF
  | 0 => fun _ _ => none
  | n + 1 => fnOf 1 (b_law_ends (F_law_ends n))
theorem ap_law_ends (n : Nat) (a0 : A) (h : AHp) : F_law_ends (n + 1) [a0] h = (b_law_ends (F_law_ends n) [some a0] h).bind kFn := id rfl
def e1_law_is_letter : ME := (eOp cIn (eVar 1) (eC (.str "abcdefghijklmnopqrstuvwxyz")))
def b_law_is_letter : MS := (sSeq (sIf (mOr (mNot (mTru (eCall bIsi (aCons (eVar 0) (aCons (eC (.ty "str")) aNil))))) (mOr (mNot (mB (eChain cLe cLe (eC (.int 1)) (eCall bLen (aCons (eVar 0) aNil)) (eC (.int 8))))) (mB (eOp cIn (eVar 0) (eLst (aCons (eC (.str "nought")) (aCons (eC (.str "and")) (aCons (eC (.str "or")) (aCons (eC (.str "gives")) aNil))))))))) (sRet (eC (.bl false))) sNx) (sRet (eCall bAll (aCons (eLc (iStrM (eVar 0)) 1 mYes e1_law_is_letter) aNil))))
def F_law_is_letter : MF := fnOf 2 (b_law_is_letter)
theorem ap_law_is_letter (a0 : A) (h : AHp) : F_law_is_letter [a0] h = (b_law_is_letter [some a0, none] h).bind kFn := id rfl
def b_law_is_statement (R : MF) : MS := (sSeq (sIf (mTru (eCall bIsi (aCons (eVar 0) (aCons (eC (.ty "tuple")) aNil)))) (sSeq (sIf (mOr (mB (eOp cNe (eCall bLen (aCons (eVar 0) aNil)) (eC (.int 3)))) (mOr (mNot (mTru (eCall bIsi (aCons (eOp xIx (eVar 0) (eC (.int 0))) (aCons (eC (.ty "str")) aNil))))) (mB (eOp cNi (eOp xIx (eVar 0) (eC (.int 0))) (eLst (aCons (eC (.str "and")) (aCons (eC (.str "or")) (aCons (eC (.str "gives")) aNil)))))))) (sRet (eC (.bl false))) sNx) (sRet (eAnd (eCall R (aCons (eOp xIx (eVar 0) (eC (.int 1))) aNil)) (eCall R (aCons (eOp xIx (eVar 0) (eC (.int 2))) aNil))))) sNx) (sRet (eOr (eCall F_law_is_letter (aCons (eVar 0) aNil)) (eAnd (eCall bIsi (aCons (eVar 0) (aCons (eC (.ty "str")) aNil))) (eOp cEq (eVar 0) (eC (.str "nought")))))))
def F_law_is_statement : Nat → MF
  | 0 => fun _ _ => none
  | n + 1 => fnOf 1 (b_law_is_statement (F_law_is_statement n))
theorem ap_law_is_statement (n : Nat) (a0 : A) (h : AHp) : F_law_is_statement (n + 1) [a0] h = (b_law_is_statement (F_law_is_statement n) [some a0] h).bind kFn := id rfl
end Sh
end
set_option Elab.async false
set_option linter.all false
set_option maxRecDepth 100000
noncomputable section
namespace K51
open PySem PyProof.Rows L2 Ab Sh
def c_MOST_TUPLES : A := (.int 10)
def l1_word_ahead : MS := (sAug 1 oAddI (eC (.int 1)))
def b_word_ahead : MS := (sSeq (sAsg (eC (.int 0)) (gN 1)) (sSeq (whileL (mAnd (mB (eOp cLt (eVar 1) (eCall bLen (aCons (eVar 0) aNil)))) (mB (eChain cLe cLe (eC (.str "a")) (eOp xIx (eVar 0) (eVar 1)) (eC (.str "z"))))) l1_word_ahead 100000) (sRet (eSl (eVar 0) mNoPart (mPart (eVar 1))))))
def F_word_ahead : MF := fnOf 2 (b_word_ahead)
theorem ap_word_ahead (a0 : A) (h : AHp) : F_word_ahead [a0] h = (b_word_ahead [some a0, none] h).bind kFn := id rfl
def b_behind_mark : MS := (sSeq (sIf (mNot (mTru (eMs fSw (eVar 0) (aCons (eVar 1) aNil)))) sNo sNx) (sRet (eSl (eVar 0) (mPart (eCall bLen (aCons (eVar 1) aNil))) mNoPart)))
def F_behind_mark : MF := fnOf 2 (b_behind_mark)
theorem ap_behind_mark (a0 a1 : A) (h : AHp) : F_behind_mark [a0, a1] h = (b_behind_mark [some a0, some a1] h).bind kFn := id rfl
def y_behind_mark : MY := (yIf (mNot (mTru (eMs fSw (eVar 0) (aCons (eVar 1) aNil)))) (yRaise "NoText" (aCons (eC (.str "the text is not written as statements are")) aNil)) yNo)
def R_behind_mark : RF := fnX 2 y_behind_mark
theorem ax_behind_mark (a0 a1 : A) (h : AHp) : R_behind_mark [a0, a1] h = (y_behind_mark [some a0, some a1] h).bind kFx := id rfl
theorem ex_behind_mark : ExF F_behind_mark R_behind_mark := ex_fn (ey_head (ey_if ey_raise ey_no))
def b_read_sign : MS := (sSeq (sAsg (eCall F_word_ahead (aCons (eSl (eVar 0) (mPart (eC (.int 1))) mNoPart) aNil)) (gN 1)) (sSeq (sIf (mB (eOp cNi (eVar 1) (eC c_SIGNS))) sNo sNx) (sRet (eTup (aCons (eVar 1) (aCons (eCall F_behind_mark (aCons (eVar 0) (aCons (eFs (fsC " " (fsV (eVar 1) (fsC " " fsN)))) aNil))) aNil))))))
def F_read_sign : MF := fnOf 2 (b_read_sign)
theorem ap_read_sign (a0 : A) (h : AHp) : F_read_sign [a0] h = (b_read_sign [some a0, none] h).bind kFn := id rfl
def y_read_sign : MY := (ySeq (sAsg (eCall F_word_ahead (aCons (eSl (eVar 0) (mPart (eC (.int 1))) mNoPart) aNil)) (gN 1)) (yOr (yIf (mB (eOp cNi (eVar 1) (eC c_SIGNS))) (yRaise "NoText" (aCons (eC (.str "no sign stands between two sides")) aNil)) yNo) (ySeq (sIf (mB (eOp cNi (eVar 1) (eC c_SIGNS))) sNo sNx) (yE (xTl (eVar 1) (xCall R_behind_mark (aCons (eVar 0) (aCons (eFs (fsC " " (fsV (eVar 1) (fsC " " fsN)))) aNil))))))))
def R_read_sign : RF := fnX 2 y_read_sign
theorem ax_read_sign (a0 : A) (h : AHp) : R_read_sign [a0] h = (y_read_sign [some a0, none] h).bind kFx := id rfl
theorem ex_read_sign : ExF F_read_sign R_read_sign := ex_fn (ey_tail (ey_or (ey_head (ey_if ey_raise ey_no)) (ey_tail (ey_ret (ex_tup (ex_tail (ex_head (ex_call ex_behind_mark))))))))
def b_read_ahead (R : MF) : MS := (sSeq (sIf (mNot (mTru (eMs fSw (eVar 0) (aCons (eC (.str "(")) aNil)))) (sSeq (sAsg (eCall F_word_ahead (aCons (eVar 0) aNil)) (gN 1)) (sSeq (sIf (mAnd (mB (eOp cNe (eVar 1) (eC c_NOUGHT))) (mNot (mTru (eCall F_is_letter (aCons (eVar 1) aNil))))) sNo sNx) (sRet (eTup (aCons (eVar 1) (aCons (eSl (eVar 0) (mPart (eCall bLen (aCons (eVar 1) aNil))) mNoPart) aNil)))))) sNx) (sSeq (sAsg (eCall R (aCons (eSl (eVar 0) (mPart (eC (.int 1))) mNoPart) aNil)) (gT 2 3)) (sSeq (sAsg (eCall F_read_sign (aCons (eVar 3) aNil)) (gT 4 3)) (sSeq (sAsg (eCall R (aCons (eVar 3) aNil)) (gT 5 3)) (sRet (eTup (aCons (eTup (aCons (eVar 4) (aCons (eVar 2) (aCons (eVar 5) aNil)))) (aCons (eCall F_behind_mark (aCons (eVar 3) (aCons (eC (.str ")")) aNil))) aNil))))))))
def F_read_ahead : Nat → MF
  | 0 => fun _ _ => none
  | n + 1 => fnOf 6 (b_read_ahead (F_read_ahead n))
theorem ap_read_ahead (n : Nat) (a0 : A) (h : AHp) : F_read_ahead (n + 1) [a0] h = (b_read_ahead (F_read_ahead n) [some a0, none, none, none, none, none] h).bind kFn := id rfl
def y_read_ahead (R : MF) (X : RF) : MY := (yOr (yIf (mNot (mTru (eMs fSw (eVar 0) (aCons (eC (.str "(")) aNil)))) (ySeq (sAsg (eCall F_word_ahead (aCons (eVar 0) aNil)) (gN 1)) (yIf (mAnd (mB (eOp cNe (eVar 1) (eC c_NOUGHT))) (mNot (mTru (eCall F_is_letter (aCons (eVar 1) aNil))))) (yRaise "NoText" (aCons (eC (.str "no letter and no nought stands where one must")) aNil)) yNo)) yNo) (ySeq (sIf (mNot (mTru (eMs fSw (eVar 0) (aCons (eC (.str "(")) aNil)))) (sSeq (sAsg (eCall F_word_ahead (aCons (eVar 0) aNil)) (gN 1)) (sSeq (sIf (mAnd (mB (eOp cNe (eVar 1) (eC c_NOUGHT))) (mNot (mTru (eCall F_is_letter (aCons (eVar 1) aNil))))) sNo sNx) (sRet (eTup (aCons (eVar 1) (aCons (eSl (eVar 0) (mPart (eCall bLen (aCons (eVar 1) aNil))) mNoPart) aNil)))))) sNx) (yOr (yE (xCall X (aCons (eSl (eVar 0) (mPart (eC (.int 1))) mNoPart) aNil))) (ySeq (sAsg (eCall R (aCons (eSl (eVar 0) (mPart (eC (.int 1))) mNoPart) aNil)) (gT 2 3)) (yOr (yE (xCall R_read_sign (aCons (eVar 3) aNil))) (ySeq (sAsg (eCall F_read_sign (aCons (eVar 3) aNil)) (gT 4 3)) (yOr (yE (xCall X (aCons (eVar 3) aNil))) (ySeq (sAsg (eCall R (aCons (eVar 3) aNil)) (gT 5 3)) (yE (xTl (eTup (aCons (eVar 4) (aCons (eVar 2) (aCons (eVar 5) aNil)))) (xCall R_behind_mark (aCons (eVar 3) (aCons (eC (.str ")")) aNil)))))))))))))
def R_read_ahead : Nat → RF
  | 0 => fun _ _ => none
  | n + 1 => fnX 6 (y_read_ahead (F_read_ahead n) (R_read_ahead n))
theorem ax_read_ahead (n : Nat) (a0 : A) (h : AHp) : R_read_ahead (n + 1) [a0] h = (y_read_ahead (F_read_ahead n) (R_read_ahead n) [some a0, none, none, none, none, none] h).bind kFx := id rfl
theorem ex_read_ahead : ∀ n, ExF (F_read_ahead n) (R_read_ahead n)
  | 0 => fun _ _ _ e => by cases e
  | n + 1 => by
    have hx := ex_read_ahead n
    exact ex_fn (ey_or (ey_head (ey_if (ey_tail (ey_head (ey_if ey_raise ey_no))) ey_no)) (ey_tail (ey_or (ey_head (ey_asg (ex_call hx))) (ey_tail (ey_or (ey_head (ey_asg (ex_call ex_read_sign))) (ey_tail (ey_or (ey_head (ey_asg (ex_call hx))) (ey_tail (ey_ret (ex_tup (ex_tail (ex_head (ex_call ex_behind_mark)))))))))))))
def b_read : MS := (sSeq (sIf (mNot (mTru (eCall bIsi (aCons (eVar 0) (aCons (eC (.ty "str")) aNil))))) sNo sNx) (sSeq (sIf (mB (eOp cGt (eMs fCntS (eVar 0) (aCons (eC (.str "(")) aNil)) (eC c_MOST_TUPLES))) sNo sNx) (sSeq (sAsg (eCall (F_read_ahead 20) (aCons (eVar 0) aNil)) (gT 1 2)) (sSeq (sIf (mB (eOp cNe (eVar 2) (eC (.str "")))) sNo sNx) (sRet (eVar 1))))))
def F_read : MF := fnOf 3 (b_read)
theorem ap_read (a0 : A) (h : AHp) : F_read [a0] h = (b_read [some a0, none, none] h).bind kFn := id rfl
def y_read : MY := (yOr (yIf (mNot (mTru (eCall bIsi (aCons (eVar 0) (aCons (eC (.ty "str")) aNil))))) (yRaise "NoText" (aCons (eC (.str "this is no text")) aNil)) yNo) (ySeq (sIf (mNot (mTru (eCall bIsi (aCons (eVar 0) (aCons (eC (.ty "str")) aNil))))) sNo sNx) (yOr (yIf (mB (eOp cGt (eMs fCntS (eVar 0) (aCons (eC (.str "(")) aNil)) (eC c_MOST_TUPLES))) (yRaise "NoText" (aCons (eC (.str "the text has too many tuples")) aNil)) yNo) (ySeq (sIf (mB (eOp cGt (eMs fCntS (eVar 0) (aCons (eC (.str "(")) aNil)) (eC c_MOST_TUPLES))) sNo sNx) (yOr (yE (xCall (R_read_ahead 20) (aCons (eVar 0) aNil))) (ySeq (sAsg (eCall (F_read_ahead 20) (aCons (eVar 0) aNil)) (gT 1 2)) (yIf (mB (eOp cNe (eVar 2) (eC (.str "")))) (yRaise "NoText" (aCons (eC (.str "more stands behind the statement")) aNil)) yNo)))))))
def R_read : RF := fnX 3 y_read
theorem ax_read (a0 : A) (h : AHp) : R_read [a0] h = (y_read [some a0, none, none] h).bind kFx := id rfl
theorem ex_read : ExF F_read R_read := ex_fn (ey_or (ey_head (ey_if ey_raise ey_no)) (ey_tail (ey_or (ey_head (ey_if ey_raise ey_no)) (ey_tail (ey_or (ey_head (ey_asg (ex_call (ex_read_ahead 20)))) (ey_tail (ey_head (ey_if ey_raise ey_no))))))))
def b_law_tuples : MS := (sRet (eOp oSub (eCall bLen (aCons (eCall (F_law_ends 120) (aCons (eVar 0) aNil)) aNil)) (eC (.int 1))))
def F_law_tuples : MF := fnOf 1 (b_law_tuples)
theorem ap_law_tuples (a0 : A) (h : AHp) : F_law_tuples [a0] h = (b_law_tuples [some a0] h).bind kFn := id rfl
def b_law_text (R : MF) : MS := (sSeq (sIf (mNot (mTru (eCall bIsi (aCons (eVar 0) (aCons (eC (.ty "tuple")) aNil))))) (sRet (eVar 0)) sNx) (sRet (eOp oAdd (eOp oAdd (eC (.str "(")) (eMs fJoin (eC (.str " ")) (aCons (eLst (aCons (eCall R (aCons (eOp xIx (eVar 0) (eC (.int 1))) aNil)) (aCons (eOp xIx (eVar 0) (eC (.int 0))) (aCons (eCall R (aCons (eOp xIx (eVar 0) (eC (.int 2))) aNil)) aNil)))) aNil))) (eC (.str ")")))))
def F_law_text : Nat → MF
  | 0 => fun _ _ => none
  | n + 1 => fnOf 1 (b_law_text (F_law_text n))
theorem ap_law_text (n : Nat) (a0 : A) (h : AHp) : F_law_text (n + 1) [a0] h = (b_law_text (F_law_text n) [some a0] h).bind kFn := id rfl
def l1_law_words : MS := (sIf (mB (eOp cIn (eVar 3) (eC (.str "() ")))) (sSeq (sAsg (eOp oAdd (eVar 1) (eLst (aCons (eVar 2) (aCons (eVar 3) aNil)))) (gN 1)) (sAsg (eC (.str "")) (gN 2))) (sAsg (eOp oAdd (eVar 2) (eVar 3)) (gN 2)))
def e2_law_words : ME := (eVar 4)
def q3_law_words : MT := (mB (eOp cNe (eVar 4) (eC (.str ""))))
def b_law_words : MS := (sSeq (sAsg (eLst aNil) (gN 1)) (sSeq (sAsg (eC (.str "")) (gN 2)) (sSeq (sFor (iStrM (eVar 0)) (gN 3) l1_law_words) (sRet (eLc (iLst (eOp oAdd (eVar 1) (eLst (aCons (eVar 2) aNil)))) 4 q3_law_words e2_law_words)))))
def F_law_words : MF := fnOf 5 (b_law_words)
theorem ap_law_words (a0 : A) (h : AHp) : F_law_words [a0] h = (b_law_words [some a0, none, none, none, none] h).bind kFn := id rfl
def l1_law_taken (R : MF) : MS := (sSeq (sAsg (eCall R (aCons (eVar 0) aNil)) (gN 4)) (sSeq (sIf (mOr (mB (eOp cIs (eVar 4) (eC .non))) (mB (eOp cEq (eVar 0) (eLst aNil)))) (sRet (eC .non)) sNx) (sSeq (sX (eMt fAppend (eVar 2) (aCons (eVar 4) aNil))) (sIf (mB (eOp cNe (eMt fPop (eVar 0) aNil) (eOp xIx (eLst (aCons (eC (.str " ")) (aCons (eC (.str " ")) (aCons (eC (.str "(")) aNil)))) (eVar 3)))) (sRet (eC .non)) sNx))))
def b_law_taken (R : MF) : MS := (sSeq (sIf (mOr (mB (eOp cEq (eVar 0) (eLst aNil))) (mOr (mB (eOp cEq (eOp xIx (eVar 0) (eUn uNeg (eC (.int 1)))) (eC (.str " ")))) (mB (eOp cEq (eOp xIx (eVar 0) (eUn uNeg (eC (.int 1)))) (eC (.str "(")))))) (sRet (eC .non)) sNx) (sSeq (sAsg (eMt fPop (eVar 0) aNil) (gN 1)) (sSeq (sIf (mB (eOp cNe (eVar 1) (eC (.str ")")))) (sRet (eVar 1)) sNx) (sSeq (sAsg (eLst aNil) (gN 2)) (sSeq (sFor (iRng1M (aCons (eC (.int 3)) aNil)) (gN 3) (l1_law_taken R)) (sRet (eTup (aCons (eOp xIx (eVar 2) (eC (.int 1))) (aCons (eOp xIx (eVar 2) (eC (.int 2))) (aCons (eOp xIx (eVar 2) (eC (.int 0))) aNil))))))))))
def F_law_taken : Nat → MF
  | 0 => fun _ _ => none
  | n + 1 => fnOf 5 (b_law_taken (F_law_taken n))
theorem ap_law_taken (n : Nat) (a0 : A) (h : AHp) : F_law_taken (n + 1) [a0] h = (b_law_taken (F_law_taken n) [some a0, none, none, none, none] h).bind kFn := id rfl
def b_law_due : MS := (sSeq (sAsg (eCall F_law_words (aCons (eVar 0) aNil)) (gN 1)) (sSeq (sAsg (eCall (F_law_taken 100) (aCons (eVar 1) aNil)) (gN 2)) (sSeq (sIf (mOr (mB (eOp cNe (eVar 1) (eLst aNil))) (mOr (mB (eOp cIs (eVar 2) (eC .non))) (mOr (mNot (mTru (eCall (F_law_is_statement 120) (aCons (eVar 2) aNil)))) (mB (eOp cGt (eCall F_law_tuples (aCons (eVar 2) aNil)) (eC (.int 10))))))) (sRet (eC .non)) sNx) (sRet (eVar 2)))))
def F_law_due : MF := fnOf 3 (b_law_due)
theorem ap_law_due (a0 : A) (h : AHp) : F_law_due [a0] h = (b_law_due [some a0, none, none] h).bind kFn := id rfl
def b_law_spoilt : MS := (sSeq (sAsg (eCall F_law_take (aCons (eVar 0) (aCons (eC (.int 5)) aNil))) (gN 2)) (sSeq (sAsg (eCall F_law_take (aCons (eVar 0) (aCons (eCall bLen (aCons (eVar 1) aNil)) aNil))) (gN 3)) (sSeq (sIf (mB (eOp cEq (eVar 2) (eC (.int 0)))) (sRet (eOp oAdd (eSl (eVar 1) mNoPart (mPart (eVar 3))) (eSl (eVar 1) (mPart (eOp oAdd (eVar 3) (eC (.int 1)))) mNoPart))) sNx) (sSeq (sIf (mB (eOp cEq (eVar 2) (eC (.int 1)))) (sRet (eOp oAdd (eOp oAdd (eSl (eVar 1) mNoPart (mPart (eVar 3))) (eOp xIx (eVar 1) (eVar 3))) (eSl (eVar 1) (mPart (eVar 3)) mNoPart))) sNx) (sSeq (sIf (mB (eOp cEq (eVar 2) (eC (.int 2)))) (sSeq (sAsg (eSl (eVar 1) (mPart (eVar 3)) (mPart (eOp oAdd (eVar 3) (eC (.int 2))))) (gN 4)) (sRet (eOp oAdd (eOp oAdd (eSl (eVar 1) mNoPart (mPart (eVar 3))) (eRevS (eVar 4))) (eSl (eVar 1) (mPart (eOp oAdd (eVar 3) (eC (.int 2)))) mNoPart)))) sNx) (sSeq (sIf (mB (eOp cEq (eVar 2) (eC (.int 3)))) (sRet (eOp oAdd (eOp oAdd (eSl (eVar 1) mNoPart (mPart (eVar 3))) (eOp xIx (eC (.str "() aZ0,n")) (eCall F_law_take (aCons (eVar 0) (aCons (eC (.int 8)) aNil))))) (eSl (eVar 1) (mPart (eVar 3)) mNoPart))) sNx) (sRet (eOp oAdd (eVar 1) (eOp xIx (eLst (aCons (eC (.str "")) (aCons (eC (.str " ")) (aCons (eC (.str ")")) (aCons (eC (.str "(")) (aCons (eOp oAdd (eC (.str " and ")) (eVar 1)) aNil)))))) (eCall F_law_take (aCons (eVar 0) (aCons (eC (.int 5)) aNil))))))))))))
def F_law_spoilt : MF := fnOf 5 (b_law_spoilt)
theorem ap_law_spoilt (a0 a1 : A) (h : AHp) : F_law_spoilt [a0, a1] h = (b_law_spoilt [some a0, some a1, none, none, none] h).bind kFn := id rfl
def bx_law_is_only_NoText (ea : Addr) : MS := (sSeq (sAsg (eIsC 0 ea false) (gN 1)) (sRet (eAnd (eIsC 0 ea true) (eAnd (eIsC 0 ea true) (eNot (eVar 1))))))
def Fx_law_is_only_NoText (ea : Addr) : MF := fnOf 2 (bx_law_is_only_NoText ea)
theorem ax_law_is_only_NoText (ea : Addr) (a0 : A) (h : AHp) : Fx_law_is_only_NoText ea [a0] h = (bx_law_is_only_NoText ea [some a0, none] h).bind kFn := id rfl
def sh_law_answer_NoText : MS := (sRet (eTup (aCons (eC (.str "refused")) (aCons (eC (.bl true)) aNil))))
def gx_law_answer_NoText (ea : Addr) : MS := (sRet (eTup (aCons (eC (.str "refused")) (aCons (eCall (Fx_law_is_only_NoText ea) (aCons (eVar 2) aNil)) aNil))))
theorem hq_law_answer_NoText (ea : Addr) (τ : ASt) (h : AHp) (a : A) (h' : AHp) (hl : τ.length = 3) (e : rtOf (sh_law_answer_NoText τ h) = some (a, h')) : gx_law_answer_NoText ea (τ.set 2 (some (.raw ea))) h = some (.rt a, h') := by
  match τ, hl with
  | [t0, t1, t2], _ =>
    simp only [sh_law_answer_NoText, ev_rtOf, ev_kRtO, nt2, ev_bind, ev_op, ev_k1, ev_k2, ev_C, ev_var, ev_kVar, ev_un, ev_ku, ev_chain, ev_kc1, ev_kc2, ev_kc3t, ev_kc3f, ev_tru, ev_kTrb, ev_kTri, ev_B, ev_kB, ev_and, ev_or, ev_not, ev_kAt, ev_kAf, ev_kOt, ev_kOf, ev_kN, ev_eand, ev_eor, ev_enot, ev_kEAt, ev_kEAf, ev_kEOt, ev_kEOf, ev_kEN, ev_eif, ev_kEIt, ev_kEIf, ev_anil, ev_acons, ev_ka1, ev_ka2, ev_tup, ev_lst, ev_call, ev_kCa, ev_seq, ev_kSn, ev_kSr, ev_kSb, ev_kSc, ev_nx, ev_bk, ev_ct, ev_ret, ev_kRt, ev_retN, ev_if, ev_kIt, ev_kIf, ev_x, ev_kX, ev_asg, ev_kAs, ev_kAs2, ev_gN, ev_gT, ev_gT3, ev_gIx, ev_kG1, ev_kG2, ev_kG3, ev_kFr, ev_kFn, ev_for, ev_kFo, ev_mt, ev_kMt2, ev_ms, ev_kMs1, ev_sl, ev_kSl1, ev_kSl2, ev_kSl3, ev_noPart, ev_part, ev_kPt, ev_rng1, ev_istr, ev_kIS, ev_ilst, ev_kILr, ev_lc, ev_kLc, ev_kLc2, ev_yes, ev_irev, ev_ienum, ev_izip, ev_inD, ev_getD, ev_kInD, ev_kGetD, ev_fld, ev_mth, ev_kMe2, ev_sfld, ev_kSf1, ev_make, ev_aug, ev_kAu1, ev_kAu2, ev_kAu3, List.getElem?_cons_zero, List.getElem?_cons_succ, List.set_cons_zero, List.set_cons_succ] at e
    cases e
    simp only [gx_law_answer_NoText, ax_law_is_only_NoText, bx_law_is_only_NoText, ev_bind, ev_op, ev_k1, ev_k2, ev_C, ev_var, ev_kVar, ev_un, ev_ku, ev_chain, ev_kc1, ev_kc2, ev_kc3t, ev_kc3f, ev_tru, ev_kTrb, ev_kTri, ev_B, ev_kB, ev_and, ev_or, ev_not, ev_kAt, ev_kAf, ev_kOt, ev_kOf, ev_kN, ev_eand, ev_eor, ev_enot, ev_kEAt, ev_kEAf, ev_kEOt, ev_kEOf, ev_kEN, ev_eif, ev_kEIt, ev_kEIf, ev_anil, ev_acons, ev_ka1, ev_ka2, ev_tup, ev_lst, ev_call, ev_kCa, ev_seq, ev_kSn, ev_kSr, ev_kSb, ev_kSc, ev_nx, ev_bk, ev_ct, ev_ret, ev_kRt, ev_retN, ev_if, ev_kIt, ev_kIf, ev_x, ev_kX, ev_asg, ev_kAs, ev_kAs2, ev_gN, ev_gT, ev_gT3, ev_gIx, ev_kG1, ev_kG2, ev_kG3, ev_kFr, ev_kFn, ev_for, ev_kFo, ev_mt, ev_kMt2, ev_ms, ev_kMs1, ev_sl, ev_kSl1, ev_kSl2, ev_kSl3, ev_noPart, ev_part, ev_kPt, ev_rng1, ev_istr, ev_kIS, ev_ilst, ev_kILr, ev_lc, ev_kLc, ev_kLc2, ev_yes, ev_irev, ev_ienum, ev_izip, ev_inD, ev_getD, ev_kInD, ev_kGetD, ev_fld, ev_mth, ev_kMe2, ev_sfld, ev_kSf1, ev_make, ev_aug, ev_kAu1, ev_kAu2, ev_kAu3, List.getElem?_cons_zero, List.getElem?_cons_succ, List.set_cons_zero, List.set_cons_succ, nt2, ev_isc, ev_kIsC, Bool.not_true, Bool.not_false]
def hr_law_answer : Str → ASt → AHp → Rs A := fun x τ h => (if x = "NoText" then rtOf (sh_law_answer_NoText τ h) else none)
def b_law_answer : MS := (sSeq (sTryA (sAsg (eCall F_read (aCons (eVar 0) aNil)) (gN 1)) (yE (xCall R_read (aCons (eVar 0) aNil))) hr_law_answer) (sRet (eTup (aCons (eC (.str "told")) (aCons (eVar 1) aNil)))))
def F_law_answer : MF := fnOf 3 (b_law_answer)
theorem ap_law_answer (a0 : A) (h : AHp) : F_law_answer [a0] h = (b_law_answer [some a0, none, none] h).bind kFn := id rfl
def l1_law : MS := (sSeq (sAsg (eCall F_law_due (aCons (eVar 5) aNil)) (gN 7)) (sSeq (sAsg (eTup (aCons (eC (.str "told")) (aCons (eVar 7) aNil))) (gN 8)) (sSeq (sIf (mB (eOp cIs (eVar 7) (eC .non))) (sAsg (eTup (aCons (eC (.str "refused")) (aCons (eC (.bl true)) aNil))) (gN 8)) sNx) (sSeq (sIf (mB (eOp cNe (eCall F_law_answer (aCons (eVar 5) aNil)) (eVar 8))) (sRet (eC (.bl false))) sNx) (sAsg (eCall F_law_spoilt (aCons (eVar 1) (aCons (eOp oAdd (eVar 5) (eOp oMulT (eC (.str " ")) (eCall bInt (aCons (eOp cEq (eVar 5) (eC (.str ""))) aNil)))) aNil))) (gN 5))))))
def l2_law : MS := (sSeq (sAsg (eCall F_law_bag (aCons (eVar 0) (aCons (eOp oAdd (eC (.int 1)) (eVar 3)) aNil))) (gN 1)) (sSeq (sAsg (eOp xIx (eLst (aCons (eCall F_law_take (aCons (eVar 1) (aCons (eC (.int 4)) aNil))) (aCons (eCall F_law_take (aCons (eVar 1) (aCons (eC (.int 11)) aNil))) (aCons (eC (.int 11)) aNil)))) (eCall F_law_take (aCons (eVar 1) (aCons (eC (.int 3)) aNil)))) (gN 4)) (sSeq (sAsg (eCall (F_law_text 20) (aCons (eCall (F_law_statement 12) (aCons (eVar 1) (aCons (eVar 2) (aCons (eVar 4) aNil)))) aNil)) (gN 5)) (sFor (iRng1M (aCons (eC (.int 3)) aNil)) (gN 6) l1_law))))
def b_law : MS := (sSeq (sAsg (eCall F_law_bag (aCons (eVar 0) (aCons (eC (.int 0)) aNil))) (gN 1)) (sSeq (sAsg (eCall F_law_names (aCons (eVar 1) (aCons (eOp oAdd (eC (.int 1)) (eCall F_law_take (aCons (eVar 1) (aCons (eC (.int 4)) aNil)))) aNil))) (gN 2)) (sSeq (sFor (iRng1M (aCons (eCall bMax2 (aCons (eC (.int 4)) (aCons (eCall bMin2 (aCons (eC (.int 16)) (aCons (eOp oSub (eCall bLen (aCons (eVar 0) aNil)) (eC (.int 1))) aNil))) aNil))) aNil)) (gN 3) l2_law) (sRet (eC (.bl true))))))
def F_law : MF := fnOf 9 (b_law)
theorem ap_law (a0 : A) (h : AHp) : F_law [a0] h = (b_law [some a0, none, none, none, none, none, none, none, none] h).bind kFn := id rfl
end K51
end
set_option Elab.async false
set_option linter.all false
set_option maxRecDepth 100000
namespace K51
open PySem PyProof.Rows L2 Ab Sh
def top (i : Nat) : Stmt := PySem.Challenge.pw_lesssay_k51_read.main.body.getD i (.Pass ⟨0, 0, 0, 0⟩)
structure Blt (mg : Str → Option Value) : Prop where
  ValueError_ : mg "ValueError" = none
  all_ : mg "all" = none
  int_ : mg "int" = none
  isinstance_ : mg "isinstance" = none
  len_ : mg "len" = none
  max_ : mg "max" = none
  min_ : mg "min" = none
  range_ : mg "range" = none
  str_ : mg "str" = none
  tuple_ : mg "tuple" = none
structure Cns (w : World) (K : PySem.W.Frag) (mg : Str → Option Value) (U : Nat → Addr) : Prop where
  dummy : True
  NOUGHT : Cn K mg "NOUGHT" c_NOUGHT
  SIGNS : Cn K mg "SIGNS" c_SIGNS
  LONGEST : Cn K mg "LONGEST" c_LONGEST
  MOST_TUPLES : Cn K mg "MOST_TUPLES" c_MOST_TUPLES
  e_NoText : Exc K mg "NoText"
  xk_NoText : ∃ D, mg "NoText" = some (.ref D) ∧ ExKit K D
  xb_NoText_SayError : ExB K mg "NoText" "SayError"
  i0_NoText : ∃ D A0 A1 A2 A3 A4 A5, mg "NoText" = some (.ref D) ∧ mg "NoLetter" = some (.ref A0) ∧ mg "NoName" = some (.ref A1) ∧ mg "NoReason" = some (.ref A2) ∧ mg "NoRule" = some (.ref A3) ∧ mg "NoRung" = some (.ref A4) ∧ mg "TooMany" = some (.ref A5) ∧ PySem.W.kitAny K (.ref D) [.ref A0, .ref A1, .ref A2, .ref A3, .ref A4, .ref A5] = some false
  i1_NoText : ∃ D, mg "NoText" = some (.ref D) ∧ PySem.W.kitOne K (.ref D) (.type "ValueError") = some true
  i2_NoText : ∃ D A0, mg "NoText" = some (.ref D) ∧ mg "NoText" = some (.ref A0) ∧ PySem.W.kitOne K (.ref D) (.ref A0) = some true
section
variable {P : Program} {w : World} {K : PySem.W.Frag} {mg : Str → Option Value} {base : Heap} {U : Nat → Addr}
abbrev s_is_word : Stmt := top 13
theorem sc_is_word : FnScope ["thing", "small"] ["thing"] (defScope s_is_word) := ⟨rfl, rfl, rfl, by decide +kernel, rfl, by decide +kernel, by decide +kernel⟩
theorem ok_is_word (D : Def K mg "is_word" s_is_word ["thing"]) (B : Blt mg) (C : Cns w K mg U) : Fn P w K mg base 1 "is_word" F_is_word 1 := by
  refine fn_mk (k := 0) (N := ["thing", "small"]) D sc_is_word rfl (fun f cdv A outer s H E hr => ?_)
  unfold b_is_word
  exact (jb_cons (js_if (jt_w (jw_or (jt_not (jt_val (je_isi B.isinstance_ (ja_cons (je_var 0) (ja_cons (je_ty B.str_ (by decide +kernel)) ja_nil))))) (jw_or1 (jt_not (jt_lele hr je_int (je_len B.len_ (ja_cons (je_var 0) ja_nil)) (je_cn C.LONGEST)))))) (jb_one (js_ret je_bl)) jb_nil) (jb_one (js_ret (je_all B.all_ (ja_cons (je_lc 1 rfl sc_is_word.nd (ji_str (je_var 0)) (blkOk_by (own := [("small", 1)]) (N := ["thing", "small"]) (sc := defScope s_is_word) (by decide +kernel)) (fun _ _ _ _ _ => pg_name (i := 1) sc_is_word.nd rfl (Or.inl rfl)) (fun _ _ _ _ _ => jts_nil) (fun _ _ _ _ _ => (je_lele hr je_str (je_var 1) je_str))) ja_nil)))))
abbrev s_is_letter : Stmt := top 14
theorem sc_is_letter : FnScope ["thing"] ["thing"] (defScope s_is_letter) := ⟨rfl, rfl, rfl, by decide +kernel, rfl, by decide +kernel, by decide +kernel⟩
theorem ok_is_letter (D : Def K mg "is_letter" s_is_letter ["thing"]) (B : Blt mg) (C : Cns w K mg U) (c_is_word : Fn P w K mg base 1 "is_word" F_is_word 1) : Fn P w K mg base 2 "is_letter" F_is_letter 1 := by
  refine fn_mk (k := 1) (N := ["thing"]) D sc_is_letter rfl (fun f cdv A outer s H E hr => ?_)
  unfold b_is_letter
  exact (jb_one (js_ret (je_and (je_fn c_is_word (hr.mono (by omega)) (ja_cons (je_var 0) ja_nil)) (je_and (je_ne hr (je_var 0) (je_cn C.NOUGHT)) (je_one (je_ni hr (je_var 0) (je_cn C.SIGNS)))))))
abbrev s_word_ahead : Stmt := top 17
theorem sc_word_ahead : FnScope ["text", "at"] ["text"] (defScope s_word_ahead) := ⟨rfl, rfl, rfl, by decide +kernel, rfl, by decide +kernel, by decide +kernel⟩
theorem ok_word_ahead (D : Def K mg "word_ahead" s_word_ahead ["text"]) (B : Blt mg) (C : Cns w K mg U) : Fn P w K mg base 1 "word_ahead" F_word_ahead 1 := by
  refine fn_mk (k := 0) (N := ["text", "at"]) D sc_word_ahead rfl (fun f cdv A outer s H E hr => ?_)
  unfold b_word_ahead
  exact (jb_cons (js_set 1 sc_word_ahead.nd je_int) (jb_cons (js_while 100000 (jt_w (jw_and (jt_lt hr (je_var 1) (je_len B.len_ (ja_cons (je_var 0) ja_nil))) (jw_and1 (jt_lele hr je_str (je_index (je_var 0) (je_var 1)) je_str)))) (jb_one (js_aug 1 sc_word_ahead.nd ip_add ok_iadd je_int))) (jb_one (js_ret (je_slice (je_var 0) jo_none (jo_some (je_var 1)))))))
abbrev s_behind_mark : Stmt := top 18
theorem sc_behind_mark : FnScope ["text", "mark"] ["text", "mark"] (defScope s_behind_mark) := ⟨rfl, rfl, rfl, by decide +kernel, rfl, by decide +kernel, by decide +kernel⟩
theorem rk_behind_mark (D : Def K mg "behind_mark" s_behind_mark ["text", "mark"]) (B : Blt mg) (C : Cns w K mg U) : Rn P w K mg base 1 "behind_mark" R_behind_mark 2 := by
  refine rn_mk (k := 0) (N := ["text", "mark"]) D sc_behind_mark rfl (fun f cdv A outer s H E hr => ?_)
  unfold y_behind_mark
  exact (rb_head (rs_if (jt_not (jt_val (je_sw (je_var 0) (je_var 1)))) (rb_head (rs_raise C.e_NoText (ja_cons je_str ja_nil))) rb_no))
theorem ok_behind_mark (D : Def K mg "behind_mark" s_behind_mark ["text", "mark"]) (B : Blt mg) (C : Cns w K mg U) : Fn P w K mg base 1 "behind_mark" F_behind_mark 2 := by
  refine fn_mk (k := 0) (N := ["text", "mark"]) D sc_behind_mark rfl (fun f cdv A outer s H E hr => ?_)
  unfold b_behind_mark
  exact (jb_cons (js_if (jt_not (jt_val (je_sw (je_var 0) (je_var 1)))) (jb_one js_no) jb_nil) (jb_one (js_ret (je_slice (je_var 0) (jo_some (je_len B.len_ (ja_cons (je_var 1) ja_nil))) jo_none))))
abbrev s_read_sign : Stmt := top 19
theorem sc_read_sign : FnScope ["text", "sign"] ["text"] (defScope s_read_sign) := ⟨rfl, rfl, rfl, by decide +kernel, rfl, by decide +kernel, by decide +kernel⟩
theorem rk_read_sign (D : Def K mg "read_sign" s_read_sign ["text"]) (B : Blt mg) (C : Cns w K mg U) (c_word_ahead : Fn P w K mg base 1 "word_ahead" F_word_ahead 1) (c_behind_mark : Fn P w K mg base 1 "behind_mark" F_behind_mark 2) (r_behind_mark : Rn P w K mg base 1 "behind_mark" R_behind_mark 2) : Rn P w K mg base 2 "read_sign" R_read_sign 1 := by
  refine rn_mk (k := 1) (N := ["text", "sign"]) D sc_read_sign rfl (fun f cdv A outer s H E hr => ?_)
  unfold y_read_sign
  exact (rb_tail (js_set 1 sc_read_sign.nd (je_fn c_word_ahead (hr.mono (by omega)) (ja_cons (je_slice (je_var 0) (jo_some je_int) jo_none) ja_nil))) (rb_or (rb_head (rs_if (jt_ni hr (je_var 1) (je_cn C.SIGNS)) (rb_head (rs_raise C.e_NoText (ja_cons je_str ja_nil))) rb_no)) (rb_tail (js_if (jt_ni hr (je_var 1) (je_cn C.SIGNS)) (jb_one js_no) jb_nil) (rb_head (rs_ret (re_tup (ra_tail (je_var 1) (ra_head (re_call r_behind_mark (hr.mono (by omega)) (ja_cons (je_var 0) (ja_cons (je_fs (jfs_c (jfs_v (je_var 1) (jfs_c jfs_nil)))) ja_nil)))))))))))
theorem ok_read_sign (D : Def K mg "read_sign" s_read_sign ["text"]) (B : Blt mg) (C : Cns w K mg U) (c_word_ahead : Fn P w K mg base 1 "word_ahead" F_word_ahead 1) (c_behind_mark : Fn P w K mg base 1 "behind_mark" F_behind_mark 2) (r_behind_mark : Rn P w K mg base 1 "behind_mark" R_behind_mark 2) : Fn P w K mg base 2 "read_sign" F_read_sign 1 := by
  refine fn_mk (k := 1) (N := ["text", "sign"]) D sc_read_sign rfl (fun f cdv A outer s H E hr => ?_)
  unfold b_read_sign
  exact (jb_cons (js_set 1 sc_read_sign.nd (je_fn c_word_ahead (hr.mono (by omega)) (ja_cons (je_slice (je_var 0) (jo_some je_int) jo_none) ja_nil))) (jb_cons (js_if (jt_ni hr (je_var 1) (je_cn C.SIGNS)) (jb_one js_no) jb_nil) (jb_one (js_ret (je_tup (ja_cons (je_var 1) (ja_cons (je_fn c_behind_mark (hr.mono (by omega)) (ja_cons (je_var 0) (ja_cons (je_fs (jfs_c (jfs_v (je_var 1) (jfs_c jfs_nil)))) ja_nil))) ja_nil)))))))
abbrev s_read_ahead : Stmt := top 20
theorem sc_read_ahead : FnScope ["text", "word", "one", "behind", "sign", "other"] ["text"] (defScope s_read_ahead) := ⟨rfl, rfl, rfl, by decide +kernel, rfl, by decide +kernel, by decide +kernel⟩
theorem ok_read_ahead (D : Def K mg "read_ahead" s_read_ahead ["text"]) (B : Blt mg) (C : Cns w K mg U) (c_is_letter : Fn P w K mg base 2 "is_letter" F_is_letter 1) (c_word_ahead : Fn P w K mg base 1 "word_ahead" F_word_ahead 1) (c_behind_mark : Fn P w K mg base 1 "behind_mark" F_behind_mark 2) (c_read_sign : Fn P w K mg base 2 "read_sign" F_read_sign 1) (r_behind_mark : Rn P w K mg base 1 "behind_mark" R_behind_mark 2) (r_read_sign : Rn P w K mg base 2 "read_sign" R_read_sign 1) : ∀ n, Fn P w K mg base (2 + n) "read_ahead" (F_read_ahead n) 1
  | 0 => fn_no D
  | n + 1 => by
    have c_read_ahead := ok_read_ahead D B C c_is_letter c_word_ahead c_behind_mark c_read_sign r_behind_mark r_read_sign n
    refine fn_mk (k := 2 + n) (N := ["text", "word", "one", "behind", "sign", "other"]) D sc_read_ahead rfl (fun f cdv A outer s H E hr => ?_)
    unfold b_read_ahead
    exact (jb_cons (js_if (jt_not (jt_val (je_sw (je_var 0) je_str))) (jb_cons (js_set 1 sc_read_ahead.nd (je_fn c_word_ahead (hr.mono (by omega)) (ja_cons (je_var 0) ja_nil))) (jb_cons (js_if (jt_w (jw_and (jt_ne hr (je_var 1) (je_cn C.NOUGHT)) (jw_and1 (jt_not (jt_val (je_fn c_is_letter (hr.mono (by omega)) (ja_cons (je_var 1) ja_nil))))))) (jb_one js_no) jb_nil) (jb_one (js_ret (je_tup (ja_cons (je_var 1) (ja_cons (je_slice (je_var 0) (jo_some (je_len B.len_ (ja_cons (je_var 1) ja_nil))) jo_none) ja_nil))))))) jb_nil) (jb_cons (js_asg (je_fn c_read_ahead (hr.mono (by omega)) (ja_cons (je_slice (je_var 0) (jo_some je_int) jo_none) ja_nil)) (jg_tup 2 3 rfl sc_read_ahead.nd)) (jb_cons (js_asg (je_fn c_read_sign (hr.mono (by omega)) (ja_cons (je_var 3) ja_nil)) (jg_tup 4 3 rfl sc_read_ahead.nd)) (jb_cons (js_asg (je_fn c_read_ahead (hr.mono (by omega)) (ja_cons (je_var 3) ja_nil)) (jg_tup 5 3 rfl sc_read_ahead.nd)) (jb_one (js_ret (je_tup (ja_cons (je_tup (ja_cons (je_var 4) (ja_cons (je_var 2) (ja_cons (je_var 5) ja_nil)))) (ja_cons (je_fn c_behind_mark (hr.mono (by omega)) (ja_cons (je_var 3) (ja_cons je_str ja_nil))) ja_nil)))))))))
theorem rk_read_ahead (D : Def K mg "read_ahead" s_read_ahead ["text"]) (B : Blt mg) (C : Cns w K mg U) (c_is_letter : Fn P w K mg base 2 "is_letter" F_is_letter 1) (c_word_ahead : Fn P w K mg base 1 "word_ahead" F_word_ahead 1) (c_behind_mark : Fn P w K mg base 1 "behind_mark" F_behind_mark 2) (c_read_sign : Fn P w K mg base 2 "read_sign" F_read_sign 1) (r_behind_mark : Rn P w K mg base 1 "behind_mark" R_behind_mark 2) (r_read_sign : Rn P w K mg base 2 "read_sign" R_read_sign 1) : ∀ n, Rn P w K mg base (2 + n) "read_ahead" (R_read_ahead n) 1
  | 0 => rn_no D
  | n + 1 => by
    have c_read_ahead := ok_read_ahead D B C c_is_letter c_word_ahead c_behind_mark c_read_sign r_behind_mark r_read_sign n
    have r_read_ahead := rk_read_ahead D B C c_is_letter c_word_ahead c_behind_mark c_read_sign r_behind_mark r_read_sign n
    refine rn_mk (k := 2 + n) (N := ["text", "word", "one", "behind", "sign", "other"]) D sc_read_ahead rfl (fun f cdv A outer s H E hr => ?_)
    unfold y_read_ahead
    exact (rb_or (rb_head (rs_if (jt_not (jt_val (je_sw (je_var 0) je_str))) (rb_tail (js_set 1 sc_read_ahead.nd (je_fn c_word_ahead (hr.mono (by omega)) (ja_cons (je_var 0) ja_nil))) (rb_head (rs_if (jt_w (jw_and (jt_ne hr (je_var 1) (je_cn C.NOUGHT)) (jw_and1 (jt_not (jt_val (je_fn c_is_letter (hr.mono (by omega)) (ja_cons (je_var 1) ja_nil))))))) (rb_head (rs_raise C.e_NoText (ja_cons je_str ja_nil))) rb_no))) rb_no)) (rb_tail (js_if (jt_not (jt_val (je_sw (je_var 0) je_str))) (jb_cons (js_set 1 sc_read_ahead.nd (je_fn c_word_ahead (hr.mono (by omega)) (ja_cons (je_var 0) ja_nil))) (jb_cons (js_if (jt_w (jw_and (jt_ne hr (je_var 1) (je_cn C.NOUGHT)) (jw_and1 (jt_not (jt_val (je_fn c_is_letter (hr.mono (by omega)) (ja_cons (je_var 1) ja_nil))))))) (jb_one js_no) jb_nil) (jb_one (js_ret (je_tup (ja_cons (je_var 1) (ja_cons (je_slice (je_var 0) (jo_some (je_len B.len_ (ja_cons (je_var 1) ja_nil))) jo_none) ja_nil))))))) jb_nil) (rb_or (rb_head (rs_asg (re_call r_read_ahead (hr.mono (by omega)) (ja_cons (je_slice (je_var 0) (jo_some je_int) jo_none) ja_nil)))) (rb_tail (js_asg (je_fn c_read_ahead (hr.mono (by omega)) (ja_cons (je_slice (je_var 0) (jo_some je_int) jo_none) ja_nil)) (jg_tup 2 3 rfl sc_read_ahead.nd)) (rb_or (rb_head (rs_asg (re_call r_read_sign (hr.mono (by omega)) (ja_cons (je_var 3) ja_nil)))) (rb_tail (js_asg (je_fn c_read_sign (hr.mono (by omega)) (ja_cons (je_var 3) ja_nil)) (jg_tup 4 3 rfl sc_read_ahead.nd)) (rb_or (rb_head (rs_asg (re_call r_read_ahead (hr.mono (by omega)) (ja_cons (je_var 3) ja_nil)))) (rb_tail (js_asg (je_fn c_read_ahead (hr.mono (by omega)) (ja_cons (je_var 3) ja_nil)) (jg_tup 5 3 rfl sc_read_ahead.nd)) (rb_head (rs_ret (re_tup (ra_tail (je_tup (ja_cons (je_var 4) (ja_cons (je_var 2) (ja_cons (je_var 5) ja_nil)))) (ra_head (re_call r_behind_mark (hr.mono (by omega)) (ja_cons (je_var 3) (ja_cons je_str ja_nil))))))))))))))))
abbrev s_read : Stmt := top 21
theorem sc_read : FnScope ["text", "statement", "behind"] ["text"] (defScope s_read) := ⟨rfl, rfl, rfl, by decide +kernel, rfl, by decide +kernel, by decide +kernel⟩
theorem rk_read (D : Def K mg "read" s_read ["text"]) (B : Blt mg) (C : Cns w K mg U) (c_read_ahead : Fn P w K mg base 22 "read_ahead" (F_read_ahead 20) 1) (r_read_ahead : Rn P w K mg base 22 "read_ahead" (R_read_ahead 20) 1) : Rn P w K mg base 23 "read" R_read 1 := by
  refine rn_mk (k := 22) (N := ["text", "statement", "behind"]) D sc_read rfl (fun f cdv A outer s H E hr => ?_)
  unfold y_read
  exact (rb_or (rb_head (rs_if (jt_not (jt_val (je_isi B.isinstance_ (ja_cons (je_var 0) (ja_cons (je_ty B.str_ (by decide +kernel)) ja_nil))))) (rb_head (rs_raise C.e_NoText (ja_cons je_str ja_nil))) rb_no)) (rb_tail (js_if (jt_not (jt_val (je_isi B.isinstance_ (ja_cons (je_var 0) (ja_cons (je_ty B.str_ (by decide +kernel)) ja_nil))))) (jb_one js_no) jb_nil) (rb_or (rb_head (rs_if (jt_gt hr (je_cntS (je_var 0) je_str) (je_cn C.MOST_TUPLES)) (rb_head (rs_raise C.e_NoText (ja_cons je_str ja_nil))) rb_no)) (rb_tail (js_if (jt_gt hr (je_cntS (je_var 0) je_str) (je_cn C.MOST_TUPLES)) (jb_one js_no) jb_nil) (rb_or (rb_head (rs_asg (re_call r_read_ahead (hr.mono (by omega)) (ja_cons (je_var 0) ja_nil)))) (rb_tail (js_asg (je_fn c_read_ahead (hr.mono (by omega)) (ja_cons (je_var 0) ja_nil)) (jg_tup 1 2 rfl sc_read.nd)) (rb_head (rs_if (jt_ne hr (je_var 2) je_str) (rb_head (rs_raise C.e_NoText (ja_cons je_str ja_nil))) rb_no))))))))
theorem ok_read (D : Def K mg "read" s_read ["text"]) (B : Blt mg) (C : Cns w K mg U) (c_read_ahead : Fn P w K mg base 22 "read_ahead" (F_read_ahead 20) 1) (r_read_ahead : Rn P w K mg base 22 "read_ahead" (R_read_ahead 20) 1) : Fn P w K mg base 23 "read" F_read 1 := by
  refine fn_mk (k := 22) (N := ["text", "statement", "behind"]) D sc_read rfl (fun f cdv A outer s H E hr => ?_)
  unfold b_read
  exact (jb_cons (js_if (jt_not (jt_val (je_isi B.isinstance_ (ja_cons (je_var 0) (ja_cons (je_ty B.str_ (by decide +kernel)) ja_nil))))) (jb_one js_no) jb_nil) (jb_cons (js_if (jt_gt hr (je_cntS (je_var 0) je_str) (je_cn C.MOST_TUPLES)) (jb_one js_no) jb_nil) (jb_cons (js_asg (je_fn c_read_ahead (hr.mono (by omega)) (ja_cons (je_var 0) ja_nil)) (jg_tup 1 2 rfl sc_read.nd)) (jb_cons (js_if (jt_ne hr (je_var 2) je_str) (jb_one js_no) jb_nil) (jb_one (js_ret (je_var 1)))))))
abbrev s_law_cell : Stmt := top 23
theorem sc_law_cell : FnScope ["_law_script", "_law_k", "_law_seed", "_law_some"] ["_law_script", "_law_k"] (defScope s_law_cell) := ⟨rfl, rfl, rfl, by decide +kernel, rfl, by decide +kernel, by decide +kernel⟩
theorem ok_law_cell (D : Def K mg "_law_cell" s_law_cell ["_law_script", "_law_k"]) (B : Blt mg) (C : Cns w K mg U) : Fn P w K mg base 1 "_law_cell" F_law_cell 2 := by
  refine fn_mk (k := 0) (N := ["_law_script", "_law_k", "_law_seed", "_law_some"]) D sc_law_cell rfl (fun f cdv A outer s H E hr => ?_)
  unfold b_law_cell
  exact (jb_cons (js_if (jt_lt hr (je_var 1) (je_len B.len_ (ja_cons (je_var 0) ja_nil))) (jb_one (js_ret (je_index (je_var 0) (je_var 1)))) jb_nil) (jb_cons (js_set 2 sc_law_cell.nd (je_mul (je_var 1) je_int)) (jb_cons (js_if (jt_gt hr (je_len B.len_ (ja_cons (je_var 0) ja_nil)) je_int) (jb_one (js_set 2 sc_law_cell.nd (je_add (je_var 2) (je_mod (je_index (je_var 0) (je_mod (je_var 1) (je_len B.len_ (ja_cons (je_var 0) ja_nil)))) je_int)))) jb_nil) (jb_cons (js_set 3 sc_law_cell.nd (je_mod (je_mul (je_var 2) je_int) je_int)) (jb_one (js_ret (je_mod (je_div (je_mul (je_var 3) (je_add (je_add (je_var 3) (je_mul je_int (je_var 1))) je_int)) je_int) je_int)))))))
abbrev s_law_bag : Stmt := top 24
theorem sc_law_bag : FnScope ["_law_script", "_law_at", "_law_cell_here"] ["_law_script", "_law_at"] (defScope s_law_bag) := ⟨rfl, rfl, rfl, by decide +kernel, rfl, by decide +kernel, by decide +kernel⟩
theorem ok_law_bag (D : Def K mg "_law_bag" s_law_bag ["_law_script", "_law_at"]) (B : Blt mg) (C : Cns w K mg U) (c_law_cell : Fn P w K mg base 1 "_law_cell" F_law_cell 2) : Fn P w K mg base 2 "_law_bag" F_law_bag 2 := by
  refine fn_mk (k := 1) (N := ["_law_script", "_law_at", "_law_cell_here"]) D sc_law_bag rfl (fun f cdv A outer s H E hr => ?_)
  unfold b_law_bag
  exact (jb_cons (js_set 2 sc_law_bag.nd (je_fn c_law_cell (hr.mono (by omega)) (ja_cons (je_var 0) (ja_cons (je_var 1) ja_nil)))) (jb_cons (js_if (jt_w (jw_or (jt_ge hr (je_var 2) (je_pow je_int je_int)) (jw_or1 (jt_le hr (je_var 2) (je_neg (je_pow je_int je_int)))))) (jb_one (js_ret (je_lst (ja_cons (je_var 2) (ja_cons je_int ja_nil))))) jb_nil) (jb_one (js_ret (je_lst (ja_cons (je_mod (je_var 2) je_int) (ja_cons (je_add (je_var 1) je_int) ja_nil)))))))
abbrev s_law_take : Stmt := top 25
theorem sc_law_take : FnScope ["_law_bag_here", "_law_many", "_law_some"] ["_law_bag_here", "_law_many"] (defScope s_law_take) := ⟨rfl, rfl, rfl, by decide +kernel, rfl, by decide +kernel, by decide +kernel⟩
theorem ok_law_take (D : Def K mg "_law_take" s_law_take ["_law_bag_here", "_law_many"]) (B : Blt mg) (C : Cns w K mg U) : Fn P w K mg base 1 "_law_take" F_law_take 2 := by
  refine fn_mk (k := 0) (N := ["_law_bag_here", "_law_many", "_law_some"]) D sc_law_take rfl (fun f cdv A outer s H E hr => ?_)
  unfold b_law_take
  exact (jb_cons (js_if (jt_eq hr (je_index (je_var 0) je_int) je_int) (jb_cons (js_set 2 sc_law_take.nd (je_mod (je_index (je_var 0) je_int) (je_var 1))) (jb_cons (js_setIx (je_div (je_index (je_var 0) je_int) (je_var 1)) (je_var 0) je_int) (jb_one (js_ret (je_var 2))))) jb_nil) (jb_cons (js_setIx (je_mod (je_add (je_add (je_mul (je_index (je_var 0) je_int) je_int) (je_mul (je_mul je_int (je_index (je_var 0) je_int)) (je_index (je_var 0) je_int))) je_int) je_int) (je_var 0) je_int) (jb_cons (js_setIx (je_add (je_index (je_var 0) je_int) je_int) (je_var 0) je_int) (jb_one (js_ret (je_mod (je_mod (je_mul (je_index (je_var 0) je_int) je_int) je_int) (je_var 1)))))))
abbrev s_law_names : Stmt := top 26
theorem sc_law_names : FnScope ["_law_bag_here", "_law_many", "_law_small", "_law_word", "_law_long", "_law_k", "_law_at", "_law_first", "_law_found", "_law_name"] ["_law_bag_here", "_law_many"] (defScope s_law_names) := ⟨rfl, rfl, rfl, by decide +kernel, rfl, by decide +kernel, by decide +kernel⟩
theorem ok_law_names (D : Def K mg "_law_names" s_law_names ["_law_bag_here", "_law_many"]) (B : Blt mg) (C : Cns w K mg U) (c_law_take : Fn P w K mg base 1 "_law_take" F_law_take 2) : Fn P w K mg base 2 "_law_names" F_law_names 2 := by
  refine fn_mk (k := 1) (N := ["_law_bag_here", "_law_many", "_law_small", "_law_word", "_law_long", "_law_k", "_law_at", "_law_first", "_law_found", "_law_name"]) D sc_law_names rfl (fun f cdv A outer s H E hr => ?_)
  unfold b_law_names
  exact (jb_cons (js_set 2 sc_law_names.nd je_str) (jb_cons (js_set 3 sc_law_names.nd je_str) (jb_cons (js_set 4 sc_law_names.nd (je_fn c_law_take (hr.mono (by omega)) (ja_cons (je_var 0) (ja_cons je_int ja_nil)))) (jb_cons (js_for rfl (ji_rng1 B.range_ (ja_cons (je_var 4) ja_nil)) (jg_name 5 sc_law_names.nd) (jb_one (js_set 3 sc_law_names.nd (je_add (je_var 3) (je_index (je_var 2) (je_fn c_law_take (hr.mono (by omega)) (ja_cons (je_var 0) (ja_cons je_int ja_nil)))))))) (jb_cons (js_set 6 sc_law_names.nd (je_fn c_law_take (hr.mono (by omega)) (ja_cons (je_var 0) (ja_cons (je_add (je_var 4) je_int) ja_nil)))) (jb_cons (js_if (jt_eq hr (je_fn c_law_take (hr.mono (by omega)) (ja_cons (je_var 0) (ja_cons je_int ja_nil))) je_int) (jb_cons (js_set 3 sc_law_names.nd (je_index (je_lst (ja_cons je_str (ja_cons je_str (ja_cons je_str (ja_cons je_str ja_nil))))) (je_fn c_law_take (hr.mono (by omega)) (ja_cons (je_var 0) (ja_cons je_int ja_nil))))) (jb_one (js_set 6 sc_law_names.nd (je_len B.len_ (ja_cons (je_var 3) ja_nil))))) jb_nil) (jb_cons (js_set 7 sc_law_names.nd (je_fn c_law_take (hr.mono (by omega)) (ja_cons (je_var 0) (ja_cons je_int ja_nil)))) (jb_cons (js_set 8 sc_law_names.nd (je_lst ja_nil)) (jb_cons (js_for rfl (ji_rng1 B.range_ (ja_cons je_int ja_nil)) (jg_name 5 sc_law_names.nd) (jb_cons (js_set 9 sc_law_names.nd (je_add (je_add (je_slice (je_var 3) jo_none (jo_some (je_var 6))) (je_index (je_var 2) (je_mod (je_add (je_var 7) (je_mul je_int (je_var 5))) je_int))) (je_slice (je_var 3) (jo_some (je_var 6)) jo_none))) (jb_one (js_if (jt_w (jw_and (jt_ni hr (je_var 9) (je_lst (ja_cons je_str (ja_cons je_str (ja_cons je_str (ja_cons je_str ja_nil)))))) (jw_and1 (jt_lt hr (je_len B.len_ (ja_cons (je_var 8) ja_nil)) (je_var 1))))) (jb_one (js_x (je_append (je_var 8) (ja_cons (je_var 9) ja_nil)))) jb_nil)))) (jb_one (js_ret (je_var 8))))))))))))
abbrev s_law_statement : Stmt := top 27
theorem sc_law_statement : FnScope ["_law_bag_here", "_law_names_here", "_law_many", "_law_sign", "_law_near", "_law_one"] ["_law_bag_here", "_law_names_here", "_law_many"] (defScope s_law_statement) := ⟨rfl, rfl, rfl, by decide +kernel, rfl, by decide +kernel, by decide +kernel⟩
theorem ok_law_statement (D : Def K mg "_law_statement" s_law_statement ["_law_bag_here", "_law_names_here", "_law_many"]) (B : Blt mg) (C : Cns w K mg U) (c_law_take : Fn P w K mg base 1 "_law_take" F_law_take 2) : ∀ n, Fn P w K mg base (1 + n) "_law_statement" (F_law_statement n) 3
  | 0 => fn_no D
  | n + 1 => by
    have c_law_statement := ok_law_statement D B C c_law_take n
    refine fn_mk (k := 1 + n) (N := ["_law_bag_here", "_law_names_here", "_law_many", "_law_sign", "_law_near", "_law_one"]) D sc_law_statement rfl (fun f cdv A outer s H E hr => ?_)
    unfold b_law_statement
    exact (jb_cons (js_if (jt_eq hr (je_var 2) je_int) (jb_one (js_ret (je_index (je_add (je_add (je_var 1) (je_var 1)) (je_lst (ja_cons je_str ja_nil))) (je_fn c_law_take (hr.mono (by omega)) (ja_cons (je_var 0) (ja_cons (je_add (je_mul je_int (je_len B.len_ (ja_cons (je_var 1) ja_nil))) je_int) ja_nil)))))) jb_nil) (jb_cons (js_set 3 sc_law_statement.nd (je_index (je_lst (ja_cons je_str (ja_cons je_str (ja_cons je_str (ja_cons je_str (ja_cons je_str ja_nil)))))) (je_fn c_law_take (hr.mono (by omega)) (ja_cons (je_var 0) (ja_cons je_int ja_nil))))) (jb_cons (js_set 4 sc_law_statement.nd (je_fn c_law_take (hr.mono (by omega)) (ja_cons (je_var 0) (ja_cons (je_var 2) ja_nil)))) (jb_cons (js_set 5 sc_law_statement.nd (je_fn c_law_statement (hr.mono (by omega)) (ja_cons (je_var 0) (ja_cons (je_var 1) (ja_cons (je_var 4) ja_nil))))) (jb_one (js_ret (je_tup (ja_cons (je_var 3) (ja_cons (je_var 5) (ja_cons (je_fn c_law_statement (hr.mono (by omega)) (ja_cons (je_var 0) (ja_cons (je_var 1) (ja_cons (je_sub (je_sub (je_var 2) je_int) (je_var 4)) ja_nil)))) ja_nil))))))))))
abbrev s_law_ends : Stmt := top 28
theorem sc_law_ends : FnScope ["_law_statement_here"] ["_law_statement_here"] (defScope s_law_ends) := ⟨rfl, rfl, rfl, by decide +kernel, rfl, by decide +kernel, by decide +kernel⟩
theorem ok_law_ends (D : Def K mg "_law_ends" s_law_ends ["_law_statement_here"]) (B : Blt mg) (C : Cns w K mg U) : ∀ n, Fn P w K mg base (0 + n) "_law_ends" (F_law_ends n) 1
  | 0 => fn_no D
  | n + 1 => by
    have c_law_ends := ok_law_ends D B C n
    refine fn_mk (k := 0 + n) (N := ["_law_statement_here"]) D sc_law_ends rfl (fun f cdv A outer s H E hr => ?_)
    unfold b_law_ends
    exact (jb_cons (js_if (jt_not (jt_val (je_isi B.isinstance_ (ja_cons (je_var 0) (ja_cons (je_ty B.tuple_ (by decide +kernel)) ja_nil))))) (jb_one (js_ret (je_lst (ja_cons (je_var 0) ja_nil)))) jb_nil) (jb_one (js_ret (je_add (je_fn c_law_ends (hr.mono (by omega)) (ja_cons (je_index (je_var 0) je_int) ja_nil)) (je_fn c_law_ends (hr.mono (by omega)) (ja_cons (je_index (je_var 0) je_int) ja_nil))))))
abbrev s_law_tuples : Stmt := top 29
theorem sc_law_tuples : FnScope ["_law_statement_here"] ["_law_statement_here"] (defScope s_law_tuples) := ⟨rfl, rfl, rfl, by decide +kernel, rfl, by decide +kernel, by decide +kernel⟩
theorem ok_law_tuples (D : Def K mg "_law_tuples" s_law_tuples ["_law_statement_here"]) (B : Blt mg) (C : Cns w K mg U) (c_law_ends : Fn P w K mg base 120 "_law_ends" (F_law_ends 120) 1) : Fn P w K mg base 121 "_law_tuples" F_law_tuples 1 := by
  refine fn_mk (k := 120) (N := ["_law_statement_here"]) D sc_law_tuples rfl (fun f cdv A outer s H E hr => ?_)
  unfold b_law_tuples
  exact (jb_one (js_ret (je_sub (je_len B.len_ (ja_cons (je_fn c_law_ends (hr.mono (by omega)) (ja_cons (je_var 0) ja_nil)) ja_nil)) je_int)))
abbrev s_law_is_letter : Stmt := top 30
theorem sc_law_is_letter : FnScope ["_law_thing", "_law_sign"] ["_law_thing"] (defScope s_law_is_letter) := ⟨rfl, rfl, rfl, by decide +kernel, rfl, by decide +kernel, by decide +kernel⟩
theorem ok_law_is_letter (D : Def K mg "_law_is_letter" s_law_is_letter ["_law_thing"]) (B : Blt mg) (C : Cns w K mg U) : Fn P w K mg base 1 "_law_is_letter" F_law_is_letter 1 := by
  refine fn_mk (k := 0) (N := ["_law_thing", "_law_sign"]) D sc_law_is_letter rfl (fun f cdv A outer s H E hr => ?_)
  unfold b_law_is_letter
  exact (jb_cons (js_if (jt_w (jw_or (jt_not (jt_val (je_isi B.isinstance_ (ja_cons (je_var 0) (ja_cons (je_ty B.str_ (by decide +kernel)) ja_nil))))) (jw_or (jt_not (jt_lele hr je_int (je_len B.len_ (ja_cons (je_var 0) ja_nil)) je_int)) (jw_or1 (jt_in hr (je_var 0) (je_lst (ja_cons je_str (ja_cons je_str (ja_cons je_str (ja_cons je_str ja_nil)))))))))) (jb_one (js_ret je_bl)) jb_nil) (jb_one (js_ret (je_all B.all_ (ja_cons (je_lc 1 rfl sc_law_is_letter.nd (ji_str (je_var 0)) (blkOk_by (own := [("_law_sign", 1)]) (N := ["_law_thing", "_law_sign"]) (sc := defScope s_law_is_letter) (by decide +kernel)) (fun _ _ _ _ _ => pg_name (i := 1) sc_law_is_letter.nd rfl (Or.inl rfl)) (fun _ _ _ _ _ => jts_nil) (fun _ _ _ _ _ => (je_in hr (je_var 1) je_str))) ja_nil)))))
abbrev s_law_is_statement : Stmt := top 31
theorem sc_law_is_statement : FnScope ["_law_thing"] ["_law_thing"] (defScope s_law_is_statement) := ⟨rfl, rfl, rfl, by decide +kernel, rfl, by decide +kernel, by decide +kernel⟩
theorem ok_law_is_statement (D : Def K mg "_law_is_statement" s_law_is_statement ["_law_thing"]) (B : Blt mg) (C : Cns w K mg U) (c_law_is_letter : Fn P w K mg base 1 "_law_is_letter" F_law_is_letter 1) : ∀ n, Fn P w K mg base (1 + n) "_law_is_statement" (F_law_is_statement n) 1
  | 0 => fn_no D
  | n + 1 => by
    have c_law_is_statement := ok_law_is_statement D B C c_law_is_letter n
    refine fn_mk (k := 1 + n) (N := ["_law_thing"]) D sc_law_is_statement rfl (fun f cdv A outer s H E hr => ?_)
    unfold b_law_is_statement
    exact (jb_cons (js_if (jt_val (je_isi B.isinstance_ (ja_cons (je_var 0) (ja_cons (je_ty B.tuple_ (by decide +kernel)) ja_nil)))) (jb_cons (js_if (jt_w (jw_or (jt_ne hr (je_len B.len_ (ja_cons (je_var 0) ja_nil)) je_int) (jw_or (jt_not (jt_val (je_isi B.isinstance_ (ja_cons (je_index (je_var 0) je_int) (ja_cons (je_ty B.str_ (by decide +kernel)) ja_nil))))) (jw_or1 (jt_ni hr (je_index (je_var 0) je_int) (je_lst (ja_cons je_str (ja_cons je_str (ja_cons je_str ja_nil))))))))) (jb_one (js_ret je_bl)) jb_nil) (jb_one (js_ret (je_and (je_fn c_law_is_statement (hr.mono (by omega)) (ja_cons (je_index (je_var 0) je_int) ja_nil)) (je_one (je_fn c_law_is_statement (hr.mono (by omega)) (ja_cons (je_index (je_var 0) je_int) ja_nil))))))) jb_nil) (jb_one (js_ret (je_or (je_fn c_law_is_letter (hr.mono (by omega)) (ja_cons (je_var 0) ja_nil)) (je_one (je_and (je_isi B.isinstance_ (ja_cons (je_var 0) (ja_cons (je_ty B.str_ (by decide +kernel)) ja_nil))) (je_one (je_eq hr (je_var 0) je_str))))))))
abbrev s_law_text : Stmt := top 33
theorem sc_law_text : FnScope ["_law_statement_here"] ["_law_statement_here"] (defScope s_law_text) := ⟨rfl, rfl, rfl, by decide +kernel, rfl, by decide +kernel, by decide +kernel⟩
theorem ok_law_text (D : Def K mg "_law_text" s_law_text ["_law_statement_here"]) (B : Blt mg) (C : Cns w K mg U) : ∀ n, Fn P w K mg base (0 + n) "_law_text" (F_law_text n) 1
  | 0 => fn_no D
  | n + 1 => by
    have c_law_text := ok_law_text D B C n
    refine fn_mk (k := 0 + n) (N := ["_law_statement_here"]) D sc_law_text rfl (fun f cdv A outer s H E hr => ?_)
    unfold b_law_text
    exact (jb_cons (js_if (jt_not (jt_val (je_isi B.isinstance_ (ja_cons (je_var 0) (ja_cons (je_ty B.tuple_ (by decide +kernel)) ja_nil))))) (jb_one (js_ret (je_var 0))) jb_nil) (jb_one (js_ret (je_add (je_add je_str (je_join je_str (je_lst (ja_cons (je_fn c_law_text (hr.mono (by omega)) (ja_cons (je_index (je_var 0) je_int) ja_nil)) (ja_cons (je_index (je_var 0) je_int) (ja_cons (je_fn c_law_text (hr.mono (by omega)) (ja_cons (je_index (je_var 0) je_int) ja_nil)) ja_nil)))))) je_str))))
abbrev s_law_words : Stmt := top 34
theorem sc_law_words : FnScope ["_law_text_here", "_law_found", "_law_word", "_law_sign", "_law_one"] ["_law_text_here"] (defScope s_law_words) := ⟨rfl, rfl, rfl, by decide +kernel, rfl, by decide +kernel, by decide +kernel⟩
theorem ok_law_words (D : Def K mg "_law_words" s_law_words ["_law_text_here"]) (B : Blt mg) (C : Cns w K mg U) : Fn P w K mg base 1 "_law_words" F_law_words 1 := by
  refine fn_mk (k := 0) (N := ["_law_text_here", "_law_found", "_law_word", "_law_sign", "_law_one"]) D sc_law_words rfl (fun f cdv A outer s H E hr => ?_)
  unfold b_law_words
  exact (jb_cons (js_set 1 sc_law_words.nd (je_lst ja_nil)) (jb_cons (js_set 2 sc_law_words.nd je_str) (jb_cons (js_for rfl (ji_str (je_var 0)) (jg_name 3 sc_law_words.nd) (jb_one (js_if (jt_in hr (je_var 3) je_str) (jb_cons (js_set 1 sc_law_words.nd (je_add (je_var 1) (je_lst (ja_cons (je_var 2) (ja_cons (je_var 3) ja_nil))))) (jb_one (js_set 2 sc_law_words.nd je_str))) (jb_one (js_set 2 sc_law_words.nd (je_add (je_var 2) (je_var 3))))))) (jb_one (js_ret (je_lc 4 rfl sc_law_words.nd (ji_list (je_add (je_var 1) (je_lst (ja_cons (je_var 2) ja_nil)))) (blkOk_by (own := [("_law_one", 4)]) (N := ["_law_text_here", "_law_found", "_law_word", "_law_sign", "_law_one"]) (sc := defScope s_law_words) (by decide +kernel)) (fun _ _ _ _ _ => pg_name (i := 4) sc_law_words.nd rfl (Or.inl rfl)) (fun _ _ _ _ _ => (jts_one (jt_ne hr (je_var 4) je_str))) (fun _ _ _ _ _ => (je_var 4))))))))
abbrev s_law_taken : Stmt := top 35
theorem sc_law_taken : FnScope ["_law_words_here", "_law_last", "_law_found", "_law_k", "_law_part"] ["_law_words_here"] (defScope s_law_taken) := ⟨rfl, rfl, rfl, by decide +kernel, rfl, by decide +kernel, by decide +kernel⟩
theorem ok_law_taken (D : Def K mg "_law_taken" s_law_taken ["_law_words_here"]) (B : Blt mg) (C : Cns w K mg U) : ∀ n, Fn P w K mg base (0 + n) "_law_taken" (F_law_taken n) 1
  | 0 => fn_no D
  | n + 1 => by
    have c_law_taken := ok_law_taken D B C n
    refine fn_mk (k := 0 + n) (N := ["_law_words_here", "_law_last", "_law_found", "_law_k", "_law_part"]) D sc_law_taken rfl (fun f cdv A outer s H E hr => ?_)
    unfold b_law_taken
    exact (jb_cons (js_if (jt_w (jw_or (jt_eq hr (je_var 0) (je_lst ja_nil)) (jw_or (jt_eq hr (je_index (je_var 0) (je_neg je_int)) je_str) (jw_or1 (jt_eq hr (je_index (je_var 0) (je_neg je_int)) je_str))))) (jb_one (js_ret je_non)) jb_nil) (jb_cons (js_set 1 sc_law_taken.nd (je_pop0 (je_var 0))) (jb_cons (js_if (jt_ne hr (je_var 1) je_str) (jb_one (js_ret (je_var 1))) jb_nil) (jb_cons (js_set 2 sc_law_taken.nd (je_lst ja_nil)) (jb_cons (js_for rfl (ji_rng1 B.range_ (ja_cons je_int ja_nil)) (jg_name 3 sc_law_taken.nd) (jb_cons (js_set 4 sc_law_taken.nd (je_fn c_law_taken (hr.mono (by omega)) (ja_cons (je_var 0) ja_nil))) (jb_cons (js_if (jt_w (jw_or (jt_is hr (je_var 4) je_non) (jw_or1 (jt_eq hr (je_var 0) (je_lst ja_nil))))) (jb_one (js_ret je_non)) jb_nil) (jb_cons (js_x (je_append (je_var 2) (ja_cons (je_var 4) ja_nil))) (jb_one (js_if (jt_ne hr (je_pop0 (je_var 0)) (je_index (je_lst (ja_cons je_str (ja_cons je_str (ja_cons je_str ja_nil)))) (je_var 3))) (jb_one (js_ret je_non)) jb_nil)))))) (jb_one (js_ret (je_tup (ja_cons (je_index (je_var 2) je_int) (ja_cons (je_index (je_var 2) je_int) (ja_cons (je_index (je_var 2) je_int) ja_nil)))))))))))
abbrev s_law_due : Stmt := top 36
theorem sc_law_due : FnScope ["_law_text_here", "_law_words_here", "_law_found"] ["_law_text_here"] (defScope s_law_due) := ⟨rfl, rfl, rfl, by decide +kernel, rfl, by decide +kernel, by decide +kernel⟩
theorem ok_law_due (D : Def K mg "_law_due" s_law_due ["_law_text_here"]) (B : Blt mg) (C : Cns w K mg U) (c_law_tuples : Fn P w K mg base 121 "_law_tuples" F_law_tuples 1) (c_law_is_statement : Fn P w K mg base 121 "_law_is_statement" (F_law_is_statement 120) 1) (c_law_words : Fn P w K mg base 1 "_law_words" F_law_words 1) (c_law_taken : Fn P w K mg base 100 "_law_taken" (F_law_taken 100) 1) : Fn P w K mg base 122 "_law_due" F_law_due 1 := by
  refine fn_mk (k := 121) (N := ["_law_text_here", "_law_words_here", "_law_found"]) D sc_law_due rfl (fun f cdv A outer s H E hr => ?_)
  unfold b_law_due
  exact (jb_cons (js_set 1 sc_law_due.nd (je_fn c_law_words (hr.mono (by omega)) (ja_cons (je_var 0) ja_nil))) (jb_cons (js_set 2 sc_law_due.nd (je_fn c_law_taken (hr.mono (by omega)) (ja_cons (je_var 1) ja_nil))) (jb_cons (js_if (jt_w (jw_or (jt_ne hr (je_var 1) (je_lst ja_nil)) (jw_or (jt_is hr (je_var 2) je_non) (jw_or (jt_not (jt_val (je_fn c_law_is_statement (hr.mono (by omega)) (ja_cons (je_var 2) ja_nil)))) (jw_or1 (jt_gt hr (je_fn c_law_tuples (hr.mono (by omega)) (ja_cons (je_var 2) ja_nil)) je_int)))))) (jb_one (js_ret je_non)) jb_nil) (jb_one (js_ret (je_var 2))))))
abbrev s_law_spoilt : Stmt := top 37
theorem sc_law_spoilt : FnScope ["_law_bag_here", "_law_text_here", "_law_way", "_law_at", "_law_pair"] ["_law_bag_here", "_law_text_here"] (defScope s_law_spoilt) := ⟨rfl, rfl, rfl, by decide +kernel, rfl, by decide +kernel, by decide +kernel⟩
theorem ok_law_spoilt (D : Def K mg "_law_spoilt" s_law_spoilt ["_law_bag_here", "_law_text_here"]) (B : Blt mg) (C : Cns w K mg U) (c_law_take : Fn P w K mg base 1 "_law_take" F_law_take 2) : Fn P w K mg base 2 "_law_spoilt" F_law_spoilt 2 := by
  refine fn_mk (k := 1) (N := ["_law_bag_here", "_law_text_here", "_law_way", "_law_at", "_law_pair"]) D sc_law_spoilt rfl (fun f cdv A outer s H E hr => ?_)
  unfold b_law_spoilt
  exact (jb_cons (js_set 2 sc_law_spoilt.nd (je_fn c_law_take (hr.mono (by omega)) (ja_cons (je_var 0) (ja_cons je_int ja_nil)))) (jb_cons (js_set 3 sc_law_spoilt.nd (je_fn c_law_take (hr.mono (by omega)) (ja_cons (je_var 0) (ja_cons (je_len B.len_ (ja_cons (je_var 1) ja_nil)) ja_nil)))) (jb_cons (js_if (jt_eq hr (je_var 2) je_int) (jb_one (js_ret (je_add (je_slice (je_var 1) jo_none (jo_some (je_var 3))) (je_slice (je_var 1) (jo_some (je_add (je_var 3) je_int)) jo_none)))) jb_nil) (jb_cons (js_if (jt_eq hr (je_var 2) je_int) (jb_one (js_ret (je_add (je_add (je_slice (je_var 1) jo_none (jo_some (je_var 3))) (je_index (je_var 1) (je_var 3))) (je_slice (je_var 1) (jo_some (je_var 3)) jo_none)))) jb_nil) (jb_cons (js_if (jt_eq hr (je_var 2) je_int) (jb_cons (js_set 4 sc_law_spoilt.nd (je_slice (je_var 1) (jo_some (je_var 3)) (jo_some (je_add (je_var 3) je_int)))) (jb_one (js_ret (je_add (je_add (je_slice (je_var 1) jo_none (jo_some (je_var 3))) (je_revS (je_var 4))) (je_slice (je_var 1) (jo_some (je_add (je_var 3) je_int)) jo_none))))) jb_nil) (jb_cons (js_if (jt_eq hr (je_var 2) je_int) (jb_one (js_ret (je_add (je_add (je_slice (je_var 1) jo_none (jo_some (je_var 3))) (je_index je_str (je_fn c_law_take (hr.mono (by omega)) (ja_cons (je_var 0) (ja_cons je_int ja_nil))))) (je_slice (je_var 1) (jo_some (je_var 3)) jo_none)))) jb_nil) (jb_one (js_ret (je_add (je_var 1) (je_index (je_lst (ja_cons je_str (ja_cons je_str (ja_cons je_str (ja_cons je_str (ja_cons (je_add je_str (je_var 1)) ja_nil)))))) (je_fn c_law_take (hr.mono (by omega)) (ja_cons (je_var 0) (ja_cons je_int ja_nil)))))))))))))
abbrev s_law_is_only : Stmt := top 32
theorem sc_law_is_only : FnScope ["_law_e", "_law_others"] ["_law_e"] (defScope s_law_is_only) := ⟨rfl, rfl, rfl, by decide +kernel, rfl, by decide +kernel, by decide +kernel⟩
theorem okh_law_is_only_NoText {ea Dx : Addr} {ob : Obj} {vs : Array Value} (D : Def K mg "_law_is_only" s_law_is_only ["_law_e"]) (B : Blt mg) (C : Cns w K mg U) (hm : mg "NoText" = some (.ref Dx)) (obc : ob.cls = .ref Dx) (obd : ob.data = .fields vs) : FnH P w K mg base 1 "_law_is_only" (Fx_law_is_only_NoText ea) 1 ea ob := by
  obtain ⟨_, q0, xk⟩ := C.xk_NoText
  rw [hm] at q0; cases q0
  obtain ⟨_, i0_NoText_a0, i0_NoText_a1, i0_NoText_a2, i0_NoText_a3, i0_NoText_a4, i0_NoText_a5, q0, i0_NoText_m0, i0_NoText_m1, i0_NoText_m2, i0_NoText_m3, i0_NoText_m4, i0_NoText_m5, i0_NoText⟩ := C.i0_NoText
  rw [hm] at q0; cases q0
  obtain ⟨_, q0, i1_NoText⟩ := C.i1_NoText
  rw [hm] at q0; cases q0
  obtain ⟨_, i2_NoText_a0, q0, i2_NoText_m0, i2_NoText⟩ := C.i2_NoText
  rw [hm] at q0; cases q0
  refine fnH_mk (k := 0) (N := ["_law_e", "_law_others"]) D sc_law_is_only rfl (fun f cdv A outer s H E hr kn => ?_)
  unfold bx_law_is_only_NoText
  exact (jb_cons (js_set 1 sc_law_is_only.nd (je_isxT 0 (kn.kn obc obd) xk B.isinstance_ (pa_cls (pe_own i0_NoText_m0) (pa_cls (pe_own i0_NoText_m1) (pa_cls (pe_own i0_NoText_m2) (pa_cls (pe_own i0_NoText_m3) (pa_cls (pe_own i0_NoText_m4) (pa_cls (pe_own i0_NoText_m5) pa_cls0)))))) i0_NoText)) (jb_one (js_ret (je_and (je_isx 0 (kn.kn obc obd) xk B.isinstance_ (pe_ve B.ValueError_) i1_NoText) (je_and (je_isx 0 (kn.kn obc obd) xk B.isinstance_ (pe_own i2_NoText_m0) i2_NoText) (je_one (je_not (je_var 1))))))))
abbrev s_law_answer : Stmt := top 38
theorem sc_law_answer : FnScope ["_law_text_here", "_law_found", "_law_e"] ["_law_text_here"] (defScope s_law_answer) := ⟨rfl, rfl, rfl, by decide +kernel, rfl, by decide +kernel, by decide +kernel⟩
theorem ok_law_answer (D : Def K mg "_law_answer" s_law_answer ["_law_text_here"]) (B : Blt mg) (C : Cns w K mg U) (c_read : Fn P w K mg base 23 "read" F_read 1) (r_read : Rn P w K mg base 23 "read" R_read 1) (dd_law_is_only : Def K mg "_law_is_only" s_law_is_only ["_law_e"]) : Fn P w K mg base 24 "_law_answer" F_law_answer 1 := by
  refine fn_mk (k := 23) (N := ["_law_text_here", "_law_found", "_law_e"]) D sc_law_answer rfl (fun f cdv A outer s H E hr => ?_)
  unfold b_law_answer
  exact (jb_cons (js_tryA 2 (jb_one (js_set 1 sc_law_answer.nd (je_fn c_read (hr.mono (by omega)) (ja_cons (je_var 0) ja_nil)))) (rb_head (rs_set (re_call r_read (hr.mono (by omega)) (ja_cons (je_var 0) ja_nil)))) (fun x τ h q e => by
    unfold hr_law_answer at e
    split at e
    · rename_i z; subst z; exact C.xb_NoText_SayError
    · cases e) (fun x ea Dx ob vs hm obc obd τ h a h' hl e => by
    unfold hr_law_answer at e
    split at e
    · rename_i z; subst z; (have hm : mg "NoText" = some (.ref Dx) := hm); (obtain ⟨_, q0, xk⟩ := C.xk_NoText); (rw [hm] at q0); (cases q0); (have kn := hdl_knows (X := (cxOf CX0 P w K mg base ["_law_text_here", "_law_found", "_law_e"] "_law_answer" (defScope s_law_answer) f cdv A outer s H E).nox) (ea := ea) (ob := ob)); exact ⟨gx_law_answer_NoText ea, (by unfold gx_law_answer_NoText; exact (jb_one (js_ret (je_tup (ja_cons je_str (ja_cons (je_fnH (okh_law_is_only_NoText dd_law_is_only B C hm obc obd) kn ((Ab.Room.toH hr _).mono (by omega)) (ja_cons (je_var 2) ja_nil)) ja_nil)))))), hq_law_answer_NoText ea τ h a h' hl e⟩
    · cases e) sc_law_answer.nd) (jb_one (js_ret (je_tup (ja_cons je_str (ja_cons (je_var 1) ja_nil))))))
abbrev s_law : Stmt := top 39
theorem sc_law : FnScope ["_law_script", "_law_bag_here", "_law_names_here", "_law_k", "_law_many", "_law_text_here", "_law_turn", "_law_due_here", "_law_told"] ["_law_script"] (defScope s_law) := ⟨rfl, rfl, rfl, by decide +kernel, rfl, by decide +kernel, by decide +kernel⟩
theorem raw_law {f : Addr} {fd : FuncData} (F : Fun K "law" "law" s_law f fd) (B : Blt mg) (C : Cns w K mg U) (c_law_bag : Fn P w K mg base 2 "_law_bag" F_law_bag 2) (c_law_take : Fn P w K mg base 1 "_law_take" F_law_take 2) (c_law_names : Fn P w K mg base 2 "_law_names" F_law_names 2) (c_law_statement : Fn P w K mg base 13 "_law_statement" (F_law_statement 12) 3) (c_law_text : Fn P w K mg base 20 "_law_text" (F_law_text 20) 1) (c_law_due : Fn P w K mg base 122 "_law_due" F_law_due 1) (c_law_spoilt : Fn P w K mg base 2 "_law_spoilt" F_law_spoilt 2) (c_law_answer : Fn P w K mg base 24 "_law_answer" F_law_answer 1) : FnOk P w K mg base CX0 123 f fd ["_law_script"] (spF K F_law 1) := by
  refine fn_ok (k := 122) (N := ["_law_script", "_law_bag_here", "_law_names_here", "_law_k", "_law_many", "_law_text_here", "_law_turn", "_law_due_here", "_law_told"]) F sc_law rfl (fun cdv A outer s H E hr => ?_)
  unfold b_law
  exact (jb_cons (js_set 1 sc_law.nd (je_fn c_law_bag (hr.mono (by omega)) (ja_cons (je_var 0) (ja_cons je_int ja_nil)))) (jb_cons (js_set 2 sc_law.nd (je_fn c_law_names (hr.mono (by omega)) (ja_cons (je_var 1) (ja_cons (je_add je_int (je_fn c_law_take (hr.mono (by omega)) (ja_cons (je_var 1) (ja_cons je_int ja_nil)))) ja_nil)))) (jb_cons (js_for rfl (ji_rng1 B.range_ (ja_cons (je_max2 B.max_ (ja_cons je_int (ja_cons (je_min2 B.min_ (ja_cons je_int (ja_cons (je_sub (je_len B.len_ (ja_cons (je_var 0) ja_nil)) je_int) ja_nil))) ja_nil))) ja_nil)) (jg_name 3 sc_law.nd) (jb_cons (js_set 1 sc_law.nd (je_fn c_law_bag (hr.mono (by omega)) (ja_cons (je_var 0) (ja_cons (je_add je_int (je_var 3)) ja_nil)))) (jb_cons (js_set 4 sc_law.nd (je_index (je_lst (ja_cons (je_fn c_law_take (hr.mono (by omega)) (ja_cons (je_var 1) (ja_cons je_int ja_nil))) (ja_cons (je_fn c_law_take (hr.mono (by omega)) (ja_cons (je_var 1) (ja_cons je_int ja_nil))) (ja_cons je_int ja_nil)))) (je_fn c_law_take (hr.mono (by omega)) (ja_cons (je_var 1) (ja_cons je_int ja_nil))))) (jb_cons (js_set 5 sc_law.nd (je_fn c_law_text (hr.mono (by omega)) (ja_cons (je_fn c_law_statement (hr.mono (by omega)) (ja_cons (je_var 1) (ja_cons (je_var 2) (ja_cons (je_var 4) ja_nil)))) ja_nil))) (jb_one (js_for rfl (ji_rng1 B.range_ (ja_cons je_int ja_nil)) (jg_name 6 sc_law.nd) (jb_cons (js_set 7 sc_law.nd (je_fn c_law_due (hr.mono (by omega)) (ja_cons (je_var 5) ja_nil))) (jb_cons (js_set 8 sc_law.nd (je_tup (ja_cons je_str (ja_cons (je_var 7) ja_nil)))) (jb_cons (js_if (jt_is hr (je_var 7) je_non) (jb_one (js_set 8 sc_law.nd (je_tup (ja_cons je_str (ja_cons je_bl ja_nil))))) jb_nil) (jb_cons (js_if (jt_ne hr (je_fn c_law_answer (hr.mono (by omega)) (ja_cons (je_var 5) ja_nil)) (je_var 8)) (jb_one (js_ret je_bl)) jb_nil) (jb_one (js_set 5 sc_law.nd (je_fn c_law_spoilt (hr.mono (by omega)) (ja_cons (je_var 1) (ja_cons (je_add (je_var 5) (je_mulT je_str (je_toint B.int_ (ja_cons (je_eq hr (je_var 5) je_str) ja_nil)))) ja_nil))))))))))))))) (jb_one (js_ret je_bl)))))
end
set_option maxHeartbeats 0 in
theorem all_mk {l : PySem.W.OpenLaw} {w : World} {K : PySem.W.Frag} {h : Heap} {mg : Str → Option Value} {fa f1 f2 f3 f4 f5 f6 f7 f8 f9 f10 f11 f12 f13 f14 f15 f16 f17 f18 f19 f20 f21 f22 f23 f24 : Addr} (hF : ∀ ns : List Int, ns.length ≤ 63 → ∃ h, F_law [.ro (ns.map A.int)] [] = some (.bl true, h)) (X : K.In h) (G : h.Ns mainGlobals mg) (hfa : mg "law" = some (.ref fa))
    {od1 an1 od2 an2 od3 an3 od4 an4 od5 an5 od6 an6 od7 an7 od8 an8 od9 an9 od10 an10 od11 an11 od12 an12 od13 an13 od14 an14 od15 an15 od16 an16 od17 an17 od18 an18 od19 an19 od20 an20 od21 an21 od22 an22 od23 an23 od24 an24 : Option Addr} {sl1 sl2 sl3 sl4 sl5 sl6 sl7 sl8 sl9 sl10 sl11 sl12 sl13 sl14 sl15 sl16 sl17 sl18 sl19 sl20 sl21 sl22 sl23 sl24 : Array (Option Value)} {oc1 kV1 dc1 pm1 cd1 ct1 oc2 kV2 dc2 pm2 cd2 ct2 oc3 kV3 dc3 pm3 cd3 ct3 oc4 kV4 dc4 pm4 cd4 ct4 oc5 kV5 dc5 pm5 cd5 ct5 oc6 kV6 dc6 pm6 cd6 ct6 oc7 kV7 dc7 pm7 cd7 ct7 oc8 kV8 dc8 pm8 cd8 ct8 oc9 kV9 dc9 pm9 cd9 ct9 oc10 kV10 dc10 pm10 cd10 ct10 oc11 kV11 dc11 pm11 cd11 ct11 oc12 kV12 dc12 pm12 cd12 ct12 oc13 kV13 dc13 pm13 cd13 ct13 oc14 kV14 dc14 pm14 cd14 ct14 oc15 kV15 dc15 pm15 cd15 ct15 oc16 kV16 dc16 pm16 cd16 ct16 oc17 kV17 dc17 pm17 cd17 ct17 oc18 kV18 dc18 pm18 cd18 ct18 oc19 kV19 dc19 pm19 cd19 ct19 oc20 kV20 dc20 pm20 cd20 ct20 oc21 kV21 dc21 pm21 cd21 ct21 oc22 kV22 dc22 pm22 cd22 ct22 oc23 kV23 dc23 pm23 cd23 ct23 oc24 kV24 dc24 pm24 cd24 ct24 : Value} {t_NOUGHT : Tok} {p_SIGNS : Addr} {oc_SIGNS : Value} {od_SIGNS : Option Addr} {n_SIGNS : Nat} {sl_SIGNS : Array (Option Value)} {t_SIGNS0 t_SIGNS1 t_SIGNS2 : Tok} {t_LONGEST : Tok} {t_MOST_TUPLES : Tok} {p_NoText : Addr} {p_NoLetter : Addr} {p_NoName : Addr} {p_NoReason : Addr} {p_NoRule : Addr} {p_NoRung : Addr} {p_SayError : Addr} {p_TooMany : Addr}
    (a1 : PySem.W.nsIn K mainGlobals "is_word" = some (some (.ref f1))) (l1 : K.lookup f1 = some ⟨oc1, od1, .func (PySem.W.fnOf "is_word" "is_word" (defArgs s_is_word) (defBody s_is_word) (defScope s_is_word) .none kV1 dc1 pm1 an1 cd1 ct1), sl1⟩) (c1 : PySem.W.codeIn K cd1 "is_word" = true) (k1 : PySem.W.keepIn K (.ref f1) = true)
    (a2 : PySem.W.nsIn K mainGlobals "is_letter" = some (some (.ref f2))) (l2 : K.lookup f2 = some ⟨oc2, od2, .func (PySem.W.fnOf "is_letter" "is_letter" (defArgs s_is_letter) (defBody s_is_letter) (defScope s_is_letter) .none kV2 dc2 pm2 an2 cd2 ct2), sl2⟩) (c2 : PySem.W.codeIn K cd2 "is_letter" = true) (k2 : PySem.W.keepIn K (.ref f2) = true)
    (a3 : PySem.W.nsIn K mainGlobals "word_ahead" = some (some (.ref f3))) (l3 : K.lookup f3 = some ⟨oc3, od3, .func (PySem.W.fnOf "word_ahead" "word_ahead" (defArgs s_word_ahead) (defBody s_word_ahead) (defScope s_word_ahead) .none kV3 dc3 pm3 an3 cd3 ct3), sl3⟩) (c3 : PySem.W.codeIn K cd3 "word_ahead" = true) (k3 : PySem.W.keepIn K (.ref f3) = true)
    (a4 : PySem.W.nsIn K mainGlobals "behind_mark" = some (some (.ref f4))) (l4 : K.lookup f4 = some ⟨oc4, od4, .func (PySem.W.fnOf "behind_mark" "behind_mark" (defArgs s_behind_mark) (defBody s_behind_mark) (defScope s_behind_mark) .none kV4 dc4 pm4 an4 cd4 ct4), sl4⟩) (c4 : PySem.W.codeIn K cd4 "behind_mark" = true) (k4 : PySem.W.keepIn K (.ref f4) = true)
    (a5 : PySem.W.nsIn K mainGlobals "read_sign" = some (some (.ref f5))) (l5 : K.lookup f5 = some ⟨oc5, od5, .func (PySem.W.fnOf "read_sign" "read_sign" (defArgs s_read_sign) (defBody s_read_sign) (defScope s_read_sign) .none kV5 dc5 pm5 an5 cd5 ct5), sl5⟩) (c5 : PySem.W.codeIn K cd5 "read_sign" = true) (k5 : PySem.W.keepIn K (.ref f5) = true)
    (a6 : PySem.W.nsIn K mainGlobals "read_ahead" = some (some (.ref f6))) (l6 : K.lookup f6 = some ⟨oc6, od6, .func (PySem.W.fnOf "read_ahead" "read_ahead" (defArgs s_read_ahead) (defBody s_read_ahead) (defScope s_read_ahead) .none kV6 dc6 pm6 an6 cd6 ct6), sl6⟩) (c6 : PySem.W.codeIn K cd6 "read_ahead" = true) (k6 : PySem.W.keepIn K (.ref f6) = true)
    (a7 : PySem.W.nsIn K mainGlobals "read" = some (some (.ref f7))) (l7 : K.lookup f7 = some ⟨oc7, od7, .func (PySem.W.fnOf "read" "read" (defArgs s_read) (defBody s_read) (defScope s_read) .none kV7 dc7 pm7 an7 cd7 ct7), sl7⟩) (c7 : PySem.W.codeIn K cd7 "read" = true) (k7 : PySem.W.keepIn K (.ref f7) = true)
    (a8 : PySem.W.nsIn K mainGlobals "_law_cell" = some (some (.ref f8))) (l8 : K.lookup f8 = some ⟨oc8, od8, .func (PySem.W.fnOf "_law_cell" "_law_cell" (defArgs s_law_cell) (defBody s_law_cell) (defScope s_law_cell) .none kV8 dc8 pm8 an8 cd8 ct8), sl8⟩) (c8 : PySem.W.codeIn K cd8 "_law_cell" = true) (k8 : PySem.W.keepIn K (.ref f8) = true)
    (a9 : PySem.W.nsIn K mainGlobals "_law_bag" = some (some (.ref f9))) (l9 : K.lookup f9 = some ⟨oc9, od9, .func (PySem.W.fnOf "_law_bag" "_law_bag" (defArgs s_law_bag) (defBody s_law_bag) (defScope s_law_bag) .none kV9 dc9 pm9 an9 cd9 ct9), sl9⟩) (c9 : PySem.W.codeIn K cd9 "_law_bag" = true) (k9 : PySem.W.keepIn K (.ref f9) = true)
    (a10 : PySem.W.nsIn K mainGlobals "_law_take" = some (some (.ref f10))) (l10 : K.lookup f10 = some ⟨oc10, od10, .func (PySem.W.fnOf "_law_take" "_law_take" (defArgs s_law_take) (defBody s_law_take) (defScope s_law_take) .none kV10 dc10 pm10 an10 cd10 ct10), sl10⟩) (c10 : PySem.W.codeIn K cd10 "_law_take" = true) (k10 : PySem.W.keepIn K (.ref f10) = true)
    (a11 : PySem.W.nsIn K mainGlobals "_law_names" = some (some (.ref f11))) (l11 : K.lookup f11 = some ⟨oc11, od11, .func (PySem.W.fnOf "_law_names" "_law_names" (defArgs s_law_names) (defBody s_law_names) (defScope s_law_names) .none kV11 dc11 pm11 an11 cd11 ct11), sl11⟩) (c11 : PySem.W.codeIn K cd11 "_law_names" = true) (k11 : PySem.W.keepIn K (.ref f11) = true)
    (a12 : PySem.W.nsIn K mainGlobals "_law_statement" = some (some (.ref f12))) (l12 : K.lookup f12 = some ⟨oc12, od12, .func (PySem.W.fnOf "_law_statement" "_law_statement" (defArgs s_law_statement) (defBody s_law_statement) (defScope s_law_statement) .none kV12 dc12 pm12 an12 cd12 ct12), sl12⟩) (c12 : PySem.W.codeIn K cd12 "_law_statement" = true) (k12 : PySem.W.keepIn K (.ref f12) = true)
    (a13 : PySem.W.nsIn K mainGlobals "_law_ends" = some (some (.ref f13))) (l13 : K.lookup f13 = some ⟨oc13, od13, .func (PySem.W.fnOf "_law_ends" "_law_ends" (defArgs s_law_ends) (defBody s_law_ends) (defScope s_law_ends) .none kV13 dc13 pm13 an13 cd13 ct13), sl13⟩) (c13 : PySem.W.codeIn K cd13 "_law_ends" = true) (k13 : PySem.W.keepIn K (.ref f13) = true)
    (a14 : PySem.W.nsIn K mainGlobals "_law_tuples" = some (some (.ref f14))) (l14 : K.lookup f14 = some ⟨oc14, od14, .func (PySem.W.fnOf "_law_tuples" "_law_tuples" (defArgs s_law_tuples) (defBody s_law_tuples) (defScope s_law_tuples) .none kV14 dc14 pm14 an14 cd14 ct14), sl14⟩) (c14 : PySem.W.codeIn K cd14 "_law_tuples" = true) (k14 : PySem.W.keepIn K (.ref f14) = true)
    (a15 : PySem.W.nsIn K mainGlobals "_law_is_letter" = some (some (.ref f15))) (l15 : K.lookup f15 = some ⟨oc15, od15, .func (PySem.W.fnOf "_law_is_letter" "_law_is_letter" (defArgs s_law_is_letter) (defBody s_law_is_letter) (defScope s_law_is_letter) .none kV15 dc15 pm15 an15 cd15 ct15), sl15⟩) (c15 : PySem.W.codeIn K cd15 "_law_is_letter" = true) (k15 : PySem.W.keepIn K (.ref f15) = true)
    (a16 : PySem.W.nsIn K mainGlobals "_law_is_statement" = some (some (.ref f16))) (l16 : K.lookup f16 = some ⟨oc16, od16, .func (PySem.W.fnOf "_law_is_statement" "_law_is_statement" (defArgs s_law_is_statement) (defBody s_law_is_statement) (defScope s_law_is_statement) .none kV16 dc16 pm16 an16 cd16 ct16), sl16⟩) (c16 : PySem.W.codeIn K cd16 "_law_is_statement" = true) (k16 : PySem.W.keepIn K (.ref f16) = true)
    (a17 : PySem.W.nsIn K mainGlobals "_law_is_only" = some (some (.ref f17))) (l17 : K.lookup f17 = some ⟨oc17, od17, .func (PySem.W.fnOf "_law_is_only" "_law_is_only" (defArgs s_law_is_only) (defBody s_law_is_only) (defScope s_law_is_only) .none kV17 dc17 pm17 an17 cd17 ct17), sl17⟩) (c17 : PySem.W.codeIn K cd17 "_law_is_only" = true) (k17 : PySem.W.keepIn K (.ref f17) = true)
    (a18 : PySem.W.nsIn K mainGlobals "_law_text" = some (some (.ref f18))) (l18 : K.lookup f18 = some ⟨oc18, od18, .func (PySem.W.fnOf "_law_text" "_law_text" (defArgs s_law_text) (defBody s_law_text) (defScope s_law_text) .none kV18 dc18 pm18 an18 cd18 ct18), sl18⟩) (c18 : PySem.W.codeIn K cd18 "_law_text" = true) (k18 : PySem.W.keepIn K (.ref f18) = true)
    (a19 : PySem.W.nsIn K mainGlobals "_law_words" = some (some (.ref f19))) (l19 : K.lookup f19 = some ⟨oc19, od19, .func (PySem.W.fnOf "_law_words" "_law_words" (defArgs s_law_words) (defBody s_law_words) (defScope s_law_words) .none kV19 dc19 pm19 an19 cd19 ct19), sl19⟩) (c19 : PySem.W.codeIn K cd19 "_law_words" = true) (k19 : PySem.W.keepIn K (.ref f19) = true)
    (a20 : PySem.W.nsIn K mainGlobals "_law_taken" = some (some (.ref f20))) (l20 : K.lookup f20 = some ⟨oc20, od20, .func (PySem.W.fnOf "_law_taken" "_law_taken" (defArgs s_law_taken) (defBody s_law_taken) (defScope s_law_taken) .none kV20 dc20 pm20 an20 cd20 ct20), sl20⟩) (c20 : PySem.W.codeIn K cd20 "_law_taken" = true) (k20 : PySem.W.keepIn K (.ref f20) = true)
    (a21 : PySem.W.nsIn K mainGlobals "_law_due" = some (some (.ref f21))) (l21 : K.lookup f21 = some ⟨oc21, od21, .func (PySem.W.fnOf "_law_due" "_law_due" (defArgs s_law_due) (defBody s_law_due) (defScope s_law_due) .none kV21 dc21 pm21 an21 cd21 ct21), sl21⟩) (c21 : PySem.W.codeIn K cd21 "_law_due" = true) (k21 : PySem.W.keepIn K (.ref f21) = true)
    (a22 : PySem.W.nsIn K mainGlobals "_law_spoilt" = some (some (.ref f22))) (l22 : K.lookup f22 = some ⟨oc22, od22, .func (PySem.W.fnOf "_law_spoilt" "_law_spoilt" (defArgs s_law_spoilt) (defBody s_law_spoilt) (defScope s_law_spoilt) .none kV22 dc22 pm22 an22 cd22 ct22), sl22⟩) (c22 : PySem.W.codeIn K cd22 "_law_spoilt" = true) (k22 : PySem.W.keepIn K (.ref f22) = true)
    (a23 : PySem.W.nsIn K mainGlobals "_law_answer" = some (some (.ref f23))) (l23 : K.lookup f23 = some ⟨oc23, od23, .func (PySem.W.fnOf "_law_answer" "_law_answer" (defArgs s_law_answer) (defBody s_law_answer) (defScope s_law_answer) .none kV23 dc23 pm23 an23 cd23 ct23), sl23⟩) (c23 : PySem.W.codeIn K cd23 "_law_answer" = true) (k23 : PySem.W.keepIn K (.ref f23) = true)
    (a24 : PySem.W.nsIn K mainGlobals "law" = some (some (.ref f24))) (l24 : K.lookup f24 = some ⟨oc24, od24, .func (PySem.W.fnOf "law" "law" (defArgs s_law) (defBody s_law) (defScope s_law) .none kV24 dc24 pm24 an24 cd24 ct24), sl24⟩) (c24 : PySem.W.codeIn K cd24 "law" = true) (k24 : PySem.W.keepIn K (.ref f24) = true)
    (m_NOUGHT : PySem.W.nsIn K mainGlobals "NOUGHT" = some (some (.str "nought" t_NOUGHT)))
    (m_SIGNS : PySem.W.nsIn K mainGlobals "SIGNS" = some (some (.ref p_SIGNS))) (o_SIGNS : K.lookup p_SIGNS = some ⟨oc_SIGNS, od_SIGNS, .seq #[.str "and" t_SIGNS0, .str "or" t_SIGNS1, .str "gives" t_SIGNS2] n_SIGNS, sl_SIGNS⟩) (q_SIGNS : oc_SIGNS = .type "tuple")
    (m_LONGEST : PySem.W.nsIn K mainGlobals "LONGEST" = some (some (.int 8 t_LONGEST)))
    (m_MOST_TUPLES : PySem.W.nsIn K mainGlobals "MOST_TUPLES" = some (some (.int 10 t_MOST_TUPLES)))
    (m_NoText : PySem.W.nsIn K mainGlobals "NoText" = some (some (.ref p_NoText))) (x_NoText : PySem.W.excIn K p_NoText vE "ValueError.__new__" = true)
    (m_NoLetter : PySem.W.nsIn K mainGlobals "NoLetter" = some (some (.ref p_NoLetter)))
    (m_NoName : PySem.W.nsIn K mainGlobals "NoName" = some (some (.ref p_NoName)))
    (m_NoReason : PySem.W.nsIn K mainGlobals "NoReason" = some (some (.ref p_NoReason)))
    (m_NoRule : PySem.W.nsIn K mainGlobals "NoRule" = some (some (.ref p_NoRule)))
    (m_NoRung : PySem.W.nsIn K mainGlobals "NoRung" = some (some (.ref p_NoRung)))
    (m_SayError : PySem.W.nsIn K mainGlobals "SayError" = some (some (.ref p_SayError)))
    (m_TooMany : PySem.W.nsIn K mainGlobals "TooMany" = some (some (.ref p_TooMany)))
    (xa_NoText : PySem.W.isClsIn K p_NoText = true) (xg_NoText : PySem.W.findIn K (.ref p_NoText) "__getattribute__" = some (some (.builtin "BaseException.__getattribute__"))) (xh_NoText : PySem.W.findIn K (.ref p_NoText) "__getattr__" = some none) (xi_NoText : PySem.W.findIn K (.ref p_NoText) "__class__" = some (some (.builtin "object.__class__"))) (xo_NoText : PySem.W.mroIn K p_NoText (.type "object") = some true) (xe_NoText : PySem.W.mroIn K p_NoText (.type "BaseException") = some true)
    (ya_NoText_SayError : PySem.W.subIn K (.ref p_SayError) (.type "BaseException") = some true) (yb_NoText_SayError : PySem.W.isClsIn K p_SayError = true) (yc_NoText_SayError : PySem.W.typeIn K (.ref p_SayError) = some (.type "type")) (yd_NoText_SayError : PySem.W.subIn K (.ref p_NoText) (.ref p_SayError) = some true)
    (wi0_NoText : PySem.W.kitAny K (.ref p_NoText) [.ref p_NoLetter, .ref p_NoName, .ref p_NoReason, .ref p_NoRule, .ref p_NoRung, .ref p_TooMany] = some false)
    (wi1_NoText : PySem.W.kitOne K (.ref p_NoText) (.type "ValueError") = some true)
    (wi2_NoText : PySem.W.kitOne K (.ref p_NoText) (.ref p_NoText) = some true)
    (z_ValueError : PySem.W.nsIn K mainGlobals "ValueError" = some none)
    (z_all : PySem.W.nsIn K mainGlobals "all" = some none)
    (z_int : PySem.W.nsIn K mainGlobals "int" = some none)
    (z_isinstance : PySem.W.nsIn K mainGlobals "isinstance" = some none)
    (z_len : PySem.W.nsIn K mainGlobals "len" = some none)
    (z_max : PySem.W.nsIn K mainGlobals "max" = some none)
    (z_min : PySem.W.nsIn K mainGlobals "min" = some none)
    (z_range : PySem.W.nsIn K mainGlobals "range" = some none)
    (z_str : PySem.W.nsIn K mainGlobals "str" = some none)
    (z_tuple : PySem.W.nsIn K mainGlobals "tuple" = some none) :
    ∃ fd : FuncData, (∀ (s : Shared) (v : Value), BindsTo s fd ⟨[v], []⟩ [("_law_script", v)]) ∧ ∀ base : Heap, K.In base → base.Ns mainGlobals mg → BMod base mg → FnOk l.prog w K mg base CX0 123 fa fd ["_law_script"] (spLaw K) := by
  have e := hfa.symm.trans (PySem.W.mg_of X G a24)
  cases e
  have F1 := fun_mk (st := s_is_word) l1 c1 k1
  have b1 := F1.binds (ps := ["thing"]) fun _ _ _ _ _ _ us hl => match us, hl with | [_], _ => rfl
  have D1 : Def K mg "is_word" s_is_word ["thing"] := ⟨_, _, F1, b1, PySem.W.mg_of X G a1⟩
  have F2 := fun_mk (st := s_is_letter) l2 c2 k2
  have b2 := F2.binds (ps := ["thing"]) fun _ _ _ _ _ _ us hl => match us, hl with | [_], _ => rfl
  have D2 : Def K mg "is_letter" s_is_letter ["thing"] := ⟨_, _, F2, b2, PySem.W.mg_of X G a2⟩
  have F3 := fun_mk (st := s_word_ahead) l3 c3 k3
  have b3 := F3.binds (ps := ["text"]) fun _ _ _ _ _ _ us hl => match us, hl with | [_], _ => rfl
  have D3 : Def K mg "word_ahead" s_word_ahead ["text"] := ⟨_, _, F3, b3, PySem.W.mg_of X G a3⟩
  have F4 := fun_mk (st := s_behind_mark) l4 c4 k4
  have b4 := F4.binds (ps := ["text", "mark"]) fun _ _ _ _ _ _ us hl => match us, hl with | [_, _], _ => rfl
  have D4 : Def K mg "behind_mark" s_behind_mark ["text", "mark"] := ⟨_, _, F4, b4, PySem.W.mg_of X G a4⟩
  have F5 := fun_mk (st := s_read_sign) l5 c5 k5
  have b5 := F5.binds (ps := ["text"]) fun _ _ _ _ _ _ us hl => match us, hl with | [_], _ => rfl
  have D5 : Def K mg "read_sign" s_read_sign ["text"] := ⟨_, _, F5, b5, PySem.W.mg_of X G a5⟩
  have F6 := fun_mk (st := s_read_ahead) l6 c6 k6
  have b6 := F6.binds (ps := ["text"]) fun _ _ _ _ _ _ us hl => match us, hl with | [_], _ => rfl
  have D6 : Def K mg "read_ahead" s_read_ahead ["text"] := ⟨_, _, F6, b6, PySem.W.mg_of X G a6⟩
  have F7 := fun_mk (st := s_read) l7 c7 k7
  have b7 := F7.binds (ps := ["text"]) fun _ _ _ _ _ _ us hl => match us, hl with | [_], _ => rfl
  have D7 : Def K mg "read" s_read ["text"] := ⟨_, _, F7, b7, PySem.W.mg_of X G a7⟩
  have F8 := fun_mk (st := s_law_cell) l8 c8 k8
  have b8 := F8.binds (ps := ["_law_script", "_law_k"]) fun _ _ _ _ _ _ us hl => match us, hl with | [_, _], _ => rfl
  have D8 : Def K mg "_law_cell" s_law_cell ["_law_script", "_law_k"] := ⟨_, _, F8, b8, PySem.W.mg_of X G a8⟩
  have F9 := fun_mk (st := s_law_bag) l9 c9 k9
  have b9 := F9.binds (ps := ["_law_script", "_law_at"]) fun _ _ _ _ _ _ us hl => match us, hl with | [_, _], _ => rfl
  have D9 : Def K mg "_law_bag" s_law_bag ["_law_script", "_law_at"] := ⟨_, _, F9, b9, PySem.W.mg_of X G a9⟩
  have F10 := fun_mk (st := s_law_take) l10 c10 k10
  have b10 := F10.binds (ps := ["_law_bag_here", "_law_many"]) fun _ _ _ _ _ _ us hl => match us, hl with | [_, _], _ => rfl
  have D10 : Def K mg "_law_take" s_law_take ["_law_bag_here", "_law_many"] := ⟨_, _, F10, b10, PySem.W.mg_of X G a10⟩
  have F11 := fun_mk (st := s_law_names) l11 c11 k11
  have b11 := F11.binds (ps := ["_law_bag_here", "_law_many"]) fun _ _ _ _ _ _ us hl => match us, hl with | [_, _], _ => rfl
  have D11 : Def K mg "_law_names" s_law_names ["_law_bag_here", "_law_many"] := ⟨_, _, F11, b11, PySem.W.mg_of X G a11⟩
  have F12 := fun_mk (st := s_law_statement) l12 c12 k12
  have b12 := F12.binds (ps := ["_law_bag_here", "_law_names_here", "_law_many"]) fun _ _ _ _ _ _ us hl => match us, hl with | [_, _, _], _ => rfl
  have D12 : Def K mg "_law_statement" s_law_statement ["_law_bag_here", "_law_names_here", "_law_many"] := ⟨_, _, F12, b12, PySem.W.mg_of X G a12⟩
  have F13 := fun_mk (st := s_law_ends) l13 c13 k13
  have b13 := F13.binds (ps := ["_law_statement_here"]) fun _ _ _ _ _ _ us hl => match us, hl with | [_], _ => rfl
  have D13 : Def K mg "_law_ends" s_law_ends ["_law_statement_here"] := ⟨_, _, F13, b13, PySem.W.mg_of X G a13⟩
  have F14 := fun_mk (st := s_law_tuples) l14 c14 k14
  have b14 := F14.binds (ps := ["_law_statement_here"]) fun _ _ _ _ _ _ us hl => match us, hl with | [_], _ => rfl
  have D14 : Def K mg "_law_tuples" s_law_tuples ["_law_statement_here"] := ⟨_, _, F14, b14, PySem.W.mg_of X G a14⟩
  have F15 := fun_mk (st := s_law_is_letter) l15 c15 k15
  have b15 := F15.binds (ps := ["_law_thing"]) fun _ _ _ _ _ _ us hl => match us, hl with | [_], _ => rfl
  have D15 : Def K mg "_law_is_letter" s_law_is_letter ["_law_thing"] := ⟨_, _, F15, b15, PySem.W.mg_of X G a15⟩
  have F16 := fun_mk (st := s_law_is_statement) l16 c16 k16
  have b16 := F16.binds (ps := ["_law_thing"]) fun _ _ _ _ _ _ us hl => match us, hl with | [_], _ => rfl
  have D16 : Def K mg "_law_is_statement" s_law_is_statement ["_law_thing"] := ⟨_, _, F16, b16, PySem.W.mg_of X G a16⟩
  have F17 := fun_mk (st := s_law_is_only) l17 c17 k17
  have b17 := F17.binds (ps := ["_law_e"]) fun _ _ _ _ _ _ us hl => match us, hl with | [_], _ => rfl
  have D17 : Def K mg "_law_is_only" s_law_is_only ["_law_e"] := ⟨_, _, F17, b17, PySem.W.mg_of X G a17⟩
  have F18 := fun_mk (st := s_law_text) l18 c18 k18
  have b18 := F18.binds (ps := ["_law_statement_here"]) fun _ _ _ _ _ _ us hl => match us, hl with | [_], _ => rfl
  have D18 : Def K mg "_law_text" s_law_text ["_law_statement_here"] := ⟨_, _, F18, b18, PySem.W.mg_of X G a18⟩
  have F19 := fun_mk (st := s_law_words) l19 c19 k19
  have b19 := F19.binds (ps := ["_law_text_here"]) fun _ _ _ _ _ _ us hl => match us, hl with | [_], _ => rfl
  have D19 : Def K mg "_law_words" s_law_words ["_law_text_here"] := ⟨_, _, F19, b19, PySem.W.mg_of X G a19⟩
  have F20 := fun_mk (st := s_law_taken) l20 c20 k20
  have b20 := F20.binds (ps := ["_law_words_here"]) fun _ _ _ _ _ _ us hl => match us, hl with | [_], _ => rfl
  have D20 : Def K mg "_law_taken" s_law_taken ["_law_words_here"] := ⟨_, _, F20, b20, PySem.W.mg_of X G a20⟩
  have F21 := fun_mk (st := s_law_due) l21 c21 k21
  have b21 := F21.binds (ps := ["_law_text_here"]) fun _ _ _ _ _ _ us hl => match us, hl with | [_], _ => rfl
  have D21 : Def K mg "_law_due" s_law_due ["_law_text_here"] := ⟨_, _, F21, b21, PySem.W.mg_of X G a21⟩
  have F22 := fun_mk (st := s_law_spoilt) l22 c22 k22
  have b22 := F22.binds (ps := ["_law_bag_here", "_law_text_here"]) fun _ _ _ _ _ _ us hl => match us, hl with | [_, _], _ => rfl
  have D22 : Def K mg "_law_spoilt" s_law_spoilt ["_law_bag_here", "_law_text_here"] := ⟨_, _, F22, b22, PySem.W.mg_of X G a22⟩
  have F23 := fun_mk (st := s_law_answer) l23 c23 k23
  have b23 := F23.binds (ps := ["_law_text_here"]) fun _ _ _ _ _ _ us hl => match us, hl with | [_], _ => rfl
  have D23 : Def K mg "_law_answer" s_law_answer ["_law_text_here"] := ⟨_, _, F23, b23, PySem.W.mg_of X G a23⟩
  have F24 := fun_mk (st := s_law) l24 c24 k24
  have b24 := F24.binds (ps := ["_law_script"]) fun _ _ _ _ _ _ us hl => match us, hl with | [_], _ => rfl
  have D24 : Def K mg "law" s_law ["_law_script"] := ⟨_, _, F24, b24, PySem.W.mg_of X G a24⟩
  have B : Blt mg := ⟨PySem.W.mg_none_of X G z_ValueError, PySem.W.mg_none_of X G z_all, PySem.W.mg_none_of X G z_int, PySem.W.mg_none_of X G z_isinstance, PySem.W.mg_none_of X G z_len, PySem.W.mg_none_of X G z_max, PySem.W.mg_none_of X G z_min, PySem.W.mg_none_of X G z_range, PySem.W.mg_none_of X G z_str, PySem.W.mg_none_of X G z_tuple⟩
  have C : Cns w K mg (fun _ => 0) := ⟨trivial, cn_str (PySem.W.mg_of X G m_NOUGHT), cn_strs (PySem.W.mg_of X G m_SIGNS) o_SIGNS q_SIGNS (by show 3 ≤ sizeLine; decide) (.cons ⟨_, rfl⟩ (.cons ⟨_, rfl⟩ (.cons ⟨_, rfl⟩ .nil))), cn_int (PySem.W.mg_of X G m_LONGEST), cn_int (PySem.W.mg_of X G m_MOST_TUPLES), ⟨p_NoText, PySem.W.mg_of X G m_NoText, x_NoText⟩, ⟨p_NoText, PySem.W.mg_of X G m_NoText, ⟨xa_NoText, xg_NoText, xh_NoText, xi_NoText, xo_NoText, xe_NoText⟩⟩, ⟨p_NoText, p_SayError, PySem.W.mg_of X G m_NoText, PySem.W.mg_of X G m_SayError, exm_of ya_NoText_SayError yb_NoText_SayError yc_NoText_SayError yd_NoText_SayError⟩, ⟨p_NoText, p_NoLetter, p_NoName, p_NoReason, p_NoRule, p_NoRung, p_TooMany, PySem.W.mg_of X G m_NoText, PySem.W.mg_of X G m_NoLetter, PySem.W.mg_of X G m_NoName, PySem.W.mg_of X G m_NoReason, PySem.W.mg_of X G m_NoRule, PySem.W.mg_of X G m_NoRung, PySem.W.mg_of X G m_TooMany, wi0_NoText⟩, ⟨p_NoText, PySem.W.mg_of X G m_NoText, wi1_NoText⟩, ⟨p_NoText, p_NoText, PySem.W.mg_of X G m_NoText, PySem.W.mg_of X G m_NoText, wi2_NoText⟩⟩
  refine ⟨PySem.W.fnOf "law" "law" (defArgs s_law) (defBody s_law) (defScope s_law) .none kV24 dc24 pm24 an24 cd24 ct24, fun s v => .of_eq rfl, fun base _ _ bm => ?_⟩
  have c_law_cell := ok_law_cell (P := l.prog) (w := w) (base := base) D8 B C
  have c_law_bag := ok_law_bag (P := l.prog) (w := w) (base := base) D9 B C c_law_cell
  have c_law_take := ok_law_take (P := l.prog) (w := w) (base := base) D10 B C
  have c_law_names := ok_law_names (P := l.prog) (w := w) (base := base) D11 B C c_law_take
  have c_law_statement := (ok_law_statement (P := l.prog) (w := w) (base := base) D12 B C c_law_take 12).mono (j := 13) (by decide)
  have c_law_text := (ok_law_text (P := l.prog) (w := w) (base := base) D18 B C 20).mono (j := 20) (by decide)
  have c_law_ends := (ok_law_ends (P := l.prog) (w := w) (base := base) D13 B C 120).mono (j := 120) (by decide)
  have c_law_tuples := ok_law_tuples (P := l.prog) (w := w) (base := base) D14 B C c_law_ends
  have c_law_is_letter := ok_law_is_letter (P := l.prog) (w := w) (base := base) D15 B C
  have c_law_is_statement := (ok_law_is_statement (P := l.prog) (w := w) (base := base) D16 B C c_law_is_letter 120).mono (j := 121) (by decide)
  have c_law_words := ok_law_words (P := l.prog) (w := w) (base := base) D19 B C
  have c_law_taken := (ok_law_taken (P := l.prog) (w := w) (base := base) D20 B C 100).mono (j := 100) (by decide)
  have c_law_due := ok_law_due (P := l.prog) (w := w) (base := base) D21 B C c_law_tuples c_law_is_statement c_law_words c_law_taken
  have c_law_spoilt := ok_law_spoilt (P := l.prog) (w := w) (base := base) D22 B C c_law_take
  have c_is_word := ok_is_word (P := l.prog) (w := w) (base := base) D1 B C
  have c_is_letter := ok_is_letter (P := l.prog) (w := w) (base := base) D2 B C c_is_word
  have c_word_ahead := ok_word_ahead (P := l.prog) (w := w) (base := base) D3 B C
  have r_behind_mark := rk_behind_mark (P := l.prog) (w := w) (base := base) D4 B C
  have c_behind_mark := ok_behind_mark (P := l.prog) (w := w) (base := base) D4 B C
  have r_read_sign := rk_read_sign (P := l.prog) (w := w) (base := base) D5 B C c_word_ahead c_behind_mark r_behind_mark
  have c_read_sign := ok_read_sign (P := l.prog) (w := w) (base := base) D5 B C c_word_ahead c_behind_mark r_behind_mark
  have r_read_ahead := rk_read_ahead (P := l.prog) (w := w) (base := base) D6 B C c_is_letter c_word_ahead c_behind_mark c_read_sign r_behind_mark r_read_sign 20
  have c_read_ahead := (ok_read_ahead (P := l.prog) (w := w) (base := base) D6 B C c_is_letter c_word_ahead c_behind_mark c_read_sign r_behind_mark r_read_sign 20).mono (j := 22) (by decide)
  have r_read := rk_read (P := l.prog) (w := w) (base := base) D7 B C c_read_ahead r_read_ahead
  have c_read := ok_read (P := l.prog) (w := w) (base := base) D7 B C c_read_ahead r_read_ahead
  have c_law_answer := ok_law_answer (P := l.prog) (w := w) (base := base) D23 B C c_read r_read D17
  exact (raw_law F24 B C c_law_bag c_law_take c_law_names c_law_statement c_law_text c_law_due c_law_spoilt c_law_answer).imp (law_imp hF)
end K51
set_option Elab.async false
set_option linter.all false
set_option maxRecDepth 100000
namespace Sh
open PySem L2 Ab
set_option autoImplicit false
def Kp (bs : List Nat) (h h' : AHp) : Prop := h.length ≤ h'.length ∧ ∀ i, i < h.length → i ∉ bs → h'[i]? = h[i]?
theorem Kp.refl {bs : List Nat} {h : AHp} : Kp bs h h := ⟨Nat.le_refl _, fun _ _ _ => rfl⟩
theorem Kp.trans {bs : List Nat} {h h1 h2 : AHp} (a : Kp bs h h1) (b : Kp bs h1 h2) : Kp bs h h2 := ⟨Nat.le_trans a.1 b.1, fun i hi hb => (b.2 i (Nat.lt_of_lt_of_le hi a.1) hb).trans (a.2 i hi hb)⟩
theorem Kp.more {bs cs : List Nat} {h h' : AHp} (a : Kp bs h h') (s : ∀ i ∈ bs, i ∈ cs) : Kp cs h h' := ⟨a.1, fun i hi hb => a.2 i hi fun m => hb (s i m)⟩
theorem Kp.nil {bs : List Nat} {h h' : AHp} (a : Kp [] h h') : Kp bs h h' := a.more fun i m => absurd m (by simp)
theorem Kp.app {bs : List Nat} (h g : AHp) : Kp bs h (h ++ g) := ⟨by simp, fun i hi _ => by rw [List.getElem?_append_left hi]⟩
theorem Kp.set {h : AHp} (b : Nat) (o : AO) : Kp [b] h (h.set b o) := ⟨by simp, fun i _ hb => by rw [List.getElem?_set_ne (fun e => hb (by simp [e]))]⟩
theorem Kp.get {bs : List Nat} {h h' : AHp} (a : Kp bs h h') {i : Nat} {o : AO} (e : h[i]? = some o) (hb : i ∉ bs) : h'[i]? = some o := (a.2 i (List.getElem?_eq_some_iff.mp e).1 hb).trans e
theorem Kp.drop {bs : List Nat} {w : Nat} {h h1 h2 : AHp} (a : Kp bs h h1) (b : Kp (w :: bs) h1 h2) (hw : h.length ≤ w) : Kp bs h h2 := ⟨Nat.le_trans a.1 b.1, fun i hi hb => (b.2 i (Nat.lt_of_lt_of_le hi a.1) (by
  intro m
  rcases List.mem_cons.mp m with e | m
  · omega
  · exact hb m)).trans (a.2 i hi hb)⟩
theorem lt_of_get {h : AHp} {i : Nat} {o : AO} (e : h[i]? = some o) : i < h.length := (List.getElem?_eq_some_iff.mp e).1
theorem app_get (h : AHp) (o : AO) : (h ++ [o])[h.length]? = some o := by simp
theorem set_get {h : AHp} {b : Nat} {o o' : AO} (hb : h[b]? = some o) : (h.set b o')[b]? = some o' := by
  rw [List.getElem?_set_self (lt_of_get hb)]
theorem for_range {n : Nat} {g : MG} {s : MS} {h : AHp} {τ : ASt} (I : Nat → ASt → AHp → Prop) (h0 : I 0 τ h)
    (hs : ∀ i τ h, i < n → I i τ h → ∃ τ1 h1 τ2 h2, g (.int i) τ h = some (τ1, h1) ∧ s τ1 h1 = some (.nx τ2, h2) ∧ I (i + 1) τ2 h2) :
    ∃ τ' h', forL (itR 0 n) g s n 0 τ h = some (.nx τ', h') ∧ I n τ' h' := by
  have key : ∀ m k τ h, k + m = n → I k τ h → ∃ τ' h', forL (itR 0 n) g s m k τ h = some (.nx τ', h') ∧ I n τ' h' := by
    intro m
    induction m with
    | zero =>
      intro k τ h e i
      have : k = n := by omega
      subst this
      exact ⟨τ, h, rfl, i⟩
    | succ m ih =>
      intro k τ h e i
      obtain ⟨τ1, h1, τ2, h2, e1, e2, i2⟩ := hs k τ h (by omega) i
      obtain ⟨τ', h', e3, i3⟩ := ih (k + 1) τ2 h2 (by omega) i2
      refine ⟨τ', h', ?_, i3⟩
      show ((itR 0 n).get k h).bind _ = _
      have hg : (itR 0 n).get k h = some (.int k) := by
        show (if k < n then some (A.int (0 + (k : Int))) else none) = _
        rw [if_pos (by omega), Int.zero_add]
      rw [hg, ev_bind, e1, ev_bind, e2, ev_bind]
      exact e3
  exact key n 0 τ h (Nat.zero_add n) h0
def Bag (h : AHp) (b n : Nat) : Prop := ∃ x k : Int, h[b]? = some (.lst [.int x, .int k]) ∧ 0 ≤ k ∧ k ≤ n
theorem Bag.mono {h : AHp} {b n m : Nat} (x : Bag h b n) (e : n ≤ m) : Bag h b m := let ⟨x, k, h1, h2, h3⟩ := x; ⟨x, k, h1, h2, by omega⟩
theorem Bag.kp {h h' : AHp} {b n : Nat} {bs : List Nat} (x : Bag h b n) (k : Kp bs h h') (hb : b ∉ bs) : Bag h' b n := let ⟨x, q, h1, h2, h3⟩ := x; ⟨x, q, k.get h1 hb, h2, h3⟩
theorem Bag.lt {h : AHp} {b n : Nat} (x : Bag h b n) : b < h.length := let ⟨_, _, h1, _⟩ := x; lt_of_get h1
theorem take_spec {h : AHp} {b n : Nat} {m : Int} (B : Bag h b n) (hn : n ≤ 1000000) (h0 : 0 < m) (h1 : m < 1073741824) :
    ∃ r h', F_law_take [.loc b, .int m] h = some (.int r, h') ∧ 0 ≤ r ∧ r < m ∧ Bag h' b (n + 1) ∧ Kp [b] h h' ∧ h'.length = h.length := by
  obtain ⟨x, k, hb, hk0, hk1⟩ := B
  have i0 : xIx (.loc b) (.int 0) h = some (.int x, h) := v_ixL hb rfl
  have i1 : xIx (.loc b) (.int 1) h = some (.int k, h) := v_ixL hb rfl
  by_cases hk : k = 0
  · subst hk
    have s0 : xSet (.loc b) (.int 0) (.int (x / m)) h = some (h.set b (.lst [.int (x / m), .int 0])) := v_set (j := 0) hb rfl
    refine ⟨x % m, h.set b (.lst [.int (x / m), .int 0]), ?_, Int.emod_nonneg _ (by omega), Int.emod_lt_of_pos _ h0, ⟨x / m, 0, set_get hb, by omega, by omega⟩, Kp.set _ _, by simp⟩
    simp only [ap_law_take, b_law_take, ev_bind, ev_op, ev_k1, ev_k2, ev_C, ev_var, ev_kVar, ev_un, ev_ku, ev_chain, ev_kc1, ev_kc2, ev_kc3t, ev_kc3f, ev_tru, ev_kTrb, ev_kTri, ev_B, ev_kB, ev_and, ev_or, ev_not, ev_kAt, ev_kAf, ev_kOt, ev_kOf, ev_kN, ev_eand, ev_eor, ev_enot, ev_kEAt, ev_kEAf, ev_kEOt, ev_kEOf, ev_kEN, ev_eif, ev_kEIt, ev_kEIf, ev_anil, ev_acons, ev_ka1, ev_ka2, ev_tup, ev_lst, ev_call, ev_kCa, ev_seq, ev_kSn, ev_kSr, ev_kSb, ev_kSc, ev_nx, ev_bk, ev_ct, ev_ret, ev_kRt, ev_retN, ev_if, ev_kIt, ev_kIf, ev_x, ev_kX, ev_asg, ev_kAs, ev_kAs2, ev_gN, ev_gT, ev_gT3, ev_gIx, ev_kG1, ev_kG2, ev_kG3, ev_kFr, ev_kFn, ev_for, ev_kFo, ev_mt, ev_kMt2, ev_ms, ev_kMs1, ev_sl, ev_kSl1, ev_kSl2, ev_kSl3, ev_noPart, ev_part, ev_kPt, ev_rng1, ev_istr, ev_kIS, ev_ilst, ev_kILr, ev_lc, ev_kLc, ev_kLc2, ev_yes, ev_irev, List.getElem?_cons_zero, List.getElem?_cons_succ, List.set_cons_zero, List.set_cons_succ, v_addI, v_sub, v_neg, v_lt, v_le, v_gt, v_ge, v_eqI, v_neI, v_eqS, v_neS, v_neB, v_eqB, v_lenT, v_lenR, v_max, v_min, i0, i1, s0, v_mod h0, v_div ⟨h0, h1⟩, beq_self_eq_true]
  · have hkb : (k == 0) = false := by simp [hk]
    let y : Int := (x * 48271 + 7919 * k * k + 17) % 2147483647
    let h1' := h.set b (.lst [.int y, .int k])
    have g1 : h1'[b]? = some (.lst [.int y, .int k]) := set_get hb
    have s0 : xSet (.loc b) (.int 0) (.int y) h = some h1' := v_set (j := 0) hb rfl
    have j1 : xIx (.loc b) (.int 1) h1' = some (.int k, h1') := v_ixL g1 rfl
    have s1 : xSet (.loc b) (.int 1) (.int (k + 1)) h1' = some (h1'.set b (.lst [.int y, .int (k + 1)])) := v_set (j := 1) g1 rfl
    have g2 : (h1'.set b (.lst [.int y, .int (k + 1)]))[b]? = some (.lst [.int y, .int (k + 1)]) := set_get g1
    have l0 : xIx (.loc b) (.int 0) (h1'.set b (.lst [.int y, .int (k + 1)])) = some (.int y, h1'.set b (.lst [.int y, .int (k + 1)])) := v_ixL g2 rfl
    refine ⟨y * 69621 % 2147483629 % m, _, ?_, Int.emod_nonneg _ (by omega), Int.emod_lt_of_pos _ h0, ⟨y, k + 1, g2, by omega, by omega⟩, (Kp.set _ _).trans (Kp.set _ _), by simp [h1']⟩
    have m1 : ∀ h, oMul (.int x) (.int 48271) h = some (.int (x * 48271), h) := fun h => v_mulR (by omega) (by omega)
    have m2 : ∀ h, oMul (.int 7919) (.int k) h = some (.int (7919 * k), h) := fun h => v_mulL (by omega) (by omega)
    have m3 : ∀ h, oMul (.int (7919 * k)) (.int k) h = some (.int (7919 * k * k), h) := fun h => v_mulR (by omega) (by omega)
    have m4 : ∀ h, oMul (.int y) (.int 69621) h = some (.int (y * 69621), h) := fun h => v_mulR (by omega) (by omega)
    have d1 : ∀ (z : Int) h, oMod (.int z) (.int 2147483647) h = some (.int (z % 2147483647), h) := fun z h => v_mod (by omega)
    have d2 : ∀ (z : Int) h, oMod (.int z) (.int 2147483629) h = some (.int (z % 2147483629), h) := fun z h => v_mod (by omega)
    have s0' : xSet (.loc b) (.int 0) (.int ((x * 48271 + 7919 * k * k + 17) % 2147483647)) h = some h1' := s0
    simp only [ap_law_take, b_law_take, ev_bind, ev_op, ev_k1, ev_k2, ev_C, ev_var, ev_kVar, ev_un, ev_ku, ev_chain, ev_kc1, ev_kc2, ev_kc3t, ev_kc3f, ev_tru, ev_kTrb, ev_kTri, ev_B, ev_kB, ev_and, ev_or, ev_not, ev_kAt, ev_kAf, ev_kOt, ev_kOf, ev_kN, ev_eand, ev_eor, ev_enot, ev_kEAt, ev_kEAf, ev_kEOt, ev_kEOf, ev_kEN, ev_eif, ev_kEIt, ev_kEIf, ev_anil, ev_acons, ev_ka1, ev_ka2, ev_tup, ev_lst, ev_call, ev_kCa, ev_seq, ev_kSn, ev_kSr, ev_kSb, ev_kSc, ev_nx, ev_bk, ev_ct, ev_ret, ev_kRt, ev_retN, ev_if, ev_kIt, ev_kIf, ev_x, ev_kX, ev_asg, ev_kAs, ev_kAs2, ev_gN, ev_gT, ev_gT3, ev_gIx, ev_kG1, ev_kG2, ev_kG3, ev_kFr, ev_kFn, ev_for, ev_kFo, ev_mt, ev_kMt2, ev_ms, ev_kMs1, ev_sl, ev_kSl1, ev_kSl2, ev_kSl3, ev_noPart, ev_part, ev_kPt, ev_rng1, ev_istr, ev_kIS, ev_ilst, ev_kILr, ev_lc, ev_kLc, ev_kLc2, ev_yes, ev_irev, List.getElem?_cons_zero, List.getElem?_cons_succ, List.set_cons_zero, List.set_cons_succ, v_addI, v_sub, v_neg, v_lt, v_le, v_gt, v_ge, v_eqI, v_neI, v_eqS, v_neS, v_neB, v_eqB, v_lenT, v_lenR, v_max, v_min, i0, i1, hkb, m1, m2, m3, d1, s0', j1, s1, l0, m4, d2, v_mod h0]
theorem atI_int {ns : List Int} {k : Nat} (h : k < ns.length) : ∃ v, atI (ns.map A.int) (k : Int) = some (.int v) := by
  refine ⟨ns[k], atI_nat ?_⟩
  rw [List.getElem?_map, List.getElem?_eq_getElem h]; rfl
theorem cell_spec {ns : List Int} (h63 : ns.length ≤ 63) {k : Nat} (hk : k ≤ 1000) (h : AHp) : ∃ v, F_law_cell [.ro (ns.map A.int), .int k] h = some (.int v, h) := by
  have hl : (ns.map A.int).length = ns.length := List.length_map _
  by_cases c : k < ns.length
  · obtain ⟨v, e⟩ := atI_int c
    refine ⟨v, ?_⟩
    have c' : decide ((k : Int) < ((ns.map A.int).length : Int)) = true := decide_eq_true (by rw [hl]; omega)
    simp only [ap_law_cell, b_law_cell, ev_bind, ev_op, ev_k1, ev_k2, ev_C, ev_var, ev_kVar, ev_un, ev_ku, ev_chain, ev_kc1, ev_kc2, ev_kc3t, ev_kc3f, ev_tru, ev_kTrb, ev_kTri, ev_B, ev_kB, ev_and, ev_or, ev_not, ev_kAt, ev_kAf, ev_kOt, ev_kOf, ev_kN, ev_eand, ev_eor, ev_enot, ev_kEAt, ev_kEAf, ev_kEOt, ev_kEOf, ev_kEN, ev_eif, ev_kEIt, ev_kEIf, ev_anil, ev_acons, ev_ka1, ev_ka2, ev_tup, ev_lst, ev_call, ev_kCa, ev_seq, ev_kSn, ev_kSr, ev_kSb, ev_kSc, ev_nx, ev_bk, ev_ct, ev_ret, ev_kRt, ev_retN, ev_if, ev_kIt, ev_kIf, ev_x, ev_kX, ev_asg, ev_kAs, ev_kAs2, ev_gN, ev_gT, ev_gT3, ev_gIx, ev_kG1, ev_kG2, ev_kG3, ev_kFr, ev_kFn, ev_for, ev_kFo, ev_mt, ev_kMt2, ev_ms, ev_kMs1, ev_sl, ev_kSl1, ev_kSl2, ev_kSl3, ev_noPart, ev_part, ev_kPt, ev_rng1, ev_istr, ev_kIS, ev_ilst, ev_kILr, ev_lc, ev_kLc, ev_kLc2, ev_yes, ev_irev, List.getElem?_cons_zero, List.getElem?_cons_succ, List.set_cons_zero, List.set_cons_succ, v_addI, v_sub, v_neg, v_lt, v_le, v_gt, v_ge, v_eqI, v_neI, v_eqS, v_neS, v_neB, v_eqB, v_lenT, v_lenR, v_max, v_min, c', v_ixR e]
  · have c' : decide ((k : Int) < ((ns.map A.int).length : Int)) = false := decide_eq_false (by rw [hl]; omega)
    have m1 : ∀ h, oMul (.int (k : Int)) (.int 7919) h = some (.int (k * 7919), h) := fun h => v_mulR (by omega) (by omega)
    have m2 : ∀ (z : Int) h, oMul (.int z) (.int 48271) h = some (.int (z * 48271), h) := fun z h => v_mulR (by omega) (by omega)
    have m3 : ∀ h, oMul (.int 2) (.int (k : Int)) h = some (.int (2 * k), h) := fun h => v_mulL (by omega) (by omega)
    have m4 : ∀ (z w : Int) h, oMul (.int (z % 65537)) (.int w) h = some (.int (z % 65537 * w), h) := fun z w h => v_mulL (by omega) (by omega)
    have d1 : ∀ (z : Int) h, oMod (.int z) (.int 65537) h = some (.int (z % 65537), h) := fun z h => v_mod (by omega)
    have d2 : ∀ (z : Int) h, oMod (.int z) (.int 65521) h = some (.int (z % 65521), h) := fun z h => v_mod (by omega)
    have d3 : ∀ (z : Int) h, oDiv (.int z) (.int 7) h = some (.int (z / 7), h) := fun z h => v_div (by omega)
    by_cases c2 : 0 < ns.length
    · have c2' : decide ((0 : Int) < ((ns.map A.int).length : Int)) = true := decide_eq_true (by rw [hl]; omega)
      have em : (k : Int) % ((ns.map A.int).length : Int) = ((k % ns.length : Nat) : Int) := by rw [hl]; omega
      obtain ⟨v, e⟩ := atI_int (Nat.mod_lt k c2)
      have m5 : ∀ h, oMod (.int (k : Int)) (.int ((ns.map A.int).length : Int)) h = some (.int ((k % ns.length : Nat) : Int), h) := fun h => by rw [v_mod (by rw [hl]; omega), em]
      simp only [ap_law_cell, b_law_cell, ev_bind, ev_op, ev_k1, ev_k2, ev_C, ev_var, ev_kVar, ev_un, ev_ku, ev_chain, ev_kc1, ev_kc2, ev_kc3t, ev_kc3f, ev_tru, ev_kTrb, ev_kTri, ev_B, ev_kB, ev_and, ev_or, ev_not, ev_kAt, ev_kAf, ev_kOt, ev_kOf, ev_kN, ev_eand, ev_eor, ev_enot, ev_kEAt, ev_kEAf, ev_kEOt, ev_kEOf, ev_kEN, ev_eif, ev_kEIt, ev_kEIf, ev_anil, ev_acons, ev_ka1, ev_ka2, ev_tup, ev_lst, ev_call, ev_kCa, ev_seq, ev_kSn, ev_kSr, ev_kSb, ev_kSc, ev_nx, ev_bk, ev_ct, ev_ret, ev_kRt, ev_retN, ev_if, ev_kIt, ev_kIf, ev_x, ev_kX, ev_asg, ev_kAs, ev_kAs2, ev_gN, ev_gT, ev_gT3, ev_gIx, ev_kG1, ev_kG2, ev_kG3, ev_kFr, ev_kFn, ev_for, ev_kFo, ev_mt, ev_kMt2, ev_ms, ev_kMs1, ev_sl, ev_kSl1, ev_kSl2, ev_kSl3, ev_noPart, ev_part, ev_kPt, ev_rng1, ev_istr, ev_kIS, ev_ilst, ev_kILr, ev_lc, ev_kLc, ev_kLc2, ev_yes, ev_irev, List.getElem?_cons_zero, List.getElem?_cons_succ, List.set_cons_zero, List.set_cons_succ, v_addI, v_sub, v_neg, v_lt, v_le, v_gt, v_ge, v_eqI, v_neI, v_eqS, v_neS, v_neB, v_eqB, v_lenT, v_lenR, v_max, v_min, c', c2', m1, m2, m3, m4, m5, d1, d2, d3, v_ixR e]
      exact ⟨_, rfl⟩
    · have c2' : decide ((0 : Int) < ((ns.map A.int).length : Int)) = false := decide_eq_false (by rw [hl]; omega)
      simp only [ap_law_cell, b_law_cell, ev_bind, ev_op, ev_k1, ev_k2, ev_C, ev_var, ev_kVar, ev_un, ev_ku, ev_chain, ev_kc1, ev_kc2, ev_kc3t, ev_kc3f, ev_tru, ev_kTrb, ev_kTri, ev_B, ev_kB, ev_and, ev_or, ev_not, ev_kAt, ev_kAf, ev_kOt, ev_kOf, ev_kN, ev_eand, ev_eor, ev_enot, ev_kEAt, ev_kEAf, ev_kEOt, ev_kEOf, ev_kEN, ev_eif, ev_kEIt, ev_kEIf, ev_anil, ev_acons, ev_ka1, ev_ka2, ev_tup, ev_lst, ev_call, ev_kCa, ev_seq, ev_kSn, ev_kSr, ev_kSb, ev_kSc, ev_nx, ev_bk, ev_ct, ev_ret, ev_kRt, ev_retN, ev_if, ev_kIt, ev_kIf, ev_x, ev_kX, ev_asg, ev_kAs, ev_kAs2, ev_gN, ev_gT, ev_gT3, ev_gIx, ev_kG1, ev_kG2, ev_kG3, ev_kFr, ev_kFn, ev_for, ev_kFo, ev_mt, ev_kMt2, ev_ms, ev_kMs1, ev_sl, ev_kSl1, ev_kSl2, ev_kSl3, ev_noPart, ev_part, ev_kPt, ev_rng1, ev_istr, ev_kIS, ev_ilst, ev_kILr, ev_lc, ev_kLc, ev_kLc2, ev_yes, ev_irev, List.getElem?_cons_zero, List.getElem?_cons_succ, List.set_cons_zero, List.set_cons_succ, v_addI, v_sub, v_neg, v_lt, v_le, v_gt, v_ge, v_eqI, v_neI, v_eqS, v_neS, v_neB, v_eqB, v_lenT, v_lenR, v_max, v_min, c', c2', m1, m2, m3, m4, d1, d2, d3]
      exact ⟨_, rfl⟩
theorem bag_spec {ns : List Int} (h63 : ns.length ≤ 63) {k : Nat} (hk : k ≤ 1000) (h : AHp) : ∃ h', F_law_bag [.ro (ns.map A.int), .int k] h = some (.loc h.length, h') ∧ Bag h' h.length (k + 1) ∧ Kp [] h h' ∧ h'.length = h.length + 1 := by
  obtain ⟨v, e⟩ := cell_spec h63 hk h
  have p1 : ∀ h, oPow (.int 10) (.int 18) h = some (.int (10 ^ 18), h) := fun h => v_pow (by omega)
  have d1 : ∀ (z : Int) h, oMod (.int z) (.int 2147483647) h = some (.int (z % 2147483647), h) := fun z h => v_mod (by omega)
  have kl : ∀ (a b : A) (h : AHp), kLs ([a, b], h) = some (.loc h.length, h ++ [.lst [a, b]]) := fun a b h => ev_kLs (by simp)
  by_cases c : (10 ^ 18 : Int) ≤ v
  · have c' : decide ((10 ^ 18 : Int) ≤ v) = true := decide_eq_true c
    refine ⟨h ++ [.lst [.int v, .int 0]], ?_, ⟨v, 0, app_get _ _, by omega, by omega⟩, Kp.app _ _, by simp⟩
    simp only [ap_law_bag, b_law_bag, ev_bind, ev_op, ev_k1, ev_k2, ev_C, ev_var, ev_kVar, ev_un, ev_ku, ev_chain, ev_kc1, ev_kc2, ev_kc3t, ev_kc3f, ev_tru, ev_kTrb, ev_kTri, ev_B, ev_kB, ev_and, ev_or, ev_not, ev_kAt, ev_kAf, ev_kOt, ev_kOf, ev_kN, ev_eand, ev_eor, ev_enot, ev_kEAt, ev_kEAf, ev_kEOt, ev_kEOf, ev_kEN, ev_eif, ev_kEIt, ev_kEIf, ev_anil, ev_acons, ev_ka1, ev_ka2, ev_tup, ev_lst, ev_call, ev_kCa, ev_seq, ev_kSn, ev_kSr, ev_kSb, ev_kSc, ev_nx, ev_bk, ev_ct, ev_ret, ev_kRt, ev_retN, ev_if, ev_kIt, ev_kIf, ev_x, ev_kX, ev_asg, ev_kAs, ev_kAs2, ev_gN, ev_gT, ev_gT3, ev_gIx, ev_kG1, ev_kG2, ev_kG3, ev_kFr, ev_kFn, ev_for, ev_kFo, ev_mt, ev_kMt2, ev_ms, ev_kMs1, ev_sl, ev_kSl1, ev_kSl2, ev_kSl3, ev_noPart, ev_part, ev_kPt, ev_rng1, ev_istr, ev_kIS, ev_ilst, ev_kILr, ev_lc, ev_kLc, ev_kLc2, ev_yes, ev_irev, List.getElem?_cons_zero, List.getElem?_cons_succ, List.set_cons_zero, List.set_cons_succ, v_addI, v_sub, v_neg, v_lt, v_le, v_gt, v_ge, v_eqI, v_neI, v_eqS, v_neS, v_neB, v_eqB, v_lenT, v_lenR, v_max, v_min, e, p1, c', kl]
  · have c' : decide ((10 ^ 18 : Int) ≤ v) = false := decide_eq_false c
    by_cases c2 : v ≤ -(10 ^ 18 : Int)
    · have c2' : decide (v ≤ -(10 ^ 18 : Int)) = true := decide_eq_true c2
      refine ⟨h ++ [.lst [.int v, .int 0]], ?_, ⟨v, 0, app_get _ _, by omega, by omega⟩, Kp.app _ _, by simp⟩
      simp only [ap_law_bag, b_law_bag, ev_bind, ev_op, ev_k1, ev_k2, ev_C, ev_var, ev_kVar, ev_un, ev_ku, ev_chain, ev_kc1, ev_kc2, ev_kc3t, ev_kc3f, ev_tru, ev_kTrb, ev_kTri, ev_B, ev_kB, ev_and, ev_or, ev_not, ev_kAt, ev_kAf, ev_kOt, ev_kOf, ev_kN, ev_eand, ev_eor, ev_enot, ev_kEAt, ev_kEAf, ev_kEOt, ev_kEOf, ev_kEN, ev_eif, ev_kEIt, ev_kEIf, ev_anil, ev_acons, ev_ka1, ev_ka2, ev_tup, ev_lst, ev_call, ev_kCa, ev_seq, ev_kSn, ev_kSr, ev_kSb, ev_kSc, ev_nx, ev_bk, ev_ct, ev_ret, ev_kRt, ev_retN, ev_if, ev_kIt, ev_kIf, ev_x, ev_kX, ev_asg, ev_kAs, ev_kAs2, ev_gN, ev_gT, ev_gT3, ev_gIx, ev_kG1, ev_kG2, ev_kG3, ev_kFr, ev_kFn, ev_for, ev_kFo, ev_mt, ev_kMt2, ev_ms, ev_kMs1, ev_sl, ev_kSl1, ev_kSl2, ev_kSl3, ev_noPart, ev_part, ev_kPt, ev_rng1, ev_istr, ev_kIS, ev_ilst, ev_kILr, ev_lc, ev_kLc, ev_kLc2, ev_yes, ev_irev, List.getElem?_cons_zero, List.getElem?_cons_succ, List.set_cons_zero, List.set_cons_succ, v_addI, v_sub, v_neg, v_lt, v_le, v_gt, v_ge, v_eqI, v_neI, v_eqS, v_neS, v_neB, v_eqB, v_lenT, v_lenR, v_max, v_min, e, p1, c', c2', kl]
    · have c2' : decide (v ≤ -(10 ^ 18 : Int)) = false := decide_eq_false c2
      refine ⟨h ++ [.lst [.int (v % 2147483647), .int (k + 1)]], ?_, ⟨_, k + 1, app_get _ _, by omega, by omega⟩, Kp.app _ _, by simp⟩
      simp only [ap_law_bag, b_law_bag, ev_bind, ev_op, ev_k1, ev_k2, ev_C, ev_var, ev_kVar, ev_un, ev_ku, ev_chain, ev_kc1, ev_kc2, ev_kc3t, ev_kc3f, ev_tru, ev_kTrb, ev_kTri, ev_B, ev_kB, ev_and, ev_or, ev_not, ev_kAt, ev_kAf, ev_kOt, ev_kOf, ev_kN, ev_eand, ev_eor, ev_enot, ev_kEAt, ev_kEAf, ev_kEOt, ev_kEOf, ev_kEN, ev_eif, ev_kEIt, ev_kEIf, ev_anil, ev_acons, ev_ka1, ev_ka2, ev_tup, ev_lst, ev_call, ev_kCa, ev_seq, ev_kSn, ev_kSr, ev_kSb, ev_kSc, ev_nx, ev_bk, ev_ct, ev_ret, ev_kRt, ev_retN, ev_if, ev_kIt, ev_kIf, ev_x, ev_kX, ev_asg, ev_kAs, ev_kAs2, ev_gN, ev_gT, ev_gT3, ev_gIx, ev_kG1, ev_kG2, ev_kG3, ev_kFr, ev_kFn, ev_for, ev_kFo, ev_mt, ev_kMt2, ev_ms, ev_kMs1, ev_sl, ev_kSl1, ev_kSl2, ev_kSl3, ev_noPart, ev_part, ev_kPt, ev_rng1, ev_istr, ev_kIS, ev_ilst, ev_kILr, ev_lc, ev_kLc, ev_kLc2, ev_yes, ev_irev, List.getElem?_cons_zero, List.getElem?_cons_succ, List.set_cons_zero, List.set_cons_succ, v_addI, v_sub, v_neg, v_lt, v_le, v_gt, v_ge, v_eqI, v_neI, v_eqS, v_neS, v_neB, v_eqB, v_lenT, v_lenR, v_max, v_min, e, p1, c', c2', kl, d1]
end Sh
set_option Elab.async false
set_option linter.all false
set_option maxRecDepth 100000
namespace Sh
open PySem L2 Ab
set_option autoImplicit false
def cs (x : Str) : List Nat := x.cps.toList
theorem cs_app (x y : Str) : cs (x ++ y) = cs x ++ cs y := by
  show (x.cps ++ y.cps).toList = _
  rw [Array.toList_append]; rfl
theorem cs_len (x : Str) : x.length = (cs x).length := by show x.cps.size = x.cps.toList.length; simp
theorem cs_ext {x y : Str} (e : cs x = cs y) : x = y := by
  obtain ⟨x⟩ := x; obtain ⟨y⟩ := y
  congr 1
  exact Array.toList_inj.mp e
theorem len_app (x y : Str) : (x ++ y).length = x.length + y.length := by rw [cs_len, cs_len, cs_len, cs_app, List.length_append]
def Low (x : Str) : Prop := ∀ c ∈ cs x, 97 ≤ c ∧ c ≤ 122
theorem Low.app {x y : Str} (a : Low x) (b : Low y) : Low (x ++ y) := fun c m => by
  rw [cs_app] at m
  rcases List.mem_append.mp m with m | m
  · exact a c m
  · exact b c m
def alpha : Str := "abcdefghijklmnopqrstuvwxyz"
theorem alpha_at {r : Int} (h0 : 0 ≤ r) (h1 : r < 26) : atI (alpha).cps.toList r = some (97 + r.toNat) := by
  have key : ∀ n : Nat, n < 26 → atI (alpha).cps.toList (n : Int) = some (97 + n) := by decide +kernel
  have := key r.toNat (by omega)
  rwa [show ((r.toNat : Nat) : Int) = r by omega] at this
def one (c : Nat) : Str := ⟨#[c]⟩
theorem cs_one (c : Nat) : cs (one c) = [c] := rfl
theorem cut_to {x : Str} {n : Nat} (h1 : n ≤ x.length) : cs (cutS x none (some (n : Int))) = (cs x).take n := by
  show ((((x.cps.toList.drop (HT.sIx x.length 0 none)).take (HT.sIx x.length x.length (some (n : Int)) - HT.sIx x.length 0 none)).toArray).toList) = _
  rw [HT.sIx_nat, HT.sIx_none, List.drop_zero, Nat.sub_zero, Nat.min_eq_left h1]
  rfl
theorem cut_from {x : Str} {n : Nat} (h1 : n ≤ x.length) : cs (cutS x (some (n : Int)) none) = (cs x).drop n := by
  show ((((x.cps.toList.drop (HT.sIx x.length 0 (some (n : Int)))).take (HT.sIx x.length x.length none - HT.sIx x.length 0 (some (n : Int)))).toArray).toList) = _
  rw [HT.sIx_nat, HT.sIx_none, Nat.min_eq_left h1]
  have hl : x.length = x.cps.toList.length := cs_len x
  rw [List.take_of_length_le (by rw [List.length_drop]; omega)]
  rfl
theorem filter_len {α : Type} (p : α → Bool) : ∀ l : List α, (l.filter p).length + (l.filter fun x => !p x).length = l.length
  | [] => rfl
  | a :: r => by
    have ih := filter_len p r
    cases h : p a with
    | true => simp [h]; omega
    | false => simp [h]; omega
def res (x : Str) : Bool := ("nought" == x) || (("and" == x) || (("or" == x) || (("gives" == x) || false)))
structure IsLet (x : Str) : Prop where
  low : Low x
  lo : 1 ≤ x.length
  hi : x.length ≤ 8
  nr : res x = false
theorem res_same {x y : Str} (hx : res x = true) (hy : res y = true) (hl : x.length = y.length) : x = y := by
  simp only [res, Bool.or_eq_true, beq_iff_eq, Bool.or_false] at hx hy
  have l1 : ("nought" : Str).length = 6 := by decide +kernel
  have l2 : ("and" : Str).length = 3 := by decide +kernel
  have l3 : ("or" : Str).length = 2 := by decide +kernel
  have l4 : ("gives" : Str).length = 5 := by decide +kernel
  rcases hx with rfl | rfl | rfl | rfl <;> rcases hy with rfl | rfl | rfl | rfl <;> first | rfl | (exfalso; omega)
def cand (w : Str) (a : Nat) (f : Int) (k : Nat) : Str := (cutS w none (some (a : Int))) ++ one (97 + ((f + 5 * (k : Int)) % 26).toNat) ++ (cutS w (some (a : Int)) none)
theorem cand_cs {w : Str} {a : Nat} {f : Int} {k : Nat} (h : a ≤ w.length) : cs (cand w a f k) = (cs w).take a ++ (97 + ((f + 5 * (k : Int)) % 26).toNat) :: (cs w).drop a := by
  unfold cand
  rw [cs_app, cs_app, cut_to h, cut_from h, cs_one, List.append_assoc]
  rfl
theorem cand_len {w : Str} {a : Nat} {f : Int} {k : Nat} (h : a ≤ w.length) : (cand w a f k).length = w.length + 1 := by
  rw [cs_len, cand_cs h, cs_len] at *
  rw [List.length_append, List.length_take, List.length_cons, List.length_drop]
  omega
theorem cand_low {w : Str} {a : Nat} {f : Int} {k : Nat} (h : a ≤ w.length) (hw : Low w) : Low (cand w a f k) := fun c m => by
  rw [cand_cs h] at m
  rcases List.mem_append.mp m with m | m
  · exact hw c (List.mem_of_mem_take m)
  · rcases List.mem_cons.mp m with rfl | m
    · omega
    · exact hw c (List.mem_of_mem_drop m)
theorem cand_inj {w : Str} {a : Nat} {f : Int} {k l : Nat} (h : a ≤ w.length) (hk : k < 26) (hl : l < 26) (e : cand w a f k = cand w a f l) : k = l := by
  have e' := congrArg cs e
  rw [cand_cs h, cand_cs h] at e'
  have e2 := List.append_cancel_left e'
  injection e2 with e3 _
  omega
def cands (w : Str) (a : Nat) (f : Int) (i : Nat) : List Str := (List.range i).map (cand w a f)
def fnd (w : Str) (a : Nat) (f : Int) (m : Nat) (i : Nat) : List Str := ((cands w a f i).filter fun x => !res x).take m
theorem fnd_succ {w : Str} {a : Nat} {f : Int} {m i : Nat} : fnd w a f m (i + 1) = if res (cand w a f i) = false ∧ (fnd w a f m i).length < m then fnd w a f m i ++ [cand w a f i] else fnd w a f m i := by
  unfold fnd cands
  rw [List.range_succ, List.map_append, List.filter_append]
  cases hr : res (cand w a f i) with
  | true =>
    rw [if_neg (by simp)]
    simp [hr]
  | false =>
    have e1 : List.filter (fun x => !res x) (List.map (cand w a f) [i]) = [cand w a f i] := by simp [hr]
    rw [e1, List.length_take]
    by_cases hl : (List.filter (fun x => !res x) (List.map (cand w a f) (List.range i))).length < m
    · rw [if_pos ⟨rfl, by omega⟩, List.take_of_length_le (by rw [List.length_append, List.length_singleton]; omega), List.take_of_length_le (by omega)]
    · rw [if_neg (by omega), List.take_append_of_le_length (by omega)]
theorem cands_nd {w : Str} {a : Nat} {f : Int} (h : a ≤ w.length) : (cands w a f 26).Nodup := by
  unfold cands List.Nodup
  rw [List.pairwise_map]
  refine List.Pairwise.imp_of_mem ?_ (List.nodup_range (n := 26))
  intro x y hx hy hne e
  exact hne (cand_inj h (List.mem_range.mp hx) (List.mem_range.mp hy) e)
theorem len_le_one {α : Type} {l : List α} (hn : l.Nodup) (h : ∀ x ∈ l, ∀ y ∈ l, x = y) : l.length ≤ 1 := by
  match l, hn, h with
  | [], _, _ => exact Nat.zero_le _
  | [x], _, _ => exact Nat.le_refl _
  | x :: y :: r, hn, h =>
    have := h x (by simp) y (by simp)
    subst this
    exact absurd hn (by simp)
theorem fnd_len {w : Str} {a : Nat} {f : Int} {m : Nat} (h : a ≤ w.length) (hm : m ≤ 25) : (fnd w a f m 26).length = m := by
  have h1 : ((cands w a f 26).filter res).length ≤ 1 := by
    refine len_le_one ((cands_nd h).sublist List.filter_sublist) ?_
    intro x hx y hy
    obtain ⟨hx1, hx2⟩ := List.mem_filter.mp hx
    obtain ⟨hy1, hy2⟩ := List.mem_filter.mp hy
    obtain ⟨i, _, rfl⟩ := List.mem_map.mp hx1
    obtain ⟨j, _, rfl⟩ := List.mem_map.mp hy1
    exact res_same hx2 hy2 (by rw [cand_len h, cand_len h])
  have h2 := filter_len res (cands w a f 26)
  have h3 : (cands w a f 26).length = 26 := by unfold cands; simp
  unfold fnd
  rw [List.length_take]
  omega
theorem fnd_mem {w : Str} {a : Nat} {f : Int} {m i : Nat} (h : a ≤ w.length) (hw : Low w) (hl : w.length ≤ 7) {x : Str} (hx : x ∈ fnd w a f m i) : IsLet x := by
  obtain ⟨h1, h2⟩ := List.mem_filter.mp (List.mem_of_mem_take hx)
  obtain ⟨k, _, rfl⟩ := List.mem_map.mp h1
  exact ⟨cand_low h hw, by rw [cand_len h]; omega, by rw [cand_len h]; omega, by simpa using h2⟩
theorem fnd_nd {w : Str} {a : Nat} {f : Int} {m : Nat} (h : a ≤ w.length) : (fnd w a f m 26).Nodup := (cands_nd h).sublist ((List.take_sublist _ _).trans List.filter_sublist)
theorem itR_n {lo : Int} {n : Nat} : (itR lo n).n = n := id rfl
theorem anyA_strs {h : AHp} {x : Str} {ys : List Str} : anyA h (.str x) (ys.map A.str) = some (ys.any fun y => y == x) := by
  induction ys with
  | nil => rfl
  | cons y r ih =>
    show (eqA h (.str y) (.str x)).bind _ = _
    have : eqA h (.str y) (.str x) = some (y == x) := rfl
    rw [this, ev_bind, ih]; rfl
theorem v_niStrs {h : AHp} {n : Nat} {x : Str} {ys : List Str} (e : h[n]? = some (.lst (ys.map A.str))) : cNi (.str x) (.loc n) h = some (.bl (!(ys.any fun y => y == x)), h) := by
  show (seqA (.loc n) h).bind _ = _
  have : seqA (.loc n) h = some (false, ys.map A.str) := by unfold seqA; simp only [e]
  rw [this, ev_bind]
  show (anyA h (.str x) (ys.map A.str)).bind _ = _
  rw [anyA_strs]; rfl
def rl : List A := [.str "nought", .str "and", .str "or", .str "gives"]
theorem word_turn {h : AHp} {b n : Nat} {M L k : A} {w : Str} {r : List (Option A)} (B : Bag h b n) (hn : n ≤ 1000000) (hw : Low w) (hl : w.length ≤ 10) :
    ∃ w' h', l1_law_names (some (.loc b) :: some M :: some (.str alpha) :: some (.str w) :: some L :: some k :: r) h = some (.nx (some (.loc b) :: some M :: some (.str alpha) :: some (.str w') :: some L :: some k :: r), h') ∧ Low w' ∧ w'.length = w.length + 1 ∧ Bag h' b (n + 1) ∧ Kp [b] h h' := by
  obtain ⟨q, h', e, q0, q1, B', K', _⟩ := take_spec B hn (m := 26) (by omega) (by omega)
  have ea := alpha_at q0 q1
  have el : alpha.length ≤ 100000 := by decide +kernel
  refine ⟨w ++ one (97 + q.toNat), h', ?_, hw.app fun c m => ?_, by rw [len_app]; rfl, B', K'⟩
  · have ei : xIx (.str alpha) (.int q) h' = some (.str (one (97 + q.toNat)), h') := v_ixS el ea
    have hadd : oAdd (.str w) (.str (one (97 + q.toNat))) h' = some (.str (w ++ one (97 + q.toNat)), h') := v_addS (by show w.length + 1 ≤ _; omega)
    simp only [l1_law_names, ev_bind, ev_op, ev_k1, ev_k2, ev_C, ev_var, ev_kVar, ev_un, ev_ku, ev_chain, ev_kc1, ev_kc2, ev_kc3t, ev_kc3f, ev_tru, ev_kTrb, ev_kTri, ev_B, ev_kB, ev_and, ev_or, ev_not, ev_kAt, ev_kAf, ev_kOt, ev_kOf, ev_kN, ev_eand, ev_eor, ev_enot, ev_kEAt, ev_kEAf, ev_kEOt, ev_kEOf, ev_kEN, ev_eif, ev_kEIt, ev_kEIf, ev_anil, ev_acons, ev_ka1, ev_ka2, ev_tup, ev_lst, ev_call, ev_kCa, ev_seq, ev_kSn, ev_kSr, ev_kSb, ev_kSc, ev_nx, ev_bk, ev_ct, ev_ret, ev_kRt, ev_retN, ev_if, ev_kIt, ev_kIf, ev_x, ev_kX, ev_asg, ev_kAs, ev_kAs2, ev_gN, ev_gT, ev_gT3, ev_gIx, ev_kG1, ev_kG2, ev_kG3, ev_kFr, ev_kFn, ev_for, ev_kFo, ev_mt, ev_kMt2, ev_ms, ev_kMs1, ev_sl, ev_kSl1, ev_kSl2, ev_kSl3, ev_noPart, ev_part, ev_kPt, ev_rng1, ev_istr, ev_kIS, ev_ilst, ev_kILr, ev_lc, ev_kLc, ev_kLc2, ev_yes, List.getElem?_cons_zero, List.getElem?_cons_succ, List.set_cons_zero, List.set_cons_succ, v_addI, v_sub, v_neg, v_lt, v_le, v_gt, v_ge, v_eqI, v_neI, v_eqS, v_neS, v_neB, v_eqB, v_lenT, v_lenR, v_max, v_min, e, ei, hadd]
  · rw [cs_one] at m
    have : c = 97 + q.toNat := by simpa using m
    omega
theorem names_turn {h : AHp} {b f i m : Nat} {L : A} {w : Str} {a : Nat} {fi : Int} {nm : Option A} {xs : List Str} (ha : a ≤ w.length) (hl : w.length ≤ 10) (hi : i < 26) (hf : h[f]? = some (.lst (xs.map A.str))) (hx : xs.length ≤ 10) :
    ∃ h', l2_law_names [some (.loc b), some (.int m), some (.str alpha), some (.str w), some L, some (.int i), some (.int a), some (.int fi), some (.loc f), nm] h =
      some (.nx [some (.loc b), some (.int m), some (.str alpha), some (.str w), some L, some (.int i), some (.int a), some (.int fi), some (.loc f), some (.str (cand w a fi i))], h') ∧
      h'[f]? = some (.lst ((if res (cand w a fi i) = false ∧ xs.length < m then xs ++ [cand w a fi i] else xs).map A.str)) ∧ Kp [f] h h' := by
  have hr0 : 0 ≤ (fi + 5 * (i : Int)) % 26 := Int.emod_nonneg _ (by omega)
  have hr1 : (fi + 5 * (i : Int)) % 26 < 26 := Int.emod_lt_of_pos _ (by omega)
  have ea := alpha_at hr0 hr1
  have el : alpha.length ≤ 100000 := by decide +kernel
  have m5 : ∀ h, oMul (.int 5) (.int (i : Int)) h = some (.int (5 * i), h) := fun h => v_mulL (by omega) (by omega)
  have d1 : ∀ (z : Int) h, oMod (.int z) (.int 26) h = some (.int (z % 26), h) := fun z h => v_mod (by omega)
  have ei : ∀ h, xIx (.str alpha) (.int ((fi + 5 * (i : Int)) % 26)) h = some (.str (one (97 + ((fi + 5 * (i : Int)) % 26).toNat)), h) := fun h => v_ixS el ea
  have c1 : ∀ h, xSl (.str w) none (some (a : Int)) h = some (.str (cutS w none (some (a : Int))), h) := fun h => v_slS (by omega)
  have c2 : ∀ h, xSl (.str w) (some (a : Int)) none h = some (.str (cutS w (some (a : Int)) none), h) := fun h => v_slS (by omega)
  have l1 : (cutS w none (some (a : Int))).length ≤ 10 := by rw [cs_len, cut_to ha, List.length_take, ← cs_len]; omega
  have l2 : (cutS w (some (a : Int)) none).length ≤ 10 := by rw [cs_len, cut_from ha, List.length_drop, ← cs_len]; omega
  have a1 : ∀ h, oAdd (.str (cutS w none (some (a : Int)))) (.str (one (97 + ((fi + 5 * (i : Int)) % 26).toNat))) h = some (.str (cutS w none (some (a : Int)) ++ one (97 + ((fi + 5 * (i : Int)) % 26).toNat)), h) := fun h => v_addS (by show _ + 1 ≤ _; omega)
  have a2 : ∀ h, oAdd (.str (cutS w none (some (a : Int)) ++ one (97 + ((fi + 5 * (i : Int)) % 26).toNat))) (.str (cutS w (some (a : Int)) none)) h = some (.str (cand w a fi i), h) := fun h => v_addS (by rw [len_app]; show _ + 1 + _ ≤ _; omega)
  have hfl := lt_of_get hf
  have kl : kLs ([.str "nought", .str "and", .str "or", .str "gives"], h) = some (.loc h.length, h ++ [.lst rl]) := ev_kLs (by show 4 ≤ 100000; omega)
  have g1 : (h ++ [AO.lst rl])[f]? = some (.lst (xs.map A.str)) := by rw [List.getElem?_append_left hfl]; exact hf
  have ni : cNi (.str (cand w a fi i)) (.loc h.length) (h ++ [AO.lst rl]) = some (.bl (!res (cand w a fi i)), h ++ [.lst rl]) := v_niStrs (ys := ["nought", "and", "or", "gives"]) (app_get h (.lst rl))
  have ll : bLen [.loc f] (h ++ [AO.lst rl]) = some (.int (xs.map A.str).length, h ++ [.lst rl]) := v_lenL g1
  have lx : (xs.map A.str).length = xs.length := List.length_map _
  rw [lx] at ll
  cases hr : res (cand w a fi i) with
  | true =>
    rw [hr] at ni
    refine ⟨h ++ [.lst rl], ?_, ?_, Kp.app _ _⟩
    · simp only [l2_law_names, ev_bind, ev_op, ev_k1, ev_k2, ev_C, ev_var, ev_kVar, ev_un, ev_ku, ev_chain, ev_kc1, ev_kc2, ev_kc3t, ev_kc3f, ev_tru, ev_kTrb, ev_kTri, ev_B, ev_kB, ev_and, ev_or, ev_not, ev_kAt, ev_kAf, ev_kOt, ev_kOf, ev_kN, ev_eand, ev_eor, ev_enot, ev_kEAt, ev_kEAf, ev_kEOt, ev_kEOf, ev_kEN, ev_eif, ev_kEIt, ev_kEIf, ev_anil, ev_acons, ev_ka1, ev_ka2, ev_tup, ev_lst, ev_call, ev_kCa, ev_seq, ev_kSn, ev_kSr, ev_kSb, ev_kSc, ev_nx, ev_bk, ev_ct, ev_ret, ev_kRt, ev_retN, ev_if, ev_kIt, ev_kIf, ev_x, ev_kX, ev_asg, ev_kAs, ev_kAs2, ev_gN, ev_gT, ev_gT3, ev_gIx, ev_kG1, ev_kG2, ev_kG3, ev_kFr, ev_kFn, ev_for, ev_kFo, ev_mt, ev_kMt2, ev_ms, ev_kMs1, ev_sl, ev_kSl1, ev_kSl2, ev_kSl3, ev_noPart, ev_part, ev_kPt, ev_rng1, ev_istr, ev_kIS, ev_ilst, ev_kILr, ev_lc, ev_kLc, ev_kLc2, ev_yes, List.getElem?_cons_zero, List.getElem?_cons_succ, List.set_cons_zero, List.set_cons_succ, v_addI, v_sub, v_neg, v_lt, v_le, v_gt, v_ge, v_eqI, v_neI, v_eqS, v_neS, v_neB, v_eqB, v_lenT, v_lenR, v_max, v_min, m5, d1, ei, c1, c2, a1, a2, kl, ni, Bool.not_true]
    · rw [if_neg (by simp)]; exact g1
  | false =>
    rw [hr] at ni
    by_cases hm : xs.length < m
    · have c3 : decide ((xs.length : Int) < (m : Int)) = true := decide_eq_true (by omega)
      have ap : fAppend (.loc f) [.str (cand w a fi i)] (h ++ [AO.lst rl]) = some (.non, (h ++ [AO.lst rl]).set f (AO.lst (xs.map A.str ++ [A.str (cand w a fi i)]))) := v_append g1 (by rw [lx]; omega)
      have km : ∀ (F : A → List A → AHp → Rs A) (ms : MA) (τ : ASt), kMt1 F ms τ (.loc f, h ++ [.lst rl]) = (ms τ (h ++ [AO.lst rl])).bind (kMt2 F (.loc f)) := fun F ms τ => ev_kMt1 g1
      refine ⟨(h ++ [AO.lst rl]).set f (AO.lst (xs.map A.str ++ [A.str (cand w a fi i)])), ?_, ?_, (Kp.app _ _).trans (Kp.set _ _)⟩
      · simp only [l2_law_names, ev_bind, ev_op, ev_k1, ev_k2, ev_C, ev_var, ev_kVar, ev_un, ev_ku, ev_chain, ev_kc1, ev_kc2, ev_kc3t, ev_kc3f, ev_tru, ev_kTrb, ev_kTri, ev_B, ev_kB, ev_and, ev_or, ev_not, ev_kAt, ev_kAf, ev_kOt, ev_kOf, ev_kN, ev_eand, ev_eor, ev_enot, ev_kEAt, ev_kEAf, ev_kEOt, ev_kEOf, ev_kEN, ev_eif, ev_kEIt, ev_kEIf, ev_anil, ev_acons, ev_ka1, ev_ka2, ev_tup, ev_lst, ev_call, ev_kCa, ev_seq, ev_kSn, ev_kSr, ev_kSb, ev_kSc, ev_nx, ev_bk, ev_ct, ev_ret, ev_kRt, ev_retN, ev_if, ev_kIt, ev_kIf, ev_x, ev_kX, ev_asg, ev_kAs, ev_kAs2, ev_gN, ev_gT, ev_gT3, ev_gIx, ev_kG1, ev_kG2, ev_kG3, ev_kFr, ev_kFn, ev_for, ev_kFo, ev_mt, ev_kMt2, ev_ms, ev_kMs1, ev_sl, ev_kSl1, ev_kSl2, ev_kSl3, ev_noPart, ev_part, ev_kPt, ev_rng1, ev_istr, ev_kIS, ev_ilst, ev_kILr, ev_lc, ev_kLc, ev_kLc2, ev_yes, List.getElem?_cons_zero, List.getElem?_cons_succ, List.set_cons_zero, List.set_cons_succ, v_addI, v_sub, v_neg, v_lt, v_le, v_gt, v_ge, v_eqI, v_neI, v_eqS, v_neS, v_neB, v_eqB, v_lenT, v_lenR, v_max, v_min, m5, d1, ei, c1, c2, a1, a2, kl, ni, Bool.not_false, ll, c3, km, ap]
      · rw [if_pos ⟨rfl, hm⟩, set_get g1, List.map_append]; rfl
    · have c3 : decide ((xs.length : Int) < (m : Int)) = false := decide_eq_false (by omega)
      refine ⟨h ++ [.lst rl], ?_, ?_, Kp.app _ _⟩
      · simp only [l2_law_names, ev_bind, ev_op, ev_k1, ev_k2, ev_C, ev_var, ev_kVar, ev_un, ev_ku, ev_chain, ev_kc1, ev_kc2, ev_kc3t, ev_kc3f, ev_tru, ev_kTrb, ev_kTri, ev_B, ev_kB, ev_and, ev_or, ev_not, ev_kAt, ev_kAf, ev_kOt, ev_kOf, ev_kN, ev_eand, ev_eor, ev_enot, ev_kEAt, ev_kEAf, ev_kEOt, ev_kEOf, ev_kEN, ev_eif, ev_kEIt, ev_kEIf, ev_anil, ev_acons, ev_ka1, ev_ka2, ev_tup, ev_lst, ev_call, ev_kCa, ev_seq, ev_kSn, ev_kSr, ev_kSb, ev_kSc, ev_nx, ev_bk, ev_ct, ev_ret, ev_kRt, ev_retN, ev_if, ev_kIt, ev_kIf, ev_x, ev_kX, ev_asg, ev_kAs, ev_kAs2, ev_gN, ev_gT, ev_gT3, ev_gIx, ev_kG1, ev_kG2, ev_kG3, ev_kFr, ev_kFn, ev_for, ev_kFo, ev_mt, ev_kMt2, ev_ms, ev_kMs1, ev_sl, ev_kSl1, ev_kSl2, ev_kSl3, ev_noPart, ev_part, ev_kPt, ev_rng1, ev_istr, ev_kIS, ev_ilst, ev_kILr, ev_lc, ev_kLc, ev_kLc2, ev_yes, List.getElem?_cons_zero, List.getElem?_cons_succ, List.set_cons_zero, List.set_cons_succ, v_addI, v_sub, v_neg, v_lt, v_le, v_gt, v_ge, v_eqI, v_neI, v_eqS, v_neS, v_neB, v_eqB, v_lenT, v_lenR, v_max, v_min, m5, d1, ei, c1, c2, a1, a2, kl, ni, Bool.not_false, ll, c3]
      · rw [if_neg (by omega)]; exact g1
end Sh
set_option Elab.async false
set_option linter.all false
set_option maxRecDepth 100000
namespace Sh
open PySem L2 Ab
set_option autoImplicit false
theorem mem1 {i b : Nat} (z : i ∈ [b]) : i = b := by simpa using z
theorem low_nil : Low "" := fun c m => by
  have e : cs "" = [] := by decide +kernel
  rw [e] at m; cases m
theorem fnd_zero {w : Str} {a : Nat} {f : Int} {m : Nat} : fnd w a f m 0 = [] := by unfold fnd cands; simp
theorem alpha_eq : ("abcdefghijklmnopqrstuvwxyz" : Str) = alpha := id rfl
theorem kl0 (h : AHp) : kLs ([], h) = some (.loc h.length, h ++ [.lst []]) := ev_kLs (by simp)
theorem kl4 (a b c d : A) (h : AHp) : kLs ([a, b, c, d], h) = some (.loc h.length, h ++ [.lst [a, b, c, d]]) := ev_kLs (by simp)
theorem kt3 (a b c : A) (h : AHp) : kTu ([a, b, c], h) = some (.tup [a, b, c], h) := ev_kTu (by simp)
theorem names_tail {h : AHp} {b n m : Nat} {L : A} {k : Option A} {w : Str} {a : Nat} (B : Bag h b n) (hn : n ≤ 1000000) (hw : Low w) (hl : w.length ≤ 7) (ha : a ≤ w.length) (hm : m ≤ 10) (hm1 : 1 ≤ m) :
    ∃ (fi : Int) (h1 h3 : AHp) (τ' : ASt) (xs : List Str), F_law_take [.loc b, .int 26] h = some (.int fi, h1) ∧ forL (itR 0 26) (gN 5) l2_law_names 26 0 [some (.loc b), some (.int m), some (.str alpha), some (.str w), some L, k, some (.int a), some (.int fi), some (.loc h1.length), none] (h1 ++ [.lst []]) = some (.nx τ', h3) ∧
      τ'[8]? = some (some (.loc h1.length)) ∧ h3[h1.length]? = some (.lst (xs.map A.str)) ∧ xs.length = m ∧ xs.Nodup ∧ (∀ x ∈ xs, IsLet x) ∧ Bag h3 b (n + 1) ∧ Kp [b] h h3 ∧ h.length ≤ h1.length := by
  obtain ⟨fi, h1, e1, _, _, B1, K1, l1⟩ := take_spec B hn (m := 26) (by omega) (by omega)
  have hb := B1.lt
  obtain ⟨τ', h3, e3, k', nm', eτ, hf, K3⟩ := for_range (n := 26) (g := gN 5) (s := l2_law_names) (h := h1 ++ [AO.lst []]) (τ := [some (.loc b), some (.int m), some (.str alpha), some (.str w), some L, k, some (.int a), some (.int fi), some (.loc h1.length), none])
    (fun i τ h => ∃ k' nm', τ = [some (.loc b), some (.int m), some (.str alpha), some (.str w), some L, k', some (.int a), some (.int fi), some (.loc h1.length), nm'] ∧ h[h1.length]? = some (.lst ((fnd w a fi m i).map A.str)) ∧ Kp [h1.length] (h1 ++ [AO.lst []]) h)
    ⟨_, _, rfl, by rw [fnd_zero]; exact app_get h1 (.lst []), Kp.refl⟩ (by
      rintro i τ h hi ⟨k', nm', rfl, hf, K⟩
      have hlen : (fnd w a fi m i).length ≤ 10 := by unfold fnd; rw [List.length_take]; omega
      obtain ⟨h', e, hf', K'⟩ := names_turn (b := b) (m := m) (L := L) (nm := nm') ha (by omega) hi hf hlen
      refine ⟨_, h, _, h', rfl, e, _, _, rfl, ?_, K.trans K'⟩
      rw [hf', fnd_succ])
  refine ⟨fi, h1, h3, τ', fnd w a fi m 26, e1, e3, by rw [eτ]; rfl, hf, fnd_len ha (by omega), fnd_nd ha, fun x hx => fnd_mem ha hw hl hx, ?_, ?_, by omega⟩
  · refine (B1.kp (Kp.app (bs := []) h1 [AO.lst []]) (by simp)).kp K3 ?_
    intro z
    have := mem1 z
    omega
  · exact K1.trans ((Kp.app (bs := [b]) h1 [AO.lst []]).drop (K3.more (fun i z => by rw [mem1 z]; simp)) (Nat.le_refl _))
theorem four_words {r : Int} (h0 : 0 ≤ r) (h1 : r < 4) : ∃ w : Str, atI [A.str "and", A.str "or", A.str "gives", A.str "nough"] r = some (.str w) ∧ Low w ∧ w.length ≤ 5 := by
  have low : ∀ w : Str, ((cs w).all fun c => decide (97 ≤ c ∧ c ≤ 122)) = true → Low w := fun w h c m => by
    have := List.all_eq_true.mp h c m
    simpa using this
  rcases (by omega : r = 0 ∨ r = 1 ∨ r = 2 ∨ r = 3) with rfl | rfl | rfl | rfl
  · exact ⟨"and", rfl, low _ (by decide +kernel), by decide +kernel⟩
  · exact ⟨"or", rfl, low _ (by decide +kernel), by decide +kernel⟩
  · exact ⟨"gives", rfl, low _ (by decide +kernel), by decide +kernel⟩
  · exact ⟨"nough", rfl, low _ (by decide +kernel), by decide +kernel⟩
theorem names_spec {h : AHp} {b n m : Nat} (B : Bag h b n) (hn : n ≤ 900000) (hm : m ≤ 10) (hm1 : 1 ≤ m) :
    ∃ (l : Nat) (h' : AHp) (xs : List Str), F_law_names [.loc b, .int m] h = some (.loc l, h') ∧ h.length ≤ l ∧ h'[l]? = some (.lst (xs.map A.str)) ∧ xs.length = m ∧ xs.Nodup ∧ (∀ x ∈ xs, IsLet x) ∧ Bag h' b (n + 20) ∧ Kp [b] h h' := by
  obtain ⟨q, h1, e1, q0, q1, B1, K1, _⟩ := take_spec B (by omega) (m := 8) (by omega) (by omega)
  have r1 : kR1 ([.int q], h1) = some (itR 0 q.toNat, h1) := ev_kR1 (by omega)
  obtain ⟨τ2, h2, e2, w, k2', rfl, hw, hwl, B2, K2⟩ := for_range (n := q.toNat) (g := gN 5) (s := l1_law_names) (h := h1) (τ := [some (.loc b), some (.int m), some (.str alpha), some (.str ""), some (.int q), none, none, none, none, none])
    (fun i τ h => ∃ w k, τ = [some (.loc b), some (.int m), some (.str alpha), some (.str w), some (.int q), k, none, none, none, none] ∧ Low w ∧ w.length = i ∧ Bag h b (n + 1 + i) ∧ Kp [b] h1 h)
    ⟨_, _, rfl, low_nil, by decide +kernel, B1, Kp.refl⟩ (by
      rintro i τ h hi ⟨w, k, rfl, hw, hwl, B, K⟩
      obtain ⟨w', h', e, hw', hl', B', K'⟩ := word_turn (M := .int m) (L := .int q) (k := .int i) (r := [none, none, none, none]) B (by omega) hw (by omega)
      exact ⟨_, h, _, h', rfl, e, w', _, rfl, hw', by omega, B'.mono (by omega), K.trans K'⟩)
  obtain ⟨a, h3, e3, a0, a1, B3, K3, _⟩ := take_spec B2 (by omega) (m := q + 1) (by omega) (by omega)
  obtain ⟨c, h4, e4, c0, c1, B4, K4, _⟩ := take_spec B3 (by omega) (m := 5) (by omega) (by omega)
  by_cases hc : c = 1
  · subst hc
    have hb4 := B4.lt
    obtain ⟨r, h6, e6, r0', r1', B6, K6, l6⟩ := take_spec (h := h4 ++ [AO.lst [.str "and", .str "or", .str "gives", .str "nough"]]) (B4.kp (Kp.app (bs := []) _ _) (by simp)) (by omega) (m := 4) (by omega) (by omega)
    obtain ⟨w', ew, hw', hl'⟩ := four_words r0' r1'
    have g6 : h6[h4.length]? = some (.lst [.str "and", .str "or", .str "gives", .str "nough"]) := K6.get (app_get _ _) (fun z => by have := mem1 z; omega)
    have ix : xIx (.loc h4.length) (.int r) h6 = some (.str w', h6) := v_ixL g6 ew
    have ln : ∀ h, bLen [.str w'] h = some (.int w'.length, h) := fun h => v_lenS (by omega)
    obtain ⟨fi, h7, h8, τ', xs, e7, e8, ev8, g8, lx, nx, lx2, B8, K8, l8⟩ := names_tail (L := .int q) (k := k2') (a := w'.length) B6 (by omega) hw' (by omega) (Nat.le_refl _) hm hm1
    have r26 : kR1 ([.int 26], h7 ++ [AO.lst []]) = some (itR 0 26, h7 ++ [AO.lst []]) := ev_kR1 (by omega)
    have K14 : Kp [b] h h4 := (K1.trans K2).trans (K3.trans K4)
    refine ⟨h7.length, h8, xs, ?_, ?_, g8, lx, nx, lx2, B8.mono (by omega), ?_⟩
    · simp only [ap_law_names, b_law_names, ev_bind, ev_op, ev_k1, ev_k2, ev_C, ev_var, ev_kVar, ev_un, ev_ku, ev_chain, ev_kc1, ev_kc2, ev_kc3t, ev_kc3f, ev_tru, ev_kTrb, ev_kTri, ev_B, ev_kB, ev_and, ev_or, ev_not, ev_kAt, ev_kAf, ev_kOt, ev_kOf, ev_kN, ev_eand, ev_eor, ev_enot, ev_kEAt, ev_kEAf, ev_kEOt, ev_kEOf, ev_kEN, ev_eif, ev_kEIt, ev_kEIf, ev_anil, ev_acons, ev_ka1, ev_ka2, ev_tup, ev_lst, ev_call, ev_kCa, ev_seq, ev_kSn, ev_kSr, ev_kSb, ev_kSc, ev_nx, ev_bk, ev_ct, ev_ret, ev_kRt, ev_retN, ev_if, ev_kIt, ev_kIf, ev_x, ev_kX, ev_asg, ev_kAs, ev_kAs2, ev_gN, ev_gT, ev_gT3, ev_gIx, ev_kG1, ev_kG2, ev_kG3, ev_kFr, ev_kFn, ev_for, ev_kFo, ev_mt, ev_kMt2, ev_ms, ev_kMs1, ev_sl, ev_kSl1, ev_kSl2, ev_kSl3, ev_noPart, ev_part, ev_kPt, ev_rng1, ev_istr, ev_kIS, ev_ilst, ev_kILr, ev_lc, ev_kLc, ev_kLc2, ev_yes, ev_irev, List.getElem?_cons_zero, List.getElem?_cons_succ, List.set_cons_zero, List.set_cons_succ, v_addI, v_sub, v_neg, v_lt, v_le, v_gt, v_ge, v_eqI, v_neI, v_eqS, v_neS, v_neB, v_eqB, v_lenT, v_lenR, v_max, v_min, alpha_eq, e1, r1, itR_n, e2, e3, e4, beq_self_eq_true, kl4, e6, ix, ln, e7, kl0, r26, e8, ev8]
    · have := K14.1; have := K6.1; rw [List.length_append] at this; omega
    · exact K14.trans (((Kp.app (bs := [b]) _ _).trans K6).trans K8)
  · have hcb : (c == 1) = false := by simp [hc]
    obtain ⟨na, rfl⟩ : ∃ na : Nat, a = na := ⟨a.toNat, by omega⟩
    obtain ⟨fi, h7, h8, τ', xs, e7, e8, ev8, g8, lx, nx, lx2, B8, K8, l8⟩ := names_tail (L := .int q) (k := k2') (a := na) B4 (by omega) hw (by omega) (by omega) hm hm1
    have r26 : kR1 ([.int 26], h7 ++ [AO.lst []]) = some (itR 0 26, h7 ++ [AO.lst []]) := ev_kR1 (by omega)
    have K14 : Kp [b] h h4 := (K1.trans K2).trans (K3.trans K4)
    refine ⟨h7.length, h8, xs, ?_, ?_, g8, lx, nx, lx2, B8.mono (by omega), K14.trans K8⟩
    · simp only [ap_law_names, b_law_names, ev_bind, ev_op, ev_k1, ev_k2, ev_C, ev_var, ev_kVar, ev_un, ev_ku, ev_chain, ev_kc1, ev_kc2, ev_kc3t, ev_kc3f, ev_tru, ev_kTrb, ev_kTri, ev_B, ev_kB, ev_and, ev_or, ev_not, ev_kAt, ev_kAf, ev_kOt, ev_kOf, ev_kN, ev_eand, ev_eor, ev_enot, ev_kEAt, ev_kEAf, ev_kEOt, ev_kEOf, ev_kEN, ev_eif, ev_kEIt, ev_kEIf, ev_anil, ev_acons, ev_ka1, ev_ka2, ev_tup, ev_lst, ev_call, ev_kCa, ev_seq, ev_kSn, ev_kSr, ev_kSb, ev_kSc, ev_nx, ev_bk, ev_ct, ev_ret, ev_kRt, ev_retN, ev_if, ev_kIt, ev_kIf, ev_x, ev_kX, ev_asg, ev_kAs, ev_kAs2, ev_gN, ev_gT, ev_gT3, ev_gIx, ev_kG1, ev_kG2, ev_kG3, ev_kFr, ev_kFn, ev_for, ev_kFo, ev_mt, ev_kMt2, ev_ms, ev_kMs1, ev_sl, ev_kSl1, ev_kSl2, ev_kSl3, ev_noPart, ev_part, ev_kPt, ev_rng1, ev_istr, ev_kIS, ev_ilst, ev_kILr, ev_lc, ev_kLc, ev_kLc2, ev_yes, ev_irev, List.getElem?_cons_zero, List.getElem?_cons_succ, List.set_cons_zero, List.set_cons_succ, v_addI, v_sub, v_neg, v_lt, v_le, v_gt, v_ge, v_eqI, v_neI, v_eqS, v_neS, v_neB, v_eqB, v_lenT, v_lenR, v_max, v_min, alpha_eq, e1, r1, itR_n, e2, e3, e4, hcb, e7, kl0, r26, e8, ev8]
    · have := K14.1; omega
theorem mk_lst (as : List A) (h : AHp) (e : as.length ≤ 100000) : ∃ h1, kLs (as, h) = some (.loc h.length, h1) ∧ h1[h.length]? = some (.lst as) ∧ Kp [] h h1 ∧ h1.length = h.length + 1 := ⟨_, ev_kLs e, app_get _ _, Kp.app _ _, by simp⟩
theorem mk_add {h : AHp} {m n : Nat} {xs ys : List A} (e1 : h[m]? = some (.lst xs)) (e2 : h[n]? = some (.lst ys)) (e : xs.length + ys.length ≤ 100000) : ∃ h1, oAdd (.loc m) (.loc n) h = some (.loc h.length, h1) ∧ h1[h.length]? = some (.lst (xs ++ ys)) ∧ Kp [] h h1 ∧ h1.length = h.length + 1 := ⟨_, v_addL e1 e2 e, app_get _ _, Kp.app _ _, by simp⟩
inductive Stm (N : List Str) : Nat → A → Prop where
  | nou : Stm N 0 (.str "nought")
  | let {x : Str} : x ∈ N → Stm N 0 (.str x)
  | bin {s : Str} {i j : Nat} {a b : A} : (s = "and" ∨ s = "or" ∨ s = "gives") → Stm N i a → Stm N j b → Stm N (i + j + 1) (.tup [.str s, a, b])
theorem five_signs {r : Int} (h0 : 0 ≤ r) (h1 : r < 5) : ∃ w : Str, atI [A.str "and", A.str "or", A.str "gives", A.str "gives", A.str "gives"] r = some (.str w) ∧ (w = "and" ∨ w = "or" ∨ w = "gives") := by
  rcases (by omega : r = 0 ∨ r = 1 ∨ r = 2 ∨ r = 3 ∨ r = 4) with rfl | rfl | rfl | rfl | rfl
  · exact ⟨"and", rfl, .inl rfl⟩
  · exact ⟨"or", rfl, .inr (.inl rfl)⟩
  · exact ⟨"gives", rfl, .inr (.inr rfl)⟩
  · exact ⟨"gives", rfl, .inr (.inr rfl)⟩
  · exact ⟨"gives", rfl, .inr (.inr rfl)⟩
theorem stm_spec {b l : Nat} {N : List Str} (hN : N.length ≤ 100) (hbl : l ≠ b) : ∀ (fuel many n : Nat) (h : AHp), many < fuel → Bag h b n → h[l]? = some (.lst (N.map A.str)) → n + 10 * many + 5 ≤ 900000 →
    ∃ st h', F_law_statement fuel [.loc b, .loc l, .int many] h = some (st, h') ∧ Stm N many st ∧ Bag h' b (n + 10 * many + 5) ∧ Kp [b] h h' := by
  intro fuel
  induction fuel with
  | zero => intro many n h hf; omega
  | succ fuel ih =>
    intro many n h hf B hl hn
    have hb := B.lt
    have hll := lt_of_get hl
    by_cases hm : many = 0
    · subst hm
      have hz : (((0 : Nat) : Int) == 0) = true := rfl
      have lN : (N.map A.str).length = N.length := List.length_map _
      obtain ⟨h1, a1, g1, K1, n1⟩ := mk_add hl hl (by omega)
      obtain ⟨h2, a2, g2, K2, n2⟩ := mk_lst [.str "nought"] h1 (by simp)
      obtain ⟨h3, a3, g3, K3, n3⟩ := mk_add (K2.get g1 (by simp)) g2 (by simp; omega)
      have K03 : Kp [] h h3 := (K1.trans K2).trans K3
      have g3l : h3[l]? = some (.lst (N.map A.str)) := K03.get hl (by simp)
      have ll : bLen [.loc l] h3 = some (.int N.length, h3) := by rw [v_lenL g3l, lN]
      have m2 : ∀ h, oMul (.int 2) (.int (N.length : Int)) h = some (.int (2 * N.length), h) := fun h => v_mulL (by omega) (by omega)
      obtain ⟨r, h4, e4, r0, r1, B4, K4, l4⟩ := take_spec (B.kp K03 (by simp)) (by omega) (m := 2 * N.length + 1) (by omega) (by omega)
      have g4 := K4.get g3 (fun z => by have := mem1 z; omega)
      have key : ∃ st, atI (N.map A.str ++ N.map A.str ++ [.str "nought"]) r = some st ∧ Stm N 0 st := by
        obtain ⟨j, rfl⟩ : ∃ j : Nat, r = j := ⟨r.toNat, by omega⟩
        have hj : j < (N.map A.str ++ N.map A.str ++ [A.str "nought"]).length := by simp; omega
        refine ⟨(N.map A.str ++ N.map A.str ++ [A.str "nought"])[j], atI_nat (List.getElem?_eq_getElem hj), ?_⟩
        have hmem := List.getElem_mem hj
        rcases List.mem_append.mp hmem with q | q
        · have q' : (N.map A.str ++ N.map A.str ++ [A.str "nought"])[j] ∈ N.map A.str := by
            rcases List.mem_append.mp q with q | q <;> exact q
          obtain ⟨x, hx, ex⟩ := List.mem_map.mp q'
          rw [← ex]; exact .let hx
        · have := List.mem_singleton.mp q
          rw [this]; exact .nou
      obtain ⟨st, es, hst⟩ := key
      have ix : xIx (.loc h2.length) (.int r) h4 = some (st, h4) := v_ixL g4 es
      refine ⟨st, h4, ?_, hst, B4.mono (by omega), (K03.nil).trans K4⟩
      simp only [ap_law_statement, b_law_statement, ev_bind, ev_op, ev_k1, ev_k2, ev_C, ev_var, ev_kVar, ev_un, ev_ku, ev_chain, ev_kc1, ev_kc2, ev_kc3t, ev_kc3f, ev_tru, ev_kTrb, ev_kTri, ev_B, ev_kB, ev_and, ev_or, ev_not, ev_kAt, ev_kAf, ev_kOt, ev_kOf, ev_kN, ev_eand, ev_eor, ev_enot, ev_kEAt, ev_kEAf, ev_kEOt, ev_kEOf, ev_kEN, ev_eif, ev_kEIt, ev_kEIf, ev_anil, ev_acons, ev_ka1, ev_ka2, ev_tup, ev_lst, ev_call, ev_kCa, ev_seq, ev_kSn, ev_kSr, ev_kSb, ev_kSc, ev_nx, ev_bk, ev_ct, ev_ret, ev_kRt, ev_retN, ev_if, ev_kIt, ev_kIf, ev_x, ev_kX, ev_asg, ev_kAs, ev_kAs2, ev_gN, ev_gT, ev_gT3, ev_gIx, ev_kG1, ev_kG2, ev_kG3, ev_kFr, ev_kFn, ev_for, ev_kFo, ev_mt, ev_kMt2, ev_ms, ev_kMs1, ev_sl, ev_kSl1, ev_kSl2, ev_kSl3, ev_noPart, ev_part, ev_kPt, ev_rng1, ev_istr, ev_kIS, ev_ilst, ev_kILr, ev_lc, ev_kLc, ev_kLc2, ev_yes, ev_irev, List.getElem?_cons_zero, List.getElem?_cons_succ, List.set_cons_zero, List.set_cons_succ, v_addI, v_sub, v_neg, v_lt, v_le, v_gt, v_ge, v_eqI, v_neI, v_eqS, v_neS, v_neB, v_eqB, v_lenT, v_lenR, v_max, v_min, hz, a1, a2, a3, ll, m2, e4, ix]
    · have hz : ((many : Int) == 0) = false := by simp [hm]
      obtain ⟨h1, a1, g1, K1', n1⟩ := mk_lst [.str "and", .str "or", .str "gives", .str "gives", .str "gives"] h (by simp)
      have K1 : Kp [b] h h1 := K1'.nil
      obtain ⟨r, h2, e2, r0, r1, B2, K2, l2⟩ := take_spec (h := h1) (B.kp K1' (by simp)) (by omega) (m := 5) (by omega) (by omega)
      obtain ⟨w, ew, hw⟩ := five_signs r0 r1
      have g2 := K2.get g1 (fun z => by have := mem1 z; omega)
      have ix : xIx (.loc h.length) (.int r) h2 = some (.str w, h2) := v_ixL g2 ew
      obtain ⟨q, h3, e3, q0, q1, B3, K3, l3⟩ := take_spec B2 (by omega) (m := many) (by omega) (by omega)
      obtain ⟨near, rfl⟩ : ∃ near : Nat, q = near := ⟨q.toNat, by omega⟩
      have hnb : l ∉ [b] := by simpa using hbl
      obtain ⟨sa, h4, e4, s4, B4, K4⟩ := ih near (n + 2) h3 (by omega) B3 (K3.get (K2.get (K1.get hl hnb) hnb) hnb) (by omega)
      have eq : (many : Int) - 1 - (near : Int) = ((many - 1 - near : Nat) : Int) := by omega
      obtain ⟨sb, h5, e5, s5, B5, K5⟩ := ih (many - 1 - near) _ h4 (by omega) B4 (K4.get (K3.get (K2.get (K1.get hl hnb) hnb) hnb) hnb) (by omega)
      refine ⟨.tup [.str w, sa, sb], h5, ?_, ?_, B5.mono (by omega), (K1.trans K2).trans (K3.trans (K4.trans K5))⟩
      · simp only [ap_law_statement, b_law_statement, ev_bind, ev_op, ev_k1, ev_k2, ev_C, ev_var, ev_kVar, ev_un, ev_ku, ev_chain, ev_kc1, ev_kc2, ev_kc3t, ev_kc3f, ev_tru, ev_kTrb, ev_kTri, ev_B, ev_kB, ev_and, ev_or, ev_not, ev_kAt, ev_kAf, ev_kOt, ev_kOf, ev_kN, ev_eand, ev_eor, ev_enot, ev_kEAt, ev_kEAf, ev_kEOt, ev_kEOf, ev_kEN, ev_eif, ev_kEIt, ev_kEIf, ev_anil, ev_acons, ev_ka1, ev_ka2, ev_tup, ev_lst, ev_call, ev_kCa, ev_seq, ev_kSn, ev_kSr, ev_kSb, ev_kSc, ev_nx, ev_bk, ev_ct, ev_ret, ev_kRt, ev_retN, ev_if, ev_kIt, ev_kIf, ev_x, ev_kX, ev_asg, ev_kAs, ev_kAs2, ev_gN, ev_gT, ev_gT3, ev_gIx, ev_kG1, ev_kG2, ev_kG3, ev_kFr, ev_kFn, ev_for, ev_kFo, ev_mt, ev_kMt2, ev_ms, ev_kMs1, ev_sl, ev_kSl1, ev_kSl2, ev_kSl3, ev_noPart, ev_part, ev_kPt, ev_rng1, ev_istr, ev_kIS, ev_ilst, ev_kILr, ev_lc, ev_kLc, ev_kLc2, ev_yes, ev_irev, List.getElem?_cons_zero, List.getElem?_cons_succ, List.set_cons_zero, List.set_cons_succ, v_addI, v_sub, v_neg, v_lt, v_le, v_gt, v_ge, v_eqI, v_neI, v_eqS, v_neS, v_neB, v_eqB, v_lenT, v_lenR, v_max, v_min, hz, a1, e2, ix, e3, e4, eq, e5, kt3]
      · have := Stm.bin hw s4 s5
        rwa [show near + (many - 1 - near) + 1 = many by omega] at this
end Sh
set_option Elab.async false
set_option linter.all false
set_option maxRecDepth 100000
namespace Sh
open PySem L2 Ab
set_option autoImplicit false
inductive OkA (n : Nat) : Nat → A → Prop where
  | non {d : Nat} : OkA n d .non
  | bl {d : Nat} (b : Bool) : OkA n d (.bl b)
  | int {d : Nat} (i : Int) : OkA n d (.int i)
  | str {d : Nat} {x : Str} : x.length ≤ 1000 → OkA n d (.str x)
  | loc {d m : Nat} : m < n → OkA n d (.loc m)
  | tup {d : Nat} {xs : List A} : (∀ x ∈ xs, OkA n d x) → OkA n (d + 1) (.tup xs)
theorem OkA.mono {n m d : Nat} {a : A} (h : OkA n d a) (e : n ≤ m) : OkA m d a := by
  induction h with
  | non => exact .non
  | bl b => exact .bl b
  | int i => exact .int i
  | str h => exact .str h
  | loc h => exact .loc (by omega)
  | tup _ ih => exact .tup ih
theorem OkA.deep {n d e : Nat} {a : A} (h : OkA n d a) (q : d ≤ e) : OkA n e a := by
  induction h generalizing e with
  | non => exact .non
  | bl b => exact .bl b
  | int i => exact .int i
  | str h => exact .str h
  | loc h => exact .loc h
  | @tup d xs _ ih =>
    obtain ⟨e', rfl⟩ : ∃ e', e = e' + 1 := ⟨e - 1, by omega⟩
    exact .tup fun x hx => ih x hx (by omega)
def LH (n : Nat) (h : AHp) : Prop := ∀ i, i < n → ∃ xs, h[i]? = some (.lst xs)
theorem LH.zero {h : AHp} : LH 0 h := fun i hi => absurd hi (Nat.not_lt_zero _)
theorem LH.kp {n : Nat} {h h' : AHp} {bs : List Nat} (e : LH n h) (K : Kp bs h h') (hb : ∀ i ∈ bs, n ≤ i) : LH n h' := fun i hi => by
  obtain ⟨xs, g⟩ := e i hi
  exact ⟨xs, K.get g fun m => by have := hb i m; omega⟩
theorem LH.kp0 {n : Nat} {h h' : AHp} (e : LH n h) (K : Kp [] h h') : LH n h' := e.kp K fun i m => absurd m (by simp)
theorem OkA.get {n d m : Nat} {h : AHp} (o : OkA n d (.loc m)) (e : LH n h) : ∃ xs, h[m]? = some (.lst xs) := by
  cases o with
  | loc q => exact e m q
def isTup : A → Bool
  | .tup _ => true
  | _ => false
def isStr : A → Bool
  | .str _ => true
  | _ => false
theorem isi_tup {n d : Nat} {a : A} {h : AHp} (o : OkA n d a) (e : LH n h) : bIsi [a, .ty "tuple"] h = some (.bl (isTup a), h) := by
  cases o with
  | loc q =>
    obtain ⟨xs, g⟩ := (OkA.loc (d := d) q).get e
    show (h[_]?).bind _ = _
    rw [g]; rfl
  | _ => rfl
theorem isi_str {n d : Nat} {a : A} {h : AHp} (o : OkA n d a) (e : LH n h) : bIsi [a, .ty "str"] h = some (.bl (isStr a), h) := by
  cases o with
  | loc q =>
    obtain ⟨xs, g⟩ := (OkA.loc (d := d) q).get e
    show (h[_]?).bind _ = _
    rw [g]; rfl
  | _ => rfl
def lowB (c : Nat) : Bool := decide (97 ≤ c) && decide (c ≤ 122)
def letB (x : Str) : Bool := !res x && (decide (1 ≤ x.length) && decide (x.length ≤ 8)) && (cs x).all lowB
def lett : A → Bool
  | .str x => letB x
  | _ => false
def sgn : A → Bool
  | .str x => ("and" == x) || (("or" == x) || (("gives" == x) || false))
  | _ => false
theorem blsOf_map (bs : List Bool) : blsOf (bs.map A.bl) = some bs := by
  induction bs with
  | nil => rfl
  | cons b r ih => show (blsOf (r.map A.bl)).bind _ = _; rw [ih]; rfl
theorem v_all {h : AHp} {n : Nat} {bs : List Bool} (e : h[n]? = some (.lst (bs.map A.bl))) : bAll [.loc n] h = some (.bl (bs.all id), h) := by
  show (lstA (.loc n) h).bind _ = _
  have : lstA (.loc n) h = some (bs.map A.bl) := by unfold lstA; simp only [e]
  rw [this, ev_bind, blsOf_map]; rfl
theorem lc_str {x : Str} {j : Nat} {me : ME} {τ : ASt} {h : AHp} {p : Nat → Bool} (hx : x.length ≤ 1000) (hm : ∀ c, me (τ.set j (some (.str ⟨#[c]⟩))) h = some (.bl (p c), h)) :
    lcL (itS x) j mYes me τ (itS x).n 0 [] h = some ((cs x).map fun c => A.bl (p c), h) := by
  have hl : (itS x).n = (cs x).length := by show x.cps.size = x.cps.toList.length; simp
  have key : ∀ m k acc, k + m = (cs x).length → acc.length = k → lcL (itS x) j mYes me τ m k acc h = some (acc ++ ((cs x).drop k).map fun c => A.bl (p c), h) := by
    intro m
    induction m with
    | zero =>
      intro k acc e _
      show (if (itS x).fin h = true then some (acc, h) else none) = _
      rw [if_pos (show (itS x).fin h = true from rfl), List.drop_eq_nil_of_le (by omega)]
      simp
    | succ m ih =>
      intro k acc e ea
      have hk : k < (cs x).length := by omega
      have hg : (itS x).get k h = some (.str ⟨#[(cs x)[k]]⟩) := by
        show (x.cps[k]?).bind _ = _
        have : x.cps[k]? = some (cs x)[k] := by
          rw [← Array.getElem?_toList]; exact List.getElem?_eq_getElem hk
        rw [this]; rfl
      show ((itS x).get k h).bind _ = _
      rw [hg, ev_bind, ev_yes, ev_bind]
      show (if true = true then _ else _) = _
      rw [if_pos rfl, hm, ev_bind]
      show (if acc.length < 100000 then _ else _) = _
      have : (cs x).length ≤ 1000 := by rw [← cs_len]; exact hx
      rw [if_pos (by omega), ih (k + 1) _ (by omega) (by simp [ea]), List.drop_eq_getElem_cons hk, List.map_cons, List.append_assoc]
      rfl
  rw [hl, key (cs x).length 0 [] (by omega) rfl]
  simp
theorem all_bl {x : Str} {p : Nat → Bool} : ((cs x).map fun c => A.bl (p c)) = (((cs x).map p)).map A.bl := by rw [List.map_map]; rfl
theorem all_id {x : Str} {p : Nat → Bool} : ((cs x).map p).all id = (cs x).all p := by rw [List.all_map]; rfl
theorem sign_le {c : Nat} : (!decide (([c] : List Nat) < (("a" : Str).cps.toList))) = decide (97 ≤ c) := by
  have e : ("a" : Str).cps.toList = [97] := by decide +kernel
  rw [e, Bool.eq_iff_iff, Bool.not_eq_true', decide_eq_false_iff_not, List.cons_lt_cons_iff, decide_eq_true_iff]
  simp
theorem sign_ge {c : Nat} : (!decide ((("z" : Str).cps.toList) < ([c] : List Nat))) = decide (c ≤ 122) := by
  have e : ("z" : Str).cps.toList = [122] := by decide +kernel
  rw [e, Bool.eq_iff_iff, Bool.not_eq_true', decide_eq_false_iff_not, List.cons_lt_cons_iff, decide_eq_true_iff]
  simp
theorem e1_let {τ : ASt} {t : A} {c : Nat} {h : AHp} : e1_is_word [some t, some (.str ⟨#[c]⟩)] h = some (.bl (lowB c), h) := by
  have l1 : cLe (.str "a") (.str ⟨#[c]⟩) h = some (.bl (decide (97 ≤ c)), h) := by rw [v_leS]; show some (A.bl (!decide (([c] : List Nat) < _)), h) = _; rw [sign_le]
  have l2 : cLe (.str ⟨#[c]⟩) (.str "z") h = some (.bl (decide (c ≤ 122)), h) := by rw [v_leS]; show some (A.bl (!decide (_ < ([c] : List Nat))), h) = _; rw [sign_ge]
  cases q : decide (97 ≤ c) with
  | true =>
    rw [q] at l1
    simp only [e1_is_word, ev_bind, ev_op, ev_k1, ev_k2, ev_C, ev_var, ev_kVar, ev_un, ev_ku, ev_chain, ev_kc1, ev_kc2, ev_kc3t, ev_kc3f, ev_tru, ev_kTrb, ev_kTri, ev_B, ev_kB, ev_and, ev_or, ev_not, ev_kAt, ev_kAf, ev_kOt, ev_kOf, ev_kN, ev_eand, ev_eor, ev_enot, ev_kEAt, ev_kEAf, ev_kEOt, ev_kEOf, ev_kEN, ev_eif, ev_kEIt, ev_kEIf, ev_anil, ev_acons, ev_ka1, ev_ka2, ev_tup, ev_lst, ev_call, ev_kCa, ev_seq, ev_kSn, ev_kSr, ev_kSb, ev_kSc, ev_nx, ev_bk, ev_ct, ev_ret, ev_kRt, ev_retN, ev_if, ev_kIt, ev_kIf, ev_x, ev_kX, ev_asg, ev_kAs, ev_kAs2, ev_gN, ev_gT, ev_gT3, ev_gIx, ev_kG1, ev_kG2, ev_kG3, ev_kFr, ev_kFn, ev_for, ev_kFo, ev_mt, ev_kMt2, ev_ms, ev_kMs1, ev_sl, ev_kSl1, ev_kSl2, ev_kSl3, ev_noPart, ev_part, ev_kPt, ev_rng1, ev_istr, ev_kIS, ev_ilst, ev_kILr, ev_lc, ev_kLc, ev_kLc2, ev_yes, ev_irev, List.getElem?_cons_zero, List.getElem?_cons_succ, List.set_cons_zero, List.set_cons_succ, v_addI, v_sub, v_neg, v_lt, v_le, v_gt, v_ge, v_eqI, v_neI, v_eqS, v_neS, v_neB, v_eqB, v_lenT, v_lenR, v_max, v_min, l1, l2]
    unfold lowB; rw [q, Bool.true_and]
  | false =>
    rw [q] at l1
    simp only [e1_is_word, ev_bind, ev_op, ev_k1, ev_k2, ev_C, ev_var, ev_kVar, ev_un, ev_ku, ev_chain, ev_kc1, ev_kc2, ev_kc3t, ev_kc3f, ev_tru, ev_kTrb, ev_kTri, ev_B, ev_kB, ev_and, ev_or, ev_not, ev_kAt, ev_kAf, ev_kOt, ev_kOf, ev_kN, ev_eand, ev_eor, ev_enot, ev_kEAt, ev_kEAf, ev_kEOt, ev_kEOf, ev_kEN, ev_eif, ev_kEIt, ev_kEIf, ev_anil, ev_acons, ev_ka1, ev_ka2, ev_tup, ev_lst, ev_call, ev_kCa, ev_seq, ev_kSn, ev_kSr, ev_kSb, ev_kSc, ev_nx, ev_bk, ev_ct, ev_ret, ev_kRt, ev_retN, ev_if, ev_kIt, ev_kIf, ev_x, ev_kX, ev_asg, ev_kAs, ev_kAs2, ev_gN, ev_gT, ev_gT3, ev_gIx, ev_kG1, ev_kG2, ev_kG3, ev_kFr, ev_kFn, ev_for, ev_kFo, ev_mt, ev_kMt2, ev_ms, ev_kMs1, ev_sl, ev_kSl1, ev_kSl2, ev_kSl3, ev_noPart, ev_part, ev_kPt, ev_rng1, ev_istr, ev_kIS, ev_ilst, ev_kILr, ev_lc, ev_kLc, ev_kLc2, ev_yes, ev_irev, List.getElem?_cons_zero, List.getElem?_cons_succ, List.set_cons_zero, List.set_cons_succ, v_addI, v_sub, v_neg, v_lt, v_le, v_gt, v_ge, v_eqI, v_neI, v_eqS, v_neS, v_neB, v_eqB, v_lenT, v_lenR, v_max, v_min, l1]
    unfold lowB; rw [q, Bool.false_and]
theorem v_inT {a : A} {ys : List A} {h : AHp} : cIn a (.tup ys) h = (anyA h a ys).bind fun k => some (.bl k, h) := by cases a <;> rfl
theorem v_niL {a : A} {n : Nat} {ys : List A} {h : AHp} (g : h[n]? = some (.lst ys)) : cNi a (.loc n) h = (anyA h a ys).bind fun k => some (.bl (!k), h) := by
  have e : seqA (.loc n) h = some (false, ys) := by unfold seqA; simp only [g]
  cases a <;> (show (seqA (.loc n) h).bind _ = _; rw [e]; rfl)
theorem v_inL {a : A} {n : Nat} {ys : List A} {h : AHp} (g : h[n]? = some (.lst ys)) : cIn a (.loc n) h = (anyA h a ys).bind fun k => some (.bl k, h) := by
  have e : seqA (.loc n) h = some (false, ys) := by unfold seqA; simp only [g]
  cases a <;> (show (seqA (.loc n) h).bind _ = _; rw [e]; rfl)
theorem eqA_strL {y : Str} {m : Nat} {xs : List A} {h : AHp} (g : h[m]? = some (.lst xs)) : eqA h (.str y) (.loc m) = some false := by
  have e : seqA (.loc m) h = some (false, xs) := by unfold seqA; simp only [g]
  show (seqA (.loc m) h).bind _ = _
  rw [e]; rfl
theorem anyA_cons {h : AHp} {x y : A} {ys : List A} {k l : Bool} (e1 : eqA h y x = some k) (e2 : anyA h x ys = some l) : anyA h x (y :: ys) = some (k || l) := by
  show (eqA h y x).bind _ = _
  rw [e1, ev_bind, e2]; rfl
theorem any_none {n d : Nat} {a : A} {h : AHp} (o : OkA n d a) (e : LH n h) (hs : isStr a = false) : ∀ ys : List Str, anyA h a (ys.map A.str) = some false
  | [] => rfl
  | y :: r => by
    have e1 : eqA h (.str y) a = some false := by
      cases o with
      | str q => exact absurd hs (by show ¬ true = false; decide)
      | loc q =>
        obtain ⟨xs, g⟩ := (OkA.loc (d := d) q).get e
        exact eqA_strL g
      | _ => rfl
    exact anyA_cons e1 (any_none o e hs r)
theorem v_inSigns {n d : Nat} {a : A} {h : AHp} (o : OkA n d a) (e : LH n h) : cIn a c_SIGNS h = some (.bl (sgn a), h) := by
  show cIn a (.tup (([("and" : Str), "or", "gives"]).map A.str)) h = _
  rw [v_inT]
  cases ha : isStr a with
  | false =>
    rw [any_none o e ha]
    have : sgn a = false := by cases a <;> first | rfl | exact absurd ha (by show ¬ true = false; decide)
    rw [this]; rfl
  | true =>
    obtain ⟨x, rfl⟩ : ∃ x, a = .str x := by cases a <;> first | exact ⟨_, rfl⟩ | exact absurd ha Bool.false_ne_true
    rw [anyA_strs]; rfl
def wordB (x : Str) : Bool := decide (1 ≤ x.length) && decide (x.length ≤ 8) && (cs x).all lowB
def wrd : A → Bool
  | .str x => wordB x
  | _ => false
theorem is_word_spec {n d : Nat} {a : A} {h : AHp} (o : OkA n d a) (e : LH n h) : ∃ h', F_is_word [a] h = some (.bl (wrd a), h') ∧ Kp [] h h' := by
  have hi := isi_str o e
  cases ha : isStr a with
  | false =>
    rw [ha] at hi
    refine ⟨h, ?_, Kp.refl⟩
    have : wrd a = false := by cases a <;> first | rfl | exact absurd ha (by show ¬ true = false; decide)
    rw [this]
    simp only [ap_is_word, b_is_word, ev_bind, ev_op, ev_k1, ev_k2, ev_C, ev_var, ev_kVar, ev_un, ev_ku, ev_chain, ev_kc1, ev_kc2, ev_kc3t, ev_kc3f, ev_tru, ev_kTrb, ev_kTri, ev_B, ev_kB, ev_and, ev_or, ev_not, ev_kAt, ev_kAf, ev_kOt, ev_kOf, ev_kN, ev_eand, ev_eor, ev_enot, ev_kEAt, ev_kEAf, ev_kEOt, ev_kEOf, ev_kEN, ev_eif, ev_kEIt, ev_kEIf, ev_anil, ev_acons, ev_ka1, ev_ka2, ev_tup, ev_lst, ev_call, ev_kCa, ev_seq, ev_kSn, ev_kSr, ev_kSb, ev_kSc, ev_nx, ev_bk, ev_ct, ev_ret, ev_kRt, ev_retN, ev_if, ev_kIt, ev_kIf, ev_x, ev_kX, ev_asg, ev_kAs, ev_kAs2, ev_gN, ev_gT, ev_gT3, ev_gIx, ev_kG1, ev_kG2, ev_kG3, ev_kFr, ev_kFn, ev_for, ev_kFo, ev_mt, ev_kMt2, ev_ms, ev_kMs1, ev_sl, ev_kSl1, ev_kSl2, ev_kSl3, ev_noPart, ev_part, ev_kPt, ev_rng1, ev_istr, ev_kIS, ev_ilst, ev_kILr, ev_lc, ev_kLc, ev_kLc2, ev_yes, ev_irev, List.getElem?_cons_zero, List.getElem?_cons_succ, List.set_cons_zero, List.set_cons_succ, v_addI, v_sub, v_neg, v_lt, v_le, v_gt, v_ge, v_eqI, v_neI, v_eqS, v_neS, v_neB, v_eqB, v_lenT, v_lenR, v_max, v_min, hi, Bool.not_false]
  | true =>
    rw [ha] at hi
    obtain ⟨x, rfl⟩ : ∃ x, a = .str x := by cases a <;> first | exact ⟨_, rfl⟩ | exact absurd ha Bool.false_ne_true
    · have hx : x.length ≤ 1000 := by cases o with | str q => exact q
      have hl : ∀ h, bLen [.str x] h = some (.int x.length, h) := fun h => v_lenS (by omega)
      by_cases q3 : 1 ≤ x.length
      · have d3 : decide ((1 : Int) ≤ (x.length : Int)) = true := decide_eq_true (by omega)
        by_cases q4 : x.length ≤ 8
        · have d4 : decide ((x.length : Int) ≤ 8) = true := decide_eq_true (by omega)
          have lc := lc_str (x := x) (j := 1) (me := e1_is_word) (τ := [some (.str x), none]) (h := h) (p := lowB) hx (fun c => e1_let (τ := []))
          obtain ⟨h1, a1, g1, K1, n1⟩ := mk_lst ((cs x).map fun c => A.bl (lowB c)) h (by rw [List.length_map, ← cs_len]; omega)
          have k1' : kLc2 ((cs x).map fun c => A.bl (lowB c), h) = some (.loc h.length, h1) := by
            have := a1
            rw [ev_kLs (by rw [List.length_map, ← cs_len]; omega)] at this
            rw [ev_kLc2]; exact this
          rw [all_bl] at g1
          have al := v_all g1
          refine ⟨h1, ?_, K1⟩
          have : wrd (.str x) = ((cs x).map lowB).all id := by
            show wordB x = _
            unfold wordB
            rw [decide_eq_true q3, decide_eq_true q4, all_id]; rfl
          rw [this]
          simp only [ap_is_word, b_is_word, ev_bind, ev_op, ev_k1, ev_k2, ev_C, ev_var, ev_kVar, ev_un, ev_ku, ev_chain, ev_kc1, ev_kc2, ev_kc3t, ev_kc3f, ev_tru, ev_kTrb, ev_kTri, ev_B, ev_kB, ev_and, ev_or, ev_not, ev_kAt, ev_kAf, ev_kOt, ev_kOf, ev_kN, ev_eand, ev_eor, ev_enot, ev_kEAt, ev_kEAf, ev_kEOt, ev_kEOf, ev_kEN, ev_eif, ev_kEIt, ev_kEIf, ev_anil, ev_acons, ev_ka1, ev_ka2, ev_tup, ev_lst, ev_call, ev_kCa, ev_seq, ev_kSn, ev_kSr, ev_kSb, ev_kSc, ev_nx, ev_bk, ev_ct, ev_ret, ev_kRt, ev_retN, ev_if, ev_kIt, ev_kIf, ev_x, ev_kX, ev_asg, ev_kAs, ev_kAs2, ev_gN, ev_gT, ev_gT3, ev_gIx, ev_kG1, ev_kG2, ev_kG3, ev_kFr, ev_kFn, ev_for, ev_kFo, ev_mt, ev_kMt2, ev_ms, ev_kMs1, ev_sl, ev_kSl1, ev_kSl2, ev_kSl3, ev_noPart, ev_part, ev_kPt, ev_rng1, ev_istr, ev_kIS, ev_ilst, ev_kILr, ev_lc, ev_kLc, ev_kLc2, ev_yes, ev_irev, List.getElem?_cons_zero, List.getElem?_cons_succ, List.set_cons_zero, List.set_cons_succ, v_addI, v_sub, v_neg, v_lt, v_le, v_gt, v_ge, v_eqI, v_neI, v_eqS, v_neS, v_neB, v_eqB, v_lenT, v_lenR, v_max, v_min, c_LONGEST, hi, hl, d3, d4, Bool.not_true, lc, k1', al]
        · have d4 : decide ((x.length : Int) ≤ 8) = false := decide_eq_false (by omega)
          refine ⟨h, ?_, Kp.refl⟩
          have : wrd (.str x) = false := by show wordB x = false; unfold wordB; rw [decide_eq_false q4]; simp
          rw [this]
          simp only [ap_is_word, b_is_word, ev_bind, ev_op, ev_k1, ev_k2, ev_C, ev_var, ev_kVar, ev_un, ev_ku, ev_chain, ev_kc1, ev_kc2, ev_kc3t, ev_kc3f, ev_tru, ev_kTrb, ev_kTri, ev_B, ev_kB, ev_and, ev_or, ev_not, ev_kAt, ev_kAf, ev_kOt, ev_kOf, ev_kN, ev_eand, ev_eor, ev_enot, ev_kEAt, ev_kEAf, ev_kEOt, ev_kEOf, ev_kEN, ev_eif, ev_kEIt, ev_kEIf, ev_anil, ev_acons, ev_ka1, ev_ka2, ev_tup, ev_lst, ev_call, ev_kCa, ev_seq, ev_kSn, ev_kSr, ev_kSb, ev_kSc, ev_nx, ev_bk, ev_ct, ev_ret, ev_kRt, ev_retN, ev_if, ev_kIt, ev_kIf, ev_x, ev_kX, ev_asg, ev_kAs, ev_kAs2, ev_gN, ev_gT, ev_gT3, ev_gIx, ev_kG1, ev_kG2, ev_kG3, ev_kFr, ev_kFn, ev_for, ev_kFo, ev_mt, ev_kMt2, ev_ms, ev_kMs1, ev_sl, ev_kSl1, ev_kSl2, ev_kSl3, ev_noPart, ev_part, ev_kPt, ev_rng1, ev_istr, ev_kIS, ev_ilst, ev_kILr, ev_lc, ev_kLc, ev_kLc2, ev_yes, ev_irev, List.getElem?_cons_zero, List.getElem?_cons_succ, List.set_cons_zero, List.set_cons_succ, v_addI, v_sub, v_neg, v_lt, v_le, v_gt, v_ge, v_eqI, v_neI, v_eqS, v_neS, v_neB, v_eqB, v_lenT, v_lenR, v_max, v_min, c_LONGEST, hi, hl, d3, d4, Bool.not_true, Bool.not_false]
      · have d3 : decide ((1 : Int) ≤ (x.length : Int)) = false := decide_eq_false (by omega)
        refine ⟨h, ?_, Kp.refl⟩
        have : wrd (.str x) = false := by show wordB x = false; unfold wordB; rw [decide_eq_false q3]; simp
        rw [this]
        simp only [ap_is_word, b_is_word, ev_bind, ev_op, ev_k1, ev_k2, ev_C, ev_var, ev_kVar, ev_un, ev_ku, ev_chain, ev_kc1, ev_kc2, ev_kc3t, ev_kc3f, ev_tru, ev_kTrb, ev_kTri, ev_B, ev_kB, ev_and, ev_or, ev_not, ev_kAt, ev_kAf, ev_kOt, ev_kOf, ev_kN, ev_eand, ev_eor, ev_enot, ev_kEAt, ev_kEAf, ev_kEOt, ev_kEOf, ev_kEN, ev_eif, ev_kEIt, ev_kEIf, ev_anil, ev_acons, ev_ka1, ev_ka2, ev_tup, ev_lst, ev_call, ev_kCa, ev_seq, ev_kSn, ev_kSr, ev_kSb, ev_kSc, ev_nx, ev_bk, ev_ct, ev_ret, ev_kRt, ev_retN, ev_if, ev_kIt, ev_kIf, ev_x, ev_kX, ev_asg, ev_kAs, ev_kAs2, ev_gN, ev_gT, ev_gT3, ev_gIx, ev_kG1, ev_kG2, ev_kG3, ev_kFr, ev_kFn, ev_for, ev_kFo, ev_mt, ev_kMt2, ev_ms, ev_kMs1, ev_sl, ev_kSl1, ev_kSl2, ev_kSl3, ev_noPart, ev_part, ev_kPt, ev_rng1, ev_istr, ev_kIS, ev_ilst, ev_kILr, ev_lc, ev_kLc, ev_kLc2, ev_yes, ev_irev, List.getElem?_cons_zero, List.getElem?_cons_succ, List.set_cons_zero, List.set_cons_succ, v_addI, v_sub, v_neg, v_lt, v_le, v_gt, v_ge, v_eqI, v_neI, v_eqS, v_neS, v_neB, v_eqB, v_lenT, v_lenR, v_max, v_min, hi, hl, d3, Bool.not_true, Bool.not_false]
theorem let_word {x : Str} : letB x = (wordB x && !(x == "nought") && !sgn (.str x)) := by
  have rr : res x = (("nought" == x) || sgn (.str x)) := rfl
  have sy : ("nought" == x) = (x == "nought") := by rw [Bool.eq_iff_iff, beq_iff_eq, beq_iff_eq]; exact eq_comm
  unfold letB wordB
  rw [rr, sy]
  cases decide (1 ≤ x.length) <;> cases decide (x.length ≤ 8) <;> cases (cs x).all lowB <;> cases (x == "nought") <;> cases sgn (.str x) <;> rfl
theorem v_niSigns {n d : Nat} {a : A} {h : AHp} (o : OkA n d a) (e : LH n h) : cNi a c_SIGNS h = some (.bl (!sgn a), h) := by
  have z := v_inSigns o e
  have e1 : cIn a (.tup (([("and" : Str), "or", "gives"]).map A.str)) h = some (.bl (sgn a), h) := z
  rw [v_inT] at e1
  show cNi a (.tup (([("and" : Str), "or", "gives"]).map A.str)) h = _
  have e2 : cNi a (.tup (([("and" : Str), "or", "gives"]).map A.str)) h = (anyA h a (([("and" : Str), "or", "gives"]).map A.str)).bind fun k => some (.bl (!k), h) := by cases a <;> rfl
  rw [e2]
  obtain ⟨k, e3, e4⟩ := bindS e1
  cases e4
  rw [e3]; rfl
theorem is_letter_spec {n d : Nat} {a : A} {h : AHp} (o : OkA n d a) (e : LH n h) : ∃ h', F_is_letter [a] h = some (.bl (lett a), h') ∧ Kp [] h h' := by
  obtain ⟨h1, e1, K1⟩ := is_word_spec o e
  refine ⟨h1, ?_, K1⟩
  cases q : wrd a with
  | false =>
    rw [q] at e1
    have : lett a = false := by
      cases a with
      | str x => show letB x = false; rw [let_word, show wordB x = false from q]; rfl
      | _ => rfl
    rw [this]
    simp only [ap_is_letter, b_is_letter, ev_bind, ev_op, ev_k1, ev_k2, ev_C, ev_var, ev_kVar, ev_un, ev_ku, ev_chain, ev_kc1, ev_kc2, ev_kc3t, ev_kc3f, ev_tru, ev_kTrb, ev_kTri, ev_B, ev_kB, ev_and, ev_or, ev_not, ev_kAt, ev_kAf, ev_kOt, ev_kOf, ev_kN, ev_eand, ev_eor, ev_enot, ev_kEAt, ev_kEAf, ev_kEOt, ev_kEOf, ev_kEN, ev_eif, ev_kEIt, ev_kEIf, ev_anil, ev_acons, ev_ka1, ev_ka2, ev_tup, ev_lst, ev_call, ev_kCa, ev_seq, ev_kSn, ev_kSr, ev_kSb, ev_kSc, ev_nx, ev_bk, ev_ct, ev_ret, ev_kRt, ev_retN, ev_if, ev_kIt, ev_kIf, ev_x, ev_kX, ev_asg, ev_kAs, ev_kAs2, ev_gN, ev_gT, ev_gT3, ev_gIx, ev_kG1, ev_kG2, ev_kG3, ev_kFr, ev_kFn, ev_for, ev_kFo, ev_mt, ev_kMt2, ev_ms, ev_kMs1, ev_sl, ev_kSl1, ev_kSl2, ev_kSl3, ev_noPart, ev_part, ev_kPt, ev_rng1, ev_istr, ev_kIS, ev_ilst, ev_kILr, ev_lc, ev_kLc, ev_kLc2, ev_yes, ev_irev, List.getElem?_cons_zero, List.getElem?_cons_succ, List.set_cons_zero, List.set_cons_succ, v_addI, v_sub, v_neg, v_lt, v_le, v_gt, v_ge, v_eqI, v_neI, v_eqS, v_neS, v_neB, v_eqB, v_lenT, v_lenR, v_max, v_min, e1]
  | true =>
    rw [q] at e1
    obtain ⟨x, rfl⟩ : ∃ x, a = .str x := by cases a <;> first | exact ⟨_, rfl⟩ | exact absurd q Bool.false_ne_true
    have hs := v_niSigns (h := h1) o (e.kp0 K1)
    have hq : cNe (.str x) c_NOUGHT h1 = some (.bl (!(x == "nought")), h1) := rfl
    have lt : lett (.str x) = (!(x == "nought") && !sgn (.str x)) := by show letB x = _; rw [let_word, show wordB x = true from q, Bool.true_and]
    rw [lt]
    cases q1 : (x == "nought") with
    | true => rw [q1] at hq; simp only [ap_is_letter, b_is_letter, ev_bind, ev_op, ev_k1, ev_k2, ev_C, ev_var, ev_kVar, ev_un, ev_ku, ev_chain, ev_kc1, ev_kc2, ev_kc3t, ev_kc3f, ev_tru, ev_kTrb, ev_kTri, ev_B, ev_kB, ev_and, ev_or, ev_not, ev_kAt, ev_kAf, ev_kOt, ev_kOf, ev_kN, ev_eand, ev_eor, ev_enot, ev_kEAt, ev_kEAf, ev_kEOt, ev_kEOf, ev_kEN, ev_eif, ev_kEIt, ev_kEIf, ev_anil, ev_acons, ev_ka1, ev_ka2, ev_tup, ev_lst, ev_call, ev_kCa, ev_seq, ev_kSn, ev_kSr, ev_kSb, ev_kSc, ev_nx, ev_bk, ev_ct, ev_ret, ev_kRt, ev_retN, ev_if, ev_kIt, ev_kIf, ev_x, ev_kX, ev_asg, ev_kAs, ev_kAs2, ev_gN, ev_gT, ev_gT3, ev_gIx, ev_kG1, ev_kG2, ev_kG3, ev_kFr, ev_kFn, ev_for, ev_kFo, ev_mt, ev_kMt2, ev_ms, ev_kMs1, ev_sl, ev_kSl1, ev_kSl2, ev_kSl3, ev_noPart, ev_part, ev_kPt, ev_rng1, ev_istr, ev_kIS, ev_ilst, ev_kILr, ev_lc, ev_kLc, ev_kLc2, ev_yes, ev_irev, List.getElem?_cons_zero, List.getElem?_cons_succ, List.set_cons_zero, List.set_cons_succ, v_addI, v_sub, v_neg, v_lt, v_le, v_gt, v_ge, v_eqI, v_neI, v_eqS, v_neS, v_neB, v_eqB, v_lenT, v_lenR, v_max, v_min, e1, hq, Bool.not_true, Bool.false_and]
    | false => rw [q1] at hq; simp only [ap_is_letter, b_is_letter, ev_bind, ev_op, ev_k1, ev_k2, ev_C, ev_var, ev_kVar, ev_un, ev_ku, ev_chain, ev_kc1, ev_kc2, ev_kc3t, ev_kc3f, ev_tru, ev_kTrb, ev_kTri, ev_B, ev_kB, ev_and, ev_or, ev_not, ev_kAt, ev_kAf, ev_kOt, ev_kOf, ev_kN, ev_eand, ev_eor, ev_enot, ev_kEAt, ev_kEAf, ev_kEOt, ev_kEOf, ev_kEN, ev_eif, ev_kEIt, ev_kEIf, ev_anil, ev_acons, ev_ka1, ev_ka2, ev_tup, ev_lst, ev_call, ev_kCa, ev_seq, ev_kSn, ev_kSr, ev_kSb, ev_kSc, ev_nx, ev_bk, ev_ct, ev_ret, ev_kRt, ev_retN, ev_if, ev_kIt, ev_kIf, ev_x, ev_kX, ev_asg, ev_kAs, ev_kAs2, ev_gN, ev_gT, ev_gT3, ev_gIx, ev_kG1, ev_kG2, ev_kG3, ev_kFr, ev_kFn, ev_for, ev_kFo, ev_mt, ev_kMt2, ev_ms, ev_kMs1, ev_sl, ev_kSl1, ev_kSl2, ev_kSl3, ev_noPart, ev_part, ev_kPt, ev_rng1, ev_istr, ev_kIS, ev_ilst, ev_kILr, ev_lc, ev_kLc, ev_kLc2, ev_yes, ev_irev, List.getElem?_cons_zero, List.getElem?_cons_succ, List.set_cons_zero, List.set_cons_succ, v_addI, v_sub, v_neg, v_lt, v_le, v_gt, v_ge, v_eqI, v_neI, v_eqS, v_neS, v_neB, v_eqB, v_lenT, v_lenR, v_max, v_min, e1, hq, hs, Bool.not_false, Bool.true_and]
end Sh
set_option Elab.async false
set_option linter.all false
set_option maxRecDepth 100000
namespace Sh
open PySem L2 Ab
set_option autoImplicit false
def isNou : A → Bool
  | .str x => x == "nought"
  | _ => false
def leafB (a : A) : Bool := isNou a || lett a
def isSt : A → Bool
  | .tup [s, a, b] => sgn s && (isSt a && isSt b)
  | .tup _ => false
  | a => leafB a
termination_by a => sizeOf a
decreasing_by all_goals (simp_wf; omega)
def sz : A → Nat
  | .tup [_, a, b] => 1 + (sz a + sz b)
  | _ => 1
termination_by a => sizeOf a
decreasing_by all_goals (simp_wf; omega)
theorem sz_pos (a : A) : 1 ≤ sz a := by
  unfold sz
  split <;> omega
theorem isSt_leaf {a : A} (h : isTup a = false) : isSt a = leafB a := by
  cases a with
  | tup xs => exact absurd h (by show ¬ true = false; decide)
  | _ => unfold isSt; rfl
theorem isSt_3 (s a b : A) : isSt (.tup [s, a, b]) = (sgn s && (isSt a && isSt b)) := by rw [isSt]
theorem isSt_n {xs : List A} (h : xs.length ≠ 3) : isSt (.tup xs) = false := by
  match xs, h with
  | [], _ => rw [isSt]; intro s a b e; cases e
  | [_], _ => rw [isSt]; intro s a b e; cases e
  | [_, _], _ => rw [isSt]; intro s a b e; cases e
  | [_, _, _], h => exact absurd rfl h
  | _ :: _ :: _ :: _ :: _, _ => rw [isSt]; intro s a b e; cases e
theorem sz_3 (s a b : A) : sz (.tup [s, a, b]) = 1 + (sz a + sz b) := by rw [sz]
theorem ne_nought {n d : Nat} {a : A} {h : AHp} (o : OkA n d a) (e : LH n h) (ht : isTup a = false) : cNe a c_NOUGHT h = some (.bl (!isNou a), h) := by
  cases o with
  | @loc _ m q =>
    obtain ⟨xs, g⟩ := (OkA.loc (d := d) q).get e
    have e : seqA (.loc m) h = some (false, xs) := by unfold seqA; simp only [g]
    show ((seqA (.loc m) h).bind fun _ => some false).bind _ = _
    rw [e]; rfl
  | tup q => exact absurd ht (by show ¬ true = false; decide)
  | _ => rfl
theorem while_more {m : MT} {s : MS} : ∀ {k : Nat} {τ : ASt} {h : AHp} {r : Fl × AHp} (j : Nat), whileL m s k τ h = some r → whileL m s (k + j) τ h = some r
  | 0, _, _, _, _, e => by cases e
  | k + 1, τ, h, r, j, e => by
    rw [show k + 1 + j = (k + j) + 1 by omega]
    change (m τ h).bind _ = _ at e
    show (m τ h).bind _ = _
    obtain ⟨⟨b, h1⟩, e1, e⟩ := bindS e
    rw [e1, ev_bind]
    cases b with
    | false => exact e
    | true =>
      change (s τ h1).bind _ = _ at e
      show (s τ h1).bind _ = _
      obtain ⟨⟨f, h2⟩, e2, e⟩ := bindS e
      rw [e2, ev_bind]
      cases f with
      | nx τ1 => exact while_more j e
      | ct τ1 => exact while_more j e
      | bk τ1 => exact e
      | rt a => exact e
end Sh
set_option Elab.async false
set_option linter.all false
set_option maxRecDepth 100000
namespace Sh
open PySem L2 Ab
set_option autoImplicit false
theorem alpha_has (c : Nat) : alpha.cps.toList.contains c = lowB c := by
  have e : alpha.cps.toList = List.range' 97 26 := by decide +kernel
  rw [e, Bool.eq_iff_iff]
  unfold lowB
  rw [List.contains_iff_mem, List.mem_range'_1, Bool.and_eq_true, decide_eq_true_iff, decide_eq_true_iff]
  omega
theorem e1_lawlet {t : A} {c : Nat} {h : AHp} : e1_law_is_letter [some t, some (.str ⟨#[c]⟩)] h = some (.bl (lowB c), h) := by
  have l1 : cIn (.str ⟨#[c]⟩) (.str alpha) h = some (.bl (lowB c), h) := by
    rw [← alpha_has]; rfl
  simp only [e1_law_is_letter, ev_bind, ev_op, ev_k1, ev_k2, ev_C, ev_var, ev_kVar, ev_un, ev_ku, ev_chain, ev_kc1, ev_kc2, ev_kc3t, ev_kc3f, ev_tru, ev_kTrb, ev_kTri, ev_B, ev_kB, ev_and, ev_or, ev_not, ev_kAt, ev_kAf, ev_kOt, ev_kOf, ev_kN, ev_eand, ev_eor, ev_enot, ev_kEAt, ev_kEAf, ev_kEOt, ev_kEOf, ev_kEN, ev_eif, ev_kEIt, ev_kEIf, ev_anil, ev_acons, ev_ka1, ev_ka2, ev_tup, ev_lst, ev_call, ev_kCa, ev_seq, ev_kSn, ev_kSr, ev_kSb, ev_kSc, ev_nx, ev_bk, ev_ct, ev_ret, ev_kRt, ev_retN, ev_if, ev_kIt, ev_kIf, ev_x, ev_kX, ev_asg, ev_kAs, ev_kAs2, ev_gN, ev_gT, ev_gT3, ev_gIx, ev_kG1, ev_kG2, ev_kG3, ev_kFr, ev_kFn, ev_for, ev_kFo, ev_mt, ev_kMt2, ev_ms, ev_kMs1, ev_sl, ev_kSl1, ev_kSl2, ev_kSl3, ev_noPart, ev_part, ev_kPt, ev_rng1, ev_istr, ev_kIS, ev_ilst, ev_kILr, ev_lc, ev_kLc, ev_kLc2, ev_yes, ev_irev, List.getElem?_cons_zero, List.getElem?_cons_succ, List.set_cons_zero, List.set_cons_succ, v_addI, v_sub, v_neg, v_lt, v_le, v_gt, v_ge, v_eqI, v_neI, v_eqS, v_neS, v_neB, v_eqB, v_lenT, v_lenR, v_max, v_min, alpha_eq, l1]
theorem law_is_letter_spec {n d : Nat} {a : A} {h : AHp} (o : OkA n d a) (e : LH n h) : ∃ h', F_law_is_letter [a] h = some (.bl (lett a), h') ∧ Kp [] h h' := by
  have hi := isi_str o e
  cases ha : isStr a with
  | false =>
    rw [ha] at hi
    refine ⟨h, ?_, Kp.refl⟩
    have : lett a = false := by cases a <;> first | rfl | exact absurd ha (by show ¬ true = false; decide)
    rw [this]
    simp only [ap_law_is_letter, b_law_is_letter, ev_bind, ev_op, ev_k1, ev_k2, ev_C, ev_var, ev_kVar, ev_un, ev_ku, ev_chain, ev_kc1, ev_kc2, ev_kc3t, ev_kc3f, ev_tru, ev_kTrb, ev_kTri, ev_B, ev_kB, ev_and, ev_or, ev_not, ev_kAt, ev_kAf, ev_kOt, ev_kOf, ev_kN, ev_eand, ev_eor, ev_enot, ev_kEAt, ev_kEAf, ev_kEOt, ev_kEOf, ev_kEN, ev_eif, ev_kEIt, ev_kEIf, ev_anil, ev_acons, ev_ka1, ev_ka2, ev_tup, ev_lst, ev_call, ev_kCa, ev_seq, ev_kSn, ev_kSr, ev_kSb, ev_kSc, ev_nx, ev_bk, ev_ct, ev_ret, ev_kRt, ev_retN, ev_if, ev_kIt, ev_kIf, ev_x, ev_kX, ev_asg, ev_kAs, ev_kAs2, ev_gN, ev_gT, ev_gT3, ev_gIx, ev_kG1, ev_kG2, ev_kG3, ev_kFr, ev_kFn, ev_for, ev_kFo, ev_mt, ev_kMt2, ev_ms, ev_kMs1, ev_sl, ev_kSl1, ev_kSl2, ev_kSl3, ev_noPart, ev_part, ev_kPt, ev_rng1, ev_istr, ev_kIS, ev_ilst, ev_kILr, ev_lc, ev_kLc, ev_kLc2, ev_yes, ev_irev, List.getElem?_cons_zero, List.getElem?_cons_succ, List.set_cons_zero, List.set_cons_succ, v_addI, v_sub, v_neg, v_lt, v_le, v_gt, v_ge, v_eqI, v_neI, v_eqS, v_neS, v_neB, v_eqB, v_lenT, v_lenR, v_max, v_min, hi, Bool.not_false]
  | true =>
    rw [ha] at hi
    obtain ⟨x, rfl⟩ : ∃ x, a = .str x := by cases a <;> first | exact ⟨_, rfl⟩ | exact absurd ha Bool.false_ne_true
    have hx : x.length ≤ 1000 := by cases o with | str q => exact q
    have hl : ∀ h, bLen [.str x] h = some (.int x.length, h) := fun h => v_lenS (by omega)
    by_cases q3 : 1 ≤ x.length
    · have d3 : decide ((1 : Int) ≤ (x.length : Int)) = true := decide_eq_true (by omega)
      by_cases q4 : x.length ≤ 8
      · have d4 : decide ((x.length : Int) ≤ 8) = true := decide_eq_true (by omega)
        obtain ⟨h1, a1, g1, K1, n1⟩ := mk_lst [.str "nought", .str "and", .str "or", .str "gives"] h (by simp)
        have ii : cIn (.str x) (.loc h.length) h1 = some (.bl (res x), h1) := by
          rw [v_inL (ys := (["nought", "and", "or", "gives"] : List Str).map A.str) g1, anyA_strs]; rfl
        cases r0 : res x with
        | true =>
          rw [r0] at ii
          refine ⟨h1, ?_, K1⟩
          have : lett (.str x) = false := by show letB x = false; unfold letB; rw [r0]; rfl
          rw [this]
          simp only [ap_law_is_letter, b_law_is_letter, ev_bind, ev_op, ev_k1, ev_k2, ev_C, ev_var, ev_kVar, ev_un, ev_ku, ev_chain, ev_kc1, ev_kc2, ev_kc3t, ev_kc3f, ev_tru, ev_kTrb, ev_kTri, ev_B, ev_kB, ev_and, ev_or, ev_not, ev_kAt, ev_kAf, ev_kOt, ev_kOf, ev_kN, ev_eand, ev_eor, ev_enot, ev_kEAt, ev_kEAf, ev_kEOt, ev_kEOf, ev_kEN, ev_eif, ev_kEIt, ev_kEIf, ev_anil, ev_acons, ev_ka1, ev_ka2, ev_tup, ev_lst, ev_call, ev_kCa, ev_seq, ev_kSn, ev_kSr, ev_kSb, ev_kSc, ev_nx, ev_bk, ev_ct, ev_ret, ev_kRt, ev_retN, ev_if, ev_kIt, ev_kIf, ev_x, ev_kX, ev_asg, ev_kAs, ev_kAs2, ev_gN, ev_gT, ev_gT3, ev_gIx, ev_kG1, ev_kG2, ev_kG3, ev_kFr, ev_kFn, ev_for, ev_kFo, ev_mt, ev_kMt2, ev_ms, ev_kMs1, ev_sl, ev_kSl1, ev_kSl2, ev_kSl3, ev_noPart, ev_part, ev_kPt, ev_rng1, ev_istr, ev_kIS, ev_ilst, ev_kILr, ev_lc, ev_kLc, ev_kLc2, ev_yes, ev_irev, List.getElem?_cons_zero, List.getElem?_cons_succ, List.set_cons_zero, List.set_cons_succ, v_addI, v_sub, v_neg, v_lt, v_le, v_gt, v_ge, v_eqI, v_neI, v_eqS, v_neS, v_neB, v_eqB, v_lenT, v_lenR, v_max, v_min, hi, hl, d3, d4, a1, ii, Bool.not_true]
        | false =>
          rw [r0] at ii
          have lc := lc_str (x := x) (j := 1) (me := e1_law_is_letter) (τ := [some (.str x), none]) (h := h1) (p := lowB) hx (fun c => e1_lawlet)
          obtain ⟨h2, a2, g2, K2, n2⟩ := mk_lst ((cs x).map fun c => A.bl (lowB c)) h1 (by rw [List.length_map, ← cs_len]; omega)
          have k1' : kLc2 ((cs x).map fun c => A.bl (lowB c), h1) = some (.loc h1.length, h2) := by
            have := a2
            rw [ev_kLs (by rw [List.length_map, ← cs_len]; omega)] at this
            rw [ev_kLc2]; exact this
          rw [all_bl] at g2
          have al := v_all g2
          refine ⟨h2, ?_, K1.trans K2⟩
          have : lett (.str x) = ((cs x).map lowB).all id := by
            show letB x = _
            unfold letB
            rw [r0, decide_eq_true q3, decide_eq_true q4, all_id]; rfl
          rw [this]
          simp only [ap_law_is_letter, b_law_is_letter, ev_bind, ev_op, ev_k1, ev_k2, ev_C, ev_var, ev_kVar, ev_un, ev_ku, ev_chain, ev_kc1, ev_kc2, ev_kc3t, ev_kc3f, ev_tru, ev_kTrb, ev_kTri, ev_B, ev_kB, ev_and, ev_or, ev_not, ev_kAt, ev_kAf, ev_kOt, ev_kOf, ev_kN, ev_eand, ev_eor, ev_enot, ev_kEAt, ev_kEAf, ev_kEOt, ev_kEOf, ev_kEN, ev_eif, ev_kEIt, ev_kEIf, ev_anil, ev_acons, ev_ka1, ev_ka2, ev_tup, ev_lst, ev_call, ev_kCa, ev_seq, ev_kSn, ev_kSr, ev_kSb, ev_kSc, ev_nx, ev_bk, ev_ct, ev_ret, ev_kRt, ev_retN, ev_if, ev_kIt, ev_kIf, ev_x, ev_kX, ev_asg, ev_kAs, ev_kAs2, ev_gN, ev_gT, ev_gT3, ev_gIx, ev_kG1, ev_kG2, ev_kG3, ev_kFr, ev_kFn, ev_for, ev_kFo, ev_mt, ev_kMt2, ev_ms, ev_kMs1, ev_sl, ev_kSl1, ev_kSl2, ev_kSl3, ev_noPart, ev_part, ev_kPt, ev_rng1, ev_istr, ev_kIS, ev_ilst, ev_kILr, ev_lc, ev_kLc, ev_kLc2, ev_yes, ev_irev, List.getElem?_cons_zero, List.getElem?_cons_succ, List.set_cons_zero, List.set_cons_succ, v_addI, v_sub, v_neg, v_lt, v_le, v_gt, v_ge, v_eqI, v_neI, v_eqS, v_neS, v_neB, v_eqB, v_lenT, v_lenR, v_max, v_min, hi, hl, d3, d4, a1, ii, Bool.not_true, lc, k1', al]
      · have d4 : decide ((x.length : Int) ≤ 8) = false := decide_eq_false (by omega)
        refine ⟨h, ?_, Kp.refl⟩
        have : lett (.str x) = false := by show letB x = false; unfold letB; rw [decide_eq_false q4]; simp
        rw [this]
        simp only [ap_law_is_letter, b_law_is_letter, ev_bind, ev_op, ev_k1, ev_k2, ev_C, ev_var, ev_kVar, ev_un, ev_ku, ev_chain, ev_kc1, ev_kc2, ev_kc3t, ev_kc3f, ev_tru, ev_kTrb, ev_kTri, ev_B, ev_kB, ev_and, ev_or, ev_not, ev_kAt, ev_kAf, ev_kOt, ev_kOf, ev_kN, ev_eand, ev_eor, ev_enot, ev_kEAt, ev_kEAf, ev_kEOt, ev_kEOf, ev_kEN, ev_eif, ev_kEIt, ev_kEIf, ev_anil, ev_acons, ev_ka1, ev_ka2, ev_tup, ev_lst, ev_call, ev_kCa, ev_seq, ev_kSn, ev_kSr, ev_kSb, ev_kSc, ev_nx, ev_bk, ev_ct, ev_ret, ev_kRt, ev_retN, ev_if, ev_kIt, ev_kIf, ev_x, ev_kX, ev_asg, ev_kAs, ev_kAs2, ev_gN, ev_gT, ev_gT3, ev_gIx, ev_kG1, ev_kG2, ev_kG3, ev_kFr, ev_kFn, ev_for, ev_kFo, ev_mt, ev_kMt2, ev_ms, ev_kMs1, ev_sl, ev_kSl1, ev_kSl2, ev_kSl3, ev_noPart, ev_part, ev_kPt, ev_rng1, ev_istr, ev_kIS, ev_ilst, ev_kILr, ev_lc, ev_kLc, ev_kLc2, ev_yes, ev_irev, List.getElem?_cons_zero, List.getElem?_cons_succ, List.set_cons_zero, List.set_cons_succ, v_addI, v_sub, v_neg, v_lt, v_le, v_gt, v_ge, v_eqI, v_neI, v_eqS, v_neS, v_neB, v_eqB, v_lenT, v_lenR, v_max, v_min, hi, hl, d3, d4, Bool.not_true, Bool.not_false]
    · have d3 : decide ((1 : Int) ≤ (x.length : Int)) = false := decide_eq_false (by omega)
      refine ⟨h, ?_, Kp.refl⟩
      have : lett (.str x) = false := by show letB x = false; unfold letB; rw [decide_eq_false q3]; simp
      rw [this]
      simp only [ap_law_is_letter, b_law_is_letter, ev_bind, ev_op, ev_k1, ev_k2, ev_C, ev_var, ev_kVar, ev_un, ev_ku, ev_chain, ev_kc1, ev_kc2, ev_kc3t, ev_kc3f, ev_tru, ev_kTrb, ev_kTri, ev_B, ev_kB, ev_and, ev_or, ev_not, ev_kAt, ev_kAf, ev_kOt, ev_kOf, ev_kN, ev_eand, ev_eor, ev_enot, ev_kEAt, ev_kEAf, ev_kEOt, ev_kEOf, ev_kEN, ev_eif, ev_kEIt, ev_kEIf, ev_anil, ev_acons, ev_ka1, ev_ka2, ev_tup, ev_lst, ev_call, ev_kCa, ev_seq, ev_kSn, ev_kSr, ev_kSb, ev_kSc, ev_nx, ev_bk, ev_ct, ev_ret, ev_kRt, ev_retN, ev_if, ev_kIt, ev_kIf, ev_x, ev_kX, ev_asg, ev_kAs, ev_kAs2, ev_gN, ev_gT, ev_gT3, ev_gIx, ev_kG1, ev_kG2, ev_kG3, ev_kFr, ev_kFn, ev_for, ev_kFo, ev_mt, ev_kMt2, ev_ms, ev_kMs1, ev_sl, ev_kSl1, ev_kSl2, ev_kSl3, ev_noPart, ev_part, ev_kPt, ev_rng1, ev_istr, ev_kIS, ev_ilst, ev_kILr, ev_lc, ev_kLc, ev_kLc2, ev_yes, ev_irev, List.getElem?_cons_zero, List.getElem?_cons_succ, List.set_cons_zero, List.set_cons_succ, v_addI, v_sub, v_neg, v_lt, v_le, v_gt, v_ge, v_eqI, v_neI, v_eqS, v_neS, v_neB, v_eqB, v_lenT, v_lenR, v_max, v_min, hi, hl, d3, Bool.not_true, Bool.not_false]
theorem law_is_statement_spec : ∀ (fuel d n : Nat) (a : A) (h : AHp), d < fuel → OkA n d a → LH n h → ∃ h', F_law_is_statement fuel [a] h = some (.bl (isSt a), h') ∧ Kp [] h h' := by
  intro fuel
  induction fuel with
  | zero => intro d n a h hf; omega
  | succ fuel ih =>
    intro d n a h hf o e
    have it := isi_tup o e
    cases ht : isTup a with
    | true =>
      rw [ht] at it
      obtain ⟨xs, rfl⟩ : ∃ xs, a = .tup xs := by cases a <;> first | exact ⟨_, rfl⟩ | exact absurd ht Bool.false_ne_true
      obtain ⟨d', rfl⟩ : ∃ d', d = d' + 1 := by cases o; exact ⟨_, rfl⟩
      by_cases hl : xs.length = 3
      · match xs, hl with
        | [s, x, y], _ =>
          have os : ∀ z ∈ [s, x, y], OkA n d' z := by cases o with | tup q => exact q
          have h3 : (!((((([s, x, y] : List A).length : Nat) : Int)) == 3)) = false := rfl
          have i0 : ∀ h, xIx (.tup [s, x, y]) (.int 0) h = some (s, h) := fun h => v_ixT rfl
          have i1 : ∀ h, xIx (.tup [s, x, y]) (.int 1) h = some (x, h) := fun h => v_ixT rfl
          have i2 : ∀ h, xIx (.tup [s, x, y]) (.int 2) h = some (y, h) := fun h => v_ixT rfl
          have iss := isi_str (os s (by simp)) e
          rw [isSt_3]
          cases hs : isStr s with
          | false =>
            rw [hs] at iss
            have : sgn s = false := by cases s <;> first | rfl | exact absurd hs (by show ¬ true = false; decide)
            rw [this]
            refine ⟨h, ?_, Kp.refl⟩
            simp only [ap_law_is_statement, b_law_is_statement, ev_bind, ev_op, ev_k1, ev_k2, ev_C, ev_var, ev_kVar, ev_un, ev_ku, ev_chain, ev_kc1, ev_kc2, ev_kc3t, ev_kc3f, ev_tru, ev_kTrb, ev_kTri, ev_B, ev_kB, ev_and, ev_or, ev_not, ev_kAt, ev_kAf, ev_kOt, ev_kOf, ev_kN, ev_eand, ev_eor, ev_enot, ev_kEAt, ev_kEAf, ev_kEOt, ev_kEOf, ev_kEN, ev_eif, ev_kEIt, ev_kEIf, ev_anil, ev_acons, ev_ka1, ev_ka2, ev_tup, ev_lst, ev_call, ev_kCa, ev_seq, ev_kSn, ev_kSr, ev_kSb, ev_kSc, ev_nx, ev_bk, ev_ct, ev_ret, ev_kRt, ev_retN, ev_if, ev_kIt, ev_kIf, ev_x, ev_kX, ev_asg, ev_kAs, ev_kAs2, ev_gN, ev_gT, ev_gT3, ev_gIx, ev_kG1, ev_kG2, ev_kG3, ev_kFr, ev_kFn, ev_for, ev_kFo, ev_mt, ev_kMt2, ev_ms, ev_kMs1, ev_sl, ev_kSl1, ev_kSl2, ev_kSl3, ev_noPart, ev_part, ev_kPt, ev_rng1, ev_istr, ev_kIS, ev_ilst, ev_kILr, ev_lc, ev_kLc, ev_kLc2, ev_yes, ev_irev, List.getElem?_cons_zero, List.getElem?_cons_succ, List.set_cons_zero, List.set_cons_succ, v_addI, v_sub, v_neg, v_lt, v_le, v_gt, v_ge, v_eqI, v_neI, v_eqS, v_neS, v_neB, v_eqB, v_lenT, v_lenR, v_max, v_min, it, h3, i0, iss, Bool.not_false, Bool.false_and]
          | true =>
            rw [hs] at iss
            obtain ⟨z, rfl⟩ : ∃ z, s = .str z := by cases s <;> first | exact ⟨_, rfl⟩ | exact absurd hs Bool.false_ne_true
            obtain ⟨h1, a1, g1, K1, n1⟩ := mk_lst [.str "and", .str "or", .str "gives"] h (by simp)
            have ni : cNi (.str z) (.loc h.length) h1 = some (.bl (!sgn (.str z)), h1) := by
              rw [v_niL (ys := (["and", "or", "gives"] : List Str).map A.str) g1, anyA_strs]; rfl
            cases hg : sgn (.str z) with
            | false =>
              rw [hg] at ni
              refine ⟨h1, ?_, K1⟩
              simp only [ap_law_is_statement, b_law_is_statement, ev_bind, ev_op, ev_k1, ev_k2, ev_C, ev_var, ev_kVar, ev_un, ev_ku, ev_chain, ev_kc1, ev_kc2, ev_kc3t, ev_kc3f, ev_tru, ev_kTrb, ev_kTri, ev_B, ev_kB, ev_and, ev_or, ev_not, ev_kAt, ev_kAf, ev_kOt, ev_kOf, ev_kN, ev_eand, ev_eor, ev_enot, ev_kEAt, ev_kEAf, ev_kEOt, ev_kEOf, ev_kEN, ev_eif, ev_kEIt, ev_kEIf, ev_anil, ev_acons, ev_ka1, ev_ka2, ev_tup, ev_lst, ev_call, ev_kCa, ev_seq, ev_kSn, ev_kSr, ev_kSb, ev_kSc, ev_nx, ev_bk, ev_ct, ev_ret, ev_kRt, ev_retN, ev_if, ev_kIt, ev_kIf, ev_x, ev_kX, ev_asg, ev_kAs, ev_kAs2, ev_gN, ev_gT, ev_gT3, ev_gIx, ev_kG1, ev_kG2, ev_kG3, ev_kFr, ev_kFn, ev_for, ev_kFo, ev_mt, ev_kMt2, ev_ms, ev_kMs1, ev_sl, ev_kSl1, ev_kSl2, ev_kSl3, ev_noPart, ev_part, ev_kPt, ev_rng1, ev_istr, ev_kIS, ev_ilst, ev_kILr, ev_lc, ev_kLc, ev_kLc2, ev_yes, ev_irev, List.getElem?_cons_zero, List.getElem?_cons_succ, List.set_cons_zero, List.set_cons_succ, v_addI, v_sub, v_neg, v_lt, v_le, v_gt, v_ge, v_eqI, v_neI, v_eqS, v_neS, v_neB, v_eqB, v_lenT, v_lenR, v_max, v_min, it, h3, i0, iss, a1, ni, Bool.not_true, Bool.not_false, Bool.false_and]
            | true =>
              rw [hg] at ni
              obtain ⟨h2, e2, K2⟩ := ih d' n x h1 (by omega) (os x (by simp)) (e.kp0 K1)
              cases hx : isSt x with
              | false =>
                rw [hx] at e2
                refine ⟨h2, ?_, K1.trans K2⟩
                simp only [ap_law_is_statement, b_law_is_statement, ev_bind, ev_op, ev_k1, ev_k2, ev_C, ev_var, ev_kVar, ev_un, ev_ku, ev_chain, ev_kc1, ev_kc2, ev_kc3t, ev_kc3f, ev_tru, ev_kTrb, ev_kTri, ev_B, ev_kB, ev_and, ev_or, ev_not, ev_kAt, ev_kAf, ev_kOt, ev_kOf, ev_kN, ev_eand, ev_eor, ev_enot, ev_kEAt, ev_kEAf, ev_kEOt, ev_kEOf, ev_kEN, ev_eif, ev_kEIt, ev_kEIf, ev_anil, ev_acons, ev_ka1, ev_ka2, ev_tup, ev_lst, ev_call, ev_kCa, ev_seq, ev_kSn, ev_kSr, ev_kSb, ev_kSc, ev_nx, ev_bk, ev_ct, ev_ret, ev_kRt, ev_retN, ev_if, ev_kIt, ev_kIf, ev_x, ev_kX, ev_asg, ev_kAs, ev_kAs2, ev_gN, ev_gT, ev_gT3, ev_gIx, ev_kG1, ev_kG2, ev_kG3, ev_kFr, ev_kFn, ev_for, ev_kFo, ev_mt, ev_kMt2, ev_ms, ev_kMs1, ev_sl, ev_kSl1, ev_kSl2, ev_kSl3, ev_noPart, ev_part, ev_kPt, ev_rng1, ev_istr, ev_kIS, ev_ilst, ev_kILr, ev_lc, ev_kLc, ev_kLc2, ev_yes, ev_irev, List.getElem?_cons_zero, List.getElem?_cons_succ, List.set_cons_zero, List.set_cons_succ, v_addI, v_sub, v_neg, v_lt, v_le, v_gt, v_ge, v_eqI, v_neI, v_eqS, v_neS, v_neB, v_eqB, v_lenT, v_lenR, v_max, v_min, it, h3, i0, i1, iss, a1, ni, e2, Bool.not_true, Bool.true_and, Bool.false_and]
              | true =>
                rw [hx] at e2
                obtain ⟨h3', e3, K3⟩ := ih d' n y h2 (by omega) (os y (by simp)) (e.kp0 (K1.trans K2))
                refine ⟨h3', ?_, (K1.trans K2).trans K3⟩
                simp only [ap_law_is_statement, b_law_is_statement, ev_bind, ev_op, ev_k1, ev_k2, ev_C, ev_var, ev_kVar, ev_un, ev_ku, ev_chain, ev_kc1, ev_kc2, ev_kc3t, ev_kc3f, ev_tru, ev_kTrb, ev_kTri, ev_B, ev_kB, ev_and, ev_or, ev_not, ev_kAt, ev_kAf, ev_kOt, ev_kOf, ev_kN, ev_eand, ev_eor, ev_enot, ev_kEAt, ev_kEAf, ev_kEOt, ev_kEOf, ev_kEN, ev_eif, ev_kEIt, ev_kEIf, ev_anil, ev_acons, ev_ka1, ev_ka2, ev_tup, ev_lst, ev_call, ev_kCa, ev_seq, ev_kSn, ev_kSr, ev_kSb, ev_kSc, ev_nx, ev_bk, ev_ct, ev_ret, ev_kRt, ev_retN, ev_if, ev_kIt, ev_kIf, ev_x, ev_kX, ev_asg, ev_kAs, ev_kAs2, ev_gN, ev_gT, ev_gT3, ev_gIx, ev_kG1, ev_kG2, ev_kG3, ev_kFr, ev_kFn, ev_for, ev_kFo, ev_mt, ev_kMt2, ev_ms, ev_kMs1, ev_sl, ev_kSl1, ev_kSl2, ev_kSl3, ev_noPart, ev_part, ev_kPt, ev_rng1, ev_istr, ev_kIS, ev_ilst, ev_kILr, ev_lc, ev_kLc, ev_kLc2, ev_yes, ev_irev, List.getElem?_cons_zero, List.getElem?_cons_succ, List.set_cons_zero, List.set_cons_succ, v_addI, v_sub, v_neg, v_lt, v_le, v_gt, v_ge, v_eqI, v_neI, v_eqS, v_neS, v_neB, v_eqB, v_lenT, v_lenR, v_max, v_min, it, h3, i0, i1, i2, iss, a1, ni, e2, e3, Bool.not_true, Bool.true_and]
      · have h3 : (!((((xs.length : Nat) : Int)) == 3)) = true := by simp; omega
        rw [isSt_n hl]
        refine ⟨h, ?_, Kp.refl⟩
        simp only [ap_law_is_statement, b_law_is_statement, ev_bind, ev_op, ev_k1, ev_k2, ev_C, ev_var, ev_kVar, ev_un, ev_ku, ev_chain, ev_kc1, ev_kc2, ev_kc3t, ev_kc3f, ev_tru, ev_kTrb, ev_kTri, ev_B, ev_kB, ev_and, ev_or, ev_not, ev_kAt, ev_kAf, ev_kOt, ev_kOf, ev_kN, ev_eand, ev_eor, ev_enot, ev_kEAt, ev_kEAf, ev_kEOt, ev_kEOf, ev_kEN, ev_eif, ev_kEIt, ev_kEIf, ev_anil, ev_acons, ev_ka1, ev_ka2, ev_tup, ev_lst, ev_call, ev_kCa, ev_seq, ev_kSn, ev_kSr, ev_kSb, ev_kSc, ev_nx, ev_bk, ev_ct, ev_ret, ev_kRt, ev_retN, ev_if, ev_kIt, ev_kIf, ev_x, ev_kX, ev_asg, ev_kAs, ev_kAs2, ev_gN, ev_gT, ev_gT3, ev_gIx, ev_kG1, ev_kG2, ev_kG3, ev_kFr, ev_kFn, ev_for, ev_kFo, ev_mt, ev_kMt2, ev_ms, ev_kMs1, ev_sl, ev_kSl1, ev_kSl2, ev_kSl3, ev_noPart, ev_part, ev_kPt, ev_rng1, ev_istr, ev_kIS, ev_ilst, ev_kILr, ev_lc, ev_kLc, ev_kLc2, ev_yes, ev_irev, List.getElem?_cons_zero, List.getElem?_cons_succ, List.set_cons_zero, List.set_cons_succ, v_addI, v_sub, v_neg, v_lt, v_le, v_gt, v_ge, v_eqI, v_neI, v_eqS, v_neS, v_neB, v_eqB, v_lenT, v_lenR, v_max, v_min, it, h3]
    | false =>
      rw [ht] at it
      rw [isSt_leaf ht]
      obtain ⟨h1, e1, K1⟩ := law_is_letter_spec o e
      have iss := isi_str o e
      have iss1 := isi_str o (e.kp0 K1)
      unfold leafB
      cases hx : lett a with
      | true =>
        rw [hx] at e1
        refine ⟨h1, ?_, K1⟩
        simp only [ap_law_is_statement, b_law_is_statement, ev_bind, ev_op, ev_k1, ev_k2, ev_C, ev_var, ev_kVar, ev_un, ev_ku, ev_chain, ev_kc1, ev_kc2, ev_kc3t, ev_kc3f, ev_tru, ev_kTrb, ev_kTri, ev_B, ev_kB, ev_and, ev_or, ev_not, ev_kAt, ev_kAf, ev_kOt, ev_kOf, ev_kN, ev_eand, ev_eor, ev_enot, ev_kEAt, ev_kEAf, ev_kEOt, ev_kEOf, ev_kEN, ev_eif, ev_kEIt, ev_kEIf, ev_anil, ev_acons, ev_ka1, ev_ka2, ev_tup, ev_lst, ev_call, ev_kCa, ev_seq, ev_kSn, ev_kSr, ev_kSb, ev_kSc, ev_nx, ev_bk, ev_ct, ev_ret, ev_kRt, ev_retN, ev_if, ev_kIt, ev_kIf, ev_x, ev_kX, ev_asg, ev_kAs, ev_kAs2, ev_gN, ev_gT, ev_gT3, ev_gIx, ev_kG1, ev_kG2, ev_kG3, ev_kFr, ev_kFn, ev_for, ev_kFo, ev_mt, ev_kMt2, ev_ms, ev_kMs1, ev_sl, ev_kSl1, ev_kSl2, ev_kSl3, ev_noPart, ev_part, ev_kPt, ev_rng1, ev_istr, ev_kIS, ev_ilst, ev_kILr, ev_lc, ev_kLc, ev_kLc2, ev_yes, ev_irev, List.getElem?_cons_zero, List.getElem?_cons_succ, List.set_cons_zero, List.set_cons_succ, v_addI, v_sub, v_neg, v_lt, v_le, v_gt, v_ge, v_eqI, v_neI, v_eqS, v_neS, v_neB, v_eqB, v_lenT, v_lenR, v_max, v_min, it, e1, Bool.or_true]
      | false =>
        rw [hx] at e1
        cases hs : isStr a with
        | false =>
          rw [hs] at iss1
          have : isNou a = false := by cases a <;> first | rfl | exact absurd hs (by show ¬ true = false; decide)
          rw [this]
          refine ⟨h1, ?_, K1⟩
          simp only [ap_law_is_statement, b_law_is_statement, ev_bind, ev_op, ev_k1, ev_k2, ev_C, ev_var, ev_kVar, ev_un, ev_ku, ev_chain, ev_kc1, ev_kc2, ev_kc3t, ev_kc3f, ev_tru, ev_kTrb, ev_kTri, ev_B, ev_kB, ev_and, ev_or, ev_not, ev_kAt, ev_kAf, ev_kOt, ev_kOf, ev_kN, ev_eand, ev_eor, ev_enot, ev_kEAt, ev_kEAf, ev_kEOt, ev_kEOf, ev_kEN, ev_eif, ev_kEIt, ev_kEIf, ev_anil, ev_acons, ev_ka1, ev_ka2, ev_tup, ev_lst, ev_call, ev_kCa, ev_seq, ev_kSn, ev_kSr, ev_kSb, ev_kSc, ev_nx, ev_bk, ev_ct, ev_ret, ev_kRt, ev_retN, ev_if, ev_kIt, ev_kIf, ev_x, ev_kX, ev_asg, ev_kAs, ev_kAs2, ev_gN, ev_gT, ev_gT3, ev_gIx, ev_kG1, ev_kG2, ev_kG3, ev_kFr, ev_kFn, ev_for, ev_kFo, ev_mt, ev_kMt2, ev_ms, ev_kMs1, ev_sl, ev_kSl1, ev_kSl2, ev_kSl3, ev_noPart, ev_part, ev_kPt, ev_rng1, ev_istr, ev_kIS, ev_ilst, ev_kILr, ev_lc, ev_kLc, ev_kLc2, ev_yes, ev_irev, List.getElem?_cons_zero, List.getElem?_cons_succ, List.set_cons_zero, List.set_cons_succ, v_addI, v_sub, v_neg, v_lt, v_le, v_gt, v_ge, v_eqI, v_neI, v_eqS, v_neS, v_neB, v_eqB, v_lenT, v_lenR, v_max, v_min, it, e1, iss1, Bool.or_false]
        | true =>
          rw [hs] at iss1
          obtain ⟨z, rfl⟩ : ∃ z, a = .str z := by cases a <;> first | exact ⟨_, rfl⟩ | exact absurd hs Bool.false_ne_true
          have : isNou (.str z) = (z == "nought") := rfl
          rw [this]
          refine ⟨h1, ?_, K1⟩
          simp only [ap_law_is_statement, b_law_is_statement, ev_bind, ev_op, ev_k1, ev_k2, ev_C, ev_var, ev_kVar, ev_un, ev_ku, ev_chain, ev_kc1, ev_kc2, ev_kc3t, ev_kc3f, ev_tru, ev_kTrb, ev_kTri, ev_B, ev_kB, ev_and, ev_or, ev_not, ev_kAt, ev_kAf, ev_kOt, ev_kOf, ev_kN, ev_eand, ev_eor, ev_enot, ev_kEAt, ev_kEAf, ev_kEOt, ev_kEOf, ev_kEN, ev_eif, ev_kEIt, ev_kEIf, ev_anil, ev_acons, ev_ka1, ev_ka2, ev_tup, ev_lst, ev_call, ev_kCa, ev_seq, ev_kSn, ev_kSr, ev_kSb, ev_kSc, ev_nx, ev_bk, ev_ct, ev_ret, ev_kRt, ev_retN, ev_if, ev_kIt, ev_kIf, ev_x, ev_kX, ev_asg, ev_kAs, ev_kAs2, ev_gN, ev_gT, ev_gT3, ev_gIx, ev_kG1, ev_kG2, ev_kG3, ev_kFr, ev_kFn, ev_for, ev_kFo, ev_mt, ev_kMt2, ev_ms, ev_kMs1, ev_sl, ev_kSl1, ev_kSl2, ev_kSl3, ev_noPart, ev_part, ev_kPt, ev_rng1, ev_istr, ev_kIS, ev_ilst, ev_kILr, ev_lc, ev_kLc, ev_kLc2, ev_yes, ev_irev, List.getElem?_cons_zero, List.getElem?_cons_succ, List.set_cons_zero, List.set_cons_succ, v_addI, v_sub, v_neg, v_lt, v_le, v_gt, v_ge, v_eqI, v_neI, v_eqS, v_neS, v_neB, v_eqB, v_lenT, v_lenR, v_max, v_min, it, e1, iss1, Bool.or_false]
theorem IsLet.letB {x : Str} (h : IsLet x) : letB x = true := by
  unfold Sh.letB
  rw [h.nr, decide_eq_true h.lo, decide_eq_true h.hi]
  simp only [Bool.not_false, Bool.true_and]
  refine List.all_eq_true.mpr fun c m => ?_
  unfold lowB
  rw [decide_eq_true (h.low c m).1, decide_eq_true (h.low c m).2]; rfl
theorem stm_ok {N : List Str} (hN : ∀ x ∈ N, IsLet x) {k : Nat} {a : A} (s : Stm N k a) : isSt a = true ∧ (∀ n, OkA n k a) ∧ sz a = 2 * k + 1 := by
  induction s with
  | nou => exact ⟨by rw [isSt_leaf rfl]; rfl, fun n => .str (by decide +kernel), by rw [sz]; intro x a b e; cases e⟩
  | @«let» x hx =>
    have hl := hN x hx
    refine ⟨by rw [isSt_leaf rfl]; unfold leafB; rw [show lett (.str x) = Sh.letB x from rfl, hl.letB, Bool.or_true], fun n => .str (by have := hl.hi; omega), by rw [sz]; intro x a b e; cases e⟩
  | @bin s i j a b hs _ _ iha ihb =>
    obtain ⟨a1, a2, a3⟩ := iha
    obtain ⟨b1, b2, b3⟩ := ihb
    have sg : sgn (.str s) = true := by rcases hs with rfl | rfl | rfl <;> decide +kernel
    have ls : s.length ≤ 1000 := by rcases hs with rfl | rfl | rfl <;> decide +kernel
    refine ⟨by rw [isSt_3, sg, a1, b1]; rfl, fun n => .tup fun x hx => ?_, by rw [sz_3, a3, b3]; omega⟩
    simp only [List.mem_cons, List.mem_singleton, List.not_mem_nil, or_false] at hx
    rcases hx with rfl | rfl | rfl
    · exact .str ls
    · exact (a2 n).deep (by omega)
    · exact (b2 n).deep (by omega)
end Sh
set_option Elab.async false
set_option linter.all false
set_option maxRecDepth 100000
namespace Sh
open PySem L2 Ab
set_option autoImplicit false
def endsL : A → List A
  | .tup [_, a, b] => endsL a ++ endsL b
  | a => [a]
termination_by a => sizeOf a
decreasing_by all_goals (simp_wf; omega)
theorem ends_3 (s a b : A) : endsL (.tup [s, a, b]) = endsL a ++ endsL b := by rw [endsL]
theorem ends_str (x : Str) : endsL (.str x) = [.str x] := by rw [endsL]; intro s a b e; cases e
theorem ends_len {N : List Str} {k : Nat} {a : A} (s : Stm N k a) : (endsL a).length = k + 1 := by
  induction s with
  | nou => rw [ends_str]; rfl
  | «let» _ => rw [ends_str]; rfl
  | bin _ _ _ iha ihb => rw [ends_3, List.length_append, iha, ihb]; omega
theorem ends_spec {N : List Str} {k : Nat} {a : A} (s : Stm N k a) : ∀ (fuel : Nat) (h : AHp), k < fuel → k ≤ 1000 → ∃ l h', F_law_ends fuel [a] h = some (.loc l, h') ∧ h.length ≤ l ∧ h'[l]? = some (.lst (endsL a)) ∧ Kp [] h h' := by
  induction s with
  | nou =>
    intro fuel h hf _
    obtain ⟨fuel, rfl⟩ : ∃ f, fuel = f + 1 := ⟨fuel - 1, by omega⟩
    obtain ⟨h1, a1, g1, K1, n1⟩ := mk_lst [.str "nought"] h (by simp)
    have it : bIsi [.str "nought", .ty "tuple"] h = some (.bl false, h) := rfl
    refine ⟨h.length, h1, ?_, Nat.le_refl _, by rw [ends_str]; exact g1, K1⟩
    simp only [ap_law_ends, b_law_ends, ev_bind, ev_op, ev_k1, ev_k2, ev_C, ev_var, ev_kVar, ev_un, ev_ku, ev_chain, ev_kc1, ev_kc2, ev_kc3t, ev_kc3f, ev_tru, ev_kTrb, ev_kTri, ev_B, ev_kB, ev_and, ev_or, ev_not, ev_kAt, ev_kAf, ev_kOt, ev_kOf, ev_kN, ev_eand, ev_eor, ev_enot, ev_kEAt, ev_kEAf, ev_kEOt, ev_kEOf, ev_kEN, ev_eif, ev_kEIt, ev_kEIf, ev_anil, ev_acons, ev_ka1, ev_ka2, ev_tup, ev_lst, ev_call, ev_kCa, ev_seq, ev_kSn, ev_kSr, ev_kSb, ev_kSc, ev_nx, ev_bk, ev_ct, ev_ret, ev_kRt, ev_retN, ev_if, ev_kIt, ev_kIf, ev_x, ev_kX, ev_asg, ev_kAs, ev_kAs2, ev_gN, ev_gT, ev_gT3, ev_gIx, ev_kG1, ev_kG2, ev_kG3, ev_kFr, ev_kFn, ev_for, ev_kFo, ev_mt, ev_kMt2, ev_ms, ev_kMs1, ev_sl, ev_kSl1, ev_kSl2, ev_kSl3, ev_noPart, ev_part, ev_kPt, ev_rng1, ev_istr, ev_kIS, ev_ilst, ev_kILr, ev_lc, ev_kLc, ev_kLc2, ev_yes, ev_irev, List.getElem?_cons_zero, List.getElem?_cons_succ, List.set_cons_zero, List.set_cons_succ, v_addI, v_sub, v_neg, v_lt, v_le, v_gt, v_ge, v_eqI, v_neI, v_eqS, v_neS, v_neB, v_eqB, v_lenT, v_lenR, v_max, v_min, it, Bool.not_false, a1]
  | @«let» x _ =>
    intro fuel h hf _
    obtain ⟨fuel, rfl⟩ : ∃ f, fuel = f + 1 := ⟨fuel - 1, by omega⟩
    obtain ⟨h1, a1, g1, K1, n1⟩ := mk_lst [.str x] h (by simp)
    have it : bIsi [.str x, .ty "tuple"] h = some (.bl false, h) := rfl
    refine ⟨h.length, h1, ?_, Nat.le_refl _, by rw [ends_str]; exact g1, K1⟩
    simp only [ap_law_ends, b_law_ends, ev_bind, ev_op, ev_k1, ev_k2, ev_C, ev_var, ev_kVar, ev_un, ev_ku, ev_chain, ev_kc1, ev_kc2, ev_kc3t, ev_kc3f, ev_tru, ev_kTrb, ev_kTri, ev_B, ev_kB, ev_and, ev_or, ev_not, ev_kAt, ev_kAf, ev_kOt, ev_kOf, ev_kN, ev_eand, ev_eor, ev_enot, ev_kEAt, ev_kEAf, ev_kEOt, ev_kEOf, ev_kEN, ev_eif, ev_kEIt, ev_kEIf, ev_anil, ev_acons, ev_ka1, ev_ka2, ev_tup, ev_lst, ev_call, ev_kCa, ev_seq, ev_kSn, ev_kSr, ev_kSb, ev_kSc, ev_nx, ev_bk, ev_ct, ev_ret, ev_kRt, ev_retN, ev_if, ev_kIt, ev_kIf, ev_x, ev_kX, ev_asg, ev_kAs, ev_kAs2, ev_gN, ev_gT, ev_gT3, ev_gIx, ev_kG1, ev_kG2, ev_kG3, ev_kFr, ev_kFn, ev_for, ev_kFo, ev_mt, ev_kMt2, ev_ms, ev_kMs1, ev_sl, ev_kSl1, ev_kSl2, ev_kSl3, ev_noPart, ev_part, ev_kPt, ev_rng1, ev_istr, ev_kIS, ev_ilst, ev_kILr, ev_lc, ev_kLc, ev_kLc2, ev_yes, ev_irev, List.getElem?_cons_zero, List.getElem?_cons_succ, List.set_cons_zero, List.set_cons_succ, v_addI, v_sub, v_neg, v_lt, v_le, v_gt, v_ge, v_eqI, v_neI, v_eqS, v_neS, v_neB, v_eqB, v_lenT, v_lenR, v_max, v_min, it, Bool.not_false, a1]
  | @bin s i j a b hs sa sb iha ihb =>
    intro fuel h hf hk
    obtain ⟨fuel, rfl⟩ : ∃ f, fuel = f + 1 := ⟨fuel - 1, by omega⟩
    have it : bIsi [.tup [.str s, a, b], .ty "tuple"] h = some (.bl true, h) := rfl
    have i1 : ∀ h, xIx (.tup [.str s, a, b]) (.int 1) h = some (a, h) := fun h => v_ixT rfl
    have i2 : ∀ h, xIx (.tup [.str s, a, b]) (.int 2) h = some (b, h) := fun h => v_ixT rfl
    obtain ⟨l1, h1, e1, q1, g1, K1⟩ := iha fuel h (by omega) (by omega)
    obtain ⟨l2, h2, e2, q2, g2, K2⟩ := ihb fuel h1 (by omega) (by omega)
    have n1 := ends_len sa
    have n2 := ends_len sb
    obtain ⟨h3, a3, g3, K3, n3⟩ := mk_add (K2.get g1 (by simp)) g2 (by omega)
    have := K1.1
    have := K2.1
    refine ⟨h2.length, h3, ?_, by omega, by rw [ends_3]; exact g3, (K1.trans K2).trans K3⟩
    simp only [ap_law_ends, b_law_ends, ev_bind, ev_op, ev_k1, ev_k2, ev_C, ev_var, ev_kVar, ev_un, ev_ku, ev_chain, ev_kc1, ev_kc2, ev_kc3t, ev_kc3f, ev_tru, ev_kTrb, ev_kTri, ev_B, ev_kB, ev_and, ev_or, ev_not, ev_kAt, ev_kAf, ev_kOt, ev_kOf, ev_kN, ev_eand, ev_eor, ev_enot, ev_kEAt, ev_kEAf, ev_kEOt, ev_kEOf, ev_kEN, ev_eif, ev_kEIt, ev_kEIf, ev_anil, ev_acons, ev_ka1, ev_ka2, ev_tup, ev_lst, ev_call, ev_kCa, ev_seq, ev_kSn, ev_kSr, ev_kSb, ev_kSc, ev_nx, ev_bk, ev_ct, ev_ret, ev_kRt, ev_retN, ev_if, ev_kIt, ev_kIf, ev_x, ev_kX, ev_asg, ev_kAs, ev_kAs2, ev_gN, ev_gT, ev_gT3, ev_gIx, ev_kG1, ev_kG2, ev_kG3, ev_kFr, ev_kFn, ev_for, ev_kFo, ev_mt, ev_kMt2, ev_ms, ev_kMs1, ev_sl, ev_kSl1, ev_kSl2, ev_kSl3, ev_noPart, ev_part, ev_kPt, ev_rng1, ev_istr, ev_kIS, ev_ilst, ev_kILr, ev_lc, ev_kLc, ev_kLc2, ev_yes, ev_irev, List.getElem?_cons_zero, List.getElem?_cons_succ, List.set_cons_zero, List.set_cons_succ, v_addI, v_sub, v_neg, v_lt, v_le, v_gt, v_ge, v_eqI, v_neI, v_eqS, v_neS, v_neB, v_eqB, v_lenT, v_lenR, v_max, v_min, it, i1, i2, e1, e2, a3, Bool.not_true]
end Sh
set_option Elab.async false
set_option linter.all false
set_option maxRecDepth 100000
namespace Sw
open PySem PyProof.Rows L2 Ab Sh
def l1_words : MS := (sSeq (sAsg (eMt fPop (eVar 2) aNil) (gN 3)) (sIf (mTru (eCall bIsi (aCons (eVar 3) (aCons (eC (.ty "tuple")) aNil)))) (sSeq (sAsg (eVar 3) (gT3 4 5 6)) (sSeq (sX (eMt fAppend (eVar 1) (aCons (eVar 4) aNil))) (sSeq (sX (eMt fAppend (eVar 2) (aCons (eVar 6) aNil))) (sX (eMt fAppend (eVar 2) (aCons (eVar 5) aNil)))))) (sX (eMt fAppend (eVar 1) (aCons (eVar 3) aNil)))))
def b_words : MS := (sSeq (sAsg (eLst aNil) (gN 1)) (sSeq (sAsg (eLst (aCons (eVar 0) aNil)) (gN 2)) (sSeq (whileL (mTru (eVar 2)) l1_words 100000) (sRet (eVar 1)))))
def F_words : MF := fnOf 7 b_words
theorem ap_words (a0 : A) (h : AHp) : F_words [a0] h = (b_words [some a0, none, none, none, none, none, none] h).bind kFn := id rfl
def b_law_tuples : MS := (sRet (eOp oSub (eCall bLen (aCons (eCall (F_law_ends 20) (aCons (eVar 0) aNil)) aNil)) (eC (.int 1))))
def F_law_tuples : MF := fnOf 1 b_law_tuples
theorem ap_law_tuples (a0 : A) (h : AHp) : F_law_tuples [a0] h = (b_law_tuples [some a0] h).bind kFn := id rfl
end Sw
set_option Elab.async false
set_option linter.all false
set_option maxRecDepth 100000
namespace Sw
open PySem L2 Ab Sh
set_option autoImplicit false
theorem kp_drop2 {bs : List Nat} {f w : Nat} {h h1 h2 : AHp} (a : Kp bs h h1) (b : Kp (f :: w :: bs) h1 h2) (hf : h.length ≤ f) (hw : h.length ≤ w) : Kp bs h h2 := ⟨Nat.le_trans a.1 b.1, fun i hi hb => (b.2 i (Nat.lt_of_lt_of_le hi a.1) (by
  intro m
  rcases List.mem_cons.mp m with e | m
  · omega
  · rcases List.mem_cons.mp m with e | m
    · omega
    · exact hb m)).trans (a.2 i hi hb)⟩
def wordsL : A → List Str
  | .tup [.str s, a, b] => s :: (wordsL a ++ wordsL b)
  | .str x => [x]
  | _ => []
termination_by a => sizeOf a
decreasing_by all_goals (simp_wf; omega)
theorem words_3 (s : Str) (a b : A) : wordsL (.tup [.str s, a, b]) = s :: (wordsL a ++ wordsL b) := by rw [wordsL]
theorem words_str (x : Str) : wordsL (.str x) = [x] := by rw [wordsL]
theorem words_turn {N : List Str} {f w : Nat} {a0 x : A} {r : ASt} {ws : List A} {fs : List Str} {h : AHp} {k : Nat} (hr : r.length = 4) (hfw : f ≠ w) (gf : h[f]? = some (.lst (fs.map A.str))) (gw : h[w]? = some (.lst (ws ++ [x]))) (s : Stm N k x) (l1 : fs.length ≤ 50000) (l2 : ws.length ≤ 50000) :
    ∃ r' h' ys zs, l1_words (some a0 :: some (.loc f) :: some (.loc w) :: r) h = some (.nx (some a0 :: some (.loc f) :: some (.loc w) :: r'), h') ∧ r'.length = 4 ∧ h'[f]? = some (.lst ((fs ++ zs).map A.str)) ∧ h'[w]? = some (.lst (ws ++ ys)) ∧ Kp [f, w] h h' ∧ (ys.map sz).sum < sz x ∧ zs ++ (ys.reverse.flatMap wordsL) = wordsL x ∧ ys.length ≤ 2 ∧ zs.length = 1 ∧ (∀ y ∈ ys, ∃ j, Stm N j y) := by
  match r, hr with
  | [r1, r2, r3, r4], _ =>
  have kmw : ∀ (F : A → List A → AHp → Rs A) (ms : MA) (τ : ASt), kMt1 F ms τ (.loc w, h) = (ms τ h).bind (kMt2 F (.loc w)) := fun F ms τ => ev_kMt1 gw
  have pp : fPop (.loc w) [] h = some (x, h.set w (.lst ws)) := v_pop gw
  obtain ⟨h1, eh1⟩ : ∃ h1, h1 = h.set w (.lst ws) := ⟨_, rfl⟩
  rw [← eh1] at pp
  have gw1 : h1[w]? = some (.lst ws) := by rw [eh1]; exact set_get gw
  have K1 : Kp [w] h h1 := by rw [eh1]; exact Kp.set _ _
  have gf1 := K1.get gf (by simpa using hfw)
  have kmf : ∀ (F : A → List A → AHp → Rs A) (ms : MA) (τ : ASt), kMt1 F ms τ (.loc f, h1) = (ms τ h1).bind (kMt2 F (.loc f)) := fun F ms τ => ev_kMt1 gf1
  have K1' : Kp [f, w] h h1 := K1.more (by simp)
  have lm : (fs.map A.str).length = fs.length := List.length_map _
  have leaf : ∀ y : Str, x = .str y → ∃ r' h' ys zs, l1_words (some a0 :: some (.loc f) :: some (.loc w) :: [r1, r2, r3, r4]) h = some (.nx (some a0 :: some (.loc f) :: some (.loc w) :: r'), h') ∧ r'.length = 4 ∧ h'[f]? = some (.lst ((fs ++ zs).map A.str)) ∧ h'[w]? = some (.lst (ws ++ ys)) ∧ Kp [f, w] h h' ∧ (ys.map sz).sum < sz x ∧ zs ++ (ys.reverse.flatMap wordsL) = wordsL x ∧ ys.length ≤ 2 ∧ zs.length = 1 ∧ (∀ y ∈ ys, ∃ j, Stm N j y) := by
    rintro y rfl
    have it : ∀ h, bIsi [.str y, .ty "tuple"] h = some (.bl false, h) := fun h => rfl
    have ap : fAppend (.loc f) [.str y] h1 = some (.non, h1.set f (.lst (fs.map A.str ++ [.str y]))) := v_append gf1 (by omega)
    refine ⟨[some (.str y), r2, r3, r4], h1.set f (.lst (fs.map A.str ++ [.str y])), [], [y], ?_, rfl, ?_, ?_, K1'.trans ((Kp.set f _).more (by simp)), by have := sz_pos (.str y); simp; omega, by rw [words_str]; rfl, by simp, rfl, fun z hz => by cases hz⟩
    · simp only [l1_words, ev_bind, ev_op, ev_k1, ev_k2, ev_C, ev_var, ev_kVar, ev_un, ev_ku, ev_chain, ev_kc1, ev_kc2, ev_kc3t, ev_kc3f, ev_tru, ev_kTrb, ev_kTri, ev_B, ev_kB, ev_and, ev_or, ev_not, ev_kAt, ev_kAf, ev_kOt, ev_kOf, ev_kN, ev_eand, ev_eor, ev_enot, ev_kEAt, ev_kEAf, ev_kEOt, ev_kEOf, ev_kEN, ev_eif, ev_kEIt, ev_kEIf, ev_anil, ev_acons, ev_ka1, ev_ka2, ev_tup, ev_lst, ev_call, ev_kCa, ev_seq, ev_kSn, ev_kSr, ev_kSb, ev_kSc, ev_nx, ev_bk, ev_ct, ev_ret, ev_kRt, ev_retN, ev_if, ev_kIt, ev_kIf, ev_x, ev_kX, ev_asg, ev_kAs, ev_kAs2, ev_gN, ev_gT, ev_gT3, ev_gIx, ev_kG1, ev_kG2, ev_kG3, ev_kFr, ev_kFn, ev_for, ev_kFo, ev_mt, ev_kMt2, ev_ms, ev_kMs1, ev_sl, ev_kSl1, ev_kSl2, ev_kSl3, ev_noPart, ev_part, ev_kPt, ev_rng1, ev_istr, ev_kIS, ev_ilst, ev_kILr, ev_lc, ev_kLc, ev_kLc2, ev_yes, ev_irev, List.getElem?_cons_zero, List.getElem?_cons_succ, List.set_cons_zero, List.set_cons_succ, v_addI, v_sub, v_neg, v_lt, v_le, v_gt, v_ge, v_eqI, v_neI, v_eqS, v_neS, v_neB, v_eqB, v_lenT, v_lenR, v_max, v_min, kmw, pp, it, kmf, ap]
    · rw [set_get gf1, List.map_append]; rfl
    · rw [List.append_nil]; exact (Kp.set f _).get gw1 (by simpa using Ne.symm hfw)
  cases s with
  | nou => exact leaf _ rfl
  | «let» _ => exact leaf _ rfl
  | @bin s i j a b hs sa sb =>
    have it : ∀ h, bIsi [.tup [.str s, a, b], .ty "tuple"] h = some (.bl true, h) := fun h => rfl
    have ap : fAppend (.loc f) [.str s] h1 = some (.non, h1.set f (.lst (fs.map A.str ++ [.str s]))) := v_append gf1 (by omega)
    obtain ⟨h2, eh2⟩ : ∃ h2, h2 = h1.set f (.lst (fs.map A.str ++ [.str s])) := ⟨_, rfl⟩
    rw [← eh2] at ap
    have gf2 : h2[f]? = some (.lst (fs.map A.str ++ [.str s])) := by rw [eh2]; exact set_get gf1
    have K2 : Kp [f] h1 h2 := by rw [eh2]; exact Kp.set _ _
    have gw2 := K2.get gw1 (by simpa using Ne.symm hfw)
    have kmw2 : ∀ (F : A → List A → AHp → Rs A) (ms : MA) (τ : ASt), kMt1 F ms τ (.loc w, h2) = (ms τ h2).bind (kMt2 F (.loc w)) := fun F ms τ => ev_kMt1 gw2
    have ap2 : fAppend (.loc w) [b] h2 = some (.non, h2.set w (.lst (ws ++ [b]))) := v_append gw2 (by omega)
    obtain ⟨h3, eh3⟩ : ∃ h3, h3 = h2.set w (.lst (ws ++ [b])) := ⟨_, rfl⟩
    rw [← eh3] at ap2
    have gw3 : h3[w]? = some (.lst (ws ++ [b])) := by rw [eh3]; exact set_get gw2
    have K3 : Kp [w] h2 h3 := by rw [eh3]; exact Kp.set _ _
    have gf3 := K3.get gf2 (by simpa using hfw)
    have kmw3 : ∀ (F : A → List A → AHp → Rs A) (ms : MA) (τ : ASt), kMt1 F ms τ (.loc w, h3) = (ms τ h3).bind (kMt2 F (.loc w)) := fun F ms τ => ev_kMt1 gw3
    have ap3 : fAppend (.loc w) [a] h3 = some (.non, h3.set w (.lst (ws ++ [b] ++ [a]))) := v_append gw3 (by simp; omega)
    refine ⟨[some (.tup [.str s, a, b]), some (.str s), some a, some b], h3.set w (.lst (ws ++ [b] ++ [a])), [b, a], [s], ?_, rfl, ?_, ?_, ?_, by rw [sz_3]; simp; omega, by rw [words_3]; simp, by simp, rfl, ?_⟩
    · simp only [l1_words, ev_bind, ev_op, ev_k1, ev_k2, ev_C, ev_var, ev_kVar, ev_un, ev_ku, ev_chain, ev_kc1, ev_kc2, ev_kc3t, ev_kc3f, ev_tru, ev_kTrb, ev_kTri, ev_B, ev_kB, ev_and, ev_or, ev_not, ev_kAt, ev_kAf, ev_kOt, ev_kOf, ev_kN, ev_eand, ev_eor, ev_enot, ev_kEAt, ev_kEAf, ev_kEOt, ev_kEOf, ev_kEN, ev_eif, ev_kEIt, ev_kEIf, ev_anil, ev_acons, ev_ka1, ev_ka2, ev_tup, ev_lst, ev_call, ev_kCa, ev_seq, ev_kSn, ev_kSr, ev_kSb, ev_kSc, ev_nx, ev_bk, ev_ct, ev_ret, ev_kRt, ev_retN, ev_if, ev_kIt, ev_kIf, ev_x, ev_kX, ev_asg, ev_kAs, ev_kAs2, ev_gN, ev_gT, ev_gT3, ev_gIx, ev_kG1, ev_kG2, ev_kG3, ev_kFr, ev_kFn, ev_for, ev_kFo, ev_mt, ev_kMt2, ev_ms, ev_kMs1, ev_sl, ev_kSl1, ev_kSl2, ev_kSl3, ev_noPart, ev_part, ev_kPt, ev_rng1, ev_istr, ev_kIS, ev_ilst, ev_kILr, ev_lc, ev_kLc, ev_kLc2, ev_yes, ev_irev, List.getElem?_cons_zero, List.getElem?_cons_succ, List.set_cons_zero, List.set_cons_succ, v_addI, v_sub, v_neg, v_lt, v_le, v_gt, v_ge, v_eqI, v_neI, v_eqS, v_neS, v_neB, v_eqB, v_lenT, v_lenR, v_max, v_min, kmw, pp, it, kmf, ap, kmw2, ap2, kmw3, ap3]
    · rw [List.map_append]; exact (Kp.set w _).get gf3 (by simpa using hfw)
    · rw [set_get gw3]; simp
    · exact ((K1'.trans (K2.more (by simp))).trans (K3.more (by simp))).trans ((Kp.set w _).more (by simp))
    · intro y hy
      simp only [List.mem_cons, List.not_mem_nil, or_false] at hy
      rcases hy with rfl | rfl
      · exact ⟨_, sb⟩
      · exact ⟨_, sa⟩
theorem words_loop {N : List Str} {f w : Nat} {a0 : A} (hfw : f ≠ w) : ∀ (fuel : Nat) (ws : List A) (fs : List Str) (h : AHp) (r : ASt), r.length = 4 → h[f]? = some (.lst (fs.map A.str)) → h[w]? = some (.lst ws) → (∀ x ∈ ws, ∃ k, Stm N k x) → (ws.map sz).sum < fuel → ws.length + 2 * fuel ≤ 50000 → fs.length + fuel ≤ 50000 →
    ∃ r' h', whileL (mTru (eVar 2)) l1_words fuel (some a0 :: some (.loc f) :: some (.loc w) :: r) h = some (.nx (some a0 :: some (.loc f) :: some (.loc w) :: r'), h') ∧ h'[f]? = some (.lst ((fs ++ ws.reverse.flatMap wordsL).map A.str)) ∧ Kp [f, w] h h' := by
  intro fuel
  induction fuel with
  | zero => intro ws fs h r _ _ _ _ hf; omega
  | succ fuel ih =>
    intro ws fs h r hr gf gw ok hf hl hl2
    have tr : mTru (eVar 2) (some a0 :: some (.loc f) :: some (.loc w) :: r) h = some (!ws.isEmpty, h) := by simp only [ev_bind, ev_op, ev_k1, ev_k2, ev_C, ev_var, ev_kVar, ev_un, ev_ku, ev_chain, ev_kc1, ev_kc2, ev_kc3t, ev_kc3f, ev_tru, ev_kTrb, ev_kTri, ev_B, ev_kB, ev_and, ev_or, ev_not, ev_kAt, ev_kAf, ev_kOt, ev_kOf, ev_kN, ev_eand, ev_eor, ev_enot, ev_kEAt, ev_kEAf, ev_kEOt, ev_kEOf, ev_kEN, ev_eif, ev_kEIt, ev_kEIf, ev_anil, ev_acons, ev_ka1, ev_ka2, ev_tup, ev_lst, ev_call, ev_kCa, ev_seq, ev_kSn, ev_kSr, ev_kSb, ev_kSc, ev_nx, ev_bk, ev_ct, ev_ret, ev_kRt, ev_retN, ev_if, ev_kIt, ev_kIf, ev_x, ev_kX, ev_asg, ev_kAs, ev_kAs2, ev_gN, ev_gT, ev_gT3, ev_gIx, ev_kG1, ev_kG2, ev_kG3, ev_kFr, ev_kFn, ev_for, ev_kFo, ev_mt, ev_kMt2, ev_ms, ev_kMs1, ev_sl, ev_kSl1, ev_kSl2, ev_kSl3, ev_noPart, ev_part, ev_kPt, ev_rng1, ev_istr, ev_kIS, ev_ilst, ev_kILr, ev_lc, ev_kLc, ev_kLc2, ev_yes, ev_irev, List.getElem?_cons_zero, List.getElem?_cons_succ, List.set_cons_zero, List.set_cons_succ, v_addI, v_sub, v_neg, v_lt, v_le, v_gt, v_ge, v_eqI, v_neI, v_eqS, v_neS, v_neB, v_eqB, v_lenT, v_lenR, v_max, v_min, ev_kTrl gw]
    rcases List.eq_nil_or_concat ws with rfl | ⟨init, x, rfl⟩
    · refine ⟨r, h, ?_, by simpa using gf, Kp.refl⟩
      show (mTru (eVar 2) (some a0 :: some (.loc f) :: some (.loc w) :: r) h).bind _ = _
      rw [tr]; rfl
    · have ws' : init.concat x = init ++ [x] := List.concat_eq_append
      rw [ws'] at gw tr ok hf hl ⊢
      have ne : (!(init ++ [x]).isEmpty) = true := by simp
      rw [ne] at tr
      have il : init.length ≤ 50000 := by rw [List.length_append] at hl; omega
      obtain ⟨k, sx⟩ := ok x (by simp)
      obtain ⟨r1, h1, ys, zs, e1, hr1, gf1, gw1, K1, s1, w1, l1, lz, o1⟩ := words_turn (a0 := a0) hr hfw gf gw sx (by omega) il
      have hsum : ((init ++ ys).map sz).sum < fuel := by
        rw [List.map_append, List.sum_append] at hf ⊢
        have : ((List.map sz [x]).sum) = sz x := by simp
        omega
      have okn : ∀ y ∈ init ++ ys, ∃ k, Stm N k y := fun y hy => by
        rcases List.mem_append.mp hy with hy | hy
        · exact ok y (List.mem_append_left _ hy)
        · exact o1 y hy
      obtain ⟨r2, h2, e2, gf2, K2⟩ := ih (init ++ ys) (fs ++ zs) h1 r1 hr1 gf1 gw1 okn hsum (by rw [List.length_append] at hl ⊢; simp at hl; omega) (by rw [List.length_append]; omega)
      refine ⟨r2, h2, ?_, ?_, K1.trans K2⟩
      · show (mTru (eVar 2) (some a0 :: some (.loc f) :: some (.loc w) :: r) h).bind _ = _
        rw [tr, ev_bind]
        show (if true = true then (l1_words (some a0 :: some (.loc f) :: some (.loc w) :: r) h).bind _ else _) = _
        rw [if_pos rfl, e1]
        exact e2
      · rw [gf2]
        congr 3
        rw [List.reverse_append, List.flatMap_append, List.reverse_append, List.flatMap_append, List.append_assoc, ← List.append_assoc zs, w1]
        simp
theorem words_spec {N : List Str} {k : Nat} {a : A} {h : AHp} (s : Stm N k a) (hs : sz a ≤ 10000) : ∃ l h', F_words [a] h = some (.loc l, h') ∧ h.length ≤ l ∧ h'[l]? = some (.lst ((wordsL a).map A.str)) ∧ Kp [] h h' := by
  obtain ⟨h1, a1, g1, K1, n1⟩ := mk_lst [] h (by simp)
  obtain ⟨h2, a2, g2, K2, n2⟩ := mk_lst [a] h1 (by simp)
  obtain ⟨r', h3, e3, g3, K3⟩ := words_loop (N := N) (f := h.length) (w := h1.length) (a0 := a) (by omega) 20000 [a] [] h2 [none, none, none, none] rfl (K2.get g1 (by simp)) g2 (fun x hx => by rw [List.mem_singleton.mp hx]; exact ⟨k, s⟩) (by simp; omega) (by simp) (by simp)
  have e3 := while_more 80000 e3
  refine ⟨h.length, h3, ?_, Nat.le_refl _, by rw [g3]; simp, ?_⟩
  · simp only [ap_words, b_words, ev_bind, ev_op, ev_k1, ev_k2, ev_C, ev_var, ev_kVar, ev_un, ev_ku, ev_chain, ev_kc1, ev_kc2, ev_kc3t, ev_kc3f, ev_tru, ev_kTrb, ev_kTri, ev_B, ev_kB, ev_and, ev_or, ev_not, ev_kAt, ev_kAf, ev_kOt, ev_kOf, ev_kN, ev_eand, ev_eor, ev_enot, ev_kEAt, ev_kEAf, ev_kEOt, ev_kEOf, ev_kEN, ev_eif, ev_kEIt, ev_kEIf, ev_anil, ev_acons, ev_ka1, ev_ka2, ev_tup, ev_lst, ev_call, ev_kCa, ev_seq, ev_kSn, ev_kSr, ev_kSb, ev_kSc, ev_nx, ev_bk, ev_ct, ev_ret, ev_kRt, ev_retN, ev_if, ev_kIt, ev_kIf, ev_x, ev_kX, ev_asg, ev_kAs, ev_kAs2, ev_gN, ev_gT, ev_gT3, ev_gIx, ev_kG1, ev_kG2, ev_kG3, ev_kFr, ev_kFn, ev_for, ev_kFo, ev_mt, ev_kMt2, ev_ms, ev_kMs1, ev_sl, ev_kSl1, ev_kSl2, ev_kSl3, ev_noPart, ev_part, ev_kPt, ev_rng1, ev_istr, ev_kIS, ev_ilst, ev_kILr, ev_lc, ev_kLc, ev_kLc2, ev_yes, ev_irev, List.getElem?_cons_zero, List.getElem?_cons_succ, List.set_cons_zero, List.set_cons_succ, v_addI, v_sub, v_neg, v_lt, v_le, v_gt, v_ge, v_eqI, v_neI, v_eqS, v_neS, v_neB, v_eqB, v_lenT, v_lenR, v_max, v_min, a1, a2, e3]
  · exact kp_drop2 (K1.trans K2) K3 (Nat.le_refl _) (by omega)
end Sw
set_option Elab.async false
set_option linter.all false
set_option maxRecDepth 100000
namespace Sw
open PySem L2 Ab Sh
set_option autoImplicit false
theorem rngq {q : Nat} {h : AHp} (hq : q ≤ 100) : kR1 ([.int q], h) = some (itR 0 q, h) := by
  have := ev_kR1 (h := h) (j := (q : Int)) (by omega)
  rwa [Int.toNat_natCast] at this
theorem lc_lst {l j : Nat} {mt : MT} {me : ME} {τ : ASt} {h : AHp} {xs : List A} {p : A → Bool} {f : A → A} (g : h[l]? = some (.lst xs)) (hl : xs.length ≤ 50000) (hp : ∀ x ∈ xs, mt (τ.set j (some x)) h = some (p x, h)) (hf : ∀ x ∈ xs, p x = true → me (τ.set j (some x)) h = some (f x, h)) :
    lcL (itL l xs.length) j mt me τ xs.length 0 [] h = some ((xs.filter p).map f, h) := by
  have hg : ∀ k (hk : k < xs.length), (itL l xs.length).get k h = some xs[k] := fun k hk => by
    show (lstA (.loc l) h).bind _ = _
    have : lstA (.loc l) h = some xs := by unfold lstA; simp only [g]
    rw [this, ev_bind]
    exact List.getElem?_eq_getElem hk
  have hfin : (itL l xs.length).fin h = true := by
    show (match lstA (.loc l) h with | some ys => decide (ys.length ≤ xs.length) | none => false) = true
    have : lstA (.loc l) h = some xs := by unfold lstA; simp only [g]
    rw [this]; simp
  have key : ∀ m k acc, k + m = xs.length → acc.length ≤ k → lcL (itL l xs.length) j mt me τ m k acc h = some (acc ++ ((xs.drop k).filter p).map f, h) := by
    intro m
    induction m with
    | zero =>
      intro k acc e _
      show (if (itL l xs.length).fin h = true then some (acc, h) else none) = _
      rw [if_pos hfin, List.drop_eq_nil_of_le (by omega)]
      simp
    | succ m ih =>
      intro k acc e ea
      have hk : k < xs.length := by omega
      have hm : xs[k] ∈ xs := List.getElem_mem hk
      show ((itL l xs.length).get k h).bind _ = _
      rw [hg k hk, ev_bind, hp _ hm, ev_bind]
      cases q : p xs[k] with
      | true =>
        show (if true = true then (me _ h).bind _ else _) = _
        rw [if_pos rfl, hf _ hm q, ev_bind]
        show (if acc.length < 100000 then _ else _) = _
        rw [if_pos (by omega), ih (k + 1) _ (by omega) (by simp; omega), List.drop_eq_getElem_cons hk, List.filter_cons, if_pos q, List.map_cons, List.append_assoc]
        rfl
      | false =>
        show (if false = true then _ else lcL (itL l xs.length) j mt me τ m (k + 1) acc h) = _
        rw [if_neg Bool.false_ne_true, ih (k + 1) _ (by omega) (by omega), List.drop_eq_getElem_cons hk, List.filter_cons, if_neg (by rw [q]; exact Bool.false_ne_true)]
  rw [key xs.length 0 [] (by omega) (Nat.le_refl _)]
  simp
theorem tuples_spec {N : List Str} {k : Nat} {a : A} {h : AHp} (s : Stm N k a) (hk : k ≤ 15) : ∃ h', F_law_tuples [a] h = some (.int k, h') ∧ Kp [] h h' := by
  obtain ⟨l, h1, e1, _, g1, K1⟩ := ends_spec s 20 h (by omega) (by omega)
  have ll : bLen [.loc l] h1 = some (.int ((k : Int) + 1), h1) := by rw [v_lenL g1, ends_len s]; rfl
  have e2 : (k : Int) + 1 - 1 = k := by omega
  refine ⟨h1, ?_, K1⟩
  simp only [ap_law_tuples, b_law_tuples, ev_bind, ev_op, ev_k1, ev_k2, ev_C, ev_var, ev_kVar, ev_un, ev_ku, ev_chain, ev_kc1, ev_kc2, ev_kc3t, ev_kc3f, ev_tru, ev_kTrb, ev_kTri, ev_B, ev_kB, ev_and, ev_or, ev_not, ev_kAt, ev_kAf, ev_kOt, ev_kOf, ev_kN, ev_eand, ev_eor, ev_enot, ev_kEAt, ev_kEAf, ev_kEOt, ev_kEOf, ev_kEN, ev_eif, ev_kEIt, ev_kEIf, ev_anil, ev_acons, ev_ka1, ev_ka2, ev_tup, ev_lst, ev_call, ev_kCa, ev_seq, ev_kSn, ev_kSr, ev_kSb, ev_kSc, ev_nx, ev_bk, ev_ct, ev_ret, ev_kRt, ev_retN, ev_if, ev_kIt, ev_kIf, ev_x, ev_kX, ev_asg, ev_kAs, ev_kAs2, ev_gN, ev_gT, ev_gT3, ev_gIx, ev_kG1, ev_kG2, ev_kG3, ev_kFr, ev_kFn, ev_for, ev_kFo, ev_mt, ev_kMt2, ev_ms, ev_kMs1, ev_sl, ev_kSl1, ev_kSl2, ev_kSl3, ev_noPart, ev_part, ev_kPt, ev_rng1, ev_istr, ev_kIS, ev_ilst, ev_kILr, ev_lc, ev_kLc, ev_kLc2, ev_yes, ev_irev, List.getElem?_cons_zero, List.getElem?_cons_succ, List.set_cons_zero, List.set_cons_succ, v_addI, v_sub, v_neg, v_lt, v_le, v_gt, v_ge, v_eqI, v_neI, v_eqS, v_neS, v_neB, v_eqB, v_lenT, v_lenR, v_max, v_min, e1, ll, e2]
end Sw
set_option Elab.async false
set_option linter.all false
set_option maxRecDepth 100000
namespace Sw
open PySem L2 Ab Sh
set_option autoImplicit false
inductive TrD : Nat → A → Prop where
  | str {d : Nat} {x : Str} : PyData.strOk x = true → TrD d (.str x)
  | tup {d : Nat} {xs : List A} : (∀ x ∈ xs, TrD d x) → TrD (d + 1) (.tup xs)
theorem TrD.deep {d e : Nat} {a : A} (h : TrD d a) (q : d ≤ e) : TrD e a := by
  induction h generalizing e with
  | str h => exact .str h
  | @tup d xs _ ih =>
    obtain ⟨e', rfl⟩ : ∃ e', e = e' + 1 := ⟨e - 1, by omega⟩
    exact .tup fun x hx => ih x hx (by omega)
theorem strOk_low {x : Str} (h : Low x) : PyData.strOk x = true := by
  unfold PyData.strOk
  rw [← Array.all_toList]
  refine List.all_eq_true.mpr fun c m => ?_
  have := h c m
  exact decide_eq_true (by omega)
theorem stm_tr {N : List Str} (hN : ∀ x ∈ N, IsLet x) {k : Nat} {a : A} (s : Stm N k a) : TrD k a := by
  induction s with
  | nou => exact .str (by decide +kernel)
  | «let» hx => exact .str (strOk_low (hN _ hx).low)
  | @bin s i j a b hs _ _ iha ihb =>
    refine .tup fun x hx => ?_
    simp only [List.mem_cons, List.not_mem_nil, or_false] at hx
    rcases hx with rfl | rfl | rfl
    · exact .str (by rcases hs with rfl | rfl | rfl <;> decide +kernel)
    · exact iha.deep (by omega)
    · exact ihb.deep (by omega)
theorem for_it {it : AIt} {g : MG} {s : MS} {h : AHp} {τ : ASt} (f : Nat → A) (I : Nat → ASt → AHp → Prop) (h0 : I 0 τ h)
    (hs : ∀ i τ h, i < it.n → I i τ h → it.get i h = some (f i) ∧ ∃ τ1 h1 τ2 h2, g (f i) τ h = some (τ1, h1) ∧ s τ1 h1 = some (.nx τ2, h2) ∧ I (i + 1) τ2 h2) (hf : ∀ τ h, I it.n τ h → it.fin h = true) :
    ∃ τ' h', forL it g s it.n 0 τ h = some (.nx τ', h') ∧ I it.n τ' h' := by
  have key : ∀ m k τ h, k + m = it.n → I k τ h → ∃ τ' h', forL it g s m k τ h = some (.nx τ', h') ∧ I it.n τ' h' := by
    intro m
    induction m with
    | zero =>
      intro k τ h e i
      have : k = it.n := by omega
      subst this
      refine ⟨τ, h, ?_, i⟩
      show (if it.fin h = true then some (Fl.nx τ, h) else none) = _
      rw [if_pos (hf τ h i)]
    | succ m ih =>
      intro k τ h e i
      obtain ⟨hg, τ1, h1, τ2, h2, e1, e2, i2⟩ := hs k τ h (by omega) i
      obtain ⟨τ', h', e3, i3⟩ := ih (k + 1) τ2 h2 (by omega) i2
      refine ⟨τ', h', ?_, i3⟩
      show (it.get k h).bind _ = _
      rw [hg, ev_bind, e1, ev_bind, e2, ev_bind]
      exact e3
  exact key it.n 0 τ h (Nat.zero_add _) h0
end Sw
set_option Elab.async false
set_option linter.all false
set_option maxRecDepth 100000
namespace Sd
open PySem L2 Ab Sh Sw
set_option autoImplicit false
mutual
inductive DV (h : AHp) : Nat → A → PyData → Prop
  | str {d : Nat} {x : Str} : PyData.strOk x = true → DV h d (.str x) (.str x)
  | tup {d : Nat} {xs : List A} {ps : List PyData} : DVs h d xs ps → DV h (d + 1) (.tup xs) (.tuple ps)
  | loc {d k : Nat} {xs : List A} {ps : List PyData} : h[k]? = some (.lst xs) → DVs h d xs ps → DV h (d + 1) (.loc k) (.list ps)
inductive DVs (h : AHp) : Nat → List A → List PyData → Prop
  | nil {d : Nat} : DVs h d [] []
  | cons {d : Nat} {a : A} {p : PyData} {xs : List A} {ps : List PyData} : DV h d a p → DVs h d xs ps → DVs h d (a :: xs) (p :: ps)
end
mutual
theorem DV.dat {h : AHp} : ∀ {d : Nat} {a : A} {p : PyData}, DV h d a p → (∀ n, d < n → dat h n a = some p) ∧ p.canLay0 = true ∧ p.depth ≤ d
  | _, _, _, .str hx => ⟨fun n _ => by cases n <;> rfl, by simpa [PyData.canLay0] using hx, by simp [PyData.depth]⟩
  | d + 1, _, _, .tup s => by
    obtain ⟨h1, h2, h3⟩ := DVs.dat s
    refine ⟨fun n hn => ?_, by simpa [PyData.canLay0] using h2, by simp [PyData.depth]; omega⟩
    obtain ⟨n, rfl⟩ : ∃ n', n = n' + 1 := ⟨n - 1, by omega⟩
    show (datL (Ab.dat h n) _).bind _ = _
    rw [h1 n (by omega)]; rfl
  | d + 1, _, _, .loc (k := k) g s => by
    obtain ⟨h1, h2, h3⟩ := DVs.dat s
    refine ⟨fun n hn => ?_, by simpa [PyData.canLay0] using h2, by simp [PyData.depth]; omega⟩
    obtain ⟨n, rfl⟩ : ∃ n', n = n' + 1 := ⟨n - 1, by omega⟩
    show (match h[k]? with
    | some (.lst xs) => (datL (Ab.dat h n) xs).bind fun ds => some (PyData.list ds)
    | _ => none) = _
    rw [g]
    show (datL (Ab.dat h n) _).bind _ = _
    rw [h1 n (by omega)]; rfl
theorem DVs.dat {h : AHp} : ∀ {d : Nat} {a : List A} {p : List PyData}, DVs h d a p → (∀ n, d < n → datL (Ab.dat h n) a = some p) ∧ PyData.canLayAll0 p = true ∧ PyData.depthAll p ≤ d
  | _, _, _, .nil => ⟨fun n _ => rfl, by simp [PyData.canLayAll0], by simp [PyData.depthAll]⟩
  | d, _, _, .cons (a := y) r rs => by
    obtain ⟨e1, c1, d1⟩ := DV.dat r
    obtain ⟨e2, c2, d2⟩ := DVs.dat rs
    refine ⟨fun n hn => ?_, by simp [PyData.canLayAll0, c1, c2], by simp [PyData.depthAll]; omega⟩
    show (Ab.dat h n y).bind _ = _
    rw [e1 n hn, ev_bind, e2 n hn]; rfl
end
mutual
theorem DV.eqv {h h' : AHp} : ∀ {d e : Nat} {a b : A} {p q : PyData}, DV h d a p → DV h' e b q → (PyData.eqv p q = true ↔ p = q)
  | _, _, _, _, _, _, .str hx, .str hy => by unfold PyData.eqv; simp
  | _, _, _, _, _, _, .str _, .tup _ => by unfold PyData.eqv; simp
  | _, _, _, _, _, _, .str _, .loc _ _ => by unfold PyData.eqv; simp
  | _, _, _, _, _, _, .tup _, .str _ => by unfold PyData.eqv; simp
  | _, _, _, _, _, _, .tup s, .tup t => by unfold PyData.eqv; rw [DVs.eqv s t]; simp
  | _, _, _, _, _, _, .tup _, .loc _ _ => by unfold PyData.eqv; simp
  | _, _, _, _, _, _, .loc _ _, .str _ => by unfold PyData.eqv; simp
  | _, _, _, _, _, _, .loc _ _, .tup _ => by unfold PyData.eqv; simp
  | _, _, _, _, _, _, .loc _ s, .loc _ t => by unfold PyData.eqv; rw [DVs.eqv s t]; simp
theorem DVs.eqv {h h' : AHp} : ∀ {d e : Nat} {a b : List A} {p q : List PyData}, DVs h d a p → DVs h' e b q → (PyData.eqvAll p q = true ↔ p = q)
  | _, _, _, _, _, _, .nil, .nil => by unfold PyData.eqvAll; simp
  | _, _, _, _, _, _, .nil, .cons _ _ => by unfold PyData.eqvAll; simp
  | _, _, _, _, _, _, .cons _ _, .nil => by unfold PyData.eqvAll; simp
  | _, _, _, _, _, _, .cons r s, .cons t u => by unfold PyData.eqvAll; rw [Bool.and_eq_true, DV.eqv r t, DVs.eqv s u]; simp
end
theorem DV.seq {h : AHp} {d : Nat} {a : A} {p : PyData} (x : DV h d a p) (hf : flatA a = false) : ∃ y, seqA a h = some y := by
  cases x with
  | str _ => cases hf
  | tup _ => exact ⟨_, rfl⟩
  | @loc d k xs ps g s => exact ⟨(false, xs), by show (match h[k]? with | some (.lst xs) => some (false, xs) | _ => none) = _; rw [g]⟩
theorem eqA_dv {h : AHp} {d e : Nat} {a b : A} {p q : PyData} (x : DV h d a p) (y : DV h e b q) (hd : d ≤ 55) (he : e ≤ 55) : ∃ k, eqA h a b = some k ∧ (k = true ↔ p = q) := by
  have big : flatA a = false → flatA b = false → ∃ k, eqA h a b = some k ∧ (k = true ↔ p = q) := by
    intro fa fb
    obtain ⟨e1, c1, d1⟩ := x.dat
    obtain ⟨e2, c2, d2⟩ := y.dat
    refine ⟨PyData.eqv p q, ?_, x.eqv y⟩
    unfold eqA
    rw [fa, fb, if_neg (by simp), if_neg (by simp), if_neg (by simp)]
    unfold eqD
    rw [e1 60 (by omega), ev_bind, e2 60 (by omega), ev_bind]
    have s1 : SeqAt.shaped p = true := by unfold SeqAt.shaped; rw [c1, decide_eq_true (by omega)]; rfl
    have s2 : SeqAt.shaped q = true := by unfold SeqAt.shaped; rw [c2, decide_eq_true (by omega)]; rfl
    rw [if_pos ⟨s1, s2⟩]
  cases x with
  | @str _ u hx =>
    cases y with
    | @str _ v hy => exact ⟨u == v, rfl, by simp⟩
    | tup s => exact ⟨false, rfl, by simp⟩
    | loc g s =>
      obtain ⟨z, ez⟩ := (DV.loc g s).seq rfl
      refine ⟨false, ?_, by simp⟩
      unfold eqA
      rw [if_neg (by simp [flatA]), if_pos (show flatA (A.str u) = true from rfl), ez]; rfl
  | tup s =>
    cases y with
    | str hy => exact ⟨false, rfl, by simp⟩
    | tup t => exact big rfl rfl
    | loc g t => exact big rfl rfl
  | loc g s =>
    cases y with
    | @str _ v hy =>
      obtain ⟨z, ez⟩ := (DV.loc g s).seq rfl
      refine ⟨false, ?_, by simp⟩
      unfold eqA
      rw [if_neg (by simp [flatA]), if_neg (by simp [flatA]), if_pos (show flatA (A.str v) = true from rfl), ez]; rfl
    | tup t => exact big rfl rfl
    | loc g t => exact big rfl rfl
def pdT : A → PyData
  | .str x => .str x
  | .tup xs => .tuple (xs.attach.map fun x => pdT x.1)
  | _ => .none
termination_by a => sizeOf a
decreasing_by have := List.sizeOf_lt_of_mem x.2; simp_wf; omega
theorem pdT_str (x : Str) : pdT (.str x) = .str x := by rw [pdT]
theorem pdT_tup (xs : List A) : pdT (.tup xs) = .tuple (xs.map pdT) := by rw [pdT]; simp [List.map_attach_eq_pmap]
theorem dvs_map {h : AHp} {d : Nat} : ∀ {xs : List A}, (∀ x ∈ xs, DV h d x (pdT x)) → DVs h d xs (xs.map pdT)
  | [], _ => .nil
  | a :: r, H => .cons (H a (by simp)) (dvs_map fun x hx => H x (by simp [hx]))
theorem tr_dv {h : AHp} {d : Nat} {a : A} (t : TrD d a) : DV h d a (pdT a) := by
  induction t with
  | str hx => rw [pdT_str]; exact .str hx
  | tup _ ih => rw [pdT_tup]; exact .tup (dvs_map ih)
theorem pdT_inj {d : Nat} {a : A} (t : TrD d a) : ∀ {e : Nat} {b : A}, TrD e b → pdT a = pdT b → a = b := by
  induction t with
  | str hx =>
    intro e b s q
    cases s with
    | str _ => rw [pdT_str, pdT_str] at q; cases q; rfl
    | tup _ => rw [pdT_str, pdT_tup] at q; cases q
  | @tup d xs hxs ih =>
    intro e b s q
    cases s with
    | str _ => rw [pdT_str, pdT_tup] at q; cases q
    | @tup e ys hys =>
      rw [pdT_tup, pdT_tup] at q
      injection q with q
      congr 1
      clear hxs
      induction xs generalizing ys with
      | nil => cases ys with
        | nil => rfl
        | cons _ _ => cases q
      | cons x r ihr =>
        cases ys with
        | nil => cases q
        | cons y rs =>
          rw [List.map_cons, List.map_cons] at q
          injection q with q1 q2
          rw [ih x (by simp) (hys y (by simp)) q1, ihr (fun z hz => ih z (by simp [hz])) (fun z hz => hys z (by simp [hz])) q2]
theorem pdTs_inj {d e : Nat} : ∀ {xs ys : List A}, (∀ x ∈ xs, TrD d x) → (∀ x ∈ ys, TrD e x) → xs.map pdT = ys.map pdT → xs = ys
  | [], [], _, _, _ => rfl
  | [], _ :: _, _, _, q => by cases q
  | _ :: _, [], _, _, q => by cases q
  | x :: r, y :: s, hx, hy, q => by
    rw [List.map_cons, List.map_cons] at q
    injection q with q1 q2
    rw [pdT_inj (hx x (by simp)) (hy y (by simp)) q1, pdTs_inj (fun z hz => hx z (by simp [hz])) (fun z hz => hy z (by simp [hz])) q2]
theorem eqA_tr {h : AHp} {d e : Nat} {a b : A} (x : TrD d a) (y : TrD e b) (hd : d ≤ 50) (he : e ≤ 50) : ∃ k, eqA h a b = some k ∧ (k = true ↔ a = b) := by
  obtain ⟨k, e1, e2⟩ := eqA_dv (h := h) (tr_dv x) (tr_dv y) (by omega) (by omega)
  exact ⟨k, e1, e2.trans ⟨pdT_inj x y, fun q => by rw [q]⟩⟩
theorem dv_lst {h : AHp} {n d : Nat} {xs : List A} (g : h[n]? = some (.lst xs)) (t : ∀ x ∈ xs, TrD d x) : DV h (d + 1) (.loc n) (.list (xs.map pdT)) := .loc g (dvs_map fun x hx => tr_dv (t x hx))
theorem eqA_lst {h : AHp} {m n d e : Nat} {xs ys : List A} (g1 : h[m]? = some (.lst xs)) (g2 : h[n]? = some (.lst ys)) (x : ∀ a ∈ xs, TrD d a) (y : ∀ a ∈ ys, TrD e a) (hd : d ≤ 50) (he : e ≤ 50) : ∃ k, eqA h (.loc m) (.loc n) = some k ∧ (k = true ↔ xs = ys) := by
  obtain ⟨k, e1, e2⟩ := eqA_dv (h := h) (dv_lst g1 x) (dv_lst g2 y) (by omega) (by omega)
  refine ⟨k, e1, e2.trans ⟨fun q => ?_, fun q => by rw [q]⟩⟩
  injection q with q
  exact pdTs_inj x y q
theorem v_neA {h : AHp} {a b : A} {k : Bool} (e : eqA h a b = some k) : cNe a b h = some (.bl (!k), h) := by
  show (eqA h a b).bind _ = _
  rw [e]; rfl
theorem v_eqA {h : AHp} {a b : A} {k : Bool} (e : eqA h a b = some k) : cEq a b h = some (.bl k, h) := by
  show (eqA h a b).bind _ = _
  rw [e]; rfl
end Sd
set_option Elab.async false
set_option linter.all false
set_option maxRecDepth 100000
namespace K51
open PySem L2 Ab Sh Sw Sd
set_option autoImplicit false
theorem cs_e : cs Str.empty = [] := id rfl
theorem cs_op : cs "(" = [40] := by decide +kernel
theorem cs_cl : cs ")" = [41] := by decide +kernel
theorem cs_sp : cs " " = [32] := by decide +kernel
theorem sg_len {s : Str} (h : s = "and" ∨ s = "or" ∨ s = "gives") : s.length ≤ 5 ∧ 1 ≤ s.length := by
  rcases h with rfl | rfl | rfl <;> decide +kernel
theorem while_go {m : MT} {s : MS} {τ τ1 : ASt} {h h0 h1 : AHp} {k : Nat} (e1 : m τ h = some (true, h0)) (e2 : s τ h0 = some (.nx τ1, h1)) : whileL m s (k + 1) τ h = whileL m s k τ1 h1 := by
  show (m τ h).bind _ = _
  rw [e1, ev_bind]
  show (if true = true then _ else _) = _
  rw [if_pos rfl, e2, ev_bind]
theorem while_end {m : MT} {s : MS} {τ : ASt} {h h0 : AHp} {k : Nat} (e1 : m τ h = some (false, h0)) : whileL m s (k + 1) τ h = some (.nx τ, h0) := by
  show (m τ h).bind _ = _
  rw [e1, ev_bind]
  show (if false = true then _ else _) = _
  rw [if_neg (by decide)]
def ofL (w : List Nat) : Str := ⟨w.toArray⟩
theorem cs_ofL (w : List Nat) : cs (ofL w) = w := by show w.toArray.toList = w; simp
theorem ofL_cs (x : Str) : ofL (cs x) = x := cs_ext (cs_ofL _)
theorem cle_a {c : Nat} {h : AHp} : cLe (.str "a") (.str ⟨#[c]⟩) h = some (.bl (decide (97 ≤ c)), h) := by rw [v_leS]; show some (A.bl (!decide (([c] : List Nat) < _)), h) = _; rw [sign_le]
theorem cle_z {c : Nat} {h : AHp} : cLe (.str ⟨#[c]⟩) (.str "z") h = some (.bl (decide (c ≤ 122)), h) := by rw [v_leS]; show some (A.bl (!decide (_ < ([c] : List Nat))), h) = _; rw [sign_ge]
abbrev cnd : MT := mAnd (mB (eOp cLt (eVar 1) (eCall bLen (aCons (eVar 0) aNil)))) (mB (eChain cLe cLe (eC (.str "a")) (eOp xIx (eVar 0) (eVar 1)) (eC (.str "z"))))
theorem word_ahead_spec {z : Str} {w r : List Nat} {h : AHp} (hz : cs z = w ++ r) (hw : ∀ c ∈ w, 97 ≤ c ∧ c ≤ 122) (hr : ∀ c t, r = c :: t → ¬ (97 ≤ c ∧ c ≤ 122)) (hl : z.length ≤ 10000) : F_word_ahead [.str z] h = some (.str (ofL w), h) := by
  have len : bLen [.str z] h = some (.int (z.length : Nat), h) := v_lenS (by omega)
  have zl : z.length = w.length + r.length := by rw [cs_len, hz, List.length_append]
  have loop : ∀ (m i fuel : Nat), i + m = w.length → m < fuel → whileL cnd l1_word_ahead fuel [some (.str z), some (.int (i : Nat))] h = some (.nx [some (.str z), some (.int (w.length : Nat))], h) := by
    intro m
    induction m with
    | zero =>
      intro i fuel ei hf
      obtain ⟨fuel, rfl⟩ : ∃ f, fuel = f + 1 := ⟨fuel - 1, by omega⟩
      have hi : i = w.length := by omega
      subst hi
      refine while_end ?_
      cases r with
      | nil =>
        have lt : decide (((w.length : Nat) : Int) < (z.length : Nat)) = false := decide_eq_false (by simp at zl; omega)
        simp only [cnd, ev_bind, ev_op, ev_k1, ev_k2, ev_C, ev_var, ev_kVar, ev_un, ev_ku, ev_chain, ev_kc1, ev_kc2, ev_kc3t, ev_kc3f, ev_tru, ev_kTrb, ev_kTri, ev_B, ev_kB, ev_and, ev_or, ev_not, ev_kAt, ev_kAf, ev_kOt, ev_kOf, ev_kN, ev_eand, ev_eor, ev_enot, ev_kEAt, ev_kEAf, ev_kEOt, ev_kEOf, ev_kEN, ev_eif, ev_kEIt, ev_kEIf, ev_anil, ev_acons, ev_ka1, ev_ka2, ev_tup, ev_lst, ev_call, ev_kCa, ev_seq, ev_kSn, ev_kSr, ev_kSb, ev_kSc, ev_nx, ev_bk, ev_ct, ev_ret, ev_kRt, ev_retN, ev_if, ev_kIt, ev_kIf, ev_x, ev_kX, ev_asg, ev_kAs, ev_kAs2, ev_gN, ev_gT, ev_gT3, ev_gIx, ev_kG1, ev_kG2, ev_kG3, ev_kFr, ev_kFn, ev_for, ev_kFo, ev_mt, ev_kMt2, ev_ms, ev_kMs1, ev_sl, ev_kSl1, ev_kSl2, ev_kSl3, ev_noPart, ev_part, ev_kPt, ev_rng1, ev_istr, ev_kIS, ev_ilst, ev_kILr, ev_lc, ev_kLc, ev_kLc2, ev_yes, ev_irev, ev_ienum, ev_izip, ev_inD, ev_getD, ev_kInD, ev_kGetD, ev_fld, ev_mth, ev_kMe2, ev_sfld, ev_kSf1, ev_make, ev_aug, ev_kAu1, ev_kAu2, ev_kAu3, List.getElem?_cons_zero, List.getElem?_cons_succ, List.set_cons_zero, List.set_cons_succ, v_addI, v_sub, v_neg, v_lt, v_le, v_gt, v_ge, v_eqI, v_neI, v_eqS, v_neS, v_neB, v_eqB, v_lenT, v_lenR, v_max, v_min, len, lt]
      | cons c t =>
        have lt : decide (((w.length : Nat) : Int) < (z.length : Nat)) = true := decide_eq_true (by simp at zl; omega)
        have ix : xIx (.str z) (.int (w.length : Nat)) h = some (.str ⟨#[c]⟩, h) := v_ixS (by omega) (atI_nat (by show (cs z)[w.length]? = _; rw [hz]; simp))
        have nl := hr c t rfl
        cases q : decide (97 ≤ c) with
        | false =>
          have l1 := cle_a (c := c) (h := h)
          rw [q] at l1
          simp only [cnd, ev_bind, ev_op, ev_k1, ev_k2, ev_C, ev_var, ev_kVar, ev_un, ev_ku, ev_chain, ev_kc1, ev_kc2, ev_kc3t, ev_kc3f, ev_tru, ev_kTrb, ev_kTri, ev_B, ev_kB, ev_and, ev_or, ev_not, ev_kAt, ev_kAf, ev_kOt, ev_kOf, ev_kN, ev_eand, ev_eor, ev_enot, ev_kEAt, ev_kEAf, ev_kEOt, ev_kEOf, ev_kEN, ev_eif, ev_kEIt, ev_kEIf, ev_anil, ev_acons, ev_ka1, ev_ka2, ev_tup, ev_lst, ev_call, ev_kCa, ev_seq, ev_kSn, ev_kSr, ev_kSb, ev_kSc, ev_nx, ev_bk, ev_ct, ev_ret, ev_kRt, ev_retN, ev_if, ev_kIt, ev_kIf, ev_x, ev_kX, ev_asg, ev_kAs, ev_kAs2, ev_gN, ev_gT, ev_gT3, ev_gIx, ev_kG1, ev_kG2, ev_kG3, ev_kFr, ev_kFn, ev_for, ev_kFo, ev_mt, ev_kMt2, ev_ms, ev_kMs1, ev_sl, ev_kSl1, ev_kSl2, ev_kSl3, ev_noPart, ev_part, ev_kPt, ev_rng1, ev_istr, ev_kIS, ev_ilst, ev_kILr, ev_lc, ev_kLc, ev_kLc2, ev_yes, ev_irev, ev_ienum, ev_izip, ev_inD, ev_getD, ev_kInD, ev_kGetD, ev_fld, ev_mth, ev_kMe2, ev_sfld, ev_kSf1, ev_make, ev_aug, ev_kAu1, ev_kAu2, ev_kAu3, List.getElem?_cons_zero, List.getElem?_cons_succ, List.set_cons_zero, List.set_cons_succ, v_addI, v_sub, v_neg, v_lt, v_le, v_gt, v_ge, v_eqI, v_neI, v_eqS, v_neS, v_neB, v_eqB, v_lenT, v_lenR, v_max, v_min, len, lt, ix, l1]
        | true =>
          have l1 := cle_a (c := c) (h := h)
          rw [q] at l1
          have l2 := cle_z (c := c) (h := h)
          rw [decide_eq_false (by have := of_decide_eq_true q; omega)] at l2
          simp only [cnd, ev_bind, ev_op, ev_k1, ev_k2, ev_C, ev_var, ev_kVar, ev_un, ev_ku, ev_chain, ev_kc1, ev_kc2, ev_kc3t, ev_kc3f, ev_tru, ev_kTrb, ev_kTri, ev_B, ev_kB, ev_and, ev_or, ev_not, ev_kAt, ev_kAf, ev_kOt, ev_kOf, ev_kN, ev_eand, ev_eor, ev_enot, ev_kEAt, ev_kEAf, ev_kEOt, ev_kEOf, ev_kEN, ev_eif, ev_kEIt, ev_kEIf, ev_anil, ev_acons, ev_ka1, ev_ka2, ev_tup, ev_lst, ev_call, ev_kCa, ev_seq, ev_kSn, ev_kSr, ev_kSb, ev_kSc, ev_nx, ev_bk, ev_ct, ev_ret, ev_kRt, ev_retN, ev_if, ev_kIt, ev_kIf, ev_x, ev_kX, ev_asg, ev_kAs, ev_kAs2, ev_gN, ev_gT, ev_gT3, ev_gIx, ev_kG1, ev_kG2, ev_kG3, ev_kFr, ev_kFn, ev_for, ev_kFo, ev_mt, ev_kMt2, ev_ms, ev_kMs1, ev_sl, ev_kSl1, ev_kSl2, ev_kSl3, ev_noPart, ev_part, ev_kPt, ev_rng1, ev_istr, ev_kIS, ev_ilst, ev_kILr, ev_lc, ev_kLc, ev_kLc2, ev_yes, ev_irev, ev_ienum, ev_izip, ev_inD, ev_getD, ev_kInD, ev_kGetD, ev_fld, ev_mth, ev_kMe2, ev_sfld, ev_kSf1, ev_make, ev_aug, ev_kAu1, ev_kAu2, ev_kAu3, List.getElem?_cons_zero, List.getElem?_cons_succ, List.set_cons_zero, List.set_cons_succ, v_addI, v_sub, v_neg, v_lt, v_le, v_gt, v_ge, v_eqI, v_neI, v_eqS, v_neS, v_neB, v_eqB, v_lenT, v_lenR, v_max, v_min, len, lt, ix, l1, l2]
    | succ m ih =>
      intro i fuel ei hf
      obtain ⟨fuel, rfl⟩ : ∃ f, fuel = f + 1 := ⟨fuel - 1, by omega⟩
      have hi : i < w.length := by omega
      have lt : decide (((i : Nat) : Int) < (z.length : Nat)) = true := decide_eq_true (by omega)
      have lo := hw _ (List.getElem_mem hi)
      have ix : xIx (.str z) (.int (i : Nat)) h = some (.str ⟨#[w[i]]⟩, h) := v_ixS (by omega) (atI_nat (by show (cs z)[i]? = _; rw [hz, List.getElem?_append_left hi]; exact List.getElem?_eq_getElem hi))
      have l1 := cle_a (c := w[i]) (h := h)
      rw [decide_eq_true lo.1] at l1
      have l2 := cle_z (c := w[i]) (h := h)
      rw [decide_eq_true lo.2] at l2
      have ad : (i : Int) + 1 = ((i + 1 : Nat) : Int) := by omega
      rw [while_go (h0 := h) (h1 := h) (τ1 := [some (.str z), some (.int ((i + 1 : Nat) : Int))]) (by simp only [cnd, ev_bind, ev_op, ev_k1, ev_k2, ev_C, ev_var, ev_kVar, ev_un, ev_ku, ev_chain, ev_kc1, ev_kc2, ev_kc3t, ev_kc3f, ev_tru, ev_kTrb, ev_kTri, ev_B, ev_kB, ev_and, ev_or, ev_not, ev_kAt, ev_kAf, ev_kOt, ev_kOf, ev_kN, ev_eand, ev_eor, ev_enot, ev_kEAt, ev_kEAf, ev_kEOt, ev_kEOf, ev_kEN, ev_eif, ev_kEIt, ev_kEIf, ev_anil, ev_acons, ev_ka1, ev_ka2, ev_tup, ev_lst, ev_call, ev_kCa, ev_seq, ev_kSn, ev_kSr, ev_kSb, ev_kSc, ev_nx, ev_bk, ev_ct, ev_ret, ev_kRt, ev_retN, ev_if, ev_kIt, ev_kIf, ev_x, ev_kX, ev_asg, ev_kAs, ev_kAs2, ev_gN, ev_gT, ev_gT3, ev_gIx, ev_kG1, ev_kG2, ev_kG3, ev_kFr, ev_kFn, ev_for, ev_kFo, ev_mt, ev_kMt2, ev_ms, ev_kMs1, ev_sl, ev_kSl1, ev_kSl2, ev_kSl3, ev_noPart, ev_part, ev_kPt, ev_rng1, ev_istr, ev_kIS, ev_ilst, ev_kILr, ev_lc, ev_kLc, ev_kLc2, ev_yes, ev_irev, ev_ienum, ev_izip, ev_inD, ev_getD, ev_kInD, ev_kGetD, ev_fld, ev_mth, ev_kMe2, ev_sfld, ev_kSf1, ev_make, ev_aug, ev_kAu1, ev_kAu2, ev_kAu3, List.getElem?_cons_zero, List.getElem?_cons_succ, List.set_cons_zero, List.set_cons_succ, v_addI, v_sub, v_neg, v_lt, v_le, v_gt, v_ge, v_eqI, v_neI, v_eqS, v_neS, v_neB, v_eqB, v_lenT, v_lenR, v_max, v_min, len, lt, ix, l1, l2]) (by simp only [l1_word_ahead, ev_bind, ev_op, ev_k1, ev_k2, ev_C, ev_var, ev_kVar, ev_un, ev_ku, ev_chain, ev_kc1, ev_kc2, ev_kc3t, ev_kc3f, ev_tru, ev_kTrb, ev_kTri, ev_B, ev_kB, ev_and, ev_or, ev_not, ev_kAt, ev_kAf, ev_kOt, ev_kOf, ev_kN, ev_eand, ev_eor, ev_enot, ev_kEAt, ev_kEAf, ev_kEOt, ev_kEOf, ev_kEN, ev_eif, ev_kEIt, ev_kEIf, ev_anil, ev_acons, ev_ka1, ev_ka2, ev_tup, ev_lst, ev_call, ev_kCa, ev_seq, ev_kSn, ev_kSr, ev_kSb, ev_kSc, ev_nx, ev_bk, ev_ct, ev_ret, ev_kRt, ev_retN, ev_if, ev_kIt, ev_kIf, ev_x, ev_kX, ev_asg, ev_kAs, ev_kAs2, ev_gN, ev_gT, ev_gT3, ev_gIx, ev_kG1, ev_kG2, ev_kG3, ev_kFr, ev_kFn, ev_for, ev_kFo, ev_mt, ev_kMt2, ev_ms, ev_kMs1, ev_sl, ev_kSl1, ev_kSl2, ev_kSl3, ev_noPart, ev_part, ev_kPt, ev_rng1, ev_istr, ev_kIS, ev_ilst, ev_kILr, ev_lc, ev_kLc, ev_kLc2, ev_yes, ev_irev, ev_ienum, ev_izip, ev_inD, ev_getD, ev_kInD, ev_kGetD, ev_fld, ev_mth, ev_kMe2, ev_sfld, ev_kSf1, ev_make, ev_aug, ev_kAu1, ev_kAu2, ev_kAu3, List.getElem?_cons_zero, List.getElem?_cons_succ, List.set_cons_zero, List.set_cons_succ, v_addI, v_sub, v_neg, v_lt, v_le, v_gt, v_ge, v_eqI, v_neI, v_eqS, v_neS, v_neB, v_eqB, v_lenT, v_lenR, v_max, v_min, v_addI2, ad])]
      exact ih (i + 1) fuel (by omega) (by omega)
  have lp := loop w.length 0 100000 (by omega) (by omega)
  have z0 : ((0 : Nat) : Int) = 0 := rfl
  rw [z0] at lp
  have sl : xSl (.str z) none (some (w.length : Nat)) h = some (.str (ofL w), h) := by
    rw [v_slS (by omega)]
    congr 3
    apply cs_ext
    rw [Sh.cut_to (by omega), hz, cs_ofL]; simp
  simp only [ap_word_ahead, b_word_ahead, ev_bind, ev_op, ev_k1, ev_k2, ev_C, ev_var, ev_kVar, ev_un, ev_ku, ev_chain, ev_kc1, ev_kc2, ev_kc3t, ev_kc3f, ev_tru, ev_kTrb, ev_kTri, ev_B, ev_kB, ev_and, ev_or, ev_not, ev_kAt, ev_kAf, ev_kOt, ev_kOf, ev_kN, ev_eand, ev_eor, ev_enot, ev_kEAt, ev_kEAf, ev_kEOt, ev_kEOf, ev_kEN, ev_eif, ev_kEIt, ev_kEIf, ev_anil, ev_acons, ev_ka1, ev_ka2, ev_tup, ev_lst, ev_call, ev_kCa, ev_seq, ev_kSn, ev_kSr, ev_kSb, ev_kSc, ev_nx, ev_bk, ev_ct, ev_ret, ev_kRt, ev_retN, ev_if, ev_kIt, ev_kIf, ev_x, ev_kX, ev_asg, ev_kAs, ev_kAs2, ev_gN, ev_gT, ev_gT3, ev_gIx, ev_kG1, ev_kG2, ev_kG3, ev_kFr, ev_kFn, ev_for, ev_kFo, ev_mt, ev_kMt2, ev_ms, ev_kMs1, ev_sl, ev_kSl1, ev_kSl2, ev_kSl3, ev_noPart, ev_part, ev_kPt, ev_rng1, ev_istr, ev_kIS, ev_ilst, ev_kILr, ev_lc, ev_kLc, ev_kLc2, ev_yes, ev_irev, ev_ienum, ev_izip, ev_inD, ev_getD, ev_kInD, ev_kGetD, ev_fld, ev_mth, ev_kMe2, ev_sfld, ev_kSf1, ev_make, ev_aug, ev_kAu1, ev_kAu2, ev_kAu3, List.getElem?_cons_zero, List.getElem?_cons_succ, List.set_cons_zero, List.set_cons_succ, v_addI, v_sub, v_neg, v_lt, v_le, v_gt, v_ge, v_eqI, v_neI, v_eqS, v_neS, v_neB, v_eqB, v_lenT, v_lenR, v_max, v_min, lp, sl]
theorem sw_eq (z m : Str) : Txt.startswith z m = (decide (m.length ≤ z.length) && decide ((cs z).take m.length = cs m)) := by
  unfold Txt.startswith Builtin.Str.subAt
  rw [Nat.zero_add]
  congr 1
  rw [Bool.eq_iff_iff, beq_iff_eq, decide_eq_true_iff]
  constructor
  · intro e
    have := congrArg Array.toList e
    simpa [cs] using this
  · intro e
    apply Array.toList_inj.mp
    simpa [cs] using e
theorem behind_spec {z m : Str} {r : List Nat} {h : AHp} (hz : cs z = cs m ++ r) (hl : z.length ≤ 10000) : F_behind_mark [.str z, .str m] h = some (.str (ofL r), h) := by
  have zl : z.length = m.length + r.length := by rw [cs_len, hz, List.length_append, cs_len]
  have sw : fSw (.str z) [.str m] h = some (.bl true, h) := by
    show some (A.bl (Txt.startswith z m), h) = _
    rw [sw_eq, decide_eq_true (by omega), decide_eq_true (by rw [hz, cs_len]; simp)]
    rfl
  have len : bLen [.str m] h = some (.int (m.length : Nat), h) := v_lenS (by omega)
  have sl : xSl (.str z) (some (m.length : Nat)) none h = some (.str (ofL r), h) := by
    rw [v_slS (by omega)]
    congr 3
    apply cs_ext
    rw [Sh.cut_from (by omega), hz, cs_ofL, cs_len]; simp
  simp only [ap_behind_mark, b_behind_mark, ev_bind, ev_op, ev_k1, ev_k2, ev_C, ev_var, ev_kVar, ev_un, ev_ku, ev_chain, ev_kc1, ev_kc2, ev_kc3t, ev_kc3f, ev_tru, ev_kTrb, ev_kTri, ev_B, ev_kB, ev_and, ev_or, ev_not, ev_kAt, ev_kAf, ev_kOt, ev_kOf, ev_kN, ev_eand, ev_eor, ev_enot, ev_kEAt, ev_kEAf, ev_kEOt, ev_kEOf, ev_kEN, ev_eif, ev_kEIt, ev_kEIf, ev_anil, ev_acons, ev_ka1, ev_ka2, ev_tup, ev_lst, ev_call, ev_kCa, ev_seq, ev_kSn, ev_kSr, ev_kSb, ev_kSc, ev_nx, ev_bk, ev_ct, ev_ret, ev_kRt, ev_retN, ev_if, ev_kIt, ev_kIf, ev_x, ev_kX, ev_asg, ev_kAs, ev_kAs2, ev_gN, ev_gT, ev_gT3, ev_gIx, ev_kG1, ev_kG2, ev_kG3, ev_kFr, ev_kFn, ev_for, ev_kFo, ev_mt, ev_kMt2, ev_ms, ev_kMs1, ev_sl, ev_kSl1, ev_kSl2, ev_kSl3, ev_noPart, ev_part, ev_kPt, ev_rng1, ev_istr, ev_kIS, ev_ilst, ev_kILr, ev_lc, ev_kLc, ev_kLc2, ev_yes, ev_irev, ev_ienum, ev_izip, ev_inD, ev_getD, ev_kInD, ev_kGetD, ev_fld, ev_mth, ev_kMe2, ev_sfld, ev_kSf1, ev_make, ev_aug, ev_kAu1, ev_kAu2, ev_kAu3, List.getElem?_cons_zero, List.getElem?_cons_succ, List.set_cons_zero, List.set_cons_succ, v_addI, v_sub, v_neg, v_lt, v_le, v_gt, v_ge, v_eqI, v_neI, v_eqS, v_neS, v_neB, v_eqB, v_lenT, v_lenR, v_max, v_min, sw, len, sl, Bool.not_true]
def wL (t : List Nat) : List Nat := t.takeWhile lowB
def bhP (m t : List Nat) : Option (List Nat) := if t.take m.length = m then some (t.drop m.length) else none
def sgP (t : List Nat) : Option (Str × List Nat) := if sgn (.str (ofL (wL (t.drop 1)))) = true then (bhP (32 :: (wL (t.drop 1) ++ [32])) t).map fun r => (ofL (wL (t.drop 1)), r) else none
def raP : Nat → List Nat → Option (A × List Nat)
  | 0, _ => none
  | n + 1, t => if t.take 1 = [40] then (raP n (t.drop 1)).bind fun p => (sgP p.2).bind fun q => (raP n q.2).bind fun o => (bhP [41] o.2).map fun r => (.tup [.str q.1, p.1, o.1], r)
    else if leafB (.str (ofL (wL t))) = true then some (.str (ofL (wL t)), t.drop (wL t).length) else none
theorem wL_low (t : List Nat) : ∀ c ∈ wL t, 97 ≤ c ∧ c ≤ 122 := by
  intro c hc
  have : ∀ (t : List Nat), ∀ c ∈ t.takeWhile lowB, lowB c = true := by
    intro t
    induction t with
    | nil => intro c m; simp at m
    | cons x r ih =>
      intro c m
      rw [List.takeWhile_cons] at m
      split at m
      · rename_i hx
        rcases List.mem_cons.mp m with rfl | m
        · exact hx
        · exact ih c m
      · simp at m
  have := this t c hc
  unfold lowB at this
  simpa using this
theorem wL_split (t : List Nat) : ∃ r, t = wL t ++ r ∧ (∀ c s, r = c :: s → ¬ (97 ≤ c ∧ c ≤ 122)) := by
  induction t with
  | nil => exact ⟨[], rfl, fun c s e => by cases e⟩
  | cons x r ih =>
    obtain ⟨q, e, h⟩ := ih
    cases hx : lowB x with
    | true =>
      refine ⟨q, ?_, h⟩
      show x :: r = List.takeWhile lowB (x :: r) ++ q
      rw [List.takeWhile_cons, hx]
      show x :: r = x :: (wL r ++ q)
      rw [← e]
    | false =>
      refine ⟨x :: r, ?_, fun c s e' => ?_⟩
      · show x :: r = List.takeWhile lowB (x :: r) ++ (x :: r)
        rw [List.takeWhile_cons, hx]; rfl
      · cases e'
        intro z
        have : lowB x = true := by unfold lowB; simp; exact z
        rw [hx] at this; cases this
theorem wL_len (t : List Nat) : (wL t).length ≤ t.length := by
  obtain ⟨r, e, _⟩ := wL_split t
  have := congrArg List.length e
  rw [List.length_append] at this
  omega
theorem ofL_len (t : List Nat) : (ofL t).length = t.length := by rw [cs_len, cs_ofL]
theorem wa_spec {t : List Nat} {h : AHp} (hl : t.length ≤ 10000) : F_word_ahead [.str (ofL t)] h = some (.str (ofL (wL t)), h) := by
  obtain ⟨r, e, hr⟩ := wL_split t
  exact word_ahead_spec (by rw [cs_ofL]; exact e) (wL_low t) hr (by rw [ofL_len]; exact hl)
theorem cutL_from {t : List Nat} {n : Nat} {h : AHp} (hn : n ≤ t.length) (hl : t.length ≤ 10000) : xSl (.str (ofL t)) (some (n : Int)) none h = some (.str (ofL (t.drop n)), h) := by
  have l := ofL_len t
  rw [v_slS (by omega)]
  congr 3
  apply cs_ext
  rw [Sh.cut_from (by omega), cs_ofL, cs_ofL]
theorem take_len {t m : List Nat} (h : t.take m.length = m) : m.length ≤ t.length := by
  have := congrArg List.length h
  rw [List.length_take] at this
  omega
theorem sw_spec {t : List Nat} {m : Str} {h : AHp} : fSw (.str (ofL t)) [.str m] h = some (.bl (decide (t.take (cs m).length = cs m)), h) := by
  show some (A.bl (Txt.startswith (ofL t) m), h) = _
  rw [sw_eq, cs_ofL, ofL_len, cs_len]
  congr 3
  by_cases q : t.take (cs m).length = cs m
  · rw [decide_eq_true q, decide_eq_true (take_len q)]; rfl
  · rw [decide_eq_false q, Bool.and_false]
theorem bh_ok {t r : List Nat} {m : Str} {h : AHp} (hl : t.length ≤ 10000) (e : bhP (cs m) t = some r) : F_behind_mark [.str (ofL t), .str m] h = some (.str (ofL r), h) := by
  unfold bhP at e
  split at e
  · rename_i q
    cases e
    refine behind_spec ?_ (by rw [ofL_len]; exact hl)
    rw [cs_ofL]
    conv => lhs; rw [← List.take_append_drop (cs m).length t, q]
  · cases e
theorem bh_no {t : List Nat} {m : Str} {h : AHp} (e : bhP (cs m) t = none) : R_behind_mark [.str (ofL t), .str m] h = some (("NoText" : Str), h) := by
  unfold bhP at e
  split at e
  · cases e
  · rename_i q
    have sw := sw_spec (t := t) (m := m) (h := h)
    rw [decide_eq_false q] at sw
    simp only [ax_behind_mark, y_behind_mark, yIf, yRaise, kFx, Option.bind_none, if_true, if_false, Bool.false_eq_true, ev_bind, ev_op, ev_k1, ev_k2, ev_C, ev_var, ev_kVar, ev_un, ev_ku, ev_chain, ev_kc1, ev_kc2, ev_kc3t, ev_kc3f, ev_tru, ev_kTrb, ev_kTri, ev_B, ev_kB, ev_and, ev_or, ev_not, ev_kAt, ev_kAf, ev_kOt, ev_kOf, ev_kN, ev_eand, ev_eor, ev_enot, ev_kEAt, ev_kEAf, ev_kEOt, ev_kEOf, ev_kEN, ev_eif, ev_kEIt, ev_kEIf, ev_anil, ev_acons, ev_ka1, ev_ka2, ev_tup, ev_lst, ev_call, ev_kCa, ev_seq, ev_kSn, ev_kSr, ev_kSb, ev_kSc, ev_nx, ev_bk, ev_ct, ev_ret, ev_kRt, ev_retN, ev_if, ev_kIt, ev_kIf, ev_x, ev_kX, ev_asg, ev_kAs, ev_kAs2, ev_gN, ev_gT, ev_gT3, ev_gIx, ev_kG1, ev_kG2, ev_kG3, ev_kFr, ev_kFn, ev_for, ev_kFo, ev_mt, ev_kMt2, ev_ms, ev_kMs1, ev_sl, ev_kSl1, ev_kSl2, ev_kSl3, ev_noPart, ev_part, ev_kPt, ev_rng1, ev_istr, ev_kIS, ev_ilst, ev_kILr, ev_lc, ev_kLc, ev_kLc2, ev_yes, ev_irev, ev_ienum, ev_izip, ev_inD, ev_getD, ev_kInD, ev_kGetD, ev_fld, ev_mth, ev_kMe2, ev_sfld, ev_kSf1, ev_make, ev_aug, ev_kAu1, ev_kAu2, ev_kAu3, List.getElem?_cons_zero, List.getElem?_cons_succ, List.set_cons_zero, List.set_cons_succ, v_addI, v_sub, v_neg, v_lt, v_le, v_gt, v_ge, v_eqI, v_neI, v_eqS, v_neS, v_neB, v_eqB, v_lenT, v_lenR, v_max, v_min, sw, Bool.not_false]
    rw [if_pos (by simp)]
    rfl
end K51
set_option Elab.async false
set_option linter.all false
set_option maxRecDepth 100000
namespace K51
open PySem L2 Ab Sh Sw Sd
set_option autoImplicit false
theorem exn {F : MF} {R : RF} {as : List A} {h : AHp} {r : A × AHp} (x : ExF F R) (e : F as h = some r) : R as h = none := by
  cases q : R as h with
  | none => rfl
  | some p => rw [x as h p q] at e; cases e
theorem kt2 (a b : A) (h : AHp) : kTu ([a, b], h) = some (.tup [a, b], h) := ev_kTu (by simp)
theorem bh_sfx {m t r : List Nat} (e : bhP m t = some r) : ∃ k, r = t.drop k := by
  unfold bhP at e
  split at e
  · cases e; exact ⟨_, rfl⟩
  · cases e
theorem sg_sfx {t r : List Nat} {s : Str} (e : sgP t = some (s, r)) : ∃ k, r = t.drop k := by
  unfold sgP at e
  split at e
  · obtain ⟨q, hq, e⟩ := Option.map_eq_some_iff.mp e
    cases e
    exact bh_sfx hq
  · cases e
theorem sfx_trans {a b c : List Nat} (h1 : ∃ k, b = a.drop k) (h2 : ∃ k, c = b.drop k) : ∃ k, c = a.drop k := by
  obtain ⟨k1, e1⟩ := h1
  obtain ⟨k2, e2⟩ := h2
  exact ⟨k1 + k2, by rw [e2, e1, List.drop_drop]⟩
theorem ra_sfx : ∀ {n : Nat} {t r : List Nat} {s : A}, raP n t = some (s, r) → ∃ k, r = t.drop k
  | 0, t, r, s, e => by cases e
  | n + 1, t, r, s, e => by
    unfold raP at e
    split at e
    · obtain ⟨p, h1, e⟩ := bindS e
      obtain ⟨q, h2, e⟩ := bindS e
      obtain ⟨o, h3, e⟩ := bindS e
      obtain ⟨w, h4, e⟩ := Option.map_eq_some_iff.mp e
      cases e
      exact sfx_trans (sfx_trans (sfx_trans (sfx_trans ⟨1, rfl⟩ (ra_sfx (s := p.1) (r := p.2) h1)) (sg_sfx (s := q.1) (r := q.2) h2)) (ra_sfx (s := o.1) (r := o.2) h3)) (bh_sfx h4)
    · split at e
      · cases e; exact ⟨_, rfl⟩
      · cases e
theorem drop_count (t : List Nat) (k : Nat) : (t.drop k).count 40 ≤ t.count 40 := (List.drop_sublist k t).count_le 40
theorem cut1 {t : List Nat} {h : AHp} (hl : t.length ≤ 1000) : xSl (.str (ofL t)) (some 1) none h = some (.str (ofL (t.drop 1)), h) := by
  cases t with
  | nil =>
    have l := ofL_len ([] : List Nat)
    rw [v_slS (by omega)]
    first | rfl | (congr 3; apply cs_ext; decide +kernel)
  | cons x r => exact cutL_from (n := 1) (by simp) (by omega)
theorem fsw {s : Str} {h : AHp} {a : Option A} (hs : s.length ≤ 1000) : eFs (fsC " " (fsV (eVar 1) (fsC " " fsN))) [a, some (.str s)] h = some (.str (Str.empty ++ " " ++ s ++ " "), h) := by
  have z3 : (" " : Str).length = 1 ∧ Str.empty.length = 0 := by decide +kernel
  have ev : eVar 1 [a, some (.str s)] h = some (.str s, h) := by unfold eVar; rfl
  rw [ev_fs, ev_fsC (by simp only [len_app]; omega), ev_fsV, ev, ev_bind, ev_kFs (by simp only [len_app]; omega), ev_fsC (by simp only [len_app]; omega), ev_fsN (by simp only [len_app]; omega)]
theorem csm (w : List Nat) : cs (Str.empty ++ " " ++ ofL w ++ " ") = 32 :: (w ++ [32]) := by
  simp only [cs_app, cs_e, cs_sp, cs_ofL, List.nil_append, List.cons_append, List.append_assoc]
theorem sg_ok {t r : List Nat} {s : Str} {h : AHp} (hl : t.length ≤ 1000) (e : sgP t = some (s, r)) : F_read_sign [.str (ofL t)] h = some (.tup [.str s, .str (ofL r)], h) := by
  have sl := cut1 (h := h) hl
  have dl : (t.drop 1).length ≤ 1000 := by rw [List.length_drop]; omega
  have wa := wa_spec (t := t.drop 1) (h := h) (by omega)
  have wl := wL_len (t.drop 1)
  have ni := v_niSigns (h := h) (OkA.str (n := 0) (d := 0) (x := ofL (wL (t.drop 1))) (by rw [ofL_len]; omega)) LH.zero
  have f1 := fsw (s := ofL (wL (t.drop 1))) (a := some (.str (ofL t))) (h := h) (by rw [ofL_len]; omega)
  unfold sgP at e
  split at e
  · rename_i sg
    obtain ⟨q, hq, e⟩ := Option.map_eq_some_iff.mp e
    cases e
    rw [sg] at ni
    have bh := bh_ok (t := t) (m := Str.empty ++ " " ++ ofL (wL (t.drop 1)) ++ " ") (h := h) (by omega) (by rw [csm]; exact hq)
    have kt := kt2 (.str (ofL (wL (t.drop 1)))) (.str (ofL r)) h
    simp only [ap_read_sign, b_read_sign, ev_bind, ev_op, ev_k1, ev_k2, ev_C, ev_var, ev_kVar, ev_un, ev_ku, ev_chain, ev_kc1, ev_kc2, ev_kc3t, ev_kc3f, ev_tru, ev_kTrb, ev_kTri, ev_B, ev_kB, ev_and, ev_or, ev_not, ev_kAt, ev_kAf, ev_kOt, ev_kOf, ev_kN, ev_eand, ev_eor, ev_enot, ev_kEAt, ev_kEAf, ev_kEOt, ev_kEOf, ev_kEN, ev_eif, ev_kEIt, ev_kEIf, ev_anil, ev_acons, ev_ka1, ev_ka2, ev_tup, ev_lst, ev_call, ev_kCa, ev_seq, ev_kSn, ev_kSr, ev_kSb, ev_kSc, ev_nx, ev_bk, ev_ct, ev_ret, ev_kRt, ev_retN, ev_if, ev_kIt, ev_kIf, ev_x, ev_kX, ev_asg, ev_kAs, ev_kAs2, ev_gN, ev_gT, ev_gT3, ev_gIx, ev_kG1, ev_kG2, ev_kG3, ev_kFr, ev_kFn, ev_for, ev_kFo, ev_mt, ev_kMt2, ev_ms, ev_kMs1, ev_sl, ev_kSl1, ev_kSl2, ev_kSl3, ev_noPart, ev_part, ev_kPt, ev_rng1, ev_istr, ev_kIS, ev_ilst, ev_kILr, ev_lc, ev_kLc, ev_kLc2, ev_yes, ev_irev, ev_ienum, ev_izip, ev_inD, ev_getD, ev_kInD, ev_kGetD, ev_fld, ev_mth, ev_kMe2, ev_sfld, ev_kSf1, ev_make, ev_aug, ev_kAu1, ev_kAu2, ev_kAu3, List.getElem?_cons_zero, List.getElem?_cons_succ, List.set_cons_zero, List.set_cons_succ, v_addI, v_sub, v_neg, v_lt, v_le, v_gt, v_ge, v_eqI, v_neI, v_eqS, v_neS, v_neB, v_eqB, v_lenT, v_lenR, v_max, v_min, sl, wa, ni, f1, bh, kt, Bool.not_true]
  · cases e
theorem sg_no {t : List Nat} {h : AHp} (hl : t.length ≤ 1000) (e : sgP t = none) : R_read_sign [.str (ofL t)] h = some (("NoText" : Str), h) := by
  have sl := cut1 (h := h) hl
  have dl : (t.drop 1).length ≤ 1000 := by rw [List.length_drop]; omega
  have wa := wa_spec (t := t.drop 1) (h := h) (by omega)
  have wl := wL_len (t.drop 1)
  have ni := v_niSigns (h := h) (OkA.str (n := 0) (d := 0) (x := ofL (wL (t.drop 1))) (by rw [ofL_len]; omega)) LH.zero
  have f1 := fsw (s := ofL (wL (t.drop 1))) (a := some (.str (ofL t))) (h := h) (by rw [ofL_len]; omega)
  unfold sgP at e
  split at e
  · rename_i sg
    have hq : bhP (32 :: (wL (t.drop 1) ++ [32])) t = none := Option.map_eq_none_iff.mp e
    rw [sg] at ni
    have bh := bh_no (m := Str.empty ++ " " ++ ofL (wL (t.drop 1)) ++ " ") (h := h) (by rw [csm]; exact hq)
    simp only [ax_read_sign, y_read_sign, yOr, ySeq, yIf, yNo, yRaise, yE, xTl, xCall, kFx, Option.bind_none, if_true, if_false, Bool.false_eq_true, ev_bind, ev_op, ev_k1, ev_k2, ev_C, ev_var, ev_kVar, ev_un, ev_ku, ev_chain, ev_kc1, ev_kc2, ev_kc3t, ev_kc3f, ev_tru, ev_kTrb, ev_kTri, ev_B, ev_kB, ev_and, ev_or, ev_not, ev_kAt, ev_kAf, ev_kOt, ev_kOf, ev_kN, ev_eand, ev_eor, ev_enot, ev_kEAt, ev_kEAf, ev_kEOt, ev_kEOf, ev_kEN, ev_eif, ev_kEIt, ev_kEIf, ev_anil, ev_acons, ev_ka1, ev_ka2, ev_tup, ev_lst, ev_call, ev_kCa, ev_seq, ev_kSn, ev_kSr, ev_kSb, ev_kSc, ev_nx, ev_bk, ev_ct, ev_ret, ev_kRt, ev_retN, ev_if, ev_kIt, ev_kIf, ev_x, ev_kX, ev_asg, ev_kAs, ev_kAs2, ev_gN, ev_gT, ev_gT3, ev_gIx, ev_kG1, ev_kG2, ev_kG3, ev_kFr, ev_kFn, ev_for, ev_kFo, ev_mt, ev_kMt2, ev_ms, ev_kMs1, ev_sl, ev_kSl1, ev_kSl2, ev_kSl3, ev_noPart, ev_part, ev_kPt, ev_rng1, ev_istr, ev_kIS, ev_ilst, ev_kILr, ev_lc, ev_kLc, ev_kLc2, ev_yes, ev_irev, ev_ienum, ev_izip, ev_inD, ev_getD, ev_kInD, ev_kGetD, ev_fld, ev_mth, ev_kMe2, ev_sfld, ev_kSf1, ev_make, ev_aug, ev_kAu1, ev_kAu2, ev_kAu3, List.getElem?_cons_zero, List.getElem?_cons_succ, List.set_cons_zero, List.set_cons_succ, v_addI, v_sub, v_neg, v_lt, v_le, v_gt, v_ge, v_eqI, v_neI, v_eqS, v_neS, v_neB, v_eqB, v_lenT, v_lenR, v_max, v_min, sl, wa, ni, f1, bh, Bool.not_true]
  · rename_i sg
    have sg : sgn (.str (ofL (wL (t.drop 1)))) = false := by cases q : sgn (.str (ofL (wL (t.drop 1)))) with | false => rfl | true => exact absurd q sg
    rw [sg] at ni
    simp only [ax_read_sign, y_read_sign, yOr, ySeq, yIf, yNo, yRaise, yE, xTl, xCall, kFx, Option.bind_none, if_true, if_false, Bool.false_eq_true, ev_bind, ev_op, ev_k1, ev_k2, ev_C, ev_var, ev_kVar, ev_un, ev_ku, ev_chain, ev_kc1, ev_kc2, ev_kc3t, ev_kc3f, ev_tru, ev_kTrb, ev_kTri, ev_B, ev_kB, ev_and, ev_or, ev_not, ev_kAt, ev_kAf, ev_kOt, ev_kOf, ev_kN, ev_eand, ev_eor, ev_enot, ev_kEAt, ev_kEAf, ev_kEOt, ev_kEOf, ev_kEN, ev_eif, ev_kEIt, ev_kEIf, ev_anil, ev_acons, ev_ka1, ev_ka2, ev_tup, ev_lst, ev_call, ev_kCa, ev_seq, ev_kSn, ev_kSr, ev_kSb, ev_kSc, ev_nx, ev_bk, ev_ct, ev_ret, ev_kRt, ev_retN, ev_if, ev_kIt, ev_kIf, ev_x, ev_kX, ev_asg, ev_kAs, ev_kAs2, ev_gN, ev_gT, ev_gT3, ev_gIx, ev_kG1, ev_kG2, ev_kG3, ev_kFr, ev_kFn, ev_for, ev_kFo, ev_mt, ev_kMt2, ev_ms, ev_kMs1, ev_sl, ev_kSl1, ev_kSl2, ev_kSl3, ev_noPart, ev_part, ev_kPt, ev_rng1, ev_istr, ev_kIS, ev_ilst, ev_kILr, ev_lc, ev_kLc, ev_kLc2, ev_yes, ev_irev, ev_ienum, ev_izip, ev_inD, ev_getD, ev_kInD, ev_kGetD, ev_fld, ev_mth, ev_kMe2, ev_sfld, ev_kSf1, ev_make, ev_aug, ev_kAu1, ev_kAu2, ev_kAu3, List.getElem?_cons_zero, List.getElem?_cons_succ, List.set_cons_zero, List.set_cons_succ, v_addI, v_sub, v_neg, v_lt, v_le, v_gt, v_ge, v_eqI, v_neI, v_eqS, v_neS, v_neB, v_eqB, v_lenT, v_lenR, v_max, v_min, sl, wa, ni, Bool.not_false]
    rw [if_pos (by simp)]
    rfl
theorem ra_spec : ∀ (n : Nat) (t : List Nat) (h : AHp), t.count 40 < n → t.length ≤ 1000 →
    (∀ s r, raP n t = some (s, r) → ∃ h', F_read_ahead n [.str (ofL t)] h = some (.tup [s, .str (ofL r)], h') ∧ Kp [] h h') ∧ (raP n t = none → ∃ h', R_read_ahead n [.str (ofL t)] h = some (("NoText" : Str), h') ∧ Kp [] h h') := by
  intro n
  induction n with
  | zero => intro t h hc; omega
  | succ n ih =>
    intro t h hc hl
    have sw := sw_spec (t := t) (m := "(") (h := h)
    rw [cs_op] at sw
    by_cases q : t.take 1 = [40]
    · have sw : fSw (.str (ofL t)) [.str "("] h = some (.bl true, h) := by rw [sw]; show some (A.bl (decide (t.take 1 = [40])), h) = _; rw [decide_eq_true q]
      obtain ⟨t', rfl⟩ : ∃ t', t = 40 :: t' := by
        cases t with
        | nil => simp at q
        | cons x r => simp at q; exact ⟨r, by rw [q]⟩
      have sl := cut1 (h := h) hl
      have d1 : (40 :: t').drop 1 = t' := rfl
      rw [d1] at sl
      rw [List.count_cons_self] at hc
      rw [List.length_cons] at hl
      have ra : raP (n + 1) (40 :: t') = (raP n t').bind fun p => (sgP p.2).bind fun q => (raP n q.2).bind fun o => (bhP [41] o.2).map fun r => (.tup [.str q.1, p.1, o.1], r) := by
        conv => lhs; unfold raP
        rw [if_pos q, d1]
      rw [ra]
      obtain ⟨i1, i2⟩ := ih t' h (by omega) (by omega)
      cases e1 : raP n t' with
      | none =>
        refine ⟨fun s r e => (by cases e), fun _ => ?_⟩
        obtain ⟨h1, r1, K1⟩ := i2 e1
        refine ⟨h1, ?_, K1⟩
        simp only [ax_read_ahead, y_read_ahead, yOr, ySeq, yIf, yNo, yE, xCall, kFx, Option.bind_none, if_true, if_false, Bool.false_eq_true, ev_bind, ev_op, ev_k1, ev_k2, ev_C, ev_var, ev_kVar, ev_un, ev_ku, ev_chain, ev_kc1, ev_kc2, ev_kc3t, ev_kc3f, ev_tru, ev_kTrb, ev_kTri, ev_B, ev_kB, ev_and, ev_or, ev_not, ev_kAt, ev_kAf, ev_kOt, ev_kOf, ev_kN, ev_eand, ev_eor, ev_enot, ev_kEAt, ev_kEAf, ev_kEOt, ev_kEOf, ev_kEN, ev_eif, ev_kEIt, ev_kEIf, ev_anil, ev_acons, ev_ka1, ev_ka2, ev_tup, ev_lst, ev_call, ev_kCa, ev_seq, ev_kSn, ev_kSr, ev_kSb, ev_kSc, ev_nx, ev_bk, ev_ct, ev_ret, ev_kRt, ev_retN, ev_if, ev_kIt, ev_kIf, ev_x, ev_kX, ev_asg, ev_kAs, ev_kAs2, ev_gN, ev_gT, ev_gT3, ev_gIx, ev_kG1, ev_kG2, ev_kG3, ev_kFr, ev_kFn, ev_for, ev_kFo, ev_mt, ev_kMt2, ev_ms, ev_kMs1, ev_sl, ev_kSl1, ev_kSl2, ev_kSl3, ev_noPart, ev_part, ev_kPt, ev_rng1, ev_istr, ev_kIS, ev_ilst, ev_kILr, ev_lc, ev_kLc, ev_kLc2, ev_yes, ev_irev, ev_ienum, ev_izip, ev_inD, ev_getD, ev_kInD, ev_kGetD, ev_fld, ev_mth, ev_kMe2, ev_sfld, ev_kSf1, ev_make, ev_aug, ev_kAu1, ev_kAu2, ev_kAu3, List.getElem?_cons_zero, List.getElem?_cons_succ, List.set_cons_zero, List.set_cons_succ, v_addI, v_sub, v_neg, v_lt, v_le, v_gt, v_ge, v_eqI, v_neI, v_eqS, v_neS, v_neB, v_eqB, v_lenT, v_lenR, v_max, v_min, sw, Bool.not_true, sl, r1]
      | some p =>
        obtain ⟨one, b1⟩ := p
        obtain ⟨h1, f1, K1⟩ := i1 one b1 e1
        have x1 := exn (ex_read_ahead n) f1
        obtain ⟨k1, eb1⟩ := ra_sfx e1
        have c1 := drop_count t' k1
        rw [← eb1] at c1
        have l1 : b1.length ≤ 1000 := by rw [eb1, List.length_drop]; omega
        rw [ev_bind]
        dsimp only
        cases e2 : sgP b1 with
        | none =>
          refine ⟨fun s r e => (by cases e), fun _ => ?_⟩
          have r2 := sg_no (h := h1) l1 e2
          refine ⟨h1, ?_, K1⟩
          simp only [ax_read_ahead, y_read_ahead, yOr, ySeq, yIf, yNo, yE, xCall, kFx, Option.bind_none, if_true, if_false, Bool.false_eq_true, ev_bind, ev_op, ev_k1, ev_k2, ev_C, ev_var, ev_kVar, ev_un, ev_ku, ev_chain, ev_kc1, ev_kc2, ev_kc3t, ev_kc3f, ev_tru, ev_kTrb, ev_kTri, ev_B, ev_kB, ev_and, ev_or, ev_not, ev_kAt, ev_kAf, ev_kOt, ev_kOf, ev_kN, ev_eand, ev_eor, ev_enot, ev_kEAt, ev_kEAf, ev_kEOt, ev_kEOf, ev_kEN, ev_eif, ev_kEIt, ev_kEIf, ev_anil, ev_acons, ev_ka1, ev_ka2, ev_tup, ev_lst, ev_call, ev_kCa, ev_seq, ev_kSn, ev_kSr, ev_kSb, ev_kSc, ev_nx, ev_bk, ev_ct, ev_ret, ev_kRt, ev_retN, ev_if, ev_kIt, ev_kIf, ev_x, ev_kX, ev_asg, ev_kAs, ev_kAs2, ev_gN, ev_gT, ev_gT3, ev_gIx, ev_kG1, ev_kG2, ev_kG3, ev_kFr, ev_kFn, ev_for, ev_kFo, ev_mt, ev_kMt2, ev_ms, ev_kMs1, ev_sl, ev_kSl1, ev_kSl2, ev_kSl3, ev_noPart, ev_part, ev_kPt, ev_rng1, ev_istr, ev_kIS, ev_ilst, ev_kILr, ev_lc, ev_kLc, ev_kLc2, ev_yes, ev_irev, ev_ienum, ev_izip, ev_inD, ev_getD, ev_kInD, ev_kGetD, ev_fld, ev_mth, ev_kMe2, ev_sfld, ev_kSf1, ev_make, ev_aug, ev_kAu1, ev_kAu2, ev_kAu3, List.getElem?_cons_zero, List.getElem?_cons_succ, List.set_cons_zero, List.set_cons_succ, v_addI, v_sub, v_neg, v_lt, v_le, v_gt, v_ge, v_eqI, v_neI, v_eqS, v_neS, v_neB, v_eqB, v_lenT, v_lenR, v_max, v_min, sw, Bool.not_true, sl, f1, x1, r2]
        | some p2 =>
          obtain ⟨sg, b2⟩ := p2
          have f2 := sg_ok (h := h1) l1 e2
          have x2 := exn ex_read_sign f2
          obtain ⟨k2, eb2⟩ := sg_sfx e2
          have c2 := drop_count b1 k2
          rw [← eb2] at c2
          have l2 : b2.length ≤ 1000 := by rw [eb2, List.length_drop]; omega
          rw [ev_bind]
          dsimp only
          obtain ⟨j1, j2⟩ := ih b2 h1 (by omega) l2
          cases e3 : raP n b2 with
          | none =>
            refine ⟨fun s r e => (by cases e), fun _ => ?_⟩
            obtain ⟨h2, r3, K2⟩ := j2 e3
            refine ⟨h2, ?_, K1.trans K2⟩
            simp only [ax_read_ahead, y_read_ahead, yOr, ySeq, yIf, yNo, yE, xCall, kFx, Option.bind_none, if_true, if_false, Bool.false_eq_true, ev_bind, ev_op, ev_k1, ev_k2, ev_C, ev_var, ev_kVar, ev_un, ev_ku, ev_chain, ev_kc1, ev_kc2, ev_kc3t, ev_kc3f, ev_tru, ev_kTrb, ev_kTri, ev_B, ev_kB, ev_and, ev_or, ev_not, ev_kAt, ev_kAf, ev_kOt, ev_kOf, ev_kN, ev_eand, ev_eor, ev_enot, ev_kEAt, ev_kEAf, ev_kEOt, ev_kEOf, ev_kEN, ev_eif, ev_kEIt, ev_kEIf, ev_anil, ev_acons, ev_ka1, ev_ka2, ev_tup, ev_lst, ev_call, ev_kCa, ev_seq, ev_kSn, ev_kSr, ev_kSb, ev_kSc, ev_nx, ev_bk, ev_ct, ev_ret, ev_kRt, ev_retN, ev_if, ev_kIt, ev_kIf, ev_x, ev_kX, ev_asg, ev_kAs, ev_kAs2, ev_gN, ev_gT, ev_gT3, ev_gIx, ev_kG1, ev_kG2, ev_kG3, ev_kFr, ev_kFn, ev_for, ev_kFo, ev_mt, ev_kMt2, ev_ms, ev_kMs1, ev_sl, ev_kSl1, ev_kSl2, ev_kSl3, ev_noPart, ev_part, ev_kPt, ev_rng1, ev_istr, ev_kIS, ev_ilst, ev_kILr, ev_lc, ev_kLc, ev_kLc2, ev_yes, ev_irev, ev_ienum, ev_izip, ev_inD, ev_getD, ev_kInD, ev_kGetD, ev_fld, ev_mth, ev_kMe2, ev_sfld, ev_kSf1, ev_make, ev_aug, ev_kAu1, ev_kAu2, ev_kAu3, List.getElem?_cons_zero, List.getElem?_cons_succ, List.set_cons_zero, List.set_cons_succ, v_addI, v_sub, v_neg, v_lt, v_le, v_gt, v_ge, v_eqI, v_neI, v_eqS, v_neS, v_neB, v_eqB, v_lenT, v_lenR, v_max, v_min, sw, Bool.not_true, sl, f1, x1, f2, x2, r3]
          | some p3 =>
            obtain ⟨oth, b3⟩ := p3
            obtain ⟨h2, f3, K2⟩ := j1 oth b3 e3
            have x3 := exn (ex_read_ahead n) f3
            obtain ⟨k3, eb3⟩ := ra_sfx e3
            have l3 : b3.length ≤ 1000 := by rw [eb3, List.length_drop]; omega
            rw [ev_bind]
            dsimp only
            have kt := kt3 (.str sg) one oth h2
            cases e4 : bhP [41] b3 with
            | none =>
              refine ⟨fun s r e => (by cases e), fun _ => ?_⟩
              have r4 := bh_no (m := ")") (h := h2) (by rw [cs_cl]; exact e4)
              refine ⟨h2, ?_, K1.trans K2⟩
              simp only [ax_read_ahead, y_read_ahead, yOr, ySeq, yIf, yNo, yE, xTl, xCall, kFx, Option.bind_none, if_true, if_false, Bool.false_eq_true, ev_bind, ev_op, ev_k1, ev_k2, ev_C, ev_var, ev_kVar, ev_un, ev_ku, ev_chain, ev_kc1, ev_kc2, ev_kc3t, ev_kc3f, ev_tru, ev_kTrb, ev_kTri, ev_B, ev_kB, ev_and, ev_or, ev_not, ev_kAt, ev_kAf, ev_kOt, ev_kOf, ev_kN, ev_eand, ev_eor, ev_enot, ev_kEAt, ev_kEAf, ev_kEOt, ev_kEOf, ev_kEN, ev_eif, ev_kEIt, ev_kEIf, ev_anil, ev_acons, ev_ka1, ev_ka2, ev_tup, ev_lst, ev_call, ev_kCa, ev_seq, ev_kSn, ev_kSr, ev_kSb, ev_kSc, ev_nx, ev_bk, ev_ct, ev_ret, ev_kRt, ev_retN, ev_if, ev_kIt, ev_kIf, ev_x, ev_kX, ev_asg, ev_kAs, ev_kAs2, ev_gN, ev_gT, ev_gT3, ev_gIx, ev_kG1, ev_kG2, ev_kG3, ev_kFr, ev_kFn, ev_for, ev_kFo, ev_mt, ev_kMt2, ev_ms, ev_kMs1, ev_sl, ev_kSl1, ev_kSl2, ev_kSl3, ev_noPart, ev_part, ev_kPt, ev_rng1, ev_istr, ev_kIS, ev_ilst, ev_kILr, ev_lc, ev_kLc, ev_kLc2, ev_yes, ev_irev, ev_ienum, ev_izip, ev_inD, ev_getD, ev_kInD, ev_kGetD, ev_fld, ev_mth, ev_kMe2, ev_sfld, ev_kSf1, ev_make, ev_aug, ev_kAu1, ev_kAu2, ev_kAu3, List.getElem?_cons_zero, List.getElem?_cons_succ, List.set_cons_zero, List.set_cons_succ, v_addI, v_sub, v_neg, v_lt, v_le, v_gt, v_ge, v_eqI, v_neI, v_eqS, v_neS, v_neB, v_eqB, v_lenT, v_lenR, v_max, v_min, sw, Bool.not_true, sl, f1, x1, f2, x2, f3, x3, kt, r4]
            | some r4 =>
              refine ⟨fun s r e => ?_, fun e => by cases e⟩
              cases e
              have f4 := bh_ok (t := b3) (m := ")") (h := h2) (by omega) (by rw [cs_cl]; exact e4)
              have kt' := kt2 (.tup [.str sg, one, oth]) (.str (ofL r4)) h2
              refine ⟨h2, ?_, K1.trans K2⟩
              simp only [ap_read_ahead, b_read_ahead, ev_bind, ev_op, ev_k1, ev_k2, ev_C, ev_var, ev_kVar, ev_un, ev_ku, ev_chain, ev_kc1, ev_kc2, ev_kc3t, ev_kc3f, ev_tru, ev_kTrb, ev_kTri, ev_B, ev_kB, ev_and, ev_or, ev_not, ev_kAt, ev_kAf, ev_kOt, ev_kOf, ev_kN, ev_eand, ev_eor, ev_enot, ev_kEAt, ev_kEAf, ev_kEOt, ev_kEOf, ev_kEN, ev_eif, ev_kEIt, ev_kEIf, ev_anil, ev_acons, ev_ka1, ev_ka2, ev_tup, ev_lst, ev_call, ev_kCa, ev_seq, ev_kSn, ev_kSr, ev_kSb, ev_kSc, ev_nx, ev_bk, ev_ct, ev_ret, ev_kRt, ev_retN, ev_if, ev_kIt, ev_kIf, ev_x, ev_kX, ev_asg, ev_kAs, ev_kAs2, ev_gN, ev_gT, ev_gT3, ev_gIx, ev_kG1, ev_kG2, ev_kG3, ev_kFr, ev_kFn, ev_for, ev_kFo, ev_mt, ev_kMt2, ev_ms, ev_kMs1, ev_sl, ev_kSl1, ev_kSl2, ev_kSl3, ev_noPart, ev_part, ev_kPt, ev_rng1, ev_istr, ev_kIS, ev_ilst, ev_kILr, ev_lc, ev_kLc, ev_kLc2, ev_yes, ev_irev, ev_ienum, ev_izip, ev_inD, ev_getD, ev_kInD, ev_kGetD, ev_fld, ev_mth, ev_kMe2, ev_sfld, ev_kSf1, ev_make, ev_aug, ev_kAu1, ev_kAu2, ev_kAu3, List.getElem?_cons_zero, List.getElem?_cons_succ, List.set_cons_zero, List.set_cons_succ, v_addI, v_sub, v_neg, v_lt, v_le, v_gt, v_ge, v_eqI, v_neI, v_eqS, v_neS, v_neB, v_eqB, v_lenT, v_lenR, v_max, v_min, sw, Bool.not_true, sl, f1, f2, f3, kt, f4, kt']
    · have sw : fSw (.str (ofL t)) [.str "("] h = some (.bl false, h) := by rw [sw]; show some (A.bl (decide (t.take 1 = [40])), h) = _; rw [decide_eq_false q]
      have ra : raP (n + 1) t = if leafB (.str (ofL (wL t))) = true then some (.str (ofL (wL t)), t.drop (wL t).length) else none := by
        conv => lhs; unfold raP
        rw [if_neg q]
      rw [ra]
      have wa := wa_spec (t := t) (h := h) (by omega)
      have wl := wL_len t
      have okw : OkA 0 0 (.str (ofL (wL t))) := .str (by rw [ofL_len]; omega)
      have nn := ne_nought okw (LH.zero (h := h)) rfl
      obtain ⟨h1, e1, K1⟩ := is_letter_spec (h := h) okw LH.zero
      have len : ∀ f : AHp, bLen [.str (ofL (wL t))] f = some (.int ((wL t).length : Nat), f) := fun f => by rw [v_lenS (by rw [ofL_len]; omega), ofL_len]
      have sl : ∀ f : AHp, xSl (.str (ofL t)) (some ((wL t).length : Int)) none f = some (.str (ofL (t.drop (wL t).length)), f) := fun f => cutL_from wl (by omega)
      have kt : ∀ f : AHp, kTu ([.str (ofL (wL t)), .str (ofL (t.drop (wL t).length))], f) = some (.tup [.str (ofL (wL t)), .str (ofL (t.drop (wL t).length))], f) := fun f => kt2 _ _ _
      have lb : leafB (.str (ofL (wL t))) = (isNou (.str (ofL (wL t))) || lett (.str (ofL (wL t)))) := rfl
      rw [lb]
      cases q1 : isNou (.str (ofL (wL t))) with
      | true =>
        rw [q1] at nn
        refine ⟨fun s r e => ?_, fun e => ?_⟩
        · rw [if_pos (by simp)] at e
          cases e
          refine ⟨h, ?_, Kp.refl⟩
          simp only [ap_read_ahead, b_read_ahead, ev_bind, ev_op, ev_k1, ev_k2, ev_C, ev_var, ev_kVar, ev_un, ev_ku, ev_chain, ev_kc1, ev_kc2, ev_kc3t, ev_kc3f, ev_tru, ev_kTrb, ev_kTri, ev_B, ev_kB, ev_and, ev_or, ev_not, ev_kAt, ev_kAf, ev_kOt, ev_kOf, ev_kN, ev_eand, ev_eor, ev_enot, ev_kEAt, ev_kEAf, ev_kEOt, ev_kEOf, ev_kEN, ev_eif, ev_kEIt, ev_kEIf, ev_anil, ev_acons, ev_ka1, ev_ka2, ev_tup, ev_lst, ev_call, ev_kCa, ev_seq, ev_kSn, ev_kSr, ev_kSb, ev_kSc, ev_nx, ev_bk, ev_ct, ev_ret, ev_kRt, ev_retN, ev_if, ev_kIt, ev_kIf, ev_x, ev_kX, ev_asg, ev_kAs, ev_kAs2, ev_gN, ev_gT, ev_gT3, ev_gIx, ev_kG1, ev_kG2, ev_kG3, ev_kFr, ev_kFn, ev_for, ev_kFo, ev_mt, ev_kMt2, ev_ms, ev_kMs1, ev_sl, ev_kSl1, ev_kSl2, ev_kSl3, ev_noPart, ev_part, ev_kPt, ev_rng1, ev_istr, ev_kIS, ev_ilst, ev_kILr, ev_lc, ev_kLc, ev_kLc2, ev_yes, ev_irev, ev_ienum, ev_izip, ev_inD, ev_getD, ev_kInD, ev_kGetD, ev_fld, ev_mth, ev_kMe2, ev_sfld, ev_kSf1, ev_make, ev_aug, ev_kAu1, ev_kAu2, ev_kAu3, List.getElem?_cons_zero, List.getElem?_cons_succ, List.set_cons_zero, List.set_cons_succ, v_addI, v_sub, v_neg, v_lt, v_le, v_gt, v_ge, v_eqI, v_neI, v_eqS, v_neS, v_neB, v_eqB, v_lenT, v_lenR, v_max, v_min, sw, Bool.not_false, wa, nn, Bool.not_true, len, sl, kt]
        · rw [if_pos (by simp)] at e; cases e
      | false =>
        rw [q1] at nn
        cases q2 : lett (.str (ofL (wL t))) with
        | true =>
          rw [q2] at e1
          refine ⟨fun s r e => ?_, fun e => ?_⟩
          · rw [if_pos (by simp)] at e
            cases e
            refine ⟨h1, ?_, K1⟩
            simp only [ap_read_ahead, b_read_ahead, ev_bind, ev_op, ev_k1, ev_k2, ev_C, ev_var, ev_kVar, ev_un, ev_ku, ev_chain, ev_kc1, ev_kc2, ev_kc3t, ev_kc3f, ev_tru, ev_kTrb, ev_kTri, ev_B, ev_kB, ev_and, ev_or, ev_not, ev_kAt, ev_kAf, ev_kOt, ev_kOf, ev_kN, ev_eand, ev_eor, ev_enot, ev_kEAt, ev_kEAf, ev_kEOt, ev_kEOf, ev_kEN, ev_eif, ev_kEIt, ev_kEIf, ev_anil, ev_acons, ev_ka1, ev_ka2, ev_tup, ev_lst, ev_call, ev_kCa, ev_seq, ev_kSn, ev_kSr, ev_kSb, ev_kSc, ev_nx, ev_bk, ev_ct, ev_ret, ev_kRt, ev_retN, ev_if, ev_kIt, ev_kIf, ev_x, ev_kX, ev_asg, ev_kAs, ev_kAs2, ev_gN, ev_gT, ev_gT3, ev_gIx, ev_kG1, ev_kG2, ev_kG3, ev_kFr, ev_kFn, ev_for, ev_kFo, ev_mt, ev_kMt2, ev_ms, ev_kMs1, ev_sl, ev_kSl1, ev_kSl2, ev_kSl3, ev_noPart, ev_part, ev_kPt, ev_rng1, ev_istr, ev_kIS, ev_ilst, ev_kILr, ev_lc, ev_kLc, ev_kLc2, ev_yes, ev_irev, ev_ienum, ev_izip, ev_inD, ev_getD, ev_kInD, ev_kGetD, ev_fld, ev_mth, ev_kMe2, ev_sfld, ev_kSf1, ev_make, ev_aug, ev_kAu1, ev_kAu2, ev_kAu3, List.getElem?_cons_zero, List.getElem?_cons_succ, List.set_cons_zero, List.set_cons_succ, v_addI, v_sub, v_neg, v_lt, v_le, v_gt, v_ge, v_eqI, v_neI, v_eqS, v_neS, v_neB, v_eqB, v_lenT, v_lenR, v_max, v_min, sw, Bool.not_false, wa, nn, e1, Bool.not_true, len, sl, kt]
          · rw [if_pos (by simp)] at e; cases e
        | false =>
          rw [q2] at e1
          refine ⟨fun s r e => ?_, fun e => ?_⟩
          · rw [if_neg (by simp)] at e; cases e
          · refine ⟨h1, ?_, K1⟩
            simp only [ax_read_ahead, y_read_ahead, yOr, ySeq, yIf, yNo, yRaise, yE, xCall, kFx, Option.bind_none, if_true, if_false, Bool.false_eq_true, ev_bind, ev_op, ev_k1, ev_k2, ev_C, ev_var, ev_kVar, ev_un, ev_ku, ev_chain, ev_kc1, ev_kc2, ev_kc3t, ev_kc3f, ev_tru, ev_kTrb, ev_kTri, ev_B, ev_kB, ev_and, ev_or, ev_not, ev_kAt, ev_kAf, ev_kOt, ev_kOf, ev_kN, ev_eand, ev_eor, ev_enot, ev_kEAt, ev_kEAf, ev_kEOt, ev_kEOf, ev_kEN, ev_eif, ev_kEIt, ev_kEIf, ev_anil, ev_acons, ev_ka1, ev_ka2, ev_tup, ev_lst, ev_call, ev_kCa, ev_seq, ev_kSn, ev_kSr, ev_kSb, ev_kSc, ev_nx, ev_bk, ev_ct, ev_ret, ev_kRt, ev_retN, ev_if, ev_kIt, ev_kIf, ev_x, ev_kX, ev_asg, ev_kAs, ev_kAs2, ev_gN, ev_gT, ev_gT3, ev_gIx, ev_kG1, ev_kG2, ev_kG3, ev_kFr, ev_kFn, ev_for, ev_kFo, ev_mt, ev_kMt2, ev_ms, ev_kMs1, ev_sl, ev_kSl1, ev_kSl2, ev_kSl3, ev_noPart, ev_part, ev_kPt, ev_rng1, ev_istr, ev_kIS, ev_ilst, ev_kILr, ev_lc, ev_kLc, ev_kLc2, ev_yes, ev_irev, ev_ienum, ev_izip, ev_inD, ev_getD, ev_kInD, ev_kGetD, ev_fld, ev_mth, ev_kMe2, ev_sfld, ev_kSf1, ev_make, ev_aug, ev_kAu1, ev_kAu2, ev_kAu3, List.getElem?_cons_zero, List.getElem?_cons_succ, List.set_cons_zero, List.set_cons_succ, v_addI, v_sub, v_neg, v_lt, v_le, v_gt, v_ge, v_eqI, v_neI, v_eqS, v_neS, v_neB, v_eqB, v_lenT, v_lenR, v_max, v_min, sw, Bool.not_false, wa, nn, e1]
            rw [if_pos (by simp)]
            rfl
theorem cnt_is (t : List Nat) : PyProof.Rows.cnt 40 t = ((t.count 40 : Nat) : Int) := by
  induction t with
  | nil => rfl
  | cons x r ih =>
    rw [PyProof.Rows.cnt_cons, ih, List.count_cons]
    by_cases q : x = 40
    · subst q; simp; omega
    · have : (x == 40) = false := by simp [q]
      simp [q]
theorem read_ok {t : List Nat} {s : A} {h : AHp} (hl : t.length ≤ 1000) (hc : t.count 40 ≤ 10) (e : raP 20 t = some (s, [])) : ∃ h', F_read [.str (ofL t)] h = some (s, h') ∧ Kp [] h h' := by
  have isi : bIsi [.str (ofL t), .ty "str"] h = some (.bl true, h) := id rfl
  have op : ("(" : Str) = ⟨#[40]⟩ := cs_ext (by rw [cs_op]; rfl)
  have ct : fCntS (.str (ofL t)) [.str "("] h = some (.int (t.count 40 : Nat), h) := by
    show some (A.int (Txt.count (ofL t) "("), h) = _
    rw [op, PyProof.Rows.count_cnt]
    have := cnt_is (cs (ofL t))
    rw [cs_ofL] at this
    unfold ofL
    rw [← this]
  have cg : cGt (.int (t.count 40 : Nat)) c_MOST_TUPLES h = some (.bl false, h) := by
    show cGt (.int (t.count 40 : Nat)) (.int 10) h = _
    rw [v_gt, decide_eq_false (by omega)]
  obtain ⟨h1, f1, K1⟩ := (ra_spec 20 t h (by omega) hl).1 s [] e
  have ne : cNe (.str (ofL [])) (.str "") h1 = some (.bl false, h1) := by
    have : ofL [] = "" := cs_ext rfl
    rw [this, v_neS]
    have : (("" : Str) == "") = true := by decide +kernel
    rw [this]; rfl
  refine ⟨h1, ?_, K1⟩
  simp only [ap_read, b_read, ev_bind, ev_op, ev_k1, ev_k2, ev_C, ev_var, ev_kVar, ev_un, ev_ku, ev_chain, ev_kc1, ev_kc2, ev_kc3t, ev_kc3f, ev_tru, ev_kTrb, ev_kTri, ev_B, ev_kB, ev_and, ev_or, ev_not, ev_kAt, ev_kAf, ev_kOt, ev_kOf, ev_kN, ev_eand, ev_eor, ev_enot, ev_kEAt, ev_kEAf, ev_kEOt, ev_kEOf, ev_kEN, ev_eif, ev_kEIt, ev_kEIf, ev_anil, ev_acons, ev_ka1, ev_ka2, ev_tup, ev_lst, ev_call, ev_kCa, ev_seq, ev_kSn, ev_kSr, ev_kSb, ev_kSc, ev_nx, ev_bk, ev_ct, ev_ret, ev_kRt, ev_retN, ev_if, ev_kIt, ev_kIf, ev_x, ev_kX, ev_asg, ev_kAs, ev_kAs2, ev_gN, ev_gT, ev_gT3, ev_gIx, ev_kG1, ev_kG2, ev_kG3, ev_kFr, ev_kFn, ev_for, ev_kFo, ev_mt, ev_kMt2, ev_ms, ev_kMs1, ev_sl, ev_kSl1, ev_kSl2, ev_kSl3, ev_noPart, ev_part, ev_kPt, ev_rng1, ev_istr, ev_kIS, ev_ilst, ev_kILr, ev_lc, ev_kLc, ev_kLc2, ev_yes, ev_irev, ev_ienum, ev_izip, ev_inD, ev_getD, ev_kInD, ev_kGetD, ev_fld, ev_mth, ev_kMe2, ev_sfld, ev_kSf1, ev_make, ev_aug, ev_kAu1, ev_kAu2, ev_kAu3, List.getElem?_cons_zero, List.getElem?_cons_succ, List.set_cons_zero, List.set_cons_succ, v_addI, v_sub, v_neg, v_lt, v_le, v_gt, v_ge, v_eqI, v_neI, v_eqS, v_neS, v_neB, v_eqB, v_lenT, v_lenR, v_max, v_min, isi, ct, cg, f1, ne, Bool.not_true]
theorem read_many {t : List Nat} {h : AHp} (hc : 10 < t.count 40) : R_read [.str (ofL t)] h = some (("NoText" : Str), h) := by
  have isi : bIsi [.str (ofL t), .ty "str"] h = some (.bl true, h) := id rfl
  have op : ("(" : Str) = ⟨#[40]⟩ := cs_ext (by rw [cs_op]; rfl)
  have ct : fCntS (.str (ofL t)) [.str "("] h = some (.int (t.count 40 : Nat), h) := by
    show some (A.int (Txt.count (ofL t) "("), h) = _
    rw [op, PyProof.Rows.count_cnt]
    have := cnt_is (cs (ofL t))
    rw [cs_ofL] at this
    unfold ofL
    rw [← this]
  have cg : cGt (.int (t.count 40 : Nat)) c_MOST_TUPLES h = some (.bl true, h) := by
    show cGt (.int (t.count 40 : Nat)) (.int 10) h = _
    rw [v_gt, decide_eq_true (by omega)]
  simp only [ax_read, y_read, yOr, ySeq, yIf, yNo, yRaise, yE, xCall, kFx, Option.bind_none, if_true, if_false, Bool.false_eq_true, ev_bind, ev_op, ev_k1, ev_k2, ev_C, ev_var, ev_kVar, ev_un, ev_ku, ev_chain, ev_kc1, ev_kc2, ev_kc3t, ev_kc3f, ev_tru, ev_kTrb, ev_kTri, ev_B, ev_kB, ev_and, ev_or, ev_not, ev_kAt, ev_kAf, ev_kOt, ev_kOf, ev_kN, ev_eand, ev_eor, ev_enot, ev_kEAt, ev_kEAf, ev_kEOt, ev_kEOf, ev_kEN, ev_eif, ev_kEIt, ev_kEIf, ev_anil, ev_acons, ev_ka1, ev_ka2, ev_tup, ev_lst, ev_call, ev_kCa, ev_seq, ev_kSn, ev_kSr, ev_kSb, ev_kSc, ev_nx, ev_bk, ev_ct, ev_ret, ev_kRt, ev_retN, ev_if, ev_kIt, ev_kIf, ev_x, ev_kX, ev_asg, ev_kAs, ev_kAs2, ev_gN, ev_gT, ev_gT3, ev_gIx, ev_kG1, ev_kG2, ev_kG3, ev_kFr, ev_kFn, ev_for, ev_kFo, ev_mt, ev_kMt2, ev_ms, ev_kMs1, ev_sl, ev_kSl1, ev_kSl2, ev_kSl3, ev_noPart, ev_part, ev_kPt, ev_rng1, ev_istr, ev_kIS, ev_ilst, ev_kILr, ev_lc, ev_kLc, ev_kLc2, ev_yes, ev_irev, ev_ienum, ev_izip, ev_inD, ev_getD, ev_kInD, ev_kGetD, ev_fld, ev_mth, ev_kMe2, ev_sfld, ev_kSf1, ev_make, ev_aug, ev_kAu1, ev_kAu2, ev_kAu3, List.getElem?_cons_zero, List.getElem?_cons_succ, List.set_cons_zero, List.set_cons_succ, v_addI, v_sub, v_neg, v_lt, v_le, v_gt, v_ge, v_eqI, v_neI, v_eqS, v_neS, v_neB, v_eqB, v_lenT, v_lenR, v_max, v_min, isi, ct, cg, Bool.not_true]
  rw [if_pos (by simp)]
  rfl
theorem read_no {t : List Nat} {h : AHp} (hl : t.length ≤ 1000) (no : ∀ s, raP 20 t ≠ some (s, [])) : ∃ h', R_read [.str (ofL t)] h = some (("NoText" : Str), h') ∧ Kp [] h h' := by
  by_cases hc : t.count 40 ≤ 10
  · have isi : bIsi [.str (ofL t), .ty "str"] h = some (.bl true, h) := id rfl
    have op : ("(" : Str) = ⟨#[40]⟩ := cs_ext (by rw [cs_op]; rfl)
    have ct : fCntS (.str (ofL t)) [.str "("] h = some (.int (t.count 40 : Nat), h) := by
      show some (A.int (Txt.count (ofL t) "("), h) = _
      rw [op, PyProof.Rows.count_cnt]
      have := cnt_is (cs (ofL t))
      rw [cs_ofL] at this
      unfold ofL
      rw [← this]
    have cg : cGt (.int (t.count 40 : Nat)) c_MOST_TUPLES h = some (.bl false, h) := by
      show cGt (.int (t.count 40 : Nat)) (.int 10) h = _
      rw [v_gt, decide_eq_false (by omega)]
    obtain ⟨i1, i2⟩ := ra_spec 20 t h (by omega) hl
    cases e : raP 20 t with
    | none =>
      obtain ⟨h1, r1, K1⟩ := i2 e
      refine ⟨h1, ?_, K1⟩
      simp only [ax_read, y_read, yOr, ySeq, yIf, yNo, yRaise, yE, xCall, kFx, Option.bind_none, if_true, if_false, Bool.false_eq_true, ev_bind, ev_op, ev_k1, ev_k2, ev_C, ev_var, ev_kVar, ev_un, ev_ku, ev_chain, ev_kc1, ev_kc2, ev_kc3t, ev_kc3f, ev_tru, ev_kTrb, ev_kTri, ev_B, ev_kB, ev_and, ev_or, ev_not, ev_kAt, ev_kAf, ev_kOt, ev_kOf, ev_kN, ev_eand, ev_eor, ev_enot, ev_kEAt, ev_kEAf, ev_kEOt, ev_kEOf, ev_kEN, ev_eif, ev_kEIt, ev_kEIf, ev_anil, ev_acons, ev_ka1, ev_ka2, ev_tup, ev_lst, ev_call, ev_kCa, ev_seq, ev_kSn, ev_kSr, ev_kSb, ev_kSc, ev_nx, ev_bk, ev_ct, ev_ret, ev_kRt, ev_retN, ev_if, ev_kIt, ev_kIf, ev_x, ev_kX, ev_asg, ev_kAs, ev_kAs2, ev_gN, ev_gT, ev_gT3, ev_gIx, ev_kG1, ev_kG2, ev_kG3, ev_kFr, ev_kFn, ev_for, ev_kFo, ev_mt, ev_kMt2, ev_ms, ev_kMs1, ev_sl, ev_kSl1, ev_kSl2, ev_kSl3, ev_noPart, ev_part, ev_kPt, ev_rng1, ev_istr, ev_kIS, ev_ilst, ev_kILr, ev_lc, ev_kLc, ev_kLc2, ev_yes, ev_irev, ev_ienum, ev_izip, ev_inD, ev_getD, ev_kInD, ev_kGetD, ev_fld, ev_mth, ev_kMe2, ev_sfld, ev_kSf1, ev_make, ev_aug, ev_kAu1, ev_kAu2, ev_kAu3, List.getElem?_cons_zero, List.getElem?_cons_succ, List.set_cons_zero, List.set_cons_succ, v_addI, v_sub, v_neg, v_lt, v_le, v_gt, v_ge, v_eqI, v_neI, v_eqS, v_neS, v_neB, v_eqB, v_lenT, v_lenR, v_max, v_min, isi, ct, cg, Bool.not_true, r1]
    | some p =>
      obtain ⟨s, r⟩ := p
      obtain ⟨h1, f1, K1⟩ := i1 s r e
      have x1 := exn (ex_read_ahead 20) f1
      have rn : r ≠ [] := fun z => no s (by rw [e, z])
      have ne : cNe (.str (ofL r)) (.str "") h1 = some (.bl true, h1) := by
        rw [v_neS]
        have : ((ofL r : Str) == "") = false := by
          rw [beq_eq_false_iff_ne]
          intro z
          apply rn
          have := congrArg cs z
          rw [cs_ofL] at this
          rw [this]; rfl
        rw [this]; rfl
      refine ⟨h1, ?_, K1⟩
      simp only [ax_read, y_read, yOr, ySeq, yIf, yNo, yRaise, yE, xCall, kFx, Option.bind_none, if_true, if_false, Bool.false_eq_true, ev_bind, ev_op, ev_k1, ev_k2, ev_C, ev_var, ev_kVar, ev_un, ev_ku, ev_chain, ev_kc1, ev_kc2, ev_kc3t, ev_kc3f, ev_tru, ev_kTrb, ev_kTri, ev_B, ev_kB, ev_and, ev_or, ev_not, ev_kAt, ev_kAf, ev_kOt, ev_kOf, ev_kN, ev_eand, ev_eor, ev_enot, ev_kEAt, ev_kEAf, ev_kEOt, ev_kEOf, ev_kEN, ev_eif, ev_kEIt, ev_kEIf, ev_anil, ev_acons, ev_ka1, ev_ka2, ev_tup, ev_lst, ev_call, ev_kCa, ev_seq, ev_kSn, ev_kSr, ev_kSb, ev_kSc, ev_nx, ev_bk, ev_ct, ev_ret, ev_kRt, ev_retN, ev_if, ev_kIt, ev_kIf, ev_x, ev_kX, ev_asg, ev_kAs, ev_kAs2, ev_gN, ev_gT, ev_gT3, ev_gIx, ev_kG1, ev_kG2, ev_kG3, ev_kFr, ev_kFn, ev_for, ev_kFo, ev_mt, ev_kMt2, ev_ms, ev_kMs1, ev_sl, ev_kSl1, ev_kSl2, ev_kSl3, ev_noPart, ev_part, ev_kPt, ev_rng1, ev_istr, ev_kIS, ev_ilst, ev_kILr, ev_lc, ev_kLc, ev_kLc2, ev_yes, ev_irev, ev_ienum, ev_izip, ev_inD, ev_getD, ev_kInD, ev_kGetD, ev_fld, ev_mth, ev_kMe2, ev_sfld, ev_kSf1, ev_make, ev_aug, ev_kAu1, ev_kAu2, ev_kAu3, List.getElem?_cons_zero, List.getElem?_cons_succ, List.set_cons_zero, List.set_cons_succ, v_addI, v_sub, v_neg, v_lt, v_le, v_gt, v_ge, v_eqI, v_neI, v_eqS, v_neS, v_neB, v_eqB, v_lenT, v_lenR, v_max, v_min, isi, ct, cg, Bool.not_true, f1, x1, ne]
      rw [if_pos (by simp)]
      rfl
  · exact ⟨h, read_many (by omega), Kp.refl⟩
end K51
set_option Elab.async false
set_option linter.all false
set_option maxRecDepth 100000
namespace K51
open PySem L2 Ab Sh Sw Sd
set_option autoImplicit false
inductive Wst : Nat → A → Prop
  | nou : Wst 0 (.str "nought")
  | let {x : Str} : IsLet x → Wst 0 (.str x)
  | bin {s : Str} {i j : Nat} {a b : A} : (s = "and" ∨ s = "or" ∨ s = "gives") → Wst i a → Wst j b → Wst (i + j + 1) (.tup [.str s, a, b])
theorem stm_sub {N M : List Str} (h : ∀ x ∈ N, x ∈ M) {k : Nat} {a : A} (s : Stm N k a) : Stm M k a := by
  induction s with
  | nou => exact .nou
  | «let» m => exact .let (h _ m)
  | bin hs _ _ ih1 ih2 => exact .bin hs ih1 ih2
theorem Wst.stm {k : Nat} {a : A} (w : Wst k a) : ∃ N, (∀ x ∈ N, IsLet x) ∧ Stm N k a := by
  induction w with
  | nou => exact ⟨[], fun x m => (by cases m), .nou⟩
  | @«let» x hx => exact ⟨[x], fun y m => (by rw [List.mem_singleton.mp m]; exact hx), .let (by simp)⟩
  | bin hs _ _ ih1 ih2 =>
    obtain ⟨N1, h1, s1⟩ := ih1
    obtain ⟨N2, h2, s2⟩ := ih2
    refine ⟨N1 ++ N2, fun x m => ?_, .bin hs (stm_sub (fun x m => List.mem_append_left _ m) s1) (stm_sub (fun x m => List.mem_append_right _ m) s2)⟩
    rcases List.mem_append.mp m with m | m
    · exact h1 x m
    · exact h2 x m
theorem Stm.wst {N : List Str} (hN : ∀ x ∈ N, IsLet x) {k : Nat} {a : A} (s : Stm N k a) : Wst k a := by
  induction s with
  | nou => exact .nou
  | «let» m => exact .let (hN _ m)
  | bin hs _ _ ih1 ih2 => exact .bin hs ih1 ih2
theorem let_of {x : Str} (h : letB x = true) : IsLet x := by
  unfold letB at h
  simp only [Bool.and_eq_true, decide_eq_true_eq, Bool.not_eq_true'] at h
  refine ⟨fun c m => ?_, h.1.2.1, h.1.2.2, h.1.1⟩
  have := List.all_eq_true.mp h.2 c m
  unfold lowB at this
  simpa using this
theorem leaf_of {x : Str} (h : leafB (.str x) = true) : Wst 0 (.str x) := by
  have h : ((x == "nought") || letB x) = true := h
  rw [Bool.or_eq_true] at h
  rcases h with h | h
  · rw [beq_iff_eq.mp h]; exact .nou
  · exact .let (let_of h)
theorem sgn_of {x : Str} (h : sgn (.str x) = true) : x = "and" ∨ x = "or" ∨ x = "gives" := by
  have h : (("and" == x) || (("or" == x) || (("gives" == x) || false))) = true := h
  simp only [Bool.or_eq_true, beq_iff_eq, Bool.or_false] at h
  rcases h with h | h | h
  · exact .inl h.symm
  · exact .inr (.inl h.symm)
  · exact .inr (.inr h.symm)
theorem isSt_wst : ∀ {n : Nat} {a : A}, sizeOf a ≤ n → isSt a = true → ∃ k, Wst k a := by
  intro n
  induction n with
  | zero => intro a hn; cases a <;> simp at hn
  | succ n ih =>
    intro a hn h
    cases ht : isTup a with
    | false =>
      rw [isSt_leaf ht] at h
      cases a with
      | str x => exact ⟨0, leaf_of h⟩
      | tup xs => exact absurd ht (by show ¬ true = false; decide)
      | _ => exact absurd h Bool.false_ne_true
    | true =>
      obtain ⟨xs, rfl⟩ : ∃ xs, a = .tup xs := by cases a <;> first | exact ⟨_, rfl⟩ | exact absurd ht Bool.false_ne_true
      by_cases hl : xs.length = 3
      · match xs, hl with
        | [s, a, b], _ =>
          rw [isSt_3, Bool.and_eq_true, Bool.and_eq_true] at h
          have q1 : sizeOf a < sizeOf (A.tup [s, a, b]) := by simp; omega
          have q2 : sizeOf b < sizeOf (A.tup [s, a, b]) := by simp; omega
          obtain ⟨i, wi⟩ := ih (a := a) (by omega) h.2.1
          obtain ⟨j, wj⟩ := ih (a := b) (by omega) h.2.2
          cases s with
          | str y => exact ⟨_, .bin (sgn_of h.1) wi wj⟩
          | _ => exact absurd h.1 Bool.false_ne_true
      · rw [isSt_n hl] at h; cases h
def txL : A → List Nat
  | .tup [.str s, a, b] => 40 :: (txL a ++ (32 :: (cs s ++ (32 :: (txL b ++ [41])))))
  | .str x => cs x
  | _ => []
termination_by a => sizeOf a
theorem txL_3 (s : Str) (a b : A) : txL (.tup [.str s, a, b]) = 40 :: (txL a ++ (32 :: (cs s ++ (32 :: (txL b ++ [41]))))) := by rw [txL]
theorem txL_s (x : Str) : txL (.str x) = cs x := by rw [txL]
theorem sg_lowB {s : Str} (h : s = "and" ∨ s = "or" ∨ s = "gives") : (cs s).all lowB = true ∧ sgn (.str s) = true ∧ cs s ≠ [] := by
  rcases h with rfl | rfl | rfl <;> refine ⟨?_, ?_, ?_⟩ <;> decide +kernel
theorem let_lowB {x : Str} (hx : IsLet x) : (cs x).all lowB = true ∧ leafB (.str x) = true ∧ cs x ≠ [] := by
  refine ⟨List.all_eq_true.mpr fun c m => ?_, ?_, fun z => ?_⟩
  · have := hx.low c m
    unfold lowB
    simpa using this
  · have := (stm_ok (N := [x]) (fun y m => by rw [List.mem_singleton.mp m]; exact hx) (.let (List.mem_singleton.mpr rfl))).1
    rwa [isSt_leaf rfl] at this
  · have := hx.lo
    rw [cs_len, z] at this
    simp at this
theorem nou_lowB : (cs "nought").all lowB = true ∧ leafB (.str "nought") = true ∧ cs "nought" ≠ [] := by
  refine ⟨?_, ?_, ?_⟩ <;> decide +kernel
theorem wL_app {u r : List Nat} (hu : ∀ c ∈ u, lowB c = true) (hr : ∀ c s, r = c :: s → lowB c = false) : wL (u ++ r) = u := by
  induction u with
  | nil =>
    cases r with
    | nil => rfl
    | cons c s =>
      show List.takeWhile lowB (c :: s) = []
      rw [List.takeWhile_cons, hr c s rfl]; rfl
  | cons x u ih =>
    show List.takeWhile lowB (x :: (u ++ r)) = _
    rw [List.takeWhile_cons, hu x (by simp)]
    show x :: wL (u ++ r) = _
    rw [ih fun c m => hu c (by simp [m])]
theorem ra_leaf {n : Nat} {x : Str} {r : List Nat} (h : (cs x).all lowB = true ∧ leafB (.str x) = true ∧ cs x ≠ []) (hr : ∀ c s, r = c :: s → lowB c = false) : raP (n + 1) (cs x ++ r) = some (.str x, r) := by
  obtain ⟨h1, h2, h3⟩ := h
  have h40 : (cs x ++ r).take 1 ≠ [40] := by
    cases q : cs x with
    | nil => exact absurd q h3
    | cons c u =>
      have := List.all_eq_true.mp h1 c (by rw [q]; simp)
      intro z
      simp at z
      rw [z] at this
      exact absurd this (by decide)
  conv => lhs; unfold raP
  rw [if_neg h40, wL_app (List.all_eq_true.mp h1) hr, ofL_cs, h2, if_pos rfl]
  simp
theorem ra_open {n : Nat} {t : List Nat} : raP (n + 1) (40 :: t) = (raP n t).bind fun p => (sgP p.2).bind fun q => (raP n q.2).bind fun o => (bhP [41] o.2).map fun r => (.tup [.str q.1, p.1, o.1], r) := by
  conv => lhs; unfold raP
  rw [if_pos (by simp)]
  rfl
theorem sg_yes {s : Str} {r : List Nat} (h : (cs s).all lowB = true ∧ sgn (.str s) = true ∧ cs s ≠ []) : sgP (32 :: (cs s ++ 32 :: r)) = some (s, r) := by
  have e : wL ((32 :: (cs s ++ 32 :: r)).drop 1) = cs s := wL_app (List.all_eq_true.mp h.1) (fun e s z => by cases z; decide)
  unfold sgP
  rw [e, ofL_cs, h.2.1, if_pos rfl]
  have : bhP (32 :: (cs s ++ [32])) (32 :: (cs s ++ 32 :: r)) = some r := by
    unfold bhP
    have e1 : (32 :: (cs s ++ 32 :: r)) = (32 :: (cs s ++ [32])) ++ r := by simp
    rw [e1, List.take_left, if_pos rfl, List.drop_left]
  rw [this]; rfl
theorem ra_all {k : Nat} {s : A} (w : Wst k s) : ∀ {n : Nat} {r : List Nat}, k < n → (∀ c t, r = c :: t → lowB c = false) → raP n (txL s ++ r) = some (s, r) := by
  induction w with
  | nou =>
    intro n r hn hr
    obtain ⟨n, rfl⟩ : ∃ m, n = m + 1 := ⟨n - 1, by omega⟩
    rw [txL_s]; exact ra_leaf nou_lowB hr
  | «let» hx =>
    intro n r hn hr
    obtain ⟨n, rfl⟩ : ∃ m, n = m + 1 := ⟨n - 1, by omega⟩
    rw [txL_s]; exact ra_leaf (let_lowB hx) hr
  | @bin s i j a b hs _ _ ih1 ih2 =>
    intro n r hn hr
    obtain ⟨n, rfl⟩ : ∃ m, n = m + 1 := ⟨n - 1, by omega⟩
    rw [txL_3]
    have e : (40 :: (txL a ++ (32 :: (cs s ++ (32 :: (txL b ++ [41])))))) ++ r = 40 :: (txL a ++ (32 :: (cs s ++ (32 :: (txL b ++ (41 :: r)))))) := by simp
    rw [e, ra_open, ih1 (by omega) (fun c t z => by cases z; decide), Option.bind_some]
    dsimp only
    rw [sg_yes (sg_lowB hs), Option.bind_some]
    dsimp only
    rw [ih2 (by omega) (fun c t z => by cases z; decide), Option.bind_some]
    dsimp only
    have : bhP [41] (41 :: r) = some r := by unfold bhP; simp
    rw [this]; rfl
theorem bh_is {m t r : List Nat} (e : bhP m t = some r) : t = m ++ r := by
  unfold bhP at e
  split at e
  · rename_i q
    cases e
    conv => lhs; rw [← List.take_append_drop m.length t, q]
  · cases e
theorem ra_is : ∀ {n : Nat} {t r : List Nat} {s : A}, raP n t = some (s, r) → ∃ k, Wst k s ∧ t = txL s ++ r
  | 0, t, r, s, e => by cases e
  | n + 1, t, r, s, e => by
    unfold raP at e
    split at e
    · rename_i h40
      obtain ⟨⟨p, b1⟩, h1, e⟩ := bindS e
      obtain ⟨⟨sg, b2⟩, h2, e⟩ := bindS e
      obtain ⟨⟨o, b3⟩, h3, e⟩ := bindS e
      obtain ⟨w, h4, e⟩ := Option.map_eq_some_iff.mp e
      cases e
      obtain ⟨i, w1, t1⟩ := ra_is h1
      obtain ⟨j, w3, t3⟩ := ra_is h3
      have h2' : sgP b1 = some (sg, b2) := h2
      have h4' : bhP [41] b3 = some r := h4
      have t4 := bh_is h4'
      unfold sgP at h2'
      split at h2'
      · rename_i hsg
        obtain ⟨q, hq, e⟩ := Option.map_eq_some_iff.mp h2'
        cases e
        have t2 := bh_is hq
        refine ⟨_, .bin (sgn_of hsg) w1 w3, ?_⟩
        have tt : t = 40 :: t.drop 1 := by
          cases t with
          | nil => simp at h40
          | cons x y => simp at h40; rw [h40]; rfl
        rw [tt, t1, txL_3, cs_ofL]
        dsimp only at t2 t3 ⊢
        conv => lhs; rw [t2]
        simp only [List.cons_append, List.append_assoc, List.nil_append]
        rw [t3, t4]
        simp
      · cases h2'
    · split at e
      · rename_i hl
        cases e
        refine ⟨0, leaf_of hl, ?_⟩
        rw [txL_s, cs_ofL]
        obtain ⟨q, e, _⟩ := wL_split t
        have d := congrArg (List.drop (wL t).length) e
        rw [List.drop_left] at d
        rw [d]
        exact e
      · cases e
theorem tx_cnt {k : Nat} {s : A} (w : Wst k s) : (txL s).count 40 = k := by
  have low : ∀ {u : List Nat}, u.all lowB = true → u.count 40 = 0 := fun {u} h => List.count_eq_zero.mpr fun m => by
    have := List.all_eq_true.mp h 40 m
    exact absurd this (by decide)
  induction w with
  | nou => rw [txL_s]; exact low nou_lowB.1
  | «let» hx => rw [txL_s]; exact low (let_lowB hx).1
  | bin hs _ _ ih1 ih2 =>
    rw [txL_3]
    simp only [List.count_cons, List.count_append, ih1, ih2, low (sg_lowB hs).1]
    simp
end K51
set_option Elab.async false
set_option linter.all false
set_option maxRecDepth 100000
namespace K51
open PySem L2 Ab Sh Sw Sd
set_option autoImplicit false
def sep (c : Nat) : Bool := c == 40 || (c == 41 || c == 32)
def tkn : List Nat → List Nat → List (List Nat)
  | acc, [] => [acc]
  | acc, c :: r => if sep c = true then acc :: [c] :: tkn [] r else tkn (acc ++ [c]) r
def fl (l : List (List Nat)) : List (List Nat) := l.filter fun w => !w.isEmpty
def wdsT (t : List Nat) : List (List Nat) := fl (tkn [] t)
theorem tkn_nil (acc : List Nat) : tkn acc [] = [acc] := by rw [tkn]
theorem tkn_sep {acc r : List Nat} {c : Nat} (h : sep c = true) : tkn acc (c :: r) = acc :: [c] :: tkn [] r := by rw [tkn, if_pos h]
theorem tkn_not {acc r : List Nat} {c : Nat} (h : sep c = false) : tkn acc (c :: r) = tkn (acc ++ [c]) r := by rw [tkn, if_neg (by rw [h]; decide)]
theorem tkn_flat : ∀ (t acc : List Nat), (tkn acc t).flatten = acc ++ t
  | [], acc => by rw [tkn_nil]; simp
  | c :: r, acc => by
    cases q : sep c with
    | true => rw [tkn_sep q]; simp [tkn_flat r []]
    | false => rw [tkn_not q, tkn_flat r]; simp
theorem fl_flat : ∀ (l : List (List Nat)), (fl l).flatten = l.flatten
  | [] => rfl
  | w :: r => by
    have ih := fl_flat r
    unfold fl at ih ⊢
    cases w with
    | nil => simp [ih]
    | cons c u => simp [ih]
theorem wds_flat (t : List Nat) : (wdsT t).flatten = t := by unfold wdsT; rw [fl_flat, tkn_flat]; rfl
theorem tkn_app : ∀ {u acc r : List Nat}, (∀ c ∈ u, sep c = false) → tkn acc (u ++ r) = tkn (acc ++ u) r
  | [], acc, r, _ => by simp
  | c :: u, acc, r, h => by
    rw [List.cons_append, tkn_not (h c (by simp)), tkn_app fun c m => h c (by simp [m])]
    simp
def Sp (r : List Nat) : Prop := r = [] ∨ ∃ c s, r = c :: s ∧ sep c = true
theorem fl_sep {c : Nat} {r : List Nat} (h : sep c = true) : wdsT (c :: r) = [c] :: wdsT r := by
  unfold wdsT
  rw [tkn_sep h]
  unfold fl
  simp
theorem fl_word {u r : List Nat} (h : ∀ c ∈ u, sep c = false) (hu : u ≠ []) (hr : Sp r) : wdsT (u ++ r) = u :: wdsT r := by
  have e : u.isEmpty = false := by cases u with | nil => exact absurd rfl hu | cons c s => rfl
  have e0 : wdsT (u ++ r) = fl (tkn u r) := by unfold wdsT; rw [tkn_app h]; rfl
  rw [e0]
  rcases hr with rfl | ⟨c, s, rfl, hc⟩
  · rw [tkn_nil]
    have : wdsT [] = [] := by unfold wdsT fl; rw [tkn_nil]; rfl
    rw [this]
    unfold fl
    simp [e]
  · rw [tkn_sep hc, fl_sep hc]
    unfold wdsT fl
    simp [e]
theorem low_sep {u : List Nat} (h : u.all lowB = true) : ∀ c ∈ u, sep c = false := fun c m => by
  have := List.all_eq_true.mp h c m
  unfold lowB at this
  simp at this
  unfold sep
  simp
  omega
def nxt (w : List Nat) : List (List Nat) → Option (List (List Nat))
  | x :: r => if x = w then some r else none
  | [] => none
def tkP : Nat → List (List Nat) → Option (A × List (List Nat))
  | 0, _ => none
  | _ + 1, [] => none
  | n + 1, w :: rs => if w = [32] ∨ w = [40] then none else if w = [41] then
      (tkP n rs).bind fun p => (nxt [32] p.2).bind fun r1 => (tkP n r1).bind fun q => (nxt [32] q.2).bind fun r2 => (tkP n r2).bind fun o => (nxt [40] o.2).map fun r3 => (.tup [q.1, o.1, p.1], r3)
    else some (.str (ofL w), rs)
def tokG : A → List (List Nat)
  | .tup [m, a, b] => [40] :: (tokG a ++ ([32] :: (tokG m ++ ([32] :: (tokG b ++ [[41]])))))
  | .str x => [cs x]
  | _ => []
termination_by a => sizeOf a
theorem tokG_3 (m a b : A) : tokG (.tup [m, a, b]) = [40] :: (tokG a ++ ([32] :: (tokG m ++ ([32] :: (tokG b ++ [[41]]))))) := by rw [tokG]
theorem tokG_s (x : Str) : tokG (.str x) = [cs x] := by rw [tokG]
theorem nxt_is {w : List Nat} {rs r : List (List Nat)} (h : nxt w rs = some r) : rs = w :: r := by
  match rs, h with
  | [], h => exact absurd h (by simp [nxt])
  | x :: s, h =>
    have h : (if x = w then some s else none) = some r := h
    split at h
    · rename_i q; cases h; rw [q]
    · cases h
theorem tk_is : ∀ {n : Nat} {rs r : List (List Nat)} {s : A}, tkP n rs = some (s, r) → rs = (tokG s).reverse ++ r
  | 0, rs, r, s, e => by cases e
  | n + 1, [], r, s, e => by cases e
  | n + 1, w :: rs, r, s, e => by
    unfold tkP at e
    split at e
    · cases e
    · split at e
      · rename_i q
        obtain ⟨⟨p, b1⟩, h1, e⟩ := bindS e
        obtain ⟨c1, h2, e⟩ := bindS e
        obtain ⟨⟨o, b2⟩, h3, e⟩ := bindS e
        obtain ⟨c2, h4, e⟩ := bindS e
        obtain ⟨⟨m, b3⟩, h5, e⟩ := bindS e
        obtain ⟨c3, h6, e⟩ := Option.map_eq_some_iff.mp e
        cases e
        have t1 := tk_is h1
        have t2 := nxt_is h2
        have t3 := tk_is h3
        have t4 := nxt_is h4
        have t5 := tk_is h5
        have t6 := nxt_is h6
        dsimp only at t2 t4 t6
        rw [q, t1, t2, t3, t4, t5, t6, tokG_3]
        simp
      · cases e
        rw [tokG_s, cs_ofL]; rfl
theorem tk_leaf {n : Nat} {x : Str} {r : List (List Nat)} (h : (cs x).all lowB = true) : tkP (n + 1) (cs x :: r) = some (.str x, r) := by
  have ne : ∀ c, lowB c = false → cs x ≠ [c] := fun c hc z => by
    have := List.all_eq_true.mp h c (by rw [z]; simp)
    rw [hc] at this; cases this
  unfold tkP
  rw [if_neg (by rintro (q | q); exact ne 32 (by decide) q; exact ne 40 (by decide) q), if_neg (ne 41 (by decide)), ofL_cs]
theorem nxt_at {w : List Nat} {r : List (List Nat)} : nxt w (w :: r) = some r := by
  show (if w = w then some r else none) = some r
  rw [if_pos rfl]
theorem tk_all {k : Nat} {s : A} (w : Wst k s) : ∀ {n : Nat} {r : List (List Nat)}, k < n → tkP n ((tokG s).reverse ++ r) = some (s, r) := by
  induction w with
  | nou =>
    intro n r hn
    obtain ⟨n, rfl⟩ : ∃ m, n = m + 1 := ⟨n - 1, by omega⟩
    rw [tokG_s]; exact tk_leaf nou_lowB.1
  | «let» hx =>
    intro n r hn
    obtain ⟨n, rfl⟩ : ∃ m, n = m + 1 := ⟨n - 1, by omega⟩
    rw [tokG_s]; exact tk_leaf (let_lowB hx).1
  | @bin s i j a b hs _ _ ih1 ih2 =>
    intro n r hn
    obtain ⟨n, rfl⟩ : ∃ m, n = m + 1 := ⟨n - 1, by omega⟩
    have e : (tokG (.tup [.str s, a, b])).reverse ++ r = [41] :: ((tokG b).reverse ++ ([32] :: (cs s :: ([32] :: ((tokG a).reverse ++ ([40] :: r)))))) := by
      rw [tokG_3, tokG_s]; simp
    rw [e]
    unfold tkP
    rw [if_neg (by rintro (q | q) <;> simp at q), if_pos rfl, ih2 (by omega), Option.bind_some]
    dsimp only
    obtain ⟨n', rfl⟩ : ∃ m, n = m + 1 := ⟨n - 1, by omega⟩
    rw [nxt_at, Option.bind_some, tk_leaf (sg_lowB hs).1, Option.bind_some]
    dsimp only
    rw [nxt_at, Option.bind_some, ih1 (by omega), Option.bind_some]
    dsimp only
    rw [nxt_at]; rfl
theorem tok_tx {k : Nat} {s : A} (w : Wst k s) : (tokG s).flatten = txL s := by
  induction w with
  | nou => rw [tokG_s, txL_s]; simp
  | «let» _ => rw [tokG_s, txL_s]; simp
  | bin hs _ _ ih1 ih2 => rw [tokG_3, txL_3, tokG_s]; simp [ih1, ih2]
theorem wds_tx {k : Nat} {s : A} (w : Wst k s) : ∀ {r : List Nat}, Sp r → wdsT (txL s ++ r) = tokG s ++ wdsT r := by
  induction w with
  | nou => intro r hr; rw [txL_s, tokG_s]; exact fl_word (low_sep nou_lowB.1) nou_lowB.2.2 hr
  | «let» hx => intro r hr; rw [txL_s, tokG_s]; exact fl_word (low_sep (let_lowB hx).1) (let_lowB hx).2.2 hr
  | @bin s i j a b hs _ _ ih1 ih2 =>
    intro r hr
    have sp : ∀ {c : Nat} {t : List Nat}, sep c = true → Sp (c :: t) := fun h => .inr ⟨_, _, rfl, h⟩
    have e : txL (.tup [.str s, a, b]) ++ r = 40 :: (txL a ++ (32 :: (cs s ++ (32 :: (txL b ++ (41 :: r)))))) := by rw [txL_3]; simp
    rw [e, fl_sep (by decide), ih1 (sp (by decide)), fl_sep (by decide), fl_word (low_sep (sg_lowB hs).1) (sg_lowB hs).2.2 (sp (by decide)), fl_sep (by decide), ih2 (sp (by decide)), fl_sep (by decide), tokG_3, tokG_s]
    simp
theorem same1 {t : List Nat} {s : A} (e : raP 20 t = some (s, [])) (hc : t.count 40 ≤ 10) : tkP 100 (wdsT t).reverse = some (s, []) ∧ ∃ k, k ≤ 10 ∧ Wst k s := by
  obtain ⟨k, w, et⟩ := ra_is e
  rw [List.append_nil] at et
  have ck := tx_cnt w
  rw [← et] at ck
  have w0 : wdsT [] = [] := by unfold wdsT fl; rw [tkn_nil]; rfl
  have ws := wds_tx w (r := []) (.inl rfl)
  rw [List.append_nil, w0, List.append_nil, ← et] at ws
  refine ⟨?_, k, by omega, w⟩
  rw [ws]
  have := tk_all w (n := 100) (r := []) (by omega)
  rw [List.append_nil] at this
  exact this
theorem same2 {t : List Nat} {s : A} {k : Nat} (e : tkP 100 (wdsT t).reverse = some (s, [])) (w : Wst k s) (hk : k ≤ 10) : raP 20 t = some (s, []) ∧ t.count 40 ≤ 10 := by
  have h := tk_is e
  rw [List.append_nil] at h
  have h : wdsT t = tokG s := List.reverse_inj.mp h
  have et : t = txL s := by rw [← wds_flat t, h, tok_tx w]
  refine ⟨?_, by rw [et, tx_cnt w]; exact hk⟩
  have := ra_all w (n := 20) (r := []) (by omega) (fun c t z => by cases z)
  rw [List.append_nil, ← et] at this
  exact this
theorem cnt_tok : ∀ (l : List (List Nat)), l.count [41] ≤ l.flatten.count 41
  | [] => by simp
  | w :: r => by
    have ih := cnt_tok r
    rw [List.flatten_cons, List.count_append, List.count_cons]
    by_cases q : w = [41]
    · subst q; simp; omega
    · have : (w == [41]) = false := by rw [beq_eq_false_iff_ne]; exact q
      rw [this]; simp; omega
end K51
set_option Elab.async false
set_option linter.all false
set_option maxRecDepth 100000
namespace K51
open PySem L2 Ab Sh Sw Sd
set_option autoImplicit false
def wA (w : List Nat) : A := .str (ofL w)
theorem sep_in (c : Nat) (h : AHp) : cIn (.str ⟨#[c]⟩) (.str "() ") h = some (.bl (sep c), h) := by
  have e : ("() " : Str).cps.toList = [40, 41, 32] := by decide +kernel
  have : ("() " : Str).cps.toList.contains c = sep c := by
    rw [e]
    unfold sep
    rw [Bool.eq_iff_iff]
    simp
  rw [← this]; rfl
theorem ofL_app (u : List Nat) (c : Nat) : ofL u ++ ⟨#[c]⟩ = ofL (u ++ [c]) := cs_ext (by
  rw [cs_app, cs_ofL, cs_ofL]; rfl)
theorem itS_get {z : Str} {i : Nat} {h : AHp} (hi : i < (cs z).length) : (itS z).get i h = some (.str ⟨#[(cs z)[i]]⟩) := by
  show (z.cps[i]?).bind _ = _
  have : z.cps[i]? = some (cs z)[i] := by
    rw [← Array.getElem?_toList]; exact List.getElem?_eq_getElem hi
  rw [this]; rfl
theorem tkn_len : ∀ (t acc : List Nat), (tkn acc t).length ≤ 2 * t.length + 1
  | [], acc => by rw [tkn_nil]; simp
  | c :: r, acc => by
    cases q : sep c with
    | true => rw [tkn_sep q]; have := tkn_len r []; simp; omega
    | false => rw [tkn_not q]; have := tkn_len r (acc ++ [c]); simp; omega
theorem words_spec {z : Str} {h : AHp} (hl : z.length ≤ 1000) : ∃ l h', F_law_words [.str z] h = some (.loc l, h') ∧ h.length ≤ l ∧ h'[l]? = some (.lst ((wdsT (cs z)).map wA)) ∧ Kp [] h h' := by
  have zl : z.length = (cs z).length := cs_len z
  obtain ⟨h1, a1, g1, K1, n1⟩ := mk_lst [] h (by simp)
  have itn : (itS z).n = (cs z).length := by show z.cps.size = z.cps.toList.length; simp
  obtain ⟨τ, f, e, m, ws, acc, s3, rfl, gm, hm, K, eq, lw, la⟩ := for_it (it := itS z) (g := gN 3) (s := l1_law_words) (h := h1) (τ := [some (.str z), some (.loc h.length), some (.str (ofL [])), none, none]) (fun i => .str ⟨#[(cs z)[i]?.getD 0]⟩)
    (fun i τ f => ∃ m ws acc s3, τ = [some (.str z), some (.loc m), some (.str (ofL acc)), s3, none] ∧ f[m]? = some (.lst (ws.map wA)) ∧ h.length ≤ m ∧ Kp [] h f ∧ ws ++ tkn acc ((cs z).drop i) = tkn [] (cs z) ∧ ws.length ≤ 2 * i ∧ acc.length ≤ i) ⟨h.length, [], [], none, rfl, g1, Nat.le_refl _, K1, rfl, by simp, by simp⟩ (by
      rintro i τ f hi ⟨m, ws, acc, s3, rfl, gm, hm, K, eq, lw, la⟩
      rw [itn] at hi
      have ei : (cs z)[i]?.getD 0 = (cs z)[i] := by rw [List.getElem?_eq_getElem hi]; rfl
      rw [ei]
      refine ⟨itS_get hi, ?_⟩
      rw [List.drop_eq_getElem_cons hi] at eq
      generalize (cs z)[i] = c at eq
      have si := sep_in c
      cases q : sep c with
      | true =>
        rw [tkn_sep q] at eq
        rw [q] at si
        obtain ⟨f1, b1, c1, J1, j1⟩ := mk_lst [wA acc, .str ⟨#[c]⟩] f (by simp)
        obtain ⟨f2, b2, c2, J2, j2⟩ := mk_add (J1.get gm (by simp)) c1 (by rw [List.length_map]; simp; omega)
        have b1' : kLs ([A.str (ofL acc), A.str ⟨#[c]⟩], f) = some (.loc f.length, f1) := b1
        have fl := K.1
        refine ⟨_, f, [some (.str z), some (.loc f1.length), some (.str (ofL [])), some (.str ⟨#[c]⟩), none], f2, rfl, ?_, f1.length, ws ++ [acc, [c]], [], _, rfl, ?_, by omega, K.trans (J1.trans J2), by rw [← eq]; simp, by simp; omega, by simp⟩
        · simp only [List.set_cons_zero, List.set_cons_succ]
          simp only [l1_law_words, ev_bind, ev_op, ev_k1, ev_k2, ev_C, ev_var, ev_kVar, ev_un, ev_ku, ev_chain, ev_kc1, ev_kc2, ev_kc3t, ev_kc3f, ev_tru, ev_kTrb, ev_kTri, ev_B, ev_kB, ev_and, ev_or, ev_not, ev_kAt, ev_kAf, ev_kOt, ev_kOf, ev_kN, ev_eand, ev_eor, ev_enot, ev_kEAt, ev_kEAf, ev_kEOt, ev_kEOf, ev_kEN, ev_eif, ev_kEIt, ev_kEIf, ev_anil, ev_acons, ev_ka1, ev_ka2, ev_tup, ev_lst, ev_call, ev_kCa, ev_seq, ev_kSn, ev_kSr, ev_kSb, ev_kSc, ev_nx, ev_bk, ev_ct, ev_ret, ev_kRt, ev_retN, ev_if, ev_kIt, ev_kIf, ev_x, ev_kX, ev_asg, ev_kAs, ev_kAs2, ev_gN, ev_gT, ev_gT3, ev_gIx, ev_kG1, ev_kG2, ev_kG3, ev_kFr, ev_kFn, ev_for, ev_kFo, ev_mt, ev_kMt2, ev_ms, ev_kMs1, ev_sl, ev_kSl1, ev_kSl2, ev_kSl3, ev_noPart, ev_part, ev_kPt, ev_rng1, ev_istr, ev_kIS, ev_ilst, ev_kILr, ev_lc, ev_kLc, ev_kLc2, ev_yes, ev_irev, ev_ienum, ev_izip, ev_inD, ev_getD, ev_kInD, ev_kGetD, ev_fld, ev_mth, ev_kMe2, ev_sfld, ev_kSf1, ev_make, ev_aug, ev_kAu1, ev_kAu2, ev_kAu3, List.getElem?_cons_zero, List.getElem?_cons_succ, List.set_cons_zero, List.set_cons_succ, v_addI, v_sub, v_neg, v_lt, v_le, v_gt, v_ge, v_eqI, v_neI, v_eqS, v_neS, v_neB, v_eqB, v_lenT, v_lenR, v_max, v_min, si, b1', b2]
          rfl
        · rw [c2]; simp [wA]; rfl
      | false =>
        rw [tkn_not q] at eq
        rw [q] at si
        have ad : oAdd (.str (ofL acc)) (.str ⟨#[c]⟩) f = some (.str (ofL (acc ++ [c])), f) := by
          rw [v_addS (by rw [ofL_len]; show acc.length + 1 ≤ 100000; omega), ofL_app]
        refine ⟨_, f, [some (.str z), some (.loc m), some (.str (ofL (acc ++ [c]))), some (.str ⟨#[c]⟩), none], f, rfl, ?_, m, ws, acc ++ [c], _, rfl, gm, hm, K, eq, by omega, by simp; omega⟩
        simp only [List.set_cons_zero, List.set_cons_succ]
        simp only [l1_law_words, ev_bind, ev_op, ev_k1, ev_k2, ev_C, ev_var, ev_kVar, ev_un, ev_ku, ev_chain, ev_kc1, ev_kc2, ev_kc3t, ev_kc3f, ev_tru, ev_kTrb, ev_kTri, ev_B, ev_kB, ev_and, ev_or, ev_not, ev_kAt, ev_kAf, ev_kOt, ev_kOf, ev_kN, ev_eand, ev_eor, ev_enot, ev_kEAt, ev_kEAf, ev_kEOt, ev_kEOf, ev_kEN, ev_eif, ev_kEIt, ev_kEIf, ev_anil, ev_acons, ev_ka1, ev_ka2, ev_tup, ev_lst, ev_call, ev_kCa, ev_seq, ev_kSn, ev_kSr, ev_kSb, ev_kSc, ev_nx, ev_bk, ev_ct, ev_ret, ev_kRt, ev_retN, ev_if, ev_kIt, ev_kIf, ev_x, ev_kX, ev_asg, ev_kAs, ev_kAs2, ev_gN, ev_gT, ev_gT3, ev_gIx, ev_kG1, ev_kG2, ev_kG3, ev_kFr, ev_kFn, ev_for, ev_kFo, ev_mt, ev_kMt2, ev_ms, ev_kMs1, ev_sl, ev_kSl1, ev_kSl2, ev_kSl3, ev_noPart, ev_part, ev_kPt, ev_rng1, ev_istr, ev_kIS, ev_ilst, ev_kILr, ev_lc, ev_kLc, ev_kLc2, ev_yes, ev_irev, ev_ienum, ev_izip, ev_inD, ev_getD, ev_kInD, ev_kGetD, ev_fld, ev_mth, ev_kMe2, ev_sfld, ev_kSf1, ev_make, ev_aug, ev_kAu1, ev_kAu2, ev_kAu3, List.getElem?_cons_zero, List.getElem?_cons_succ, List.set_cons_zero, List.set_cons_succ, v_addI, v_sub, v_neg, v_lt, v_le, v_gt, v_ge, v_eqI, v_neI, v_eqS, v_neS, v_neB, v_eqB, v_lenT, v_lenR, v_max, v_min, si, ad]) (fun τ h _ => rfl)
  rw [itn, List.drop_length, tkn_nil] at eq
  rw [itn] at lw
  obtain ⟨f1, b1, c1, J1, j1⟩ := mk_lst [wA acc] f (by simp)
  obtain ⟨f2, b2, c2, J2, j2⟩ := mk_add (J1.get gm (by simp)) c1 (by rw [List.length_map]; simp; omega)
  have b1' : kLs ([A.str (ofL acc)], f) = some (.loc f.length, f1) := b1
  have c2 : f2[f1.length]? = some (.lst ((tkn [] (cs z)).map wA)) := by rw [c2, ← eq]; simp
  have tl := tkn_len (cs z) []
  have il : kIL (.loc f1.length, f2) = some (itL f1.length ((tkn [] (cs z)).map wA).length, f2) := ev_kILl c2
  have lc := lc_lst (j := 4) (mt := q3_law_words) (me := e2_law_words) (τ := [some (.str z), some (.loc m), some (.str (ofL acc)), s3, none]) (p := fun y => match y with | .str x => !(x == "") | _ => false) (f := id) c2 (by rw [List.length_map]; omega) (by
      intro x hx
      obtain ⟨w, hw, rfl⟩ := List.mem_map.mp hx
      simp only [List.set_cons_zero, List.set_cons_succ]
      simp only [q3_law_words, wA, ev_bind, ev_op, ev_k1, ev_k2, ev_C, ev_var, ev_kVar, ev_un, ev_ku, ev_chain, ev_kc1, ev_kc2, ev_kc3t, ev_kc3f, ev_tru, ev_kTrb, ev_kTri, ev_B, ev_kB, ev_and, ev_or, ev_not, ev_kAt, ev_kAf, ev_kOt, ev_kOf, ev_kN, ev_eand, ev_eor, ev_enot, ev_kEAt, ev_kEAf, ev_kEOt, ev_kEOf, ev_kEN, ev_eif, ev_kEIt, ev_kEIf, ev_anil, ev_acons, ev_ka1, ev_ka2, ev_tup, ev_lst, ev_call, ev_kCa, ev_seq, ev_kSn, ev_kSr, ev_kSb, ev_kSc, ev_nx, ev_bk, ev_ct, ev_ret, ev_kRt, ev_retN, ev_if, ev_kIt, ev_kIf, ev_x, ev_kX, ev_asg, ev_kAs, ev_kAs2, ev_gN, ev_gT, ev_gT3, ev_gIx, ev_kG1, ev_kG2, ev_kG3, ev_kFr, ev_kFn, ev_for, ev_kFo, ev_mt, ev_kMt2, ev_ms, ev_kMs1, ev_sl, ev_kSl1, ev_kSl2, ev_kSl3, ev_noPart, ev_part, ev_kPt, ev_rng1, ev_istr, ev_kIS, ev_ilst, ev_kILr, ev_lc, ev_kLc, ev_kLc2, ev_yes, ev_irev, ev_ienum, ev_izip, ev_inD, ev_getD, ev_kInD, ev_kGetD, ev_fld, ev_mth, ev_kMe2, ev_sfld, ev_kSf1, ev_make, ev_aug, ev_kAu1, ev_kAu2, ev_kAu3, List.getElem?_cons_zero, List.getElem?_cons_succ, List.set_cons_zero, List.set_cons_succ, v_addI, v_sub, v_neg, v_lt, v_le, v_gt, v_ge, v_eqI, v_neI, v_eqS, v_neS, v_neB, v_eqB, v_lenT, v_lenR, v_max, v_min]) (by
      intro x hx _
      simp only [List.set_cons_zero, List.set_cons_succ]
      simp only [e2_law_words, ev_bind, ev_op, ev_k1, ev_k2, ev_C, ev_var, ev_kVar, ev_un, ev_ku, ev_chain, ev_kc1, ev_kc2, ev_kc3t, ev_kc3f, ev_tru, ev_kTrb, ev_kTri, ev_B, ev_kB, ev_and, ev_or, ev_not, ev_kAt, ev_kAf, ev_kOt, ev_kOf, ev_kN, ev_eand, ev_eor, ev_enot, ev_kEAt, ev_kEAf, ev_kEOt, ev_kEOf, ev_kEN, ev_eif, ev_kEIt, ev_kEIf, ev_anil, ev_acons, ev_ka1, ev_ka2, ev_tup, ev_lst, ev_call, ev_kCa, ev_seq, ev_kSn, ev_kSr, ev_kSb, ev_kSc, ev_nx, ev_bk, ev_ct, ev_ret, ev_kRt, ev_retN, ev_if, ev_kIt, ev_kIf, ev_x, ev_kX, ev_asg, ev_kAs, ev_kAs2, ev_gN, ev_gT, ev_gT3, ev_gIx, ev_kG1, ev_kG2, ev_kG3, ev_kFr, ev_kFn, ev_for, ev_kFo, ev_mt, ev_kMt2, ev_ms, ev_kMs1, ev_sl, ev_kSl1, ev_kSl2, ev_kSl3, ev_noPart, ev_part, ev_kPt, ev_rng1, ev_istr, ev_kIS, ev_ilst, ev_kILr, ev_lc, ev_kLc, ev_kLc2, ev_yes, ev_irev, ev_ienum, ev_izip, ev_inD, ev_getD, ev_kInD, ev_kGetD, ev_fld, ev_mth, ev_kMe2, ev_sfld, ev_kSf1, ev_make, ev_aug, ev_kAu1, ev_kAu2, ev_kAu3, List.getElem?_cons_zero, List.getElem?_cons_succ, List.set_cons_zero, List.set_cons_succ, v_addI, v_sub, v_neg, v_lt, v_le, v_gt, v_ge, v_eqI, v_neI, v_eqS, v_neS, v_neB, v_eqB, v_lenT, v_lenR, v_max, v_min]; rfl)
  have fe : ((((tkn [] (cs z)).map wA).filter fun y => match y with | .str x => !(x == "") | _ => false).map id) = (wdsT (cs z)).map wA := by
    rw [List.map_id, List.filter_map]
    unfold wdsT fl
    congr 1
    apply List.filter_congr
    intro w _
    show (!(ofL w == "")) = !w.isEmpty
    congr 1
    rw [Bool.eq_iff_iff, beq_iff_eq]
    constructor
    · intro q
      have := congrArg cs q
      rw [cs_ofL, show cs "" = [] by decide +kernel] at this
      rw [this]; rfl
    · intro q
      cases w with
      | nil => rfl
      | cons c r => cases q
  rw [fe] at lc
  have it2 : (itL f1.length ((tkn [] (cs z)).map wA).length).n = ((tkn [] (cs z)).map wA).length := rfl
  have k1 := K.1
  have j3 := J1.1
  have j4 := J2.1
  refine ⟨f2.length, f2 ++ [.lst ((wdsT (cs z)).map wA)], ?_, by omega, app_get _ _, (K.trans (J1.trans J2)).trans (Kp.app _ _)⟩
  have oe : (A.str (ofL [])) = A.str "" := rfl
  rw [oe] at e
  simp only [ap_law_words, b_law_words, ev_bind, ev_op, ev_k1, ev_k2, ev_C, ev_var, ev_kVar, ev_un, ev_ku, ev_chain, ev_kc1, ev_kc2, ev_kc3t, ev_kc3f, ev_tru, ev_kTrb, ev_kTri, ev_B, ev_kB, ev_and, ev_or, ev_not, ev_kAt, ev_kAf, ev_kOt, ev_kOf, ev_kN, ev_eand, ev_eor, ev_enot, ev_kEAt, ev_kEAf, ev_kEOt, ev_kEOf, ev_kEN, ev_eif, ev_kEIt, ev_kEIf, ev_anil, ev_acons, ev_ka1, ev_ka2, ev_tup, ev_lst, ev_call, ev_kCa, ev_seq, ev_kSn, ev_kSr, ev_kSb, ev_kSc, ev_nx, ev_bk, ev_ct, ev_ret, ev_kRt, ev_retN, ev_if, ev_kIt, ev_kIf, ev_x, ev_kX, ev_asg, ev_kAs, ev_kAs2, ev_gN, ev_gT, ev_gT3, ev_gIx, ev_kG1, ev_kG2, ev_kG3, ev_kFr, ev_kFn, ev_for, ev_kFo, ev_mt, ev_kMt2, ev_ms, ev_kMs1, ev_sl, ev_kSl1, ev_kSl2, ev_kSl3, ev_noPart, ev_part, ev_kPt, ev_rng1, ev_istr, ev_kIS, ev_ilst, ev_kILr, ev_lc, ev_kLc, ev_kLc2, ev_yes, ev_irev, ev_ienum, ev_izip, ev_inD, ev_getD, ev_kInD, ev_kGetD, ev_fld, ev_mth, ev_kMe2, ev_sfld, ev_kSf1, ev_make, ev_aug, ev_kAu1, ev_kAu2, ev_kAu3, List.getElem?_cons_zero, List.getElem?_cons_succ, List.set_cons_zero, List.set_cons_succ, v_addI, v_sub, v_neg, v_lt, v_le, v_gt, v_ge, v_eqI, v_neI, v_eqS, v_neS, v_neB, v_eqB, v_lenT, v_lenR, v_max, v_min, a1, e, b1', b2, il, it2, lc]
theorem wds_len (t : List Nat) : (wdsT t).length ≤ 2 * t.length + 1 := Nat.le_trans (List.length_filter_le _ _) (tkn_len t [])
theorem wds_mem {t w : List Nat} (h : w ∈ wdsT t) : (∀ c ∈ w, c ∈ t) ∧ w ≠ [] := by
  constructor
  · intro c hc
    rw [← wds_flat t]
    exact List.mem_flatten.mpr ⟨w, h, hc⟩
  · have := (List.mem_filter.mp h).2
    intro z
    rw [z] at this
    cases this
end K51
set_option Elab.async false
set_option linter.all false
set_option maxRecDepth 100000
namespace K51
open PySem L2 Ab Sh Sw Sd
set_option autoImplicit false
theorem at_end {xs : List A} {a : A} : atI (xs ++ [a]) (-1) = some a := by
  unfold atI ixN
  rw [if_neg (by omega), List.length_append, List.length_singleton, if_pos (by omega)]
  show (xs ++ [a])[(-1 + ((xs.length + 1 : Nat) : Int)).toNat]? = _
  rw [show (-1 + ((xs.length + 1 : Nat) : Int)).toNat = xs.length by omega]
  simp
theorem eq_nil {h : AHp} {m n : Nat} {rs : List (List Nat)} (g1 : h[m]? = some (.lst (rs.map wA))) (g2 : h[n]? = some (.lst [])) (o : ∀ w ∈ rs, PyData.strOk (ofL w) = true) : cEq (.loc m) (.loc n) h = some (.bl rs.isEmpty, h) ∧ cNe (.loc m) (.loc n) h = some (.bl (!rs.isEmpty), h) := by
  obtain ⟨k, e1, e2⟩ := eqA_lst (d := 0) (e := 0) g1 g2 (fun a ha => by obtain ⟨w, hw, rfl⟩ := List.mem_map.mp ha; exact .str (o w hw)) (fun a ha => absurd ha (by simp)) (by omega) (by omega)
  have : k = rs.isEmpty := by
    cases rs with
    | nil => exact e2.mpr rfl
    | cons a r =>
      cases k with
      | false => rfl
      | true => exact absurd (e2.mp rfl) (by simp)
  rw [v_neA e1, v_eqA e1, this]
  exact ⟨rfl, rfl⟩
def LsAt (h : AHp) (l : Nat) (rs : List (List Nat)) : Prop := h[l]? = some (.lst (rs.reverse.map wA))
def OkW (rs : List (List Nat)) : Prop := (∀ w ∈ rs, PyData.strOk (ofL w) = true) ∧ rs.length ≤ 3000
theorem OkW.tl {a b : List (List Nat)} (o : OkW (a ++ b)) : OkW b := ⟨fun w m => o.1 w (List.mem_append_right _ m), by have := o.2; rw [List.length_append] at this; omega⟩
theorem OkW.tl1 {a : List Nat} {b : List (List Nat)} (o : OkW (a :: b)) : OkW b := OkW.tl (a := [a]) o
theorem lseq {h : AHp} {l n : Nat} {rs : List (List Nat)} (g1 : LsAt h l rs) (g2 : h[n]? = some (.lst [])) (o : OkW rs) : cEq (.loc l) (.loc n) h = some (.bl rs.isEmpty, h) ∧ cNe (.loc l) (.loc n) h = some (.bl (!rs.isEmpty), h) := by
  have := eq_nil g1 g2 fun w m => o.1 w (List.mem_reverse.mp m)
  rwa [List.isEmpty_reverse] at this
theorem ls_pop {h : AHp} {l : Nat} {w : List Nat} {rs : List (List Nat)} (g : LsAt h l (w :: rs)) : fPop (.loc l) [] h = some (wA w, h.set l (.lst (rs.reverse.map wA))) ∧ LsAt (h.set l (.lst (rs.reverse.map wA))) l rs ∧ xIx (.loc l) (.int (-1)) h = some (wA w, h) := by
  have g' : h[l]? = some (.lst (rs.reverse.map wA ++ [wA w])) := by rw [g]; simp
  exact ⟨v_pop g', set_get g, v_ixL g' at_end⟩
theorem wA_eq {w v : List Nat} {s : Str} {h : AHp} (hs : cs s = v) : cEq (wA w) (.str s) h = some (.bl (decide (w = v)), h) ∧ cNe (wA w) (.str s) h = some (.bl (!decide (w = v)), h) := by
  have : (ofL w == s) = decide (w = v) := by
    rw [Bool.eq_iff_iff, beq_iff_eq, decide_eq_true_iff]
    exact ⟨fun q => by rw [← hs, ← q, cs_ofL], fun q => by rw [q, ← hs, ofL_cs]⟩
  rw [← this]
  exact ⟨rfl, rfl⟩
def TkS (n : Nat) : Prop := ∀ (rs : List (List Nat)) (l : Nat) (h : AHp), rs.count [41] < n → OkW rs → LsAt h l rs →
  (∀ s r, tkP n rs = some (s, r) → ∃ h', F_law_taken n [.loc l] h = some (s, h') ∧ LsAt h' l r ∧ Kp [l] h h') ∧
  (tkP n rs = none → ∃ h' rr, F_law_taken n [.loc l] h = some (.non, h') ∧ OkW rr ∧ LsAt h' l rr ∧ Kp [l] h h')
theorem tk_kind : ∀ {n : Nat} {rs r : List (List Nat)} {s : A}, tkP n rs = some (s, r) → isA s .non = some false
  | 0, rs, r, s, e => by cases e
  | n + 1, [], r, s, e => by cases e
  | n + 1, w :: rs, r, s, e => by
    unfold tkP at e
    split at e
    · cases e
    · split at e
      · obtain ⟨⟨p, b1⟩, h1, e⟩ := bindS e
        obtain ⟨c1, h2, e⟩ := bindS e
        obtain ⟨⟨o, b2⟩, h3, e⟩ := bindS e
        obtain ⟨c2, h4, e⟩ := bindS e
        obtain ⟨⟨m, b3⟩, h5, e⟩ := bindS e
        obtain ⟨c3, h6, e⟩ := Option.map_eq_some_iff.mp e
        cases e
        rfl
      · cases e
        rfl
def mkS : Nat → List Nat
  | 0 => [32]
  | 1 => [32]
  | _ => [40]
theorem mk_at {i : Nat} (hi : i < 3) : ∃ m : Str, atI [A.str " ", A.str " ", A.str "("] (i : Int) = some (.str m) ∧ cs m = mkS i := by
  match i, hi with
  | 0, _ => exact ⟨" ", rfl, by decide +kernel⟩
  | 1, _ => exact ⟨" ", rfl, by decide +kernel⟩
  | 2, _ => exact ⟨"(", rfl, by decide +kernel⟩
theorem turn {n i l p : Nat} {rs : List (List Nat)} {ps : List A} {s1 s4 : Option A} {h : AHp} (T : TkS n) (hi : i < 3) (hc : rs.count [41] < n) (o : OkW rs) (g : LsAt h l rs) (gp : h[p]? = some (.lst ps)) (hp : ps.length ≤ 5) (lp : l ≠ p) :
    (∀ s r r', tkP n rs = some (s, r) → nxt (mkS i) r = some r' → ∃ h', l1_law_taken (F_law_taken n) [some (.loc l), s1, some (.loc p), some (.int (i : Nat)), s4] h = some (.nx [some (.loc l), s1, some (.loc p), some (.int (i : Nat)), some s], h') ∧ LsAt h' l r' ∧ h'[p]? = some (.lst (ps ++ [s])) ∧ Kp [p, l] h h') ∧
    ((tkP n rs).bind (fun q => nxt (mkS i) q.2) = none → ∃ h' rr, l1_law_taken (F_law_taken n) [some (.loc l), s1, some (.loc p), some (.int (i : Nat)), s4] h = some (.rt .non, h') ∧ OkW rr ∧ LsAt h' l rr ∧ Kp [p, l] h h') := by
  have pl : p ∉ [l] := fun z => lp (mem1 z).symm
  have lp' : l ∉ [p] := fun z => lp (mem1 z)
  obtain ⟨m, am, hm⟩ := mk_at hi
  have go : ∀ s x r', tkP n rs = some (s, x :: r') → ∃ h1 h2 h3 h4 h5, F_law_taken n [.loc l] h = some (s, h1) ∧ kLs (([] : List A), h1) = some (.loc h1.length, h2) ∧ cEq (.loc l) (.loc h1.length) h2 = some (.bl false, h2) ∧ h2[p]? = some (.lst ps) ∧ fAppend (.loc p) [s] h2 = some (.non, h3) ∧ LsAt h3 l (x :: r') ∧ fPop (.loc l) [] h3 = some (wA x, h4) ∧ kLs ([A.str " ", A.str " ", A.str "("], h4) = some (.loc h4.length, h5) ∧ xIx (.loc h4.length) (.int (i : Nat)) h5 = some (.str m, h5) ∧ LsAt h5 l r' ∧ h5[p]? = some (.lst (ps ++ [s])) ∧ Kp [p, l] h h5 := by
    intro s x r' e
    obtain ⟨h1, e1, g1, K1⟩ := (T rs l h hc o g).1 s _ e
    have o1 : OkW (x :: r') := OkW.tl (a := (tokG s).reverse) (by rw [← tk_is e]; exact o)
    obtain ⟨h2, a2, g2, K2, n2⟩ := mk_lst [] h1 (by simp)
    have g12 : LsAt h2 l (x :: r') := K2.get g1 (by simp)
    have gp2 := K2.get (K1.get gp pl) (by simp)
    obtain ⟨h3, eh3⟩ : ∃ h3, h3 = h2.set p (.lst (ps ++ [s])) := ⟨_, rfl⟩
    have K3 : Kp [p] h2 h3 := by rw [eh3]; exact Kp.set _ _
    have gp3 : h3[p]? = some (.lst (ps ++ [s])) := by rw [eh3]; exact set_get gp2
    have g13 : LsAt h3 l (x :: r') := K3.get g12 lp'
    obtain ⟨pp, g4, _⟩ := ls_pop g13
    obtain ⟨h4, eh4⟩ : ∃ h4, h4 = h3.set l (.lst (r'.reverse.map wA)) := ⟨_, rfl⟩
    rw [← eh4] at pp g4
    have K4 : Kp [l] h3 h4 := by rw [eh4]; exact Kp.set _ _
    obtain ⟨h5, a5, g5, K5, n5⟩ := mk_lst [A.str " ", A.str " ", A.str "("] h4 (by simp)
    refine ⟨h1, h2, h3, h4, h5, e1, a2, by rw [(lseq g12 g2 o1).1]; rfl, gp2, by rw [eh3]; exact v_append gp2 (by omega), g13, pp, a5, v_ixL g5 am, K5.get g4 (by simp), K5.get (K4.get gp3 pl) (by simp), ?_⟩
    exact (((K1.more (by simp)).trans K2.nil).trans (K3.more (by simp))).trans ((K4.more (by simp)).trans K5.nil)
  have isn : ∀ s r, tkP n rs = some (s, r) → ∀ f : AHp, cIs s .non f = some (.bl false, f) := fun s r e f => by
    show (isA s .non).bind _ = _
    rw [tk_kind e]; rfl
  have mt1 : ∀ (F : A → List A → AHp → Rs A) (ms : MA) (τ : ASt) (f : AHp) (k : Nat) (xs : List A), f[k]? = some (.lst xs) → kMt1 F ms τ (.loc k, f) = (ms τ f).bind (kMt2 F (.loc k)) := fun F ms τ f k xs e => ev_kMt1 e
  constructor
  · intro s r r' e en
    have er := nxt_is en
    subst er
    obtain ⟨h1, h2, h3, h4, h5, e1, a2, q2, gp2, ap, g3, pp, a5, ix, g5, gp5, K⟩ := go s _ r' e
    have ne := (wA_eq (w := mkS i) (h := h5) hm).2
    rw [decide_eq_true rfl] at ne
    refine ⟨h5, ?_, g5, gp5, K⟩
    simp only [l1_law_taken, ev_bind, ev_op, ev_k1, ev_k2, ev_C, ev_var, ev_kVar, ev_un, ev_ku, ev_chain, ev_kc1, ev_kc2, ev_kc3t, ev_kc3f, ev_tru, ev_kTrb, ev_kTri, ev_B, ev_kB, ev_and, ev_or, ev_not, ev_kAt, ev_kAf, ev_kOt, ev_kOf, ev_kN, ev_eand, ev_eor, ev_enot, ev_kEAt, ev_kEAf, ev_kEOt, ev_kEOf, ev_kEN, ev_eif, ev_kEIt, ev_kEIf, ev_anil, ev_acons, ev_ka1, ev_ka2, ev_tup, ev_lst, ev_call, ev_kCa, ev_seq, ev_kSn, ev_kSr, ev_kSb, ev_kSc, ev_nx, ev_bk, ev_ct, ev_ret, ev_kRt, ev_retN, ev_if, ev_kIt, ev_kIf, ev_x, ev_kX, ev_asg, ev_kAs, ev_kAs2, ev_gN, ev_gT, ev_gT3, ev_gIx, ev_kG1, ev_kG2, ev_kG3, ev_kFr, ev_kFn, ev_for, ev_kFo, ev_mt, ev_kMt2, ev_ms, ev_kMs1, ev_sl, ev_kSl1, ev_kSl2, ev_kSl3, ev_noPart, ev_part, ev_kPt, ev_rng1, ev_istr, ev_kIS, ev_ilst, ev_kILr, ev_lc, ev_kLc, ev_kLc2, ev_yes, ev_irev, ev_ienum, ev_izip, ev_inD, ev_getD, ev_kInD, ev_kGetD, ev_fld, ev_mth, ev_kMe2, ev_sfld, ev_kSf1, ev_make, ev_aug, ev_kAu1, ev_kAu2, ev_kAu3, List.getElem?_cons_zero, List.getElem?_cons_succ, List.set_cons_zero, List.set_cons_succ, v_addI, v_sub, v_neg, v_lt, v_le, v_gt, v_ge, v_eqI, v_neI, v_eqS, v_neS, v_neB, v_eqB, v_lenT, v_lenR, v_max, v_min, e1, isn s _ e, a2, q2, mt1 _ _ _ h2 p _ gp2, ap, mt1 _ _ _ h3 l _ g3, pp, a5, ix, ne, Bool.not_true]
  · intro en
    cases e : tkP n rs with
    | none =>
      obtain ⟨h1, rr, e1, o1, g1, K1⟩ := (T rs l h hc o g).2 e
      have isy : cIs .non .non h1 = some (.bl true, h1) := rfl
      refine ⟨h1, rr, ?_, o1, g1, K1.more (by simp)⟩
      simp only [l1_law_taken, ev_bind, ev_op, ev_k1, ev_k2, ev_C, ev_var, ev_kVar, ev_un, ev_ku, ev_chain, ev_kc1, ev_kc2, ev_kc3t, ev_kc3f, ev_tru, ev_kTrb, ev_kTri, ev_B, ev_kB, ev_and, ev_or, ev_not, ev_kAt, ev_kAf, ev_kOt, ev_kOf, ev_kN, ev_eand, ev_eor, ev_enot, ev_kEAt, ev_kEAf, ev_kEOt, ev_kEOf, ev_kEN, ev_eif, ev_kEIt, ev_kEIf, ev_anil, ev_acons, ev_ka1, ev_ka2, ev_tup, ev_lst, ev_call, ev_kCa, ev_seq, ev_kSn, ev_kSr, ev_kSb, ev_kSc, ev_nx, ev_bk, ev_ct, ev_ret, ev_kRt, ev_retN, ev_if, ev_kIt, ev_kIf, ev_x, ev_kX, ev_asg, ev_kAs, ev_kAs2, ev_gN, ev_gT, ev_gT3, ev_gIx, ev_kG1, ev_kG2, ev_kG3, ev_kFr, ev_kFn, ev_for, ev_kFo, ev_mt, ev_kMt2, ev_ms, ev_kMs1, ev_sl, ev_kSl1, ev_kSl2, ev_kSl3, ev_noPart, ev_part, ev_kPt, ev_rng1, ev_istr, ev_kIS, ev_ilst, ev_kILr, ev_lc, ev_kLc, ev_kLc2, ev_yes, ev_irev, ev_ienum, ev_izip, ev_inD, ev_getD, ev_kInD, ev_kGetD, ev_fld, ev_mth, ev_kMe2, ev_sfld, ev_kSf1, ev_make, ev_aug, ev_kAu1, ev_kAu2, ev_kAu3, List.getElem?_cons_zero, List.getElem?_cons_succ, List.set_cons_zero, List.set_cons_succ, v_addI, v_sub, v_neg, v_lt, v_le, v_gt, v_ge, v_eqI, v_neI, v_eqS, v_neS, v_neB, v_eqB, v_lenT, v_lenR, v_max, v_min, e1, isy]
    | some q =>
      obtain ⟨s, r⟩ := q
      rw [e, Option.bind_some] at en
      cases r with
      | nil =>
        obtain ⟨h1, e1, g1, K1⟩ := (T rs l h hc o g).1 s _ e
        obtain ⟨h2, a2, g2, K2, n2⟩ := mk_lst [] h1 (by simp)
        have g12 : LsAt h2 l [] := K2.get g1 (by simp)
        have q2 := (lseq g12 g2 ⟨fun w m => (by cases m), by simp⟩).1
        have q2 : cEq (.loc l) (.loc h1.length) h2 = some (.bl true, h2) := q2
        refine ⟨h2, [], ?_, ⟨fun w m => (by cases m), by simp⟩, g12, (K1.more (by simp)).trans K2.nil⟩
        simp only [l1_law_taken, ev_bind, ev_op, ev_k1, ev_k2, ev_C, ev_var, ev_kVar, ev_un, ev_ku, ev_chain, ev_kc1, ev_kc2, ev_kc3t, ev_kc3f, ev_tru, ev_kTrb, ev_kTri, ev_B, ev_kB, ev_and, ev_or, ev_not, ev_kAt, ev_kAf, ev_kOt, ev_kOf, ev_kN, ev_eand, ev_eor, ev_enot, ev_kEAt, ev_kEAf, ev_kEOt, ev_kEOf, ev_kEN, ev_eif, ev_kEIt, ev_kEIf, ev_anil, ev_acons, ev_ka1, ev_ka2, ev_tup, ev_lst, ev_call, ev_kCa, ev_seq, ev_kSn, ev_kSr, ev_kSb, ev_kSc, ev_nx, ev_bk, ev_ct, ev_ret, ev_kRt, ev_retN, ev_if, ev_kIt, ev_kIf, ev_x, ev_kX, ev_asg, ev_kAs, ev_kAs2, ev_gN, ev_gT, ev_gT3, ev_gIx, ev_kG1, ev_kG2, ev_kG3, ev_kFr, ev_kFn, ev_for, ev_kFo, ev_mt, ev_kMt2, ev_ms, ev_kMs1, ev_sl, ev_kSl1, ev_kSl2, ev_kSl3, ev_noPart, ev_part, ev_kPt, ev_rng1, ev_istr, ev_kIS, ev_ilst, ev_kILr, ev_lc, ev_kLc, ev_kLc2, ev_yes, ev_irev, ev_ienum, ev_izip, ev_inD, ev_getD, ev_kInD, ev_kGetD, ev_fld, ev_mth, ev_kMe2, ev_sfld, ev_kSf1, ev_make, ev_aug, ev_kAu1, ev_kAu2, ev_kAu3, List.getElem?_cons_zero, List.getElem?_cons_succ, List.set_cons_zero, List.set_cons_succ, v_addI, v_sub, v_neg, v_lt, v_le, v_gt, v_ge, v_eqI, v_neI, v_eqS, v_neS, v_neB, v_eqB, v_lenT, v_lenR, v_max, v_min, e1, isn s _ e, a2, q2]
      | cons x r' =>
        have hx : x ≠ mkS i := fun z => by
          have en : nxt (mkS i) (x :: r') = none := en
          rw [z, nxt_at] at en; cases en
        obtain ⟨h1, h2, h3, h4, h5, e1, a2, q2, gp2, ap, g3, pp, a5, ix, g5, gp5, K⟩ := go s _ r' e
        have ne := (wA_eq (w := x) (h := h5) hm).2
        rw [decide_eq_false hx] at ne
        refine ⟨h5, r', ?_, (OkW.tl (a := (tokG s).reverse) (by rw [← tk_is e]; exact o)).tl1, g5, K⟩
        simp only [l1_law_taken, ev_bind, ev_op, ev_k1, ev_k2, ev_C, ev_var, ev_kVar, ev_un, ev_ku, ev_chain, ev_kc1, ev_kc2, ev_kc3t, ev_kc3f, ev_tru, ev_kTrb, ev_kTri, ev_B, ev_kB, ev_and, ev_or, ev_not, ev_kAt, ev_kAf, ev_kOt, ev_kOf, ev_kN, ev_eand, ev_eor, ev_enot, ev_kEAt, ev_kEAf, ev_kEOt, ev_kEOf, ev_kEN, ev_eif, ev_kEIt, ev_kEIf, ev_anil, ev_acons, ev_ka1, ev_ka2, ev_tup, ev_lst, ev_call, ev_kCa, ev_seq, ev_kSn, ev_kSr, ev_kSb, ev_kSc, ev_nx, ev_bk, ev_ct, ev_ret, ev_kRt, ev_retN, ev_if, ev_kIt, ev_kIf, ev_x, ev_kX, ev_asg, ev_kAs, ev_kAs2, ev_gN, ev_gT, ev_gT3, ev_gIx, ev_kG1, ev_kG2, ev_kG3, ev_kFr, ev_kFn, ev_for, ev_kFo, ev_mt, ev_kMt2, ev_ms, ev_kMs1, ev_sl, ev_kSl1, ev_kSl2, ev_kSl3, ev_noPart, ev_part, ev_kPt, ev_rng1, ev_istr, ev_kIS, ev_ilst, ev_kILr, ev_lc, ev_kLc, ev_kLc2, ev_yes, ev_irev, ev_ienum, ev_izip, ev_inD, ev_getD, ev_kInD, ev_kGetD, ev_fld, ev_mth, ev_kMe2, ev_sfld, ev_kSf1, ev_make, ev_aug, ev_kAu1, ev_kAu2, ev_kAu3, List.getElem?_cons_zero, List.getElem?_cons_succ, List.set_cons_zero, List.set_cons_succ, v_addI, v_sub, v_neg, v_lt, v_le, v_gt, v_ge, v_eqI, v_neI, v_eqS, v_neS, v_neB, v_eqB, v_lenT, v_lenR, v_max, v_min, e1, isn s _ e, a2, q2, mt1 _ _ _ h2 p _ gp2, ap, mt1 _ _ _ h3 l _ g3, pp, a5, ix, ne, Bool.not_false]
end K51
set_option Elab.async false
set_option linter.all false
set_option maxRecDepth 100000
namespace K51
open PySem L2 Ab Sh Sw Sd
set_option autoImplicit false
theorem for_nx {n m k j : Nat} {s : MS} {τ τ2 : ASt} {h h2 : AHp} (hk : k < n) (e2 : s (τ.set j (some (.int (k : Nat)))) h = some (.nx τ2, h2)) : forL (itR 0 n) (gN j) s (m + 1) k τ h = forL (itR 0 n) (gN j) s m (k + 1) τ2 h2 := by
  show ((itR 0 n).get k h).bind _ = _
  have hg : (itR 0 n).get k h = some (.int k) := by
    show (if k < n then some (A.int (0 + (k : Int))) else none) = _
    rw [if_pos (by omega), Int.zero_add]
  have e1 : gN j (.int (k : Nat)) τ h = some (τ.set j (some (.int (k : Nat))), h) := rfl
  rw [hg, ev_bind, e1, ev_bind, e2, ev_bind]
theorem for_rt {n m k j : Nat} {s : MS} {τ : ASt} {a : A} {h h2 : AHp} (hk : k < n) (e2 : s (τ.set j (some (.int (k : Nat)))) h = some (.rt a, h2)) : forL (itR 0 n) (gN j) s (m + 1) k τ h = some (.rt a, h2) := by
  show ((itR 0 n).get k h).bind _ = _
  have hg : (itR 0 n).get k h = some (.int k) := by
    show (if k < n then some (A.int (0 + (k : Int))) else none) = _
    rw [if_pos (by omega), Int.zero_add]
  have e1 : gN j (.int (k : Nat)) τ h = some (τ.set j (some (.int (k : Nat))), h) := rfl
  rw [hg, ev_bind, e1, ev_bind, e2, ev_bind]
theorem for_0 {n k j : Nat} {s : MS} {τ : ASt} {h : AHp} : forL (itR 0 n) (gN j) s 0 k τ h = some (.nx τ, h) := rfl
theorem cnt_tl (a b : List (List Nat)) : b.count [41] ≤ (a ++ b).count [41] := by rw [List.count_append]; omega
theorem taken_spec : ∀ n, TkS n
  | 0 => fun rs l h hc => absurd hc (by omega)
  | n + 1 => by
    have T := taken_spec n
    intro rs l h hc o g
    have mt1 : ∀ (F : A → List A → AHp → Rs A) (ms : MA) (τ : ASt) (f : AHp) (k : Nat) (xs : List A), f[k]? = some (.lst xs) → kMt1 F ms τ (.loc k, f) = (ms τ f).bind (kMt2 F (.loc k)) := fun F ms τ f k xs e => ev_kMt1 e
    obtain ⟨h1, a1, g1, K1, n1⟩ := mk_lst [] h (by simp)
    have gl1 : LsAt h1 l rs := K1.get g (by simp)
    have q0 := (lseq gl1 g1 o).1
    cases rs with
    | nil =>
      have q1 : cEq (.loc l) (.loc h.length) h1 = some (.bl true, h1) := q0
      refine ⟨fun s r e => (by cases e), fun _ => ⟨h1, [], ?_, o, gl1, K1.nil⟩⟩
      simp only [ap_law_taken, b_law_taken, ev_bind, ev_op, ev_k1, ev_k2, ev_C, ev_var, ev_kVar, ev_un, ev_ku, ev_chain, ev_kc1, ev_kc2, ev_kc3t, ev_kc3f, ev_tru, ev_kTrb, ev_kTri, ev_B, ev_kB, ev_and, ev_or, ev_not, ev_kAt, ev_kAf, ev_kOt, ev_kOf, ev_kN, ev_eand, ev_eor, ev_enot, ev_kEAt, ev_kEAf, ev_kEOt, ev_kEOf, ev_kEN, ev_eif, ev_kEIt, ev_kEIf, ev_anil, ev_acons, ev_ka1, ev_ka2, ev_tup, ev_lst, ev_call, ev_kCa, ev_seq, ev_kSn, ev_kSr, ev_kSb, ev_kSc, ev_nx, ev_bk, ev_ct, ev_ret, ev_kRt, ev_retN, ev_if, ev_kIt, ev_kIf, ev_x, ev_kX, ev_asg, ev_kAs, ev_kAs2, ev_gN, ev_gT, ev_gT3, ev_gIx, ev_kG1, ev_kG2, ev_kG3, ev_kFr, ev_kFn, ev_for, ev_kFo, ev_mt, ev_kMt2, ev_ms, ev_kMs1, ev_sl, ev_kSl1, ev_kSl2, ev_kSl3, ev_noPart, ev_part, ev_kPt, ev_rng1, ev_istr, ev_kIS, ev_ilst, ev_kILr, ev_lc, ev_kLc, ev_kLc2, ev_yes, ev_irev, ev_ienum, ev_izip, ev_inD, ev_getD, ev_kInD, ev_kGetD, ev_fld, ev_mth, ev_kMe2, ev_sfld, ev_kSf1, ev_make, ev_aug, ev_kAu1, ev_kAu2, ev_kAu3, List.getElem?_cons_zero, List.getElem?_cons_succ, List.set_cons_zero, List.set_cons_succ, v_addI, v_sub, v_neg, v_lt, v_le, v_gt, v_ge, v_eqI, v_neI, v_eqS, v_neS, v_neB, v_eqB, v_lenT, v_lenR, v_max, v_min, a1, q1]
    | cons w rs =>
      have q1 : cEq (.loc l) (.loc h.length) h1 = some (.bl false, h1) := q0
      obtain ⟨pp, g2, ix⟩ := ls_pop gl1
      obtain ⟨h2, eh2⟩ : ∃ h2, h2 = h1.set l (.lst (rs.reverse.map wA)) := ⟨_, rfl⟩
      rw [← eh2] at pp g2
      have K2 : Kp [l] h1 h2 := by rw [eh2]; exact Kp.set _ _
      have c1 := (wA_eq (w := w) (h := h1) cs_sp).1
      have c2 := (wA_eq (w := w) (h := h1) cs_op).1
      have c3 := (wA_eq (w := w) (h := h2) cs_cl).2
      have ng : (-(1 : Int)) = -1 := rfl
      by_cases w1 : w = [32]
      · have un : tkP (n + 1) (w :: rs) = none := by unfold tkP; rw [if_pos (.inl w1)]
        rw [decide_eq_true w1] at c1
        refine ⟨fun s r e => (by rw [un] at e; cases e), fun _ => ⟨h1, w :: rs, ?_, o, gl1, K1.nil⟩⟩
        simp only [ap_law_taken, b_law_taken, ev_bind, ev_op, ev_k1, ev_k2, ev_C, ev_var, ev_kVar, ev_un, ev_ku, ev_chain, ev_kc1, ev_kc2, ev_kc3t, ev_kc3f, ev_tru, ev_kTrb, ev_kTri, ev_B, ev_kB, ev_and, ev_or, ev_not, ev_kAt, ev_kAf, ev_kOt, ev_kOf, ev_kN, ev_eand, ev_eor, ev_enot, ev_kEAt, ev_kEAf, ev_kEOt, ev_kEOf, ev_kEN, ev_eif, ev_kEIt, ev_kEIf, ev_anil, ev_acons, ev_ka1, ev_ka2, ev_tup, ev_lst, ev_call, ev_kCa, ev_seq, ev_kSn, ev_kSr, ev_kSb, ev_kSc, ev_nx, ev_bk, ev_ct, ev_ret, ev_kRt, ev_retN, ev_if, ev_kIt, ev_kIf, ev_x, ev_kX, ev_asg, ev_kAs, ev_kAs2, ev_gN, ev_gT, ev_gT3, ev_gIx, ev_kG1, ev_kG2, ev_kG3, ev_kFr, ev_kFn, ev_for, ev_kFo, ev_mt, ev_kMt2, ev_ms, ev_kMs1, ev_sl, ev_kSl1, ev_kSl2, ev_kSl3, ev_noPart, ev_part, ev_kPt, ev_rng1, ev_istr, ev_kIS, ev_ilst, ev_kILr, ev_lc, ev_kLc, ev_kLc2, ev_yes, ev_irev, ev_ienum, ev_izip, ev_inD, ev_getD, ev_kInD, ev_kGetD, ev_fld, ev_mth, ev_kMe2, ev_sfld, ev_kSf1, ev_make, ev_aug, ev_kAu1, ev_kAu2, ev_kAu3, List.getElem?_cons_zero, List.getElem?_cons_succ, List.set_cons_zero, List.set_cons_succ, v_addI, v_sub, v_neg, v_lt, v_le, v_gt, v_ge, v_eqI, v_neI, v_eqS, v_neS, v_neB, v_eqB, v_lenT, v_lenR, v_max, v_min, a1, q1, ng, ix, c1]
      rw [decide_eq_false w1] at c1
      by_cases w2 : w = [40]
      · have un : tkP (n + 1) (w :: rs) = none := by unfold tkP; rw [if_pos (.inr w2)]
        rw [decide_eq_true w2] at c2
        refine ⟨fun s r e => (by rw [un] at e; cases e), fun _ => ⟨h1, w :: rs, ?_, o, gl1, K1.nil⟩⟩
        simp only [ap_law_taken, b_law_taken, ev_bind, ev_op, ev_k1, ev_k2, ev_C, ev_var, ev_kVar, ev_un, ev_ku, ev_chain, ev_kc1, ev_kc2, ev_kc3t, ev_kc3f, ev_tru, ev_kTrb, ev_kTri, ev_B, ev_kB, ev_and, ev_or, ev_not, ev_kAt, ev_kAf, ev_kOt, ev_kOf, ev_kN, ev_eand, ev_eor, ev_enot, ev_kEAt, ev_kEAf, ev_kEOt, ev_kEOf, ev_kEN, ev_eif, ev_kEIt, ev_kEIf, ev_anil, ev_acons, ev_ka1, ev_ka2, ev_tup, ev_lst, ev_call, ev_kCa, ev_seq, ev_kSn, ev_kSr, ev_kSb, ev_kSc, ev_nx, ev_bk, ev_ct, ev_ret, ev_kRt, ev_retN, ev_if, ev_kIt, ev_kIf, ev_x, ev_kX, ev_asg, ev_kAs, ev_kAs2, ev_gN, ev_gT, ev_gT3, ev_gIx, ev_kG1, ev_kG2, ev_kG3, ev_kFr, ev_kFn, ev_for, ev_kFo, ev_mt, ev_kMt2, ev_ms, ev_kMs1, ev_sl, ev_kSl1, ev_kSl2, ev_kSl3, ev_noPart, ev_part, ev_kPt, ev_rng1, ev_istr, ev_kIS, ev_ilst, ev_kILr, ev_lc, ev_kLc, ev_kLc2, ev_yes, ev_irev, ev_ienum, ev_izip, ev_inD, ev_getD, ev_kInD, ev_kGetD, ev_fld, ev_mth, ev_kMe2, ev_sfld, ev_kSf1, ev_make, ev_aug, ev_kAu1, ev_kAu2, ev_kAu3, List.getElem?_cons_zero, List.getElem?_cons_succ, List.set_cons_zero, List.set_cons_succ, v_addI, v_sub, v_neg, v_lt, v_le, v_gt, v_ge, v_eqI, v_neI, v_eqS, v_neS, v_neB, v_eqB, v_lenT, v_lenR, v_max, v_min, a1, q1, ng, ix, c1, c2]
      rw [decide_eq_false w2] at c2
      have nw : ¬ (w = [32] ∨ w = [40]) := by rintro (q | q); exact w1 q; exact w2 q
      by_cases w3 : w = [41]
      · rw [decide_eq_true w3] at c3
        subst w3
        have un : tkP (n + 1) ([41] :: rs) = (tkP n rs).bind fun p => (nxt [32] p.2).bind fun r1 => (tkP n r1).bind fun q => (nxt [32] q.2).bind fun r2 => (tkP n r2).bind fun o => (nxt [40] o.2).map fun r3 => (.tup [q.1, o.1, p.1], r3) := by
          conv => lhs; unfold tkP
          rw [if_neg nw, if_pos rfl]
        have hc0 : rs.count [41] < n := by rw [List.count_cons_self] at hc; omega
        have o0 := o.tl1
        obtain ⟨h3, a3, g3, K3, n3⟩ := mk_lst [] h2 (by simp)
        have gl3 : LsAt h3 l rs := K3.get g2 (by simp)
        have ll := lt_of_get gl3
        have ll2 := lt_of_get g2
        have lp : l ≠ h2.length := by omega
        have r3 : kR1 ([.int 3], h3) = some (itR 0 3, h3) := rngq (q := 3) (by omega)
        have hh : h.length ≤ h2.length := by have := K1.1; have := K2.1; omega
        have K03 : Kp [l] h h3 := (K1.nil.trans K2).trans K3.nil
        have fin : ∀ {f : AHp}, Kp [h2.length, l] h3 f → Kp [l] h f := fun K => Kp.drop K03 K hh
        have L0 : ∀ {s : A} {f : AHp}, l1_law_taken (F_law_taken n) [some (.loc l), some (wA [41]), some (.loc h2.length), some (.int ((0 : Nat) : Int)), none] h3 = some (.nx [some (.loc l), some (wA [41]), some (.loc h2.length), some (.int ((0 : Nat) : Int)), some s], f) → forL (itR 0 3) (gN 3) (l1_law_taken (F_law_taken n)) 3 0 [some (.loc l), some (wA [41]), some (.loc h2.length), none, none] h3 = forL (itR 0 3) (gN 3) (l1_law_taken (F_law_taken n)) 2 1 [some (.loc l), some (wA [41]), some (.loc h2.length), some (.int ((0 : Nat) : Int)), some s] f := fun e => for_nx (k := 0) (by omega) e
        have L1 : ∀ {s t a : A} {f f' : AHp}, l1_law_taken (F_law_taken n) [some (.loc l), some (wA [41]), some (.loc h2.length), some (.int ((1 : Nat) : Int)), some s] f = some (.nx [some (.loc l), some (wA [41]), some (.loc h2.length), some (.int ((1 : Nat) : Int)), some t], f') → forL (itR 0 3) (gN 3) (l1_law_taken (F_law_taken n)) 2 1 [some (.loc l), some (wA [41]), some (.loc h2.length), some a, some s] f = forL (itR 0 3) (gN 3) (l1_law_taken (F_law_taken n)) 1 2 [some (.loc l), some (wA [41]), some (.loc h2.length), some (.int ((1 : Nat) : Int)), some t] f' := fun e => for_nx (k := 1) (by omega) e
        have L2 : ∀ {s t a : A} {f f' : AHp}, l1_law_taken (F_law_taken n) [some (.loc l), some (wA [41]), some (.loc h2.length), some (.int ((2 : Nat) : Int)), some s] f = some (.nx [some (.loc l), some (wA [41]), some (.loc h2.length), some (.int ((2 : Nat) : Int)), some t], f') → forL (itR 0 3) (gN 3) (l1_law_taken (F_law_taken n)) 1 2 [some (.loc l), some (wA [41]), some (.loc h2.length), some a, some s] f = some (.nx [some (.loc l), some (wA [41]), some (.loc h2.length), some (.int ((2 : Nat) : Int)), some t], f') := fun e => (for_nx (k := 2) (by omega) e).trans for_0
        have B0 : ∀ {f : AHp}, l1_law_taken (F_law_taken n) [some (.loc l), some (wA [41]), some (.loc h2.length), some (.int ((0 : Nat) : Int)), none] h3 = some (.rt .non, f) → forL (itR 0 3) (gN 3) (l1_law_taken (F_law_taken n)) 3 0 [some (.loc l), some (wA [41]), some (.loc h2.length), none, none] h3 = some (.rt .non, f) := fun e => for_rt (k := 0) (by omega) e
        have B1 : ∀ {s a : A} {f f' : AHp}, l1_law_taken (F_law_taken n) [some (.loc l), some (wA [41]), some (.loc h2.length), some (.int ((1 : Nat) : Int)), some s] f = some (.rt .non, f') → forL (itR 0 3) (gN 3) (l1_law_taken (F_law_taken n)) 2 1 [some (.loc l), some (wA [41]), some (.loc h2.length), some a, some s] f = some (.rt .non, f') := fun e => for_rt (k := 1) (by omega) e
        have B2 : ∀ {s a : A} {f f' : AHp}, l1_law_taken (F_law_taken n) [some (.loc l), some (wA [41]), some (.loc h2.length), some (.int ((2 : Nat) : Int)), some s] f = some (.rt .non, f') → forL (itR 0 3) (gN 3) (l1_law_taken (F_law_taken n)) 1 2 [some (.loc l), some (wA [41]), some (.loc h2.length), some a, some s] f = some (.rt .non, f') := fun e => for_rt (k := 2) (by omega) e
        have bad : ∀ {h' : AHp} {rr : List (List Nat)}, forL (itR 0 3) (gN 3) (l1_law_taken (F_law_taken n)) 3 0 [some (.loc l), some (wA [41]), some (.loc h2.length), none, none] h3 = some (.rt .non, h') → OkW rr → LsAt h' l rr → Kp [h2.length, l] h3 h' → ∃ h' rr, F_law_taken (n + 1) [.loc l] h = some (.non, h') ∧ OkW rr ∧ LsAt h' l rr ∧ Kp [l] h h' := by
          intro h' rr e1 e2 e3 e4
          refine ⟨h', rr, ?_, e2, e3, fin e4⟩
          simp only [ap_law_taken, b_law_taken, ev_bind, ev_op, ev_k1, ev_k2, ev_C, ev_var, ev_kVar, ev_un, ev_ku, ev_chain, ev_kc1, ev_kc2, ev_kc3t, ev_kc3f, ev_tru, ev_kTrb, ev_kTri, ev_B, ev_kB, ev_and, ev_or, ev_not, ev_kAt, ev_kAf, ev_kOt, ev_kOf, ev_kN, ev_eand, ev_eor, ev_enot, ev_kEAt, ev_kEAf, ev_kEOt, ev_kEOf, ev_kEN, ev_eif, ev_kEIt, ev_kEIf, ev_anil, ev_acons, ev_ka1, ev_ka2, ev_tup, ev_lst, ev_call, ev_kCa, ev_seq, ev_kSn, ev_kSr, ev_kSb, ev_kSc, ev_nx, ev_bk, ev_ct, ev_ret, ev_kRt, ev_retN, ev_if, ev_kIt, ev_kIf, ev_x, ev_kX, ev_asg, ev_kAs, ev_kAs2, ev_gN, ev_gT, ev_gT3, ev_gIx, ev_kG1, ev_kG2, ev_kG3, ev_kFr, ev_kFn, ev_for, ev_kFo, ev_mt, ev_kMt2, ev_ms, ev_kMs1, ev_sl, ev_kSl1, ev_kSl2, ev_kSl3, ev_noPart, ev_part, ev_kPt, ev_rng1, ev_istr, ev_kIS, ev_ilst, ev_kILr, ev_lc, ev_kLc, ev_kLc2, ev_yes, ev_irev, ev_ienum, ev_izip, ev_inD, ev_getD, ev_kInD, ev_kGetD, ev_fld, ev_mth, ev_kMe2, ev_sfld, ev_kSf1, ev_make, ev_aug, ev_kAu1, ev_kAu2, ev_kAu3, List.getElem?_cons_zero, List.getElem?_cons_succ, List.set_cons_zero, List.set_cons_succ, v_addI, v_sub, v_neg, v_lt, v_le, v_gt, v_ge, v_eqI, v_neI, v_eqS, v_neS, v_neB, v_eqB, v_lenT, v_lenR, v_max, v_min, a1, q1, ng, ix, c1, c2, mt1 _ _ _ h1 l _ gl1, pp, c3, Bool.not_true, a3, r3, itR_n, e1]
        obtain ⟨t1, t1'⟩ := turn (i := 0) (s1 := some (wA [41])) (s4 := none) T (by omega) hc0 o0 gl3 g3 (by simp) lp
        cases e1 : (tkP n rs).bind (fun q => nxt [32] q.2) with
        | none =>
          obtain ⟨h', rr, b1, b2, b3, b4⟩ := t1' e1
          have B := bad (B0 b1) b2 b3 b4
          refine ⟨fun s r e => ?_, fun _ => B⟩
          rw [un] at e
          obtain ⟨p, x1, e⟩ := bindS e
          obtain ⟨c, x2, e⟩ := bindS e
          rw [x1, Option.bind_some, x2] at e1
          cases e1
        | some r1 =>
          obtain ⟨⟨s1, y1⟩, x1, x2⟩ := bindS e1
          have x2 : nxt [32] y1 = some r1 := x2
          obtain ⟨f1, b1, gf1, gp1, J1⟩ := t1 s1 y1 r1 x1 x2
          have er1 : rs = (tokG s1).reverse ++ ([32] :: r1) := by rw [← nxt_is x2]; exact tk_is x1
          have o1 : OkW r1 := (OkW.tl (a := (tokG s1).reverse) (by rw [← er1]; exact o0)).tl1
          have hc1 : r1.count [41] < n := by
            have z1 := cnt_tl (tokG s1).reverse ([32] :: r1)
            have z2 := cnt_tl [[32]] r1
            rw [← er1] at z1
            have z2 : r1.count [41] ≤ ([32] :: r1).count [41] := z2
            omega
          have un1 : tkP (n + 1) ([41] :: rs) = (tkP n r1).bind fun q => (nxt [32] q.2).bind fun r2 => (tkP n r2).bind fun o => (nxt [40] o.2).map fun r3 => (.tup [q.1, o.1, s1], r3) := by
            rw [un, x1, Option.bind_some]
            show (nxt [32] y1).bind _ = _
            rw [x2, Option.bind_some]
          obtain ⟨t2, t2'⟩ := turn (i := 1) (s1 := some (wA [41])) (s4 := some s1) T (by omega) hc1 o1 gf1 gp1 (by simp) lp
          cases e2 : (tkP n r1).bind (fun q => nxt [32] q.2) with
          | none =>
            obtain ⟨h', rr, d1, d2, d3, d4⟩ := t2' e2
            have B := bad ((L0 b1).trans (B1 d1)) d2 d3 (J1.trans d4)
            refine ⟨fun s r e => ?_, fun _ => B⟩
            rw [un1] at e
            obtain ⟨p, x1, e⟩ := bindS e
            obtain ⟨c, x2, e⟩ := bindS e
            rw [x1, Option.bind_some, x2] at e2
            cases e2
          | some r2 =>
            obtain ⟨⟨s2, y2⟩, x3, x4⟩ := bindS e2
            have x4 : nxt [32] y2 = some r2 := x4
            obtain ⟨f2, d1, gf2, gp2, J2⟩ := t2 s2 y2 r2 x3 x4
            have er2 : r1 = (tokG s2).reverse ++ ([32] :: r2) := by rw [← nxt_is x4]; exact tk_is x3
            have o2 : OkW r2 := (OkW.tl (a := (tokG s2).reverse) (by rw [← er2]; exact o1)).tl1
            have hc2 : r2.count [41] < n := by
              have z1 := cnt_tl (tokG s2).reverse ([32] :: r2)
              have z2 := cnt_tl [[32]] r2
              rw [← er2] at z1
              have z2 : r2.count [41] ≤ ([32] :: r2).count [41] := z2
              omega
            have un2 : tkP (n + 1) ([41] :: rs) = (tkP n r2).bind fun o => (nxt [40] o.2).map fun r3 => (.tup [s2, o.1, s1], r3) := by
              rw [un1, x3, Option.bind_some]
              show (nxt [32] y2).bind _ = _
              rw [x4, Option.bind_some]
            obtain ⟨t3, t3'⟩ := turn (i := 2) (s1 := some (wA [41])) (s4 := some s2) T (by omega) hc2 o2 gf2 gp2 (by simp) lp
            cases e3 : (tkP n r2).bind (fun q => nxt [40] q.2) with
            | none =>
              obtain ⟨h', rr, v1, v2, v3, v4⟩ := t3' e3
              have B := bad ((L0 b1).trans ((L1 d1).trans (B2 v1))) v2 v3 (J1.trans (J2.trans v4))
              refine ⟨fun s r e => ?_, fun _ => B⟩
              rw [un2] at e
              obtain ⟨p, x1, e⟩ := bindS e
              obtain ⟨c, x2, e⟩ := Option.map_eq_some_iff.mp e
              rw [x1, Option.bind_some, x2] at e3
              cases e3
            | some r3' =>
              obtain ⟨⟨s3, y3⟩, x5, x6⟩ := bindS e3
              have x6 : nxt [40] y3 = some r3' := x6
              obtain ⟨f3, v1, gf3, gp3, J3⟩ := t3 s3 y3 r3' x5 x6
              have un3 : tkP (n + 1) ([41] :: rs) = some (.tup [s2, s3, s1], r3') := by
                rw [un2, x5, Option.bind_some]
                show (nxt [40] y3).map _ = _
                rw [x6]; rfl
              have lp3 := (L0 b1).trans ((L1 d1).trans (L2 v1))
              have gp3 : f3[h2.length]? = some (.lst [s1, s2, s3]) := gp3
              have x0 : xIx (.loc h2.length) (.int 0) f3 = some (s1, f3) := v_ixL gp3 rfl
              have x1' : xIx (.loc h2.length) (.int 1) f3 = some (s2, f3) := v_ixL gp3 rfl
              have x2' : xIx (.loc h2.length) (.int 2) f3 = some (s3, f3) := v_ixL gp3 rfl
              have kt3 : kTu ([s2, s3, s1], f3) = some (.tup [s2, s3, s1], f3) := ev_kTu (by simp)
              refine ⟨fun s r e => ?_, fun e => by rw [un3] at e; cases e⟩
              rw [un3] at e
              cases e
              refine ⟨f3, ?_, gf3, fin (J1.trans (J2.trans J3))⟩
              simp only [ap_law_taken, b_law_taken, ev_bind, ev_op, ev_k1, ev_k2, ev_C, ev_var, ev_kVar, ev_un, ev_ku, ev_chain, ev_kc1, ev_kc2, ev_kc3t, ev_kc3f, ev_tru, ev_kTrb, ev_kTri, ev_B, ev_kB, ev_and, ev_or, ev_not, ev_kAt, ev_kAf, ev_kOt, ev_kOf, ev_kN, ev_eand, ev_eor, ev_enot, ev_kEAt, ev_kEAf, ev_kEOt, ev_kEOf, ev_kEN, ev_eif, ev_kEIt, ev_kEIf, ev_anil, ev_acons, ev_ka1, ev_ka2, ev_tup, ev_lst, ev_call, ev_kCa, ev_seq, ev_kSn, ev_kSr, ev_kSb, ev_kSc, ev_nx, ev_bk, ev_ct, ev_ret, ev_kRt, ev_retN, ev_if, ev_kIt, ev_kIf, ev_x, ev_kX, ev_asg, ev_kAs, ev_kAs2, ev_gN, ev_gT, ev_gT3, ev_gIx, ev_kG1, ev_kG2, ev_kG3, ev_kFr, ev_kFn, ev_for, ev_kFo, ev_mt, ev_kMt2, ev_ms, ev_kMs1, ev_sl, ev_kSl1, ev_kSl2, ev_kSl3, ev_noPart, ev_part, ev_kPt, ev_rng1, ev_istr, ev_kIS, ev_ilst, ev_kILr, ev_lc, ev_kLc, ev_kLc2, ev_yes, ev_irev, ev_ienum, ev_izip, ev_inD, ev_getD, ev_kInD, ev_kGetD, ev_fld, ev_mth, ev_kMe2, ev_sfld, ev_kSf1, ev_make, ev_aug, ev_kAu1, ev_kAu2, ev_kAu3, List.getElem?_cons_zero, List.getElem?_cons_succ, List.set_cons_zero, List.set_cons_succ, v_addI, v_sub, v_neg, v_lt, v_le, v_gt, v_ge, v_eqI, v_neI, v_eqS, v_neS, v_neB, v_eqB, v_lenT, v_lenR, v_max, v_min, a1, q1, ng, ix, c1, c2, mt1 _ _ _ h1 l _ gl1, pp, c3, Bool.not_true, a3, r3, itR_n, lp3, x0, x1', x2', kt3]
      · have un : tkP (n + 1) (w :: rs) = some (.str (ofL w), rs) := by unfold tkP; rw [if_neg nw, if_neg w3]
        rw [decide_eq_false w3] at c3
        refine ⟨fun s r e => ?_, fun e => by rw [un] at e; cases e⟩
        rw [un] at e
        cases e
        refine ⟨h2, ?_, g2, K1.nil.trans K2⟩
        simp only [ap_law_taken, b_law_taken, ev_bind, ev_op, ev_k1, ev_k2, ev_C, ev_var, ev_kVar, ev_un, ev_ku, ev_chain, ev_kc1, ev_kc2, ev_kc3t, ev_kc3f, ev_tru, ev_kTrb, ev_kTri, ev_B, ev_kB, ev_and, ev_or, ev_not, ev_kAt, ev_kAf, ev_kOt, ev_kOf, ev_kN, ev_eand, ev_eor, ev_enot, ev_kEAt, ev_kEAf, ev_kEOt, ev_kEOf, ev_kEN, ev_eif, ev_kEIt, ev_kEIf, ev_anil, ev_acons, ev_ka1, ev_ka2, ev_tup, ev_lst, ev_call, ev_kCa, ev_seq, ev_kSn, ev_kSr, ev_kSb, ev_kSc, ev_nx, ev_bk, ev_ct, ev_ret, ev_kRt, ev_retN, ev_if, ev_kIt, ev_kIf, ev_x, ev_kX, ev_asg, ev_kAs, ev_kAs2, ev_gN, ev_gT, ev_gT3, ev_gIx, ev_kG1, ev_kG2, ev_kG3, ev_kFr, ev_kFn, ev_for, ev_kFo, ev_mt, ev_kMt2, ev_ms, ev_kMs1, ev_sl, ev_kSl1, ev_kSl2, ev_kSl3, ev_noPart, ev_part, ev_kPt, ev_rng1, ev_istr, ev_kIS, ev_ilst, ev_kILr, ev_lc, ev_kLc, ev_kLc2, ev_yes, ev_irev, ev_ienum, ev_izip, ev_inD, ev_getD, ev_kInD, ev_kGetD, ev_fld, ev_mth, ev_kMe2, ev_sfld, ev_kSf1, ev_make, ev_aug, ev_kAu1, ev_kAu2, ev_kAu3, List.getElem?_cons_zero, List.getElem?_cons_succ, List.set_cons_zero, List.set_cons_succ, v_addI, v_sub, v_neg, v_lt, v_le, v_gt, v_ge, v_eqI, v_neI, v_eqS, v_neS, v_neB, v_eqB, v_lenT, v_lenR, v_max, v_min, a1, q1, ng, ix, c1, c2, mt1 _ _ _ h1 l _ gl1, pp, c3, Bool.not_false]
        rfl
end K51
set_option Elab.async false
set_option linter.all false
set_option maxRecDepth 100000
namespace K51
open PySem L2 Ab Sh Sw Sd
set_option autoImplicit false
theorem tk_ok : ∀ {n : Nat} {rs r : List (List Nat)} {s : A}, tkP n rs = some (s, r) → (∀ w ∈ rs, w.length ≤ 1000) → OkA 0 n s
  | 0, rs, r, s, e, _ => by cases e
  | n + 1, [], r, s, e, _ => by cases e
  | n + 1, w :: rs, r, s, e, H => by
    have H0 : ∀ w ∈ rs, w.length ≤ 1000 := fun w m => H w (by simp [m])
    unfold tkP at e
    split at e
    · cases e
    · split at e
      · obtain ⟨⟨p, b1⟩, h1, e⟩ := bindS e
        obtain ⟨c1, h2, e⟩ := bindS e
        obtain ⟨⟨o, b2⟩, h3, e⟩ := bindS e
        obtain ⟨c2, h4, e⟩ := bindS e
        obtain ⟨⟨m, b3⟩, h5, e⟩ := bindS e
        obtain ⟨c3, h6, e⟩ := Option.map_eq_some_iff.mp e
        cases e
        have t1 := tk_is h1
        have t2 : b1 = _ := nxt_is h2
        have H1 : ∀ w ∈ c1, w.length ≤ 1000 := fun w m => H0 w (by rw [t1, t2]; simp [m])
        have t3 := tk_is h3
        have t4 : b2 = _ := nxt_is h4
        have H2 : ∀ w ∈ c2, w.length ≤ 1000 := fun w m => H1 w (by rw [t3, t4]; simp [m])
        refine .tup fun x hx => ?_
        simp only [List.mem_cons, List.not_mem_nil, or_false] at hx
        rcases hx with rfl | rfl | rfl
        · exact tk_ok h3 H1
        · exact tk_ok h5 H2
        · exact tk_ok h1 H0
      · cases e
        exact .str (by rw [ofL_len]; exact H w (by simp))
theorem tx_cnt41 {k : Nat} {s : A} (w : Wst k s) : (txL s).count 41 = k := by
  have low : ∀ {u : List Nat}, u.all lowB = true → u.count 41 = 0 := fun {u} h => List.count_eq_zero.mpr fun m => by
    have := List.all_eq_true.mp h 41 m
    exact absurd this (by decide)
  induction w with
  | nou => rw [txL_s]; exact low nou_lowB.1
  | «let» hx => rw [txL_s]; exact low (let_lowB hx).1
  | bin hs _ _ ih1 ih2 =>
    rw [txL_3]
    simp only [List.count_cons, List.count_append, ih1, ih2, low (sg_lowB hs).1]
    simp
    omega
theorem wst_isSt {k : Nat} {s : A} (w : Wst k s) : isSt s = true := by
  obtain ⟨N, hN, st⟩ := w.stm
  exact (stm_ok hN st).1
theorem tuples_spec {k : Nat} {s : A} {h : AHp} (w : Wst k s) (hk : k < 100) : ∃ h', F_law_tuples [s] h = some (.int (k : Nat), h') ∧ Kp [] h h' := by
  obtain ⟨N, hN, st⟩ := w.stm
  obtain ⟨l, h1, e1, _, g1, K1⟩ := ends_spec st 120 h (by omega) (by omega)
  have ln : bLen [.loc l] h1 = some (.int (((endsL s).length : Nat) : Int), h1) := v_lenL g1
  rw [ends_len st] at ln
  have sb : (((k + 1 : Nat) : Int) - 1) = (k : Int) := by omega
  exact ⟨h1, by simp only [ap_law_tuples, b_law_tuples, ev_bind, ev_op, ev_k1, ev_k2, ev_C, ev_var, ev_kVar, ev_un, ev_ku, ev_chain, ev_kc1, ev_kc2, ev_kc3t, ev_kc3f, ev_tru, ev_kTrb, ev_kTri, ev_B, ev_kB, ev_and, ev_or, ev_not, ev_kAt, ev_kAf, ev_kOt, ev_kOf, ev_kN, ev_eand, ev_eor, ev_enot, ev_kEAt, ev_kEAf, ev_kEOt, ev_kEOf, ev_kEN, ev_eif, ev_kEIt, ev_kEIf, ev_anil, ev_acons, ev_ka1, ev_ka2, ev_tup, ev_lst, ev_call, ev_kCa, ev_seq, ev_kSn, ev_kSr, ev_kSb, ev_kSc, ev_nx, ev_bk, ev_ct, ev_ret, ev_kRt, ev_retN, ev_if, ev_kIt, ev_kIf, ev_x, ev_kX, ev_asg, ev_kAs, ev_kAs2, ev_gN, ev_gT, ev_gT3, ev_gIx, ev_kG1, ev_kG2, ev_kG3, ev_kFr, ev_kFn, ev_for, ev_kFo, ev_mt, ev_kMt2, ev_ms, ev_kMs1, ev_sl, ev_kSl1, ev_kSl2, ev_kSl3, ev_noPart, ev_part, ev_kPt, ev_rng1, ev_istr, ev_kIS, ev_ilst, ev_kILr, ev_lc, ev_kLc, ev_kLc2, ev_yes, ev_irev, ev_ienum, ev_izip, ev_inD, ev_getD, ev_kInD, ev_kGetD, ev_fld, ev_mth, ev_kMe2, ev_sfld, ev_kSf1, ev_make, ev_aug, ev_kAu1, ev_kAu2, ev_kAu3, List.getElem?_cons_zero, List.getElem?_cons_succ, List.set_cons_zero, List.set_cons_succ, v_addI, v_sub, v_neg, v_lt, v_le, v_gt, v_ge, v_eqI, v_neI, v_eqS, v_neS, v_neB, v_eqB, v_lenT, v_lenR, v_max, v_min, e1, ln, sb], K1⟩
def Due (t : List Nat) (v : A) : Prop := (∃ k, raP 20 t = some (v, []) ∧ t.count 40 ≤ 10 ∧ k ≤ 10 ∧ Wst k v) ∨ (v = .non ∧ ∀ s, raP 20 t = some (s, []) → 10 < t.count 40)
theorem due_spec {z : Str} {h : AHp} (hl : z.length ≤ 1000) (hc : (cs z).count 41 < 100) (ok : ∀ c ∈ cs z, c < 1114112) : ∃ v h', F_law_due [.str z] h = some (v, h') ∧ Kp [] h h' ∧ Due (cs z) v := by
  have zl : z.length = (cs z).length := cs_len z
  obtain ⟨l, h1, e1, ll, g1, K1⟩ := words_spec (h := h) hl
  obtain ⟨t, et⟩ : ∃ t, t = cs z := ⟨_, rfl⟩
  rw [← et] at zl hc ok g1 ⊢
  have wm : ∀ w ∈ (wdsT t).reverse, w.length ≤ 1000 ∧ PyData.strOk (ofL w) = true := fun w m => by
    have m := List.mem_reverse.mp m
    obtain ⟨a, _⟩ := wds_mem m
    constructor
    · have : w.length ≤ (wdsT t).flatten.length := by
        obtain ⟨p, q, e⟩ := List.append_of_mem m
        rw [e]
        simp
        omega
      rw [wds_flat] at this
      omega
    · unfold PyData.strOk
      rw [Array.all_eq_true_iff_forall_mem]
      intro c hc
      have : c ∈ w := by
        have : c ∈ (ofL w).cps := hc
        unfold ofL at this
        simpa using this
      exact decide_eq_true (ok c (a c this))
  have oW : OkW (wdsT t).reverse := ⟨fun w m => (wm w m).2, by rw [List.length_reverse]; have := wds_len t; omega⟩
  have gl : LsAt h1 l (wdsT t).reverse := by unfold LsAt; rw [List.reverse_reverse]; exact g1
  have c41 : (wdsT t).reverse.count [41] < 100 := by
    rw [List.count_reverse]
    have := cnt_tok (wdsT t)
    rw [wds_flat] at this
    omega
  obtain ⟨T1, T2⟩ := taken_spec 100 _ l h1 c41 oW gl
  have nod : (∀ s k, tkP 100 (wdsT t).reverse = some (s, []) → Wst k s → k ≤ 10 → False) → Due t .non := fun H => .inr ⟨rfl, fun s e => by
    rcases Nat.lt_or_ge 10 (t.count 40) with q | q
    · exact q
    · obtain ⟨a, k, b, c⟩ := same1 e q
      exact (H s k a c b).elim⟩
  cases e2 : tkP 100 (wdsT t).reverse with
  | none =>
    obtain ⟨h2, rr, a2, o2, g2, K2⟩ := T2 e2
    obtain ⟨h3, a3, g3, K3, n3⟩ := mk_lst [] h2 (by simp)
    have q3 := (lseq (K3.get g2 (by simp) : LsAt h3 l rr) g3 o2).2
    have isy : cIs .non .non h3 = some (.bl true, h3) := rfl
    refine ⟨.non, h3, ?_, (Kp.drop K1 K2 ll).trans K3, nod fun s k e => (by rw [e2] at e; cases e)⟩
    cases q : rr.isEmpty with
    | true =>
      rw [q] at q3
      simp only [ap_law_due, b_law_due, ev_bind, ev_op, ev_k1, ev_k2, ev_C, ev_var, ev_kVar, ev_un, ev_ku, ev_chain, ev_kc1, ev_kc2, ev_kc3t, ev_kc3f, ev_tru, ev_kTrb, ev_kTri, ev_B, ev_kB, ev_and, ev_or, ev_not, ev_kAt, ev_kAf, ev_kOt, ev_kOf, ev_kN, ev_eand, ev_eor, ev_enot, ev_kEAt, ev_kEAf, ev_kEOt, ev_kEOf, ev_kEN, ev_eif, ev_kEIt, ev_kEIf, ev_anil, ev_acons, ev_ka1, ev_ka2, ev_tup, ev_lst, ev_call, ev_kCa, ev_seq, ev_kSn, ev_kSr, ev_kSb, ev_kSc, ev_nx, ev_bk, ev_ct, ev_ret, ev_kRt, ev_retN, ev_if, ev_kIt, ev_kIf, ev_x, ev_kX, ev_asg, ev_kAs, ev_kAs2, ev_gN, ev_gT, ev_gT3, ev_gIx, ev_kG1, ev_kG2, ev_kG3, ev_kFr, ev_kFn, ev_for, ev_kFo, ev_mt, ev_kMt2, ev_ms, ev_kMs1, ev_sl, ev_kSl1, ev_kSl2, ev_kSl3, ev_noPart, ev_part, ev_kPt, ev_rng1, ev_istr, ev_kIS, ev_ilst, ev_kILr, ev_lc, ev_kLc, ev_kLc2, ev_yes, ev_irev, ev_ienum, ev_izip, ev_inD, ev_getD, ev_kInD, ev_kGetD, ev_fld, ev_mth, ev_kMe2, ev_sfld, ev_kSf1, ev_make, ev_aug, ev_kAu1, ev_kAu2, ev_kAu3, List.getElem?_cons_zero, List.getElem?_cons_succ, List.set_cons_zero, List.set_cons_succ, v_addI, v_sub, v_neg, v_lt, v_le, v_gt, v_ge, v_eqI, v_neI, v_eqS, v_neS, v_neB, v_eqB, v_lenT, v_lenR, v_max, v_min, e1, a2, a3, q3, Bool.not_true, isy]
    | false =>
      rw [q] at q3
      simp only [ap_law_due, b_law_due, ev_bind, ev_op, ev_k1, ev_k2, ev_C, ev_var, ev_kVar, ev_un, ev_ku, ev_chain, ev_kc1, ev_kc2, ev_kc3t, ev_kc3f, ev_tru, ev_kTrb, ev_kTri, ev_B, ev_kB, ev_and, ev_or, ev_not, ev_kAt, ev_kAf, ev_kOt, ev_kOf, ev_kN, ev_eand, ev_eor, ev_enot, ev_kEAt, ev_kEAf, ev_kEOt, ev_kEOf, ev_kEN, ev_eif, ev_kEIt, ev_kEIf, ev_anil, ev_acons, ev_ka1, ev_ka2, ev_tup, ev_lst, ev_call, ev_kCa, ev_seq, ev_kSn, ev_kSr, ev_kSb, ev_kSc, ev_nx, ev_bk, ev_ct, ev_ret, ev_kRt, ev_retN, ev_if, ev_kIt, ev_kIf, ev_x, ev_kX, ev_asg, ev_kAs, ev_kAs2, ev_gN, ev_gT, ev_gT3, ev_gIx, ev_kG1, ev_kG2, ev_kG3, ev_kFr, ev_kFn, ev_for, ev_kFo, ev_mt, ev_kMt2, ev_ms, ev_kMs1, ev_sl, ev_kSl1, ev_kSl2, ev_kSl3, ev_noPart, ev_part, ev_kPt, ev_rng1, ev_istr, ev_kIS, ev_ilst, ev_kILr, ev_lc, ev_kLc, ev_kLc2, ev_yes, ev_irev, ev_ienum, ev_izip, ev_inD, ev_getD, ev_kInD, ev_kGetD, ev_fld, ev_mth, ev_kMe2, ev_sfld, ev_kSf1, ev_make, ev_aug, ev_kAu1, ev_kAu2, ev_kAu3, List.getElem?_cons_zero, List.getElem?_cons_succ, List.set_cons_zero, List.set_cons_succ, v_addI, v_sub, v_neg, v_lt, v_le, v_gt, v_ge, v_eqI, v_neI, v_eqS, v_neS, v_neB, v_eqB, v_lenT, v_lenR, v_max, v_min, e1, a2, a3, q3, Bool.not_false]
  | some p =>
    obtain ⟨s, r⟩ := p
    obtain ⟨h2, a2, g2, K2⟩ := T1 s r e2
    have or' : OkW r := OkW.tl (a := (tokG s).reverse) (by rw [← tk_is e2]; exact oW)
    obtain ⟨h3, a3, g3, K3, n3⟩ := mk_lst [] h2 (by simp)
    have q3 := (lseq (K3.get g2 (by simp) : LsAt h3 l r) g3 or').2
    have K03 : Kp [] h h3 := (Kp.drop K1 K2 ll).trans K3
    cases r with
    | cons x r =>
      have q3 : cNe (.loc l) (.loc h2.length) h3 = some (.bl true, h3) := q3
      refine ⟨.non, h3, ?_, K03, nod fun s k e => (by rw [e2] at e; cases e)⟩
      simp only [ap_law_due, b_law_due, ev_bind, ev_op, ev_k1, ev_k2, ev_C, ev_var, ev_kVar, ev_un, ev_ku, ev_chain, ev_kc1, ev_kc2, ev_kc3t, ev_kc3f, ev_tru, ev_kTrb, ev_kTri, ev_B, ev_kB, ev_and, ev_or, ev_not, ev_kAt, ev_kAf, ev_kOt, ev_kOf, ev_kN, ev_eand, ev_eor, ev_enot, ev_kEAt, ev_kEAf, ev_kEOt, ev_kEOf, ev_kEN, ev_eif, ev_kEIt, ev_kEIf, ev_anil, ev_acons, ev_ka1, ev_ka2, ev_tup, ev_lst, ev_call, ev_kCa, ev_seq, ev_kSn, ev_kSr, ev_kSb, ev_kSc, ev_nx, ev_bk, ev_ct, ev_ret, ev_kRt, ev_retN, ev_if, ev_kIt, ev_kIf, ev_x, ev_kX, ev_asg, ev_kAs, ev_kAs2, ev_gN, ev_gT, ev_gT3, ev_gIx, ev_kG1, ev_kG2, ev_kG3, ev_kFr, ev_kFn, ev_for, ev_kFo, ev_mt, ev_kMt2, ev_ms, ev_kMs1, ev_sl, ev_kSl1, ev_kSl2, ev_kSl3, ev_noPart, ev_part, ev_kPt, ev_rng1, ev_istr, ev_kIS, ev_ilst, ev_kILr, ev_lc, ev_kLc, ev_kLc2, ev_yes, ev_irev, ev_ienum, ev_izip, ev_inD, ev_getD, ev_kInD, ev_kGetD, ev_fld, ev_mth, ev_kMe2, ev_sfld, ev_kSf1, ev_make, ev_aug, ev_kAu1, ev_kAu2, ev_kAu3, List.getElem?_cons_zero, List.getElem?_cons_succ, List.set_cons_zero, List.set_cons_succ, v_addI, v_sub, v_neg, v_lt, v_le, v_gt, v_ge, v_eqI, v_neI, v_eqS, v_neS, v_neB, v_eqB, v_lenT, v_lenR, v_max, v_min, e1, a2, a3, q3]
    | nil =>
      have q3 : cNe (.loc l) (.loc h2.length) h3 = some (.bl false, h3) := q3
      have isn : cIs s .non h3 = some (.bl false, h3) := by
        show (isA s .non).bind _ = _
        rw [tk_kind e2]; rfl
      obtain ⟨h4, a4, K4⟩ := law_is_statement_spec 120 100 0 s h3 (by omega) (tk_ok e2 fun w m => (wm w m).1) LH.zero
      cases q : isSt s with
      | false =>
        rw [q] at a4
        refine ⟨.non, h4, ?_, K03.trans K4, nod fun s' k e w => (by
          rw [e2] at e
          cases e
          rw [wst_isSt w] at q
          cases q)⟩
        simp only [ap_law_due, b_law_due, ev_bind, ev_op, ev_k1, ev_k2, ev_C, ev_var, ev_kVar, ev_un, ev_ku, ev_chain, ev_kc1, ev_kc2, ev_kc3t, ev_kc3f, ev_tru, ev_kTrb, ev_kTri, ev_B, ev_kB, ev_and, ev_or, ev_not, ev_kAt, ev_kAf, ev_kOt, ev_kOf, ev_kN, ev_eand, ev_eor, ev_enot, ev_kEAt, ev_kEAf, ev_kEOt, ev_kEOf, ev_kEN, ev_eif, ev_kEIt, ev_kEIf, ev_anil, ev_acons, ev_ka1, ev_ka2, ev_tup, ev_lst, ev_call, ev_kCa, ev_seq, ev_kSn, ev_kSr, ev_kSb, ev_kSc, ev_nx, ev_bk, ev_ct, ev_ret, ev_kRt, ev_retN, ev_if, ev_kIt, ev_kIf, ev_x, ev_kX, ev_asg, ev_kAs, ev_kAs2, ev_gN, ev_gT, ev_gT3, ev_gIx, ev_kG1, ev_kG2, ev_kG3, ev_kFr, ev_kFn, ev_for, ev_kFo, ev_mt, ev_kMt2, ev_ms, ev_kMs1, ev_sl, ev_kSl1, ev_kSl2, ev_kSl3, ev_noPart, ev_part, ev_kPt, ev_rng1, ev_istr, ev_kIS, ev_ilst, ev_kILr, ev_lc, ev_kLc, ev_kLc2, ev_yes, ev_irev, ev_ienum, ev_izip, ev_inD, ev_getD, ev_kInD, ev_kGetD, ev_fld, ev_mth, ev_kMe2, ev_sfld, ev_kSf1, ev_make, ev_aug, ev_kAu1, ev_kAu2, ev_kAu3, List.getElem?_cons_zero, List.getElem?_cons_succ, List.set_cons_zero, List.set_cons_succ, v_addI, v_sub, v_neg, v_lt, v_le, v_gt, v_ge, v_eqI, v_neI, v_eqS, v_neS, v_neB, v_eqB, v_lenT, v_lenR, v_max, v_min, e1, a2, a3, q3, isn, a4, Bool.not_false]
      | true =>
        rw [q] at a4
        obtain ⟨k, w⟩ := isSt_wst (Nat.le_refl _) q
        have hh := tk_is e2
        rw [List.append_nil] at hh
        have hh : wdsT t = tokG s := List.reverse_inj.mp hh
        have ett : t = txL s := by rw [← wds_flat t, hh, tok_tx w]
        have hk : k < 100 := by rw [ett, tx_cnt41 w] at hc; exact hc
        obtain ⟨h5, a5, K5⟩ := tuples_spec (h := h4) w hk
        rcases Nat.lt_or_ge 10 k with k10 | k10
        · have gt : decide ((k : Int) > 10) = true := decide_eq_true (by omega)
          refine ⟨.non, h5, ?_, (K03.trans K4).trans K5, nod fun s' k' e w' => (by
            rw [e2] at e
            cases e
            have := tx_cnt w
            rw [tx_cnt w'] at this
            omega)⟩
          simp only [ap_law_due, b_law_due, ev_bind, ev_op, ev_k1, ev_k2, ev_C, ev_var, ev_kVar, ev_un, ev_ku, ev_chain, ev_kc1, ev_kc2, ev_kc3t, ev_kc3f, ev_tru, ev_kTrb, ev_kTri, ev_B, ev_kB, ev_and, ev_or, ev_not, ev_kAt, ev_kAf, ev_kOt, ev_kOf, ev_kN, ev_eand, ev_eor, ev_enot, ev_kEAt, ev_kEAf, ev_kEOt, ev_kEOf, ev_kEN, ev_eif, ev_kEIt, ev_kEIf, ev_anil, ev_acons, ev_ka1, ev_ka2, ev_tup, ev_lst, ev_call, ev_kCa, ev_seq, ev_kSn, ev_kSr, ev_kSb, ev_kSc, ev_nx, ev_bk, ev_ct, ev_ret, ev_kRt, ev_retN, ev_if, ev_kIt, ev_kIf, ev_x, ev_kX, ev_asg, ev_kAs, ev_kAs2, ev_gN, ev_gT, ev_gT3, ev_gIx, ev_kG1, ev_kG2, ev_kG3, ev_kFr, ev_kFn, ev_for, ev_kFo, ev_mt, ev_kMt2, ev_ms, ev_kMs1, ev_sl, ev_kSl1, ev_kSl2, ev_kSl3, ev_noPart, ev_part, ev_kPt, ev_rng1, ev_istr, ev_kIS, ev_ilst, ev_kILr, ev_lc, ev_kLc, ev_kLc2, ev_yes, ev_irev, ev_ienum, ev_izip, ev_inD, ev_getD, ev_kInD, ev_kGetD, ev_fld, ev_mth, ev_kMe2, ev_sfld, ev_kSf1, ev_make, ev_aug, ev_kAu1, ev_kAu2, ev_kAu3, List.getElem?_cons_zero, List.getElem?_cons_succ, List.set_cons_zero, List.set_cons_succ, v_addI, v_sub, v_neg, v_lt, v_le, v_gt, v_ge, v_eqI, v_neI, v_eqS, v_neS, v_neB, v_eqB, v_lenT, v_lenR, v_max, v_min, e1, a2, a3, q3, isn, a4, Bool.not_true, a5, gt]
        · have gt : decide ((k : Int) > 10) = false := decide_eq_false (by omega)
          obtain ⟨c1, c2⟩ := same2 e2 w k10
          refine ⟨s, h5, ?_, (K03.trans K4).trans K5, .inl ⟨k, c1, c2, k10, w⟩⟩
          simp only [ap_law_due, b_law_due, ev_bind, ev_op, ev_k1, ev_k2, ev_C, ev_var, ev_kVar, ev_un, ev_ku, ev_chain, ev_kc1, ev_kc2, ev_kc3t, ev_kc3f, ev_tru, ev_kTrb, ev_kTri, ev_B, ev_kB, ev_and, ev_or, ev_not, ev_kAt, ev_kAf, ev_kOt, ev_kOf, ev_kN, ev_eand, ev_eor, ev_enot, ev_kEAt, ev_kEAf, ev_kEOt, ev_kEOf, ev_kEN, ev_eif, ev_kEIt, ev_kEIf, ev_anil, ev_acons, ev_ka1, ev_ka2, ev_tup, ev_lst, ev_call, ev_kCa, ev_seq, ev_kSn, ev_kSr, ev_kSb, ev_kSc, ev_nx, ev_bk, ev_ct, ev_ret, ev_kRt, ev_retN, ev_if, ev_kIt, ev_kIf, ev_x, ev_kX, ev_asg, ev_kAs, ev_kAs2, ev_gN, ev_gT, ev_gT3, ev_gIx, ev_kG1, ev_kG2, ev_kG3, ev_kFr, ev_kFn, ev_for, ev_kFo, ev_mt, ev_kMt2, ev_ms, ev_kMs1, ev_sl, ev_kSl1, ev_kSl2, ev_kSl3, ev_noPart, ev_part, ev_kPt, ev_rng1, ev_istr, ev_kIS, ev_ilst, ev_kILr, ev_lc, ev_kLc, ev_kLc2, ev_yes, ev_irev, ev_ienum, ev_izip, ev_inD, ev_getD, ev_kInD, ev_kGetD, ev_fld, ev_mth, ev_kMe2, ev_sfld, ev_kSf1, ev_make, ev_aug, ev_kAu1, ev_kAu2, ev_kAu3, List.getElem?_cons_zero, List.getElem?_cons_succ, List.set_cons_zero, List.set_cons_succ, v_addI, v_sub, v_neg, v_lt, v_le, v_gt, v_ge, v_eqI, v_neI, v_eqS, v_neS, v_neB, v_eqB, v_lenT, v_lenR, v_max, v_min, e1, a2, a3, q3, isn, a4, Bool.not_true, a5, gt]
end K51
set_option Elab.async false
set_option linter.all false
set_option maxRecDepth 100000
namespace K51
open PySem L2 Ab Sh Sw Sd
set_option autoImplicit false
theorem ans_told {a0 r : A} {h h' : AHp} (e : F_read [a0] h = some (r, h')) : F_law_answer [a0] h = some (.tup [.str "told", r], h') := by
  have ex := exn ex_read e
  have tr : sTryA (sAsg (eCall F_read (aCons (eVar 0) aNil)) (gN 1)) (yE (xCall R_read (aCons (eVar 0) aNil))) hr_law_answer [some a0, none, none] h = some (.nx [some a0, some r, none], h') := by
    rw [tryA_ok (by simp only [yE, xCall, ev_bind, ev_op, ev_k1, ev_k2, ev_C, ev_var, ev_kVar, ev_un, ev_ku, ev_chain, ev_kc1, ev_kc2, ev_kc3t, ev_kc3f, ev_tru, ev_kTrb, ev_kTri, ev_B, ev_kB, ev_and, ev_or, ev_not, ev_kAt, ev_kAf, ev_kOt, ev_kOf, ev_kN, ev_eand, ev_eor, ev_enot, ev_kEAt, ev_kEAf, ev_kEOt, ev_kEOf, ev_kEN, ev_eif, ev_kEIt, ev_kEIf, ev_anil, ev_acons, ev_ka1, ev_ka2, ev_tup, ev_lst, ev_call, ev_kCa, ev_seq, ev_kSn, ev_kSr, ev_kSb, ev_kSc, ev_nx, ev_bk, ev_ct, ev_ret, ev_kRt, ev_retN, ev_if, ev_kIt, ev_kIf, ev_x, ev_kX, ev_asg, ev_kAs, ev_kAs2, ev_gN, ev_gT, ev_gT3, ev_gIx, ev_kG1, ev_kG2, ev_kG3, ev_kFr, ev_kFn, ev_for, ev_kFo, ev_mt, ev_kMt2, ev_ms, ev_kMs1, ev_sl, ev_kSl1, ev_kSl2, ev_kSl3, ev_noPart, ev_part, ev_kPt, ev_rng1, ev_istr, ev_kIS, ev_ilst, ev_kILr, ev_lc, ev_kLc, ev_kLc2, ev_yes, ev_irev, ev_ienum, ev_izip, ev_inD, ev_getD, ev_kInD, ev_kGetD, ev_fld, ev_mth, ev_kMe2, ev_sfld, ev_kSf1, ev_make, ev_aug, ev_kAu1, ev_kAu2, ev_kAu3, List.getElem?_cons_zero, List.getElem?_cons_succ, List.set_cons_zero, List.set_cons_succ, v_addI, v_sub, v_neg, v_lt, v_le, v_gt, v_ge, v_eqI, v_neI, v_eqS, v_neS, v_neB, v_eqB, v_lenT, v_lenR, v_max, v_min, ex, Option.bind_none])]
    simp only [ev_bind, ev_op, ev_k1, ev_k2, ev_C, ev_var, ev_kVar, ev_un, ev_ku, ev_chain, ev_kc1, ev_kc2, ev_kc3t, ev_kc3f, ev_tru, ev_kTrb, ev_kTri, ev_B, ev_kB, ev_and, ev_or, ev_not, ev_kAt, ev_kAf, ev_kOt, ev_kOf, ev_kN, ev_eand, ev_eor, ev_enot, ev_kEAt, ev_kEAf, ev_kEOt, ev_kEOf, ev_kEN, ev_eif, ev_kEIt, ev_kEIf, ev_anil, ev_acons, ev_ka1, ev_ka2, ev_tup, ev_lst, ev_call, ev_kCa, ev_seq, ev_kSn, ev_kSr, ev_kSb, ev_kSc, ev_nx, ev_bk, ev_ct, ev_ret, ev_kRt, ev_retN, ev_if, ev_kIt, ev_kIf, ev_x, ev_kX, ev_asg, ev_kAs, ev_kAs2, ev_gN, ev_gT, ev_gT3, ev_gIx, ev_kG1, ev_kG2, ev_kG3, ev_kFr, ev_kFn, ev_for, ev_kFo, ev_mt, ev_kMt2, ev_ms, ev_kMs1, ev_sl, ev_kSl1, ev_kSl2, ev_kSl3, ev_noPart, ev_part, ev_kPt, ev_rng1, ev_istr, ev_kIS, ev_ilst, ev_kILr, ev_lc, ev_kLc, ev_kLc2, ev_yes, ev_irev, ev_ienum, ev_izip, ev_inD, ev_getD, ev_kInD, ev_kGetD, ev_fld, ev_mth, ev_kMe2, ev_sfld, ev_kSf1, ev_make, ev_aug, ev_kAu1, ev_kAu2, ev_kAu3, List.getElem?_cons_zero, List.getElem?_cons_succ, List.set_cons_zero, List.set_cons_succ, v_addI, v_sub, v_neg, v_lt, v_le, v_gt, v_ge, v_eqI, v_neI, v_eqS, v_neS, v_neB, v_eqB, v_lenT, v_lenR, v_max, v_min, e]
  simp only [ap_law_answer, b_law_answer, ev_bind, ev_op, ev_k1, ev_k2, ev_C, ev_var, ev_kVar, ev_un, ev_ku, ev_chain, ev_kc1, ev_kc2, ev_kc3t, ev_kc3f, ev_tru, ev_kTrb, ev_kTri, ev_B, ev_kB, ev_and, ev_or, ev_not, ev_kAt, ev_kAf, ev_kOt, ev_kOf, ev_kN, ev_eand, ev_eor, ev_enot, ev_kEAt, ev_kEAf, ev_kEOt, ev_kEOf, ev_kEN, ev_eif, ev_kEIt, ev_kEIf, ev_anil, ev_acons, ev_ka1, ev_ka2, ev_tup, ev_lst, ev_call, ev_kCa, ev_seq, ev_kSn, ev_kSr, ev_kSb, ev_kSc, ev_nx, ev_bk, ev_ct, ev_ret, ev_kRt, ev_retN, ev_if, ev_kIt, ev_kIf, ev_x, ev_kX, ev_asg, ev_kAs, ev_kAs2, ev_gN, ev_gT, ev_gT3, ev_gIx, ev_kG1, ev_kG2, ev_kG3, ev_kFr, ev_kFn, ev_for, ev_kFo, ev_mt, ev_kMt2, ev_ms, ev_kMs1, ev_sl, ev_kSl1, ev_kSl2, ev_kSl3, ev_noPart, ev_part, ev_kPt, ev_rng1, ev_istr, ev_kIS, ev_ilst, ev_kILr, ev_lc, ev_kLc, ev_kLc2, ev_yes, ev_irev, ev_ienum, ev_izip, ev_inD, ev_getD, ev_kInD, ev_kGetD, ev_fld, ev_mth, ev_kMe2, ev_sfld, ev_kSf1, ev_make, ev_aug, ev_kAu1, ev_kAu2, ev_kAu3, List.getElem?_cons_zero, List.getElem?_cons_succ, List.set_cons_zero, List.set_cons_succ, v_addI, v_sub, v_neg, v_lt, v_le, v_gt, v_ge, v_eqI, v_neI, v_eqS, v_neS, v_neB, v_eqB, v_lenT, v_lenR, v_max, v_min, tr, kt2]
theorem ans_ref {a0 : A} {h h' : AHp} (e : R_read [a0] h = some (("NoText" : Str), h')) : F_law_answer [a0] h = some (.tup [.str "refused", .bl true], h') := by
  have hh : hr_law_answer "NoText" [some a0, none, none] h' = some (.tup [.str "refused", .bl true], h') := by
    unfold hr_law_answer
    rw [if_pos (by rfl)]
    simp only [sh_law_answer_NoText, ev_rtOf, ev_kRtO, ev_bind, ev_op, ev_k1, ev_k2, ev_C, ev_var, ev_kVar, ev_un, ev_ku, ev_chain, ev_kc1, ev_kc2, ev_kc3t, ev_kc3f, ev_tru, ev_kTrb, ev_kTri, ev_B, ev_kB, ev_and, ev_or, ev_not, ev_kAt, ev_kAf, ev_kOt, ev_kOf, ev_kN, ev_eand, ev_eor, ev_enot, ev_kEAt, ev_kEAf, ev_kEOt, ev_kEOf, ev_kEN, ev_eif, ev_kEIt, ev_kEIf, ev_anil, ev_acons, ev_ka1, ev_ka2, ev_tup, ev_lst, ev_call, ev_kCa, ev_seq, ev_kSn, ev_kSr, ev_kSb, ev_kSc, ev_nx, ev_bk, ev_ct, ev_ret, ev_kRt, ev_retN, ev_if, ev_kIt, ev_kIf, ev_x, ev_kX, ev_asg, ev_kAs, ev_kAs2, ev_gN, ev_gT, ev_gT3, ev_gIx, ev_kG1, ev_kG2, ev_kG3, ev_kFr, ev_kFn, ev_for, ev_kFo, ev_mt, ev_kMt2, ev_ms, ev_kMs1, ev_sl, ev_kSl1, ev_kSl2, ev_kSl3, ev_noPart, ev_part, ev_kPt, ev_rng1, ev_istr, ev_kIS, ev_ilst, ev_kILr, ev_lc, ev_kLc, ev_kLc2, ev_yes, ev_irev, ev_ienum, ev_izip, ev_inD, ev_getD, ev_kInD, ev_kGetD, ev_fld, ev_mth, ev_kMe2, ev_sfld, ev_kSf1, ev_make, ev_aug, ev_kAu1, ev_kAu2, ev_kAu3, List.getElem?_cons_zero, List.getElem?_cons_succ, List.set_cons_zero, List.set_cons_succ, v_addI, v_sub, v_neg, v_lt, v_le, v_gt, v_ge, v_eqI, v_neI, v_eqS, v_neS, v_neB, v_eqB, v_lenT, v_lenR, v_max, v_min, kt2]
  have tr : sTryA (sAsg (eCall F_read (aCons (eVar 0) aNil)) (gN 1)) (yE (xCall R_read (aCons (eVar 0) aNil))) hr_law_answer [some a0, none, none] h = some (.rt (.tup [.str "refused", .bl true]), h') :=
    tryA_raise (by simp only [yE, xCall, ev_bind, ev_op, ev_k1, ev_k2, ev_C, ev_var, ev_kVar, ev_un, ev_ku, ev_chain, ev_kc1, ev_kc2, ev_kc3t, ev_kc3f, ev_tru, ev_kTrb, ev_kTri, ev_B, ev_kB, ev_and, ev_or, ev_not, ev_kAt, ev_kAf, ev_kOt, ev_kOf, ev_kN, ev_eand, ev_eor, ev_enot, ev_kEAt, ev_kEAf, ev_kEOt, ev_kEOf, ev_kEN, ev_eif, ev_kEIt, ev_kEIf, ev_anil, ev_acons, ev_ka1, ev_ka2, ev_tup, ev_lst, ev_call, ev_kCa, ev_seq, ev_kSn, ev_kSr, ev_kSb, ev_kSc, ev_nx, ev_bk, ev_ct, ev_ret, ev_kRt, ev_retN, ev_if, ev_kIt, ev_kIf, ev_x, ev_kX, ev_asg, ev_kAs, ev_kAs2, ev_gN, ev_gT, ev_gT3, ev_gIx, ev_kG1, ev_kG2, ev_kG3, ev_kFr, ev_kFn, ev_for, ev_kFo, ev_mt, ev_kMt2, ev_ms, ev_kMs1, ev_sl, ev_kSl1, ev_kSl2, ev_kSl3, ev_noPart, ev_part, ev_kPt, ev_rng1, ev_istr, ev_kIS, ev_ilst, ev_kILr, ev_lc, ev_kLc, ev_kLc2, ev_yes, ev_irev, ev_ienum, ev_izip, ev_inD, ev_getD, ev_kInD, ev_kGetD, ev_fld, ev_mth, ev_kMe2, ev_sfld, ev_kSf1, ev_make, ev_aug, ev_kAu1, ev_kAu2, ev_kAu3, List.getElem?_cons_zero, List.getElem?_cons_succ, List.set_cons_zero, List.set_cons_succ, v_addI, v_sub, v_neg, v_lt, v_le, v_gt, v_ge, v_eqI, v_neI, v_eqS, v_neS, v_neB, v_eqB, v_lenT, v_lenR, v_max, v_min, e]) hh
  simp only [ap_law_answer, b_law_answer, ev_bind, ev_op, ev_k1, ev_k2, ev_C, ev_var, ev_kVar, ev_un, ev_ku, ev_chain, ev_kc1, ev_kc2, ev_kc3t, ev_kc3f, ev_tru, ev_kTrb, ev_kTri, ev_B, ev_kB, ev_and, ev_or, ev_not, ev_kAt, ev_kAf, ev_kOt, ev_kOf, ev_kN, ev_eand, ev_eor, ev_enot, ev_kEAt, ev_kEAf, ev_kEOt, ev_kEOf, ev_kEN, ev_eif, ev_kEIt, ev_kEIf, ev_anil, ev_acons, ev_ka1, ev_ka2, ev_tup, ev_lst, ev_call, ev_kCa, ev_seq, ev_kSn, ev_kSr, ev_kSb, ev_kSc, ev_nx, ev_bk, ev_ct, ev_ret, ev_kRt, ev_retN, ev_if, ev_kIt, ev_kIf, ev_x, ev_kX, ev_asg, ev_kAs, ev_kAs2, ev_gN, ev_gT, ev_gT3, ev_gIx, ev_kG1, ev_kG2, ev_kG3, ev_kFr, ev_kFn, ev_for, ev_kFo, ev_mt, ev_kMt2, ev_ms, ev_kMs1, ev_sl, ev_kSl1, ev_kSl2, ev_kSl3, ev_noPart, ev_part, ev_kPt, ev_rng1, ev_istr, ev_kIS, ev_ilst, ev_kILr, ev_lc, ev_kLc, ev_kLc2, ev_yes, ev_irev, ev_ienum, ev_izip, ev_inD, ev_getD, ev_kInD, ev_kGetD, ev_fld, ev_mth, ev_kMe2, ev_sfld, ev_kSf1, ev_make, ev_aug, ev_kAu1, ev_kAu2, ev_kAu3, List.getElem?_cons_zero, List.getElem?_cons_succ, List.set_cons_zero, List.set_cons_succ, v_addI, v_sub, v_neg, v_lt, v_le, v_gt, v_ge, v_eqI, v_neI, v_eqS, v_neS, v_neB, v_eqB, v_lenT, v_lenR, v_max, v_min, tr]
theorem ans_spec {z : Str} {v : A} {h : AHp} (hl : z.length ≤ 1000) (d : Due (cs z) v) : ∃ w h', F_law_answer [.str z] h = some (w, h') ∧ Kp [] h h' ∧ ((v = .non ∧ w = .tup [.str "refused", .bl true]) ∨ (w = .tup [.str "told", v] ∧ ∃ k, k ≤ 10 ∧ Wst k v)) := by
  have zl : (cs z).length ≤ 1000 := by rw [← cs_len]; exact hl
  rcases d with ⟨k, e, hc, hk, w⟩ | ⟨rfl, no⟩
  · obtain ⟨h', e1, K⟩ := read_ok (h := h) zl hc e
    rw [ofL_cs] at e1
    exact ⟨_, h', ans_told e1, K, .inr ⟨rfl, k, hk, w⟩⟩
  · rcases Nat.lt_or_ge 10 ((cs z).count 40) with q | q
    · have e1 := read_many (h := h) q
      rw [ofL_cs] at e1
      exact ⟨_, h, ans_ref e1, Kp.refl, .inl ⟨rfl, rfl⟩⟩
    · obtain ⟨h', e1, K⟩ := read_no (h := h) zl (fun s e => by have := no s e; omega)
      rw [ofL_cs] at e1
      exact ⟨_, h', ans_ref e1, K, .inl ⟨rfl, rfl⟩⟩
theorem tx_len {k : Nat} {s : A} (w : Wst k s) : (txL s).length ≤ 17 * k + 8 := by
  induction w with
  | nou => rw [txL_s]; decide +kernel
  | «let» hx => rw [txL_s, ← cs_len]; have := hx.hi; omega
  | bin hs _ _ ih1 ih2 =>
    have := (sg_len hs).1
    rw [cs_len] at this
    rw [txL_3]
    simp only [List.length_cons, List.length_append, List.length_nil]
    omega
theorem tx_okc {k : Nat} {s : A} (w : Wst k s) : ∀ c ∈ txL s, c < 1114112 := by
  have low : ∀ {u : List Nat}, u.all lowB = true → ∀ c ∈ u, c < 1114112 := fun {u} h c m => by
    have := List.all_eq_true.mp h c m
    unfold lowB at this
    simp at this
    omega
  induction w with
  | nou => rw [txL_s]; exact low nou_lowB.1
  | «let» hx => rw [txL_s]; exact low (let_lowB hx).1
  | bin hs _ _ ih1 ih2 =>
    rw [txL_3]
    intro c m
    simp only [List.mem_cons, List.mem_append, List.not_mem_nil, or_false] at m
    rcases m with m | m | m | m | m | m | m
    · omega
    · exact ih1 c m
    · omega
    · exact low (sg_lowB hs).1 c m
    · omega
    · exact ih2 c m
    · omega
theorem law_text_spec {N : List Str} (hN : ∀ x ∈ N, IsLet x) : ∀ (fuel k : Nat) (a : A) (h : AHp), k < fuel → k ≤ 100 → Stm N k a → ∃ h', F_law_text fuel [a] h = some (.str (ofL (txL a)), h') ∧ Kp [] h h' := by
  intro fuel
  induction fuel with
  | zero => intro k a h hk; omega
  | succ fuel ih =>
    intro k a h hk h100 s
    have leaf : ∀ y : Str, ∃ h', F_law_text (fuel + 1) [.str y] h = some (.str (ofL (txL (.str y))), h') ∧ Kp [] h h' := fun y => by
      have isi : bIsi [.str y, .ty "tuple"] h = some (.bl false, h) := id rfl
      exact ⟨h, by simp only [ap_law_text, b_law_text, ev_bind, ev_op, ev_k1, ev_k2, ev_C, ev_var, ev_kVar, ev_un, ev_ku, ev_chain, ev_kc1, ev_kc2, ev_kc3t, ev_kc3f, ev_tru, ev_kTrb, ev_kTri, ev_B, ev_kB, ev_and, ev_or, ev_not, ev_kAt, ev_kAf, ev_kOt, ev_kOf, ev_kN, ev_eand, ev_eor, ev_enot, ev_kEAt, ev_kEAf, ev_kEOt, ev_kEOf, ev_kEN, ev_eif, ev_kEIt, ev_kEIf, ev_anil, ev_acons, ev_ka1, ev_ka2, ev_tup, ev_lst, ev_call, ev_kCa, ev_seq, ev_kSn, ev_kSr, ev_kSb, ev_kSc, ev_nx, ev_bk, ev_ct, ev_ret, ev_kRt, ev_retN, ev_if, ev_kIt, ev_kIf, ev_x, ev_kX, ev_asg, ev_kAs, ev_kAs2, ev_gN, ev_gT, ev_gT3, ev_gIx, ev_kG1, ev_kG2, ev_kG3, ev_kFr, ev_kFn, ev_for, ev_kFo, ev_mt, ev_kMt2, ev_ms, ev_kMs1, ev_sl, ev_kSl1, ev_kSl2, ev_kSl3, ev_noPart, ev_part, ev_kPt, ev_rng1, ev_istr, ev_kIS, ev_ilst, ev_kILr, ev_lc, ev_kLc, ev_kLc2, ev_yes, ev_irev, ev_ienum, ev_izip, ev_inD, ev_getD, ev_kInD, ev_kGetD, ev_fld, ev_mth, ev_kMe2, ev_sfld, ev_kSf1, ev_make, ev_aug, ev_kAu1, ev_kAu2, ev_kAu3, List.getElem?_cons_zero, List.getElem?_cons_succ, List.set_cons_zero, List.set_cons_succ, v_addI, v_sub, v_neg, v_lt, v_le, v_gt, v_ge, v_eqI, v_neI, v_eqS, v_neS, v_neB, v_eqB, v_lenT, v_lenR, v_max, v_min, isi, Bool.not_false, txL_s, ofL_cs], Kp.refl⟩
    cases s with
    | nou => exact leaf _
    | «let» _ => exact leaf _
    | @bin sg i j a b hs sa sb =>
      have isi : bIsi [.tup [.str sg, a, b], .ty "tuple"] h = some (.bl true, h) := id rfl
      have x0 : ∀ f, xIx (.tup [.str sg, a, b]) (.int 0) f = some (.str sg, f) := fun f => v_ixT rfl
      have x1 : ∀ f, xIx (.tup [.str sg, a, b]) (.int 1) f = some (a, f) := fun f => v_ixT rfl
      have x2 : ∀ f, xIx (.tup [.str sg, a, b]) (.int 2) f = some (b, f) := fun f => v_ixT rfl
      obtain ⟨h1, e1, K1⟩ := ih i a h (by omega) (by omega) sa
      obtain ⟨h2, e2, K2⟩ := ih j b h1 (by omega) (by omega) sb
      obtain ⟨h3, a3, g3, K3, n3⟩ := mk_lst [.str (ofL (txL a)), .str sg, .str (ofL (txL b))] h2 (by simp)
      have la := tx_len (Stm.wst hN sa)
      have lb := tx_len (Stm.wst hN sb)
      rw [← ofL_len] at la lb
      have lg := (sg_len hs).1
      have jn : fJoin (.str " ") [.loc h2.length] h3 = some (.str (Txt.join " " [ofL (txL a), sg, ofL (txL b)]), h3) := v_join (ys := [ofL (txL a), sg, ofL (txL b)]) g3 (by
        have z : (" " : Str).length = 1 := by decide +kernel
        simp [z]; omega)
      have ej : Txt.join " " [ofL (txL a), sg, ofL (txL b)] = ofL (txL a) ++ " " ++ sg ++ " " ++ ofL (txL b) := rfl
      have z : ("(" : Str).length = 1 ∧ (")" : Str).length = 1 ∧ (" " : Str).length = 1 ∧ Str.empty.length = 0 := by decide +kernel
      obtain ⟨z1, z2, z3, z4⟩ := z
      rw [ej] at jn
      have ad1 : oAdd (.str "(") (.str (ofL (txL a) ++ " " ++ sg ++ " " ++ ofL (txL b))) h3 = some (.str ("(" ++ (ofL (txL a) ++ " " ++ sg ++ " " ++ ofL (txL b))), h3) := if_pos (by simp only [len_app]; omega)
      have ad2 : oAdd (.str ("(" ++ (ofL (txL a) ++ " " ++ sg ++ " " ++ ofL (txL b)))) (.str ")") h3 = some (.str ("(" ++ (ofL (txL a) ++ " " ++ sg ++ " " ++ ofL (txL b)) ++ ")"), h3) := if_pos (by simp only [len_app]; omega)
      have et : ("(" ++ (ofL (txL a) ++ " " ++ sg ++ " " ++ ofL (txL b)) ++ ")" : Str) = ofL (txL (.tup [.str sg, a, b])) := cs_ext (by
        rw [cs_ofL, txL_3]
        simp only [cs_app, cs_ofL, cs_op, cs_cl, cs_sp, List.nil_append, List.cons_append, List.append_assoc])
      refine ⟨h3, ?_, (K1.trans K2).trans K3⟩
      rw [← et]
      simp only [ap_law_text, b_law_text, ev_bind, ev_op, ev_k1, ev_k2, ev_C, ev_var, ev_kVar, ev_un, ev_ku, ev_chain, ev_kc1, ev_kc2, ev_kc3t, ev_kc3f, ev_tru, ev_kTrb, ev_kTri, ev_B, ev_kB, ev_and, ev_or, ev_not, ev_kAt, ev_kAf, ev_kOt, ev_kOf, ev_kN, ev_eand, ev_eor, ev_enot, ev_kEAt, ev_kEAf, ev_kEOt, ev_kEOf, ev_kEN, ev_eif, ev_kEIt, ev_kEIf, ev_anil, ev_acons, ev_ka1, ev_ka2, ev_tup, ev_lst, ev_call, ev_kCa, ev_seq, ev_kSn, ev_kSr, ev_kSb, ev_kSc, ev_nx, ev_bk, ev_ct, ev_ret, ev_kRt, ev_retN, ev_if, ev_kIt, ev_kIf, ev_x, ev_kX, ev_asg, ev_kAs, ev_kAs2, ev_gN, ev_gT, ev_gT3, ev_gIx, ev_kG1, ev_kG2, ev_kG3, ev_kFr, ev_kFn, ev_for, ev_kFo, ev_mt, ev_kMt2, ev_ms, ev_kMs1, ev_sl, ev_kSl1, ev_kSl2, ev_kSl3, ev_noPart, ev_part, ev_kPt, ev_rng1, ev_istr, ev_kIS, ev_ilst, ev_kILr, ev_lc, ev_kLc, ev_kLc2, ev_yes, ev_irev, ev_ienum, ev_izip, ev_inD, ev_getD, ev_kInD, ev_kGetD, ev_fld, ev_mth, ev_kMe2, ev_sfld, ev_kSf1, ev_make, ev_aug, ev_kAu1, ev_kAu2, ev_kAu3, List.getElem?_cons_zero, List.getElem?_cons_succ, List.set_cons_zero, List.set_cons_succ, v_addI, v_sub, v_neg, v_lt, v_le, v_gt, v_ge, v_eqI, v_neI, v_eqS, v_neS, v_neB, v_eqB, v_lenT, v_lenR, v_max, v_min, isi, x0, x1, x2, e1, e2, a3, jn, ad1, ad2, Bool.not_true]
theorem cut_sub (z : Str) (lo hi : Option Int) : (cs (cutS z lo hi)).Sublist (cs z) := by
  show ((List.take _ (List.drop _ z.cps.toList)).toArray).toList.Sublist z.cps.toList
  rw [List.toList_toArray]
  exact (List.take_sublist _ _).trans (List.drop_sublist _ _)
theorem cut_two (z : Str) (i : Nat) : (cs (cutS z (some (i : Int)) (some ((i + 2 : Nat) : Int)))).length ≤ 2 := by
  show ((List.take _ (List.drop _ z.cps.toList)).toArray).toList.length ≤ 2
  rw [List.toList_toArray, HT.sIx_nat, HT.sIx_nat, List.length_take]
  omega
theorem rev_mem {z : Str} : ∀ c ∈ cs (revS z), c ∈ cs z := by
  intro c hc
  have hc : c ∈ (((slicePicked z none none (some (-1, 0))).filterMap fun k => z.cps[k]?).toArray).toList := hc
  rw [List.toList_toArray, List.mem_filterMap] at hc
  obtain ⟨k, _, e⟩ := hc
  show c ∈ z.cps.toList
  rw [Array.mem_toList_iff]
  exact Array.mem_of_getElem? e
structure Spo (z y : Str) : Prop where
  len : y.length ≤ 2 * z.length + 6
  cnt : (cs y).count 41 ≤ 2 * (cs z).count 41 + 2
  ok : (∀ c ∈ cs z, c < 1114112) → ∀ c ∈ cs y, c < 1114112
theorem spo3 {z a b m : Str} (ha : (cs a).Sublist (cs z)) (hb : (cs b).Sublist (cs z)) (hm : (cs m).length ≤ 2) (hk : (∀ c ∈ cs z, c < 1114112) → ∀ c ∈ cs m, c < 1114112) : Spo z (a ++ m ++ b) := by
  have l1 := ha.length_le
  have l2 := hb.length_le
  have c1 := ha.count_le 41
  have c2 := hb.count_le 41
  have c3 : (cs m).count 41 ≤ (cs m).length := List.count_le_length
  constructor
  · rw [len_app, len_app, cs_len a, cs_len m, cs_len b, cs_len z]; omega
  · rw [cs_app, cs_app, List.count_append, List.count_append]; omega
  · intro ok c m
    rw [cs_app, cs_app, List.mem_append, List.mem_append] at m
    rcases m with (m | m) | m
    · exact ok c (ha.subset m)
    · exact hk ok c m
    · exact ok c (hb.subset m)
theorem spo2 {z a b : Str} (ha : (cs a).Sublist (cs z)) (hb : (cs b).Sublist (cs z)) : Spo z (a ++ b) := by
  have := spo3 (m := Str.empty) ha hb (by rw [cs_e]; simp) (fun _ c m => by rw [cs_e] at m; cases m)
  have e : a ++ Str.empty ++ b = a ++ b := cs_ext (by rw [cs_app, cs_app, cs_app, cs_e, List.append_nil])
  rwa [e] at this
theorem spoZ {z m : Str} (hm : (cs m).length ≤ z.length + 5) (hc : (cs m).count 41 ≤ (cs z).count 41 + 1) (hk : (∀ c ∈ cs z, c < 1114112) → ∀ c ∈ cs m, c < 1114112) : Spo z (z ++ m) := by
  constructor
  · rw [len_app, cs_len m]; omega
  · rw [cs_app, List.count_append]; omega
  · intro ok c m
    rw [cs_app, List.mem_append] at m
    rcases m with m | m
    · exact ok c m
    · exact hk ok c m
end K51
set_option Elab.async false
set_option linter.all false
set_option maxRecDepth 100000
namespace K51
open PySem L2 Ab Sh Sw Sd
set_option autoImplicit false
theorem odd_at {r : Int} (h0 : 0 ≤ r) (h1 : r < 8) : ∃ c, atI ("() aZ0,n" : Str).cps.toList r = some c ∧ c < 1114112 := by
  have e : ("() aZ0,n" : Str).cps.toList = [40, 41, 32, 97, 90, 48, 44, 110] := by decide +kernel
  rw [e]
  rcases (by omega : r = 0 ∨ r = 1 ∨ r = 2 ∨ r = 3 ∨ r = 4 ∨ r = 5 ∨ r = 6 ∨ r = 7) with rfl | rfl | rfl | rfl | rfl | rfl | rfl | rfl <;> exact ⟨_, rfl, by decide⟩
theorem tail_at {z : Str} {r : Int} (h0 : 0 ≤ r) (h1 : r < 5) : ∃ m : Str, atI [A.str "", A.str " ", A.str ")", A.str "(", A.str (" and " ++ z)] r = some (.str m) ∧ (cs m).length ≤ z.length + 5 ∧ (cs m).count 41 ≤ (cs z).count 41 + 1 ∧ ((∀ c ∈ cs z, c < 1114112) → ∀ c ∈ cs m, c < 1114112) := by
  have kE : cs "" = [] := by decide +kernel
  have kA : cs " and " = [32, 97, 110, 100, 32] := by decide +kernel
  rcases (by omega : r = 0 ∨ r = 1 ∨ r = 2 ∨ r = 3 ∨ r = 4) with rfl | rfl | rfl | rfl | rfl
  · exact ⟨_, rfl, by rw [kE]; simp, by rw [kE]; simp, fun _ c m => by rw [kE] at m; cases m⟩
  · exact ⟨_, rfl, by rw [cs_sp]; simp, by rw [cs_sp]; simp, fun _ c m => by rw [cs_sp] at m; have := mem1 m; omega⟩
  · exact ⟨_, rfl, by rw [cs_cl]; simp, by rw [cs_cl]; simp, fun _ c m => by rw [cs_cl] at m; have := mem1 m; omega⟩
  · exact ⟨_, rfl, by rw [cs_op]; simp, by rw [cs_op]; simp, fun _ c m => by rw [cs_op] at m; have := mem1 m; omega⟩
  · refine ⟨_, rfl, by rw [cs_app, kA, List.length_append, ← cs_len]; simp; omega, by rw [cs_app, kA, List.count_append]; simp, fun ok c m => ?_⟩
    rw [cs_app, kA, List.mem_append] at m
    rcases m with m | m
    · simp only [List.mem_cons, List.not_mem_nil, or_false] at m
      omega
    · exact ok c m
theorem spoilt_spec {b n : Nat} {z : Str} {h : AHp} (B : Bag h b n) (hn : n ≤ 900000) (z1 : 1 ≤ z.length) (hl : z.length ≤ 900) : ∃ y h', F_law_spoilt [.loc b, .str z] h = some (.str y, h') ∧ Spo z y ∧ Bag h' b (n + 3) ∧ Kp [b] h h' := by
  obtain ⟨r, h1, a1, r0, r1, B1, K1, _⟩ := take_spec B (by omega) (m := 5) (by omega) (by omega)
  have ln : bLen [.str z] h1 = some (.int (z.length : Nat), h1) := v_lenS (by omega)
  obtain ⟨i, h2, a2, i0, i1, B2, K2, _⟩ := take_spec B1 (by omega) (m := (z.length : Nat)) (by omega) (by omega)
  obtain ⟨i, rfl⟩ : ∃ k : Nat, i = k := ⟨i.toNat, by omega⟩
  have zl := cs_len z
  have hi : i < (cs z).length := by omega
  have K02 := K1.trans K2
  have sl : ∀ lo hi f, xSl (.str z) lo hi f = some (.str (cutS z lo hi), f) := fun lo hi f => v_slS (by omega)
  have cl : ∀ lo hi, (cutS z lo hi).length ≤ 900 := fun lo hi => by
    have := (cut_sub z lo hi).length_le
    rw [cs_len]; omega
  have ad : ∀ (x y : Str) (f : AHp), x.length ≤ 3000 → y.length ≤ 3000 → oAdd (.str x) (.str y) f = some (.str (x ++ y), f) := fun x y f p q => v_addS (by omega)
  have e10 : ((1 : Int) == 0) = false := rfl
  have e20 : ((2 : Int) == 0) = false := rfl
  have e30 : ((3 : Int) == 0) = false := rfl
  have e40 : ((4 : Int) == 0) = false := rfl
  have e21 : ((2 : Int) == 1) = false := rfl
  have e31 : ((3 : Int) == 1) = false := rfl
  have e41 : ((4 : Int) == 1) = false := rfl
  have e32 : ((3 : Int) == 2) = false := rfl
  have e42 : ((4 : Int) == 2) = false := rfl
  have e43 : ((4 : Int) == 3) = false := rfl
  have e00 : ((0 : Int) == 0) = true := rfl
  have e11 : ((1 : Int) == 1) = true := rfl
  have e22 : ((2 : Int) == 2) = true := rfl
  have e33 : ((3 : Int) == 3) = true := rfl
  rcases (by omega : r = 0 ∨ r = 1 ∨ r = 2 ∨ r = 3 ∨ r = 4) with rfl | rfl | rfl | rfl | rfl
  · refine ⟨_, h2, ?_, spo2 (cut_sub z none (some (i : Int))) (cut_sub z (some ((i : Int) + 1)) none), B2.mono (by omega), K02⟩
    have d1 := ad (cutS z none (some (i : Int))) (cutS z (some ((i : Int) + 1)) none) h2 (by have := cl none (some (i : Int)); omega) (by have := cl (some ((i : Int) + 1)) none; omega)
    simp only [ap_law_spoilt, b_law_spoilt, ev_bind, ev_op, ev_k1, ev_k2, ev_C, ev_var, ev_kVar, ev_un, ev_ku, ev_chain, ev_kc1, ev_kc2, ev_kc3t, ev_kc3f, ev_tru, ev_kTrb, ev_kTri, ev_B, ev_kB, ev_and, ev_or, ev_not, ev_kAt, ev_kAf, ev_kOt, ev_kOf, ev_kN, ev_eand, ev_eor, ev_enot, ev_kEAt, ev_kEAf, ev_kEOt, ev_kEOf, ev_kEN, ev_eif, ev_kEIt, ev_kEIf, ev_anil, ev_acons, ev_ka1, ev_ka2, ev_tup, ev_lst, ev_call, ev_kCa, ev_seq, ev_kSn, ev_kSr, ev_kSb, ev_kSc, ev_nx, ev_bk, ev_ct, ev_ret, ev_kRt, ev_retN, ev_if, ev_kIt, ev_kIf, ev_x, ev_kX, ev_asg, ev_kAs, ev_kAs2, ev_gN, ev_gT, ev_gT3, ev_gIx, ev_kG1, ev_kG2, ev_kG3, ev_kFr, ev_kFn, ev_for, ev_kFo, ev_mt, ev_kMt2, ev_ms, ev_kMs1, ev_sl, ev_kSl1, ev_kSl2, ev_kSl3, ev_noPart, ev_part, ev_kPt, ev_rng1, ev_istr, ev_kIS, ev_ilst, ev_kILr, ev_lc, ev_kLc, ev_kLc2, ev_yes, ev_irev, ev_ienum, ev_izip, ev_inD, ev_getD, ev_kInD, ev_kGetD, ev_fld, ev_mth, ev_kMe2, ev_sfld, ev_kSf1, ev_make, ev_aug, ev_kAu1, ev_kAu2, ev_kAu3, List.getElem?_cons_zero, List.getElem?_cons_succ, List.set_cons_zero, List.set_cons_succ, v_addI, v_sub, v_neg, v_lt, v_le, v_gt, v_ge, v_eqI, v_neI, v_eqS, v_neS, v_neB, v_eqB, v_lenT, v_lenR, v_max, v_min, a1, ln, a2, e00, sl, d1]
  · have ix : xIx (.str z) (.int (i : Nat)) h2 = some (.str ⟨#[(cs z)[i]]⟩, h2) := v_ixS (by omega) (atI_nat (by show (cs z)[i]? = _; exact List.getElem?_eq_getElem hi))
    refine ⟨_, h2, ?_, spo3 (m := ⟨#[(cs z)[i]]⟩) (cut_sub z none (some (i : Int))) (cut_sub z (some (i : Int)) none) (by show 1 ≤ 2; omega) (fun ok c m => ok c (by
      have m : c ∈ [(cs z)[i]] := m
      rw [mem1 m]; exact List.getElem_mem hi)), B2.mono (by omega), K02⟩
    have o1 : (⟨#[(cs z)[i]]⟩ : Str).length = 1 := rfl
    have l1 := cl none (some (i : Int))
    have l2 := cl (some (i : Int)) none
    have d1 := ad (cutS z none (some (i : Int))) ⟨#[(cs z)[i]]⟩ h2 (by omega) (by omega)
    have d2 := ad (cutS z none (some (i : Int)) ++ ⟨#[(cs z)[i]]⟩) (cutS z (some (i : Int)) none) h2 (by rw [len_app]; omega) (by omega)
    simp only [ap_law_spoilt, b_law_spoilt, ev_bind, ev_op, ev_k1, ev_k2, ev_C, ev_var, ev_kVar, ev_un, ev_ku, ev_chain, ev_kc1, ev_kc2, ev_kc3t, ev_kc3f, ev_tru, ev_kTrb, ev_kTri, ev_B, ev_kB, ev_and, ev_or, ev_not, ev_kAt, ev_kAf, ev_kOt, ev_kOf, ev_kN, ev_eand, ev_eor, ev_enot, ev_kEAt, ev_kEAf, ev_kEOt, ev_kEOf, ev_kEN, ev_eif, ev_kEIt, ev_kEIf, ev_anil, ev_acons, ev_ka1, ev_ka2, ev_tup, ev_lst, ev_call, ev_kCa, ev_seq, ev_kSn, ev_kSr, ev_kSb, ev_kSc, ev_nx, ev_bk, ev_ct, ev_ret, ev_kRt, ev_retN, ev_if, ev_kIt, ev_kIf, ev_x, ev_kX, ev_asg, ev_kAs, ev_kAs2, ev_gN, ev_gT, ev_gT3, ev_gIx, ev_kG1, ev_kG2, ev_kG3, ev_kFr, ev_kFn, ev_for, ev_kFo, ev_mt, ev_kMt2, ev_ms, ev_kMs1, ev_sl, ev_kSl1, ev_kSl2, ev_kSl3, ev_noPart, ev_part, ev_kPt, ev_rng1, ev_istr, ev_kIS, ev_ilst, ev_kILr, ev_lc, ev_kLc, ev_kLc2, ev_yes, ev_irev, ev_ienum, ev_izip, ev_inD, ev_getD, ev_kInD, ev_kGetD, ev_fld, ev_mth, ev_kMe2, ev_sfld, ev_kSf1, ev_make, ev_aug, ev_kAu1, ev_kAu2, ev_kAu3, List.getElem?_cons_zero, List.getElem?_cons_succ, List.set_cons_zero, List.set_cons_succ, v_addI, v_sub, v_neg, v_lt, v_le, v_gt, v_ge, v_eqI, v_neI, v_eqS, v_neS, v_neB, v_eqB, v_lenT, v_lenR, v_max, v_min, a1, ln, a2, e10, e11, sl, ix, d1, d2]
  · have ei : (i : Int) + 2 = ((i + 2 : Nat) : Int) := by omega
    have l1 := cl none (some (i : Int))
    have l2 := cl (some ((i + 2 : Nat) : Int)) none
    have l3 := cl (some (i : Int)) (some ((i + 2 : Nat) : Int))
    have rl := revS_len (cutS z (some (i : Int)) (some ((i + 2 : Nat) : Int)))
    have c2 := cut_two z i
    refine ⟨_, h2, ?_, spo3 (m := revS (cutS z (some (i : Int)) (some ((i + 2 : Nat) : Int)))) (cut_sub z none (some (i : Int))) (cut_sub z (some ((i + 2 : Nat) : Int)) none) (by rw [← cs_len] at c2 ⊢; omega) (fun ok c m => ok c ((cut_sub z _ _).subset (rev_mem c m))), B2.mono (by omega), K02⟩
    have rv : eRevS (eVar 4) [some (.loc b), some (.str z), some (.int 2), some (.int (i : Nat)), some (.str (cutS z (some (i : Int)) (some ((i + 2 : Nat) : Int))))] h2 = some (.str (revS (cutS z (some (i : Int)) (some ((i + 2 : Nat) : Int)))), h2) := ev_revS (by simp only [ev_bind, ev_op, ev_k1, ev_k2, ev_C, ev_var, ev_kVar, ev_un, ev_ku, ev_chain, ev_kc1, ev_kc2, ev_kc3t, ev_kc3f, ev_tru, ev_kTrb, ev_kTri, ev_B, ev_kB, ev_and, ev_or, ev_not, ev_kAt, ev_kAf, ev_kOt, ev_kOf, ev_kN, ev_eand, ev_eor, ev_enot, ev_kEAt, ev_kEAf, ev_kEOt, ev_kEOf, ev_kEN, ev_eif, ev_kEIt, ev_kEIf, ev_anil, ev_acons, ev_ka1, ev_ka2, ev_tup, ev_lst, ev_call, ev_kCa, ev_seq, ev_kSn, ev_kSr, ev_kSb, ev_kSc, ev_nx, ev_bk, ev_ct, ev_ret, ev_kRt, ev_retN, ev_if, ev_kIt, ev_kIf, ev_x, ev_kX, ev_asg, ev_kAs, ev_kAs2, ev_gN, ev_gT, ev_gT3, ev_gIx, ev_kG1, ev_kG2, ev_kG3, ev_kFr, ev_kFn, ev_for, ev_kFo, ev_mt, ev_kMt2, ev_ms, ev_kMs1, ev_sl, ev_kSl1, ev_kSl2, ev_kSl3, ev_noPart, ev_part, ev_kPt, ev_rng1, ev_istr, ev_kIS, ev_ilst, ev_kILr, ev_lc, ev_kLc, ev_kLc2, ev_yes, ev_irev, ev_ienum, ev_izip, ev_inD, ev_getD, ev_kInD, ev_kGetD, ev_fld, ev_mth, ev_kMe2, ev_sfld, ev_kSf1, ev_make, ev_aug, ev_kAu1, ev_kAu2, ev_kAu3, List.getElem?_cons_zero, List.getElem?_cons_succ, List.set_cons_zero, List.set_cons_succ, v_addI, v_sub, v_neg, v_lt, v_le, v_gt, v_ge, v_eqI, v_neI, v_eqS, v_neS, v_neB, v_eqB, v_lenT, v_lenR, v_max, v_min]) (by omega)
    have d1 := ad (cutS z none (some (i : Int))) (revS (cutS z (some (i : Int)) (some ((i + 2 : Nat) : Int)))) h2 (by omega) (by omega)
    have d2 := ad (cutS z none (some (i : Int)) ++ revS (cutS z (some (i : Int)) (some ((i + 2 : Nat) : Int)))) (cutS z (some ((i + 2 : Nat) : Int)) none) h2 (by rw [len_app]; omega) (by omega)
    simp only [ap_law_spoilt, b_law_spoilt, ev_bind, ev_op, ev_k1, ev_k2, ev_C, ev_var, ev_kVar, ev_un, ev_ku, ev_chain, ev_kc1, ev_kc2, ev_kc3t, ev_kc3f, ev_tru, ev_kTrb, ev_kTri, ev_B, ev_kB, ev_and, ev_or, ev_not, ev_kAt, ev_kAf, ev_kOt, ev_kOf, ev_kN, ev_eand, ev_eor, ev_enot, ev_kEAt, ev_kEAf, ev_kEOt, ev_kEOf, ev_kEN, ev_eif, ev_kEIt, ev_kEIf, ev_anil, ev_acons, ev_ka1, ev_ka2, ev_tup, ev_lst, ev_call, ev_kCa, ev_seq, ev_kSn, ev_kSr, ev_kSb, ev_kSc, ev_nx, ev_bk, ev_ct, ev_ret, ev_kRt, ev_retN, ev_if, ev_kIt, ev_kIf, ev_x, ev_kX, ev_asg, ev_kAs, ev_kAs2, ev_gN, ev_gT, ev_gT3, ev_gIx, ev_kG1, ev_kG2, ev_kG3, ev_kFr, ev_kFn, ev_for, ev_kFo, ev_mt, ev_kMt2, ev_ms, ev_kMs1, ev_sl, ev_kSl1, ev_kSl2, ev_kSl3, ev_noPart, ev_part, ev_kPt, ev_rng1, ev_istr, ev_kIS, ev_ilst, ev_kILr, ev_lc, ev_kLc, ev_kLc2, ev_yes, ev_irev, ev_ienum, ev_izip, ev_inD, ev_getD, ev_kInD, ev_kGetD, ev_fld, ev_mth, ev_kMe2, ev_sfld, ev_kSf1, ev_make, ev_aug, ev_kAu1, ev_kAu2, ev_kAu3, List.getElem?_cons_zero, List.getElem?_cons_succ, List.set_cons_zero, List.set_cons_succ, v_addI, v_sub, v_neg, v_lt, v_le, v_gt, v_ge, v_eqI, v_neI, v_eqS, v_neS, v_neB, v_eqB, v_lenT, v_lenR, v_max, v_min, a1, ln, a2, e20, e21, e22, ei, sl, rv, d1, d2]
  · obtain ⟨r, h3, a3, r0, r1, B3, K3, _⟩ := take_spec B2 (by omega) (m := 8) (by omega) (by omega)
    obtain ⟨c, ac, hc⟩ := odd_at r0 r1
    have ix : xIx (.str "() aZ0,n") (.int r) h3 = some (.str ⟨#[c]⟩, h3) := v_ixS (by decide +kernel) ac
    refine ⟨_, h3, ?_, spo3 (m := ⟨#[c]⟩) (cut_sub z none (some (i : Int))) (cut_sub z (some (i : Int)) none) (by show 1 ≤ 2; omega) (fun ok d m => by
      have m : d ∈ [c] := m
      rw [mem1 m]; exact hc), B3, K02.trans K3⟩
    have o1 : (⟨#[c]⟩ : Str).length = 1 := rfl
    have l1 := cl none (some (i : Int))
    have l2 := cl (some (i : Int)) none
    have d1 := ad (cutS z none (some (i : Int))) ⟨#[c]⟩ h3 (by omega) (by omega)
    have d2 := ad (cutS z none (some (i : Int)) ++ ⟨#[c]⟩) (cutS z (some (i : Int)) none) h3 (by rw [len_app]; omega) (by omega)
    simp only [ap_law_spoilt, b_law_spoilt, ev_bind, ev_op, ev_k1, ev_k2, ev_C, ev_var, ev_kVar, ev_un, ev_ku, ev_chain, ev_kc1, ev_kc2, ev_kc3t, ev_kc3f, ev_tru, ev_kTrb, ev_kTri, ev_B, ev_kB, ev_and, ev_or, ev_not, ev_kAt, ev_kAf, ev_kOt, ev_kOf, ev_kN, ev_eand, ev_eor, ev_enot, ev_kEAt, ev_kEAf, ev_kEOt, ev_kEOf, ev_kEN, ev_eif, ev_kEIt, ev_kEIf, ev_anil, ev_acons, ev_ka1, ev_ka2, ev_tup, ev_lst, ev_call, ev_kCa, ev_seq, ev_kSn, ev_kSr, ev_kSb, ev_kSc, ev_nx, ev_bk, ev_ct, ev_ret, ev_kRt, ev_retN, ev_if, ev_kIt, ev_kIf, ev_x, ev_kX, ev_asg, ev_kAs, ev_kAs2, ev_gN, ev_gT, ev_gT3, ev_gIx, ev_kG1, ev_kG2, ev_kG3, ev_kFr, ev_kFn, ev_for, ev_kFo, ev_mt, ev_kMt2, ev_ms, ev_kMs1, ev_sl, ev_kSl1, ev_kSl2, ev_kSl3, ev_noPart, ev_part, ev_kPt, ev_rng1, ev_istr, ev_kIS, ev_ilst, ev_kILr, ev_lc, ev_kLc, ev_kLc2, ev_yes, ev_irev, ev_ienum, ev_izip, ev_inD, ev_getD, ev_kInD, ev_kGetD, ev_fld, ev_mth, ev_kMe2, ev_sfld, ev_kSf1, ev_make, ev_aug, ev_kAu1, ev_kAu2, ev_kAu3, List.getElem?_cons_zero, List.getElem?_cons_succ, List.set_cons_zero, List.set_cons_succ, v_addI, v_sub, v_neg, v_lt, v_le, v_gt, v_ge, v_eqI, v_neI, v_eqS, v_neS, v_neB, v_eqB, v_lenT, v_lenR, v_max, v_min, a1, ln, a2, e30, e31, e32, e33, sl, a3, ix, d1, d2]
  · have q5 : (" and " : Str).length = 5 := by decide +kernel
    have d0 := ad " and " z h2 (by omega) (by omega)
    obtain ⟨h3, a3, g3, K3, n3⟩ := mk_lst [A.str "", A.str " ", A.str ")", A.str "(", A.str (" and " ++ z)] h2 (by simp)
    obtain ⟨r, h4, a4, r0, r1, B4, K4, _⟩ := take_spec (B2.kp K3 (by simp)) (by omega) (m := 5) (by omega) (by omega)
    obtain ⟨m, am, m1, m2, m3⟩ := tail_at (z := z) r0 r1
    have bl := B2.lt
    have ix : xIx (.loc h2.length) (.int r) h4 = some (.str m, h4) := v_ixL (K4.get g3 (by intro z; have := mem1 z; omega)) am
    have d1 := ad z m h4 (by omega) (by rw [cs_len m]; omega)
    refine ⟨_, h4, ?_, spoZ m1 m2 m3, B4, (K02.trans K3.nil).trans K4⟩
    simp only [ap_law_spoilt, b_law_spoilt, ev_bind, ev_op, ev_k1, ev_k2, ev_C, ev_var, ev_kVar, ev_un, ev_ku, ev_chain, ev_kc1, ev_kc2, ev_kc3t, ev_kc3f, ev_tru, ev_kTrb, ev_kTri, ev_B, ev_kB, ev_and, ev_or, ev_not, ev_kAt, ev_kAf, ev_kOt, ev_kOf, ev_kN, ev_eand, ev_eor, ev_enot, ev_kEAt, ev_kEAf, ev_kEOt, ev_kEOf, ev_kEN, ev_eif, ev_kEIt, ev_kEIf, ev_anil, ev_acons, ev_ka1, ev_ka2, ev_tup, ev_lst, ev_call, ev_kCa, ev_seq, ev_kSn, ev_kSr, ev_kSb, ev_kSc, ev_nx, ev_bk, ev_ct, ev_ret, ev_kRt, ev_retN, ev_if, ev_kIt, ev_kIf, ev_x, ev_kX, ev_asg, ev_kAs, ev_kAs2, ev_gN, ev_gT, ev_gT3, ev_gIx, ev_kG1, ev_kG2, ev_kG3, ev_kFr, ev_kFn, ev_for, ev_kFo, ev_mt, ev_kMt2, ev_ms, ev_kMs1, ev_sl, ev_kSl1, ev_kSl2, ev_kSl3, ev_noPart, ev_part, ev_kPt, ev_rng1, ev_istr, ev_kIS, ev_ilst, ev_kILr, ev_lc, ev_kLc, ev_kLc2, ev_yes, ev_irev, ev_ienum, ev_izip, ev_inD, ev_getD, ev_kInD, ev_kGetD, ev_fld, ev_mth, ev_kMe2, ev_sfld, ev_kSf1, ev_make, ev_aug, ev_kAu1, ev_kAu2, ev_kAu3, List.getElem?_cons_zero, List.getElem?_cons_succ, List.set_cons_zero, List.set_cons_succ, v_addI, v_sub, v_neg, v_lt, v_le, v_gt, v_ge, v_eqI, v_neI, v_eqS, v_neS, v_neB, v_eqB, v_lenT, v_lenR, v_max, v_min, a1, ln, a2, e40, e41, e42, e43, d0, a3, a4, ix, d1]
end K51
set_option Elab.async false
set_option linter.all false
set_option maxRecDepth 100000
namespace K51
open PySem L2 Ab Sh Sw Sd
set_option autoImplicit false
theorem ne_refd {h : AHp} : cNe (.tup [.str "refused", .bl true]) (.tup [.str "refused", .bl true]) h = some (.bl false, h) := by
  have d1 : dat h 60 (.tup [.str "refused", .bl true]) = some (.tuple [.str "refused", .bool true]) := rfl
  have e : eqA h (.tup [.str "refused", .bl true]) (.tup [.str "refused", .bl true]) = some true := by
    have ff : flatA (.tup [.str "refused", .bl true]) = false := rfl
    unfold eqA
    rw [ff, if_neg (by simp), if_neg (by simp), if_neg (by simp)]
    unfold eqD
    rw [d1, ev_bind, ev_bind, if_pos ⟨by decide +kernel, by decide +kernel⟩]
    decide +kernel
  exact v_neA e
theorem ne_told {k : Nat} {v : A} {h : AHp} (w : Wst k v) (hk : k ≤ 10) : cNe (.tup [.str "told", v]) (.tup [.str "told", v]) h = some (.bl false, h) := by
  obtain ⟨N, hN, st⟩ := w.stm
  have t : TrD 11 (.tup [.str "told", v]) := .tup fun x hx => by
    simp only [List.mem_cons, List.not_mem_nil, or_false] at hx
    rcases hx with rfl | rfl
    · exact .str (by decide +kernel)
    · exact (stm_tr hN st).deep (by omega)
  obtain ⟨q, e, he⟩ := eqA_tr (h := h) t t (by omega) (by omega)
  rw [v_neA e, he.mpr rfl]; rfl
theorem wst_non {k : Nat} {v : A} (w : Wst k v) : isA v .non = some false := by cases w <;> rfl
theorem pad_spec {z : Str} (hl : z.length ≤ 900) : ∃ y : Str, (∀ f : AHp, oMulT (.str " ") (.int (if (z == "") = true then 1 else 0)) f = some (.str (Txt.mul " " (if (z == "") = true then 1 else 0)), f) ∧ oAdd (.str z) (.str (Txt.mul " " (if (z == "") = true then 1 else 0))) f = some (.str y, f)) ∧ 1 ≤ y.length ∧ y.length ≤ z.length + (if z.length = 0 then 1 else 0) ∧ (cs y).count 41 = (cs z).count 41 ∧ ((∀ c ∈ cs z, c < 1114112) → ∀ c ∈ cs y, c < 1114112) := by
  have q1 : (" " : Str).length = 1 := by decide +kernel
  have kE : cs "" = [] := by decide +kernel
  have m1 : Txt.mul " " 1 = " " := by decide +kernel
  have m0 : Txt.mul " " 0 = "" := by decide +kernel
  have q0 : ("" : Str).length = 0 := by decide +kernel
  by_cases q : z = ""
  · subst q
    have b : (("" : Str) == "") = true := by decide +kernel
    rw [b, if_pos rfl, m1]
    refine ⟨"" ++ " ", fun f => ⟨by rw [v_mulT (by rw [q1]; omega), m1], v_addS (by omega)⟩, ?_, ?_, ?_, ?_⟩
    · rw [len_app, q0, q1]; omega
    · rw [len_app, q0, q1]; simp
    · rw [cs_app, kE, cs_sp]; simp
    · intro _ c m
      rw [cs_app, kE, cs_sp] at m
      have := mem1 m
      omega
  · have b : (z == "") = false := by rw [beq_eq_false_iff_ne]; exact q
    rw [b, if_neg (by simp), m0]
    have e : z ++ "" = z := cs_ext (by rw [cs_app, kE, List.append_nil])
    have zl : z.length ≠ 0 := fun z0 => q (cs_ext (by
      rw [cs_len] at z0
      rw [kE]
      exact List.length_eq_zero_iff.mp z0))
    refine ⟨z, fun f => ⟨by rw [v_mulT (by rw [q1]; omega), m0], by rw [v_addS (by omega), e]⟩, by omega, by omega, rfl, fun ok => ok⟩
theorem law_true (ns : List Int) (h63 : ns.length ≤ 63) : ∃ h, F_law [.ro (ns.map A.int)] [] = some (.bl true, h) := by
  obtain ⟨h1, e1, B1, K1, n1⟩ := bag_spec h63 (k := 0) (by omega) []
  have e1 : F_law_bag [.ro (ns.map A.int), .int 0] [] = some (.loc 0, h1) := e1
  obtain ⟨r, h2, e2, r0, r1, B2, K2, _⟩ := take_spec B1 (by omega) (m := 4) (by omega) (by omega)
  have e2 : F_law_take [.loc 0, .int 4] h1 = some (.int r, h2) := e2
  obtain ⟨l, h3, N, e3, l3, g3, N3, nd, L3, B3, K3⟩ := names_spec B2 (by omega) (m := 1 + r.toNat) (by omega) (by omega)
  have e3 : F_law_names [.loc 0, .int (1 + r)] h2 = some (.loc l, h3) := by
    rw [show (1 + r : Int) = ((1 + r.toNat : Nat) : Int) by omega]; exact e3
  obtain ⟨q, hq, eq⟩ : ∃ q : Nat, q ≤ 20 ∧ (if (if ((ns.map A.int).length : Int) - 1 < 16 then ((ns.map A.int).length : Int) - 1 else 16) > 4 then (if ((ns.map A.int).length : Int) - 1 < 16 then ((ns.map A.int).length : Int) - 1 else 16) else 4) = (q : Int) := by
    refine ⟨(if (if ((ns.map A.int).length : Int) - 1 < 16 then ((ns.map A.int).length : Int) - 1 else 16) > 4 then (if ((ns.map A.int).length : Int) - 1 < 16 then ((ns.map A.int).length : Int) - 1 else 16) else 4).toNat, ?_⟩
    split <;> split <;> omega
  have rq : ∀ h, kR1 ([.int q], h) = some (itR 0 q, h) := fun h => rngq (by omega)
  have r3 : ∀ h, kR1 ([.int 3], h) = some (itR 0 3, h) := fun h => rngq (q := 3) (by omega)
  obtain ⟨τd, hd, ed, t1, t3, t4, t5, t6, t7, t8, rfl, gd⟩ := for_range (n := q) (g := gN 3) (s := l2_law) (h := h3) (τ := [some (.ro (ns.map A.int)), some (.loc 0), some (.loc l), none, none, none, none, none, none])
    (fun i τ h => ∃ t1 t3 t4 t5 t6 t7 t8, τ = [some (.ro (ns.map A.int)), t1, some (.loc l), t3, t4, t5, t6, t7, t8] ∧ h[l]? = some (.lst (N.map A.str))) ⟨_, _, _, _, _, _, _, rfl, g3⟩ (by
      rintro i τ h hi ⟨t1, t3, t4, t5, t6, t7, t8, rfl, gl⟩
      have ei : (1 : Int) + (i : Int) = ((1 + i : Nat) : Int) := by omega
      obtain ⟨f1, a1, b1, J1, j1⟩ := bag_spec h63 (k := 1 + i) (by omega) h
      have hlt := lt_of_get gl
      have nb : l ∉ [h.length] := by intro z; have := mem1 z; omega
      obtain ⟨u, f2, a2, u0, u1, b2, J2, _⟩ := take_spec b1 (by omega) (m := 4) (by omega) (by omega)
      obtain ⟨v, f3, a3, v0, v1, b3, J3, _⟩ := take_spec b2 (by omega) (m := 11) (by omega) (by omega)
      obtain ⟨f4, a4, g4, J4, j4⟩ := mk_lst [.int u, .int v, .int 11] f3 (by simp)
      obtain ⟨w, f5, a5, w0, w1, b5, J5, _⟩ := take_spec (b3.kp J4 (by simp)) (by omega) (m := 3) (by omega) (by omega)
      have bl := b3.lt
      obtain ⟨sz, s11, ix⟩ : ∃ sz : Nat, sz ≤ 11 ∧ xIx (.loc f3.length) (.int w) f5 = some (.int (sz : Nat), f5) := by
        have g5 := J5.get g4 (by intro z; have := mem1 z; omega)
        rcases (by omega : w = 0 ∨ w = 1 ∨ w = 2) with rfl | rfl | rfl
        · exact ⟨u.toNat, by omega, by rw [show ((u.toNat : Nat) : Int) = u by omega]; exact v_ixL g5 rfl⟩
        · exact ⟨v.toNat, by omega, by rw [show ((v.toNat : Nat) : Int) = v by omega]; exact v_ixL g5 rfl⟩
        · exact ⟨11, by omega, v_ixL g5 rfl⟩
      have gl5 := J5.get (J4.get (J3.get (J2.get (J1.get gl (by simp)) nb) nb) (by simp)) nb
      obtain ⟨st, f6, a6, S6, b6, J6⟩ := stm_spec (b := h.length) (l := l) (N := N) (by omega) (by omega) 12 sz _ f5 (by omega) b5 gl5 (by omega)
      have W6 := Stm.wst L3 S6
      obtain ⟨f7, a7, J7⟩ := law_text_spec L3 20 sz st f6 (by omega) (by omega) S6
      have gl7 := J7.get (J6.get gl5 nb) (by simp)
      obtain ⟨τe, f8, ee, z8, s6, s7, s8, rfl, B8, K8, _⟩ := for_range (n := 3) (g := gN 6) (s := l1_law) (h := f7) (τ := [some (.ro (ns.map A.int)), some (.loc h.length), some (.loc l), some (.int (i : Nat)), some (.int (sz : Nat)), some (.str (ofL (txL st))), t6, t7, t8])
        (fun k τ f => ∃ z s6 s7 s8, τ = [some (.ro (ns.map A.int)), some (.loc h.length), some (.loc l), some (.int (i : Nat)), some (.int (sz : Nat)), some (.str z), s6, s7, s8] ∧ Bag f h.length (1000 + 10 * k) ∧ Kp [h.length] f7 f ∧ z.length + 6 ≤ 201 * 2 ^ k ∧ (cs z).count 41 + 2 ≤ 13 * 2 ^ k ∧ ∀ c ∈ cs z, c < 1114112) ⟨_, t6, t7, t8, rfl, (b6.kp J7 (by simp)).mono (by omega), Kp.refl, by
            have := tx_len W6
            rw [ofL_len]; simp; omega, by
            have := tx_cnt41 W6
            rw [cs_ofL, this]; simp; omega, by rw [cs_ofL]; exact tx_okc W6⟩ (by
          rintro k τ f hk ⟨z, s6, s7, s8, rfl, Bf, Kf, zl, zc, zo⟩
          have p4 : 2 ^ k ≤ 4 ∧ 1 ≤ 2 ^ k := by rcases (by omega : k = 0 ∨ k = 1 ∨ k = 2) with rfl | rfl | rfl <;> decide
          have ps : 2 ^ (k + 1) = 2 * 2 ^ k := by rw [Nat.pow_succ, Nat.mul_comm]
          rw [ps]
          generalize 2 ^ k = P at zl zc p4 ⊢
          have zl9 : z.length ≤ 900 := by omega
          obtain ⟨v, g1, c1, K1, D⟩ := due_spec (h := f) (z := z) (by omega) (by omega) zo
          obtain ⟨aw, g2, c2, K2, A2⟩ := ans_spec (h := g1) (z := z) (by omega) D
          obtain ⟨y, py, y1, yl, yc, yo⟩ := pad_spec (z := z) zl9
          have yl' : y.length + 6 ≤ 201 * P := by
            split at yl <;> omega
          obtain ⟨x, g3, c3, S3, B3, K3⟩ := spoilt_spec (z := y) ((Bf.kp K1 (by simp)).kp K2 (by simp)) (by omega) y1 (by omega)
          have pm := (py g2).1
          have pa := (py g2).2
          have bi : bInt [.bl (z == "")] g2 = some (.int (if (z == "") = true then 1 else 0), g2) := rfl
          have sl := S3.len
          have sc := S3.cnt
          have K13 : Kp [h.length] f7 g3 := ((Kf.trans K1.nil).trans K2.nil).trans K3
          rcases A2 with ⟨rfl, rfl⟩ | ⟨rfl, kk, hkk, W⟩
          · have isy : cIs .non .non g1 = some (.bl true, g1) := rfl
            refine ⟨_, f, [some (.ro (ns.map A.int)), some (.loc h.length), some (.loc l), some (.int (i : Nat)), some (.int (sz : Nat)), some (.str x), some (.int (k : Nat)), some .non, some (.tup [.str "refused", .bl true])], g3, rfl, ?_, x, _, _, _, rfl, B3.mono (by omega), K13, by omega, by omega, S3.ok (yo zo)⟩
            simp only [List.set_cons_zero, List.set_cons_succ]
            simp only [l1_law, ev_bind, ev_op, ev_k1, ev_k2, ev_C, ev_var, ev_kVar, ev_un, ev_ku, ev_chain, ev_kc1, ev_kc2, ev_kc3t, ev_kc3f, ev_tru, ev_kTrb, ev_kTri, ev_B, ev_kB, ev_and, ev_or, ev_not, ev_kAt, ev_kAf, ev_kOt, ev_kOf, ev_kN, ev_eand, ev_eor, ev_enot, ev_kEAt, ev_kEAf, ev_kEOt, ev_kEOf, ev_kEN, ev_eif, ev_kEIt, ev_kEIf, ev_anil, ev_acons, ev_ka1, ev_ka2, ev_tup, ev_lst, ev_call, ev_kCa, ev_seq, ev_kSn, ev_kSr, ev_kSb, ev_kSc, ev_nx, ev_bk, ev_ct, ev_ret, ev_kRt, ev_retN, ev_if, ev_kIt, ev_kIf, ev_x, ev_kX, ev_asg, ev_kAs, ev_kAs2, ev_gN, ev_gT, ev_gT3, ev_gIx, ev_kG1, ev_kG2, ev_kG3, ev_kFr, ev_kFn, ev_for, ev_kFo, ev_mt, ev_kMt2, ev_ms, ev_kMs1, ev_sl, ev_kSl1, ev_kSl2, ev_kSl3, ev_noPart, ev_part, ev_kPt, ev_rng1, ev_istr, ev_kIS, ev_ilst, ev_kILr, ev_lc, ev_kLc, ev_kLc2, ev_yes, ev_irev, ev_ienum, ev_izip, ev_inD, ev_getD, ev_kInD, ev_kGetD, ev_fld, ev_mth, ev_kMe2, ev_sfld, ev_kSf1, ev_make, ev_aug, ev_kAu1, ev_kAu2, ev_kAu3, List.getElem?_cons_zero, List.getElem?_cons_succ, List.set_cons_zero, List.set_cons_succ, v_addI, v_sub, v_neg, v_lt, v_le, v_gt, v_ge, v_eqI, v_neI, v_eqS, v_neS, v_neB, v_eqB, v_lenT, v_lenR, v_max, v_min, c1, kt2, isy, c2, ne_refd, bi, pm, pa, c3]
          · have isn : cIs v .non g1 = some (.bl false, g1) := by
              show (isA v .non).bind _ = _
              rw [wst_non W]; rfl
            refine ⟨_, f, [some (.ro (ns.map A.int)), some (.loc h.length), some (.loc l), some (.int (i : Nat)), some (.int (sz : Nat)), some (.str x), some (.int (k : Nat)), some v, some (.tup [.str "told", v])], g3, rfl, ?_, x, _, _, _, rfl, B3.mono (by omega), K13, by omega, by omega, S3.ok (yo zo)⟩
            simp only [List.set_cons_zero, List.set_cons_succ]
            simp only [l1_law, ev_bind, ev_op, ev_k1, ev_k2, ev_C, ev_var, ev_kVar, ev_un, ev_ku, ev_chain, ev_kc1, ev_kc2, ev_kc3t, ev_kc3f, ev_tru, ev_kTrb, ev_kTri, ev_B, ev_kB, ev_and, ev_or, ev_not, ev_kAt, ev_kAf, ev_kOt, ev_kOf, ev_kN, ev_eand, ev_eor, ev_enot, ev_kEAt, ev_kEAf, ev_kEOt, ev_kEOf, ev_kEN, ev_eif, ev_kEIt, ev_kEIf, ev_anil, ev_acons, ev_ka1, ev_ka2, ev_tup, ev_lst, ev_call, ev_kCa, ev_seq, ev_kSn, ev_kSr, ev_kSb, ev_kSc, ev_nx, ev_bk, ev_ct, ev_ret, ev_kRt, ev_retN, ev_if, ev_kIt, ev_kIf, ev_x, ev_kX, ev_asg, ev_kAs, ev_kAs2, ev_gN, ev_gT, ev_gT3, ev_gIx, ev_kG1, ev_kG2, ev_kG3, ev_kFr, ev_kFn, ev_for, ev_kFo, ev_mt, ev_kMt2, ev_ms, ev_kMs1, ev_sl, ev_kSl1, ev_kSl2, ev_kSl3, ev_noPart, ev_part, ev_kPt, ev_rng1, ev_istr, ev_kIS, ev_ilst, ev_kILr, ev_lc, ev_kLc, ev_kLc2, ev_yes, ev_irev, ev_ienum, ev_izip, ev_inD, ev_getD, ev_kInD, ev_kGetD, ev_fld, ev_mth, ev_kMe2, ev_sfld, ev_kSf1, ev_make, ev_aug, ev_kAu1, ev_kAu2, ev_kAu3, List.getElem?_cons_zero, List.getElem?_cons_succ, List.set_cons_zero, List.set_cons_succ, v_addI, v_sub, v_neg, v_lt, v_le, v_gt, v_ge, v_eqI, v_neI, v_eqS, v_neS, v_neB, v_eqB, v_lenT, v_lenR, v_max, v_min, c1, kt2, isn, c2, ne_told W hkk, bi, pm, pa, c3])
      refine ⟨_, h, [some (.ro (ns.map A.int)), some (.loc h.length), some (.loc l), some (.int (i : Nat)), some (.int (sz : Nat)), some (.str z8), s6, s7, s8], f8, rfl, ?_, _, _, _, _, _, _, _, rfl, K8.get gl7 nb⟩
      simp only [List.set_cons_zero, List.set_cons_succ]
      simp only [l2_law, ev_bind, ev_op, ev_k1, ev_k2, ev_C, ev_var, ev_kVar, ev_un, ev_ku, ev_chain, ev_kc1, ev_kc2, ev_kc3t, ev_kc3f, ev_tru, ev_kTrb, ev_kTri, ev_B, ev_kB, ev_and, ev_or, ev_not, ev_kAt, ev_kAf, ev_kOt, ev_kOf, ev_kN, ev_eand, ev_eor, ev_enot, ev_kEAt, ev_kEAf, ev_kEOt, ev_kEOf, ev_kEN, ev_eif, ev_kEIt, ev_kEIf, ev_anil, ev_acons, ev_ka1, ev_ka2, ev_tup, ev_lst, ev_call, ev_kCa, ev_seq, ev_kSn, ev_kSr, ev_kSb, ev_kSc, ev_nx, ev_bk, ev_ct, ev_ret, ev_kRt, ev_retN, ev_if, ev_kIt, ev_kIf, ev_x, ev_kX, ev_asg, ev_kAs, ev_kAs2, ev_gN, ev_gT, ev_gT3, ev_gIx, ev_kG1, ev_kG2, ev_kG3, ev_kFr, ev_kFn, ev_for, ev_kFo, ev_mt, ev_kMt2, ev_ms, ev_kMs1, ev_sl, ev_kSl1, ev_kSl2, ev_kSl3, ev_noPart, ev_part, ev_kPt, ev_rng1, ev_istr, ev_kIS, ev_ilst, ev_kILr, ev_lc, ev_kLc, ev_kLc2, ev_yes, ev_irev, ev_ienum, ev_izip, ev_inD, ev_getD, ev_kInD, ev_kGetD, ev_fld, ev_mth, ev_kMe2, ev_sfld, ev_kSf1, ev_make, ev_aug, ev_kAu1, ev_kAu2, ev_kAu3, List.getElem?_cons_zero, List.getElem?_cons_succ, List.set_cons_zero, List.set_cons_succ, v_addI, v_sub, v_neg, v_lt, v_le, v_gt, v_ge, v_eqI, v_neI, v_eqS, v_neS, v_neB, v_eqB, v_lenT, v_lenR, v_max, v_min, ei, a1, a2, a3, a4, a5, ix, a6, a7, r3, itR_n, ee])
  refine ⟨hd, ?_⟩
  simp only [ap_law, b_law, ev_bind, ev_op, ev_k1, ev_k2, ev_C, ev_var, ev_kVar, ev_un, ev_ku, ev_chain, ev_kc1, ev_kc2, ev_kc3t, ev_kc3f, ev_tru, ev_kTrb, ev_kTri, ev_B, ev_kB, ev_and, ev_or, ev_not, ev_kAt, ev_kAf, ev_kOt, ev_kOf, ev_kN, ev_eand, ev_eor, ev_enot, ev_kEAt, ev_kEAf, ev_kEOt, ev_kEOf, ev_kEN, ev_eif, ev_kEIt, ev_kEIf, ev_anil, ev_acons, ev_ka1, ev_ka2, ev_tup, ev_lst, ev_call, ev_kCa, ev_seq, ev_kSn, ev_kSr, ev_kSb, ev_kSc, ev_nx, ev_bk, ev_ct, ev_ret, ev_kRt, ev_retN, ev_if, ev_kIt, ev_kIf, ev_x, ev_kX, ev_asg, ev_kAs, ev_kAs2, ev_gN, ev_gT, ev_gT3, ev_gIx, ev_kG1, ev_kG2, ev_kG3, ev_kFr, ev_kFn, ev_for, ev_kFo, ev_mt, ev_kMt2, ev_ms, ev_kMs1, ev_sl, ev_kSl1, ev_kSl2, ev_kSl3, ev_noPart, ev_part, ev_kPt, ev_rng1, ev_istr, ev_kIS, ev_ilst, ev_kILr, ev_lc, ev_kLc, ev_kLc2, ev_yes, ev_irev, ev_ienum, ev_izip, ev_inD, ev_getD, ev_kInD, ev_kGetD, ev_fld, ev_mth, ev_kMe2, ev_sfld, ev_kSf1, ev_make, ev_aug, ev_kAu1, ev_kAu2, ev_kAu3, List.getElem?_cons_zero, List.getElem?_cons_succ, List.set_cons_zero, List.set_cons_succ, v_addI, v_sub, v_neg, v_lt, v_le, v_gt, v_ge, v_eqI, v_neI, v_eqS, v_neS, v_neB, v_eqB, v_lenT, v_lenR, v_max, v_min, e1, e2, e3, eq, rq, itR_n, ed]
end K51
set_option Elab.async false
set_option linter.all false
set_option maxRecDepth 100000
open PySem PySem.W PyProof.Rows
set_option maxRecDepth 100000 in
set_option maxHeartbeats 0 in
theorem PySem.Challenge.cw_lesssay_k51_read_holds : PySem.Challenge.rw_lesssay_k51_read.Holds := by
  w_on; o_law; k_head; (case hw => w_witness2)
  k_fill
  refine Ab.walk (l := PySem.Challenge.rw_lesssay_k51_read) (k := 123) (x := "_law_script") rfl rfl ⟨rfl, by decide, by decide, rfl⟩ (ts := []) (fun w h Y => PySem.W.kIn_of Y) (fun _ _ _ _ m => nomatch m) (fun w => by kernel_rfl) (fun w => by kernel_rfl) (fun w => by kernel_rfl) (fun w => by kernel_rfl) ?F
  case F =>
    intro w mg fa h KX G hmg
    refine' K51.all_mk K51.law_true KX G hmg ?a1 ?l1 ?c1 ?k1 ?a2 ?l2 ?c2 ?k2 ?a3 ?l3 ?c3 ?k3 ?a4 ?l4 ?c4 ?k4 ?a5 ?l5 ?c5 ?k5 ?a6 ?l6 ?c6 ?k6 ?a7 ?l7 ?c7 ?k7 ?a8 ?l8 ?c8 ?k8 ?a9 ?l9 ?c9 ?k9 ?a10 ?l10 ?c10 ?k10 ?a11 ?l11 ?c11 ?k11 ?a12 ?l12 ?c12 ?k12 ?a13 ?l13 ?c13 ?k13 ?a14 ?l14 ?c14 ?k14 ?a15 ?l15 ?c15 ?k15 ?a16 ?l16 ?c16 ?k16 ?a17 ?l17 ?c17 ?k17 ?a18 ?l18 ?c18 ?k18 ?a19 ?l19 ?c19 ?k19 ?a20 ?l20 ?c20 ?k20 ?a21 ?l21 ?c21 ?k21 ?a22 ?l22 ?c22 ?k22 ?a23 ?l23 ?c23 ?k23 ?a24 ?l24 ?c24 ?k24 ?m_NOUGHT ?m_SIGNS ?o_SIGNS ?q_SIGNS ?m_LONGEST ?m_MOST_TUPLES ?m_NoText ?x_NoText ?m_NoLetter ?m_NoName ?m_NoReason ?m_NoRule ?m_NoRung ?m_SayError ?m_TooMany ?xa_NoText ?xg_NoText ?xh_NoText ?xi_NoText ?xo_NoText ?xe_NoText ?ya_NoText_SayError ?yb_NoText_SayError ?yc_NoText_SayError ?yd_NoText_SayError ?wi0_NoText ?wi1_NoText ?wi2_NoText ?z_ValueError ?z_all ?z_int ?z_isinstance ?z_len ?z_max ?z_min ?z_range ?z_str ?z_tuple
    (case a1 => k_is)
    (case l1 => k_is)
    (case c1 => k_is)
    (case k1 => k_is)
    (case a2 => k_is)
    (case l2 => k_is)
    (case c2 => k_is)
    (case k2 => k_is)
    (case a3 => k_is)
    (case l3 => k_is)
    (case c3 => k_is)
    (case k3 => k_is)
    (case a4 => k_is)
    (case l4 => k_is)
    (case c4 => k_is)
    (case k4 => k_is)
    (case a5 => k_is)
    (case l5 => k_is)
    (case c5 => k_is)
    (case k5 => k_is)
    (case a6 => k_is)
    (case l6 => k_is)
    (case c6 => k_is)
    (case k6 => k_is)
    (case a7 => k_is)
    (case l7 => k_is)
    (case c7 => k_is)
    (case k7 => k_is)
    (case a8 => k_is)
    (case l8 => k_is)
    (case c8 => k_is)
    (case k8 => k_is)
    (case a9 => k_is)
    (case l9 => k_is)
    (case c9 => k_is)
    (case k9 => k_is)
    (case a10 => k_is)
    (case l10 => k_is)
    (case c10 => k_is)
    (case k10 => k_is)
    (case a11 => k_is)
    (case l11 => k_is)
    (case c11 => k_is)
    (case k11 => k_is)
    (case a12 => k_is)
    (case l12 => k_is)
    (case c12 => k_is)
    (case k12 => k_is)
    (case a13 => k_is)
    (case l13 => k_is)
    (case c13 => k_is)
    (case k13 => k_is)
    (case a14 => k_is)
    (case l14 => k_is)
    (case c14 => k_is)
    (case k14 => k_is)
    (case a15 => k_is)
    (case l15 => k_is)
    (case c15 => k_is)
    (case k15 => k_is)
    (case a16 => k_is)
    (case l16 => k_is)
    (case c16 => k_is)
    (case k16 => k_is)
    (case a17 => k_is)
    (case l17 => k_is)
    (case c17 => k_is)
    (case k17 => k_is)
    (case a18 => k_is)
    (case l18 => k_is)
    (case c18 => k_is)
    (case k18 => k_is)
    (case a19 => k_is)
    (case l19 => k_is)
    (case c19 => k_is)
    (case k19 => k_is)
    (case a20 => k_is)
    (case l20 => k_is)
    (case c20 => k_is)
    (case k20 => k_is)
    (case a21 => k_is)
    (case l21 => k_is)
    (case c21 => k_is)
    (case k21 => k_is)
    (case a22 => k_is)
    (case l22 => k_is)
    (case c22 => k_is)
    (case k22 => k_is)
    (case a23 => k_is)
    (case l23 => k_is)
    (case c23 => k_is)
    (case k23 => k_is)
    (case a24 => k_is)
    (case l24 => k_is)
    (case c24 => k_is)
    (case k24 => k_is)
    (case m_NOUGHT => k_is)
    (case m_SIGNS => k_is)
    (case o_SIGNS => k_is)
    (case q_SIGNS => rfl)
    (case m_LONGEST => k_is)
    (case m_MOST_TUPLES => k_is)
    (case m_NoText => k_is)
    (case x_NoText => k_exc)
    (case m_NoLetter => k_is)
    (case m_NoName => k_is)
    (case m_NoReason => k_is)
    (case m_NoRule => k_is)
    (case m_NoRung => k_is)
    (case m_SayError => k_is)
    (case m_TooMany => k_is)
    (case xa_NoText => k_is)
    (case xg_NoText => k_is)
    (case xh_NoText => k_is)
    (case xi_NoText => k_is)
    (case xo_NoText => k_is)
    (case xe_NoText => k_is)
    (case ya_NoText_SayError => k_is)
    (case yb_NoText_SayError => k_is)
    (case yc_NoText_SayError => k_is)
    (case yd_NoText_SayError => k_is)
    (case wi0_NoText => kit_is)
    (case wi1_NoText => kit_is)
    (case wi2_NoText => kit_is)
    (case z_ValueError => k_is)
    (case z_all => k_is)
    (case z_int => k_is)
    (case z_isinstance => k_is)
    (case z_len => k_is)
    (case z_max => k_is)
    (case z_min => k_is)
    (case z_range => k_is)
    (case z_str => k_is)
    (case z_tuple => k_is)
