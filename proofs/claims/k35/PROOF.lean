import PyProof.Rows.All
import Wide.All
import OpenK.AllK
import Wide.FinOn
import Lean
import PyProof.EqAt
import PyProof.EqKinds
import PyProof.TupleCall
import PyProof.ZipIter
import PyProof.ConsumeS
import PyProof.StrCalls2
import PyProof.StrWalks
import PyProof.SliceStr2
import PyProof.StrBlock
import PyProof.StrBlockL
import PyProof.ListIndex
import PyProof.StrLawsTight
import PyProof.StrLawsChain
import PyProof.StrLaws
import PyProof.StrLawsFirst
import PyProof.StationsW
import PyProof.ExcClass3
import PyProof.NsDelKeeps
import PyProof.RulesAs
import PyProof.ExcBaseAll.ValueError
import PyProof.ExcArgsOwn
import PyProof.ExcAttrAll.ValueError
import KE.KTryMore
import KE.RegKTryMore
import KE.RegKIsAll
import PyProof.Rows.Range3
import PyProof.Rows.SumGenD
import PyProof.Rows.RuleM_int
import PyProof.EnumMake
import PyProof.EnumFor
import PyProof.EnumStmt
import PyProof.Rows.EnumRows
import KE.KRevIter
import PyProof.ListNew
import PyProof.CollectIter
import PyProof.ListRange
import PyProof.CallStr
import PyProof.StrBlock2
import PyProof.Rows.StrMadeLen
import PyProof.Rows.SetFrom
import PyProof.SetRoads
import PyProof.MeetsStr2
import KE.KRevSl
import PyProof.Conv_int
import PySem.Challenge.RW_cluemaker_k35_thoughts_of_steps
set_option Elab.async false
set_option linter.all false
set_option maxRecDepth 100000
namespace L2
open PySem PySem.Spec PyProof.Rows
abbrev Key := Sum Int Str
def keyIs : Key → Value → Bool
  | .inl k, v => Value.isInt k v
  | .inr x, v => Value.isStrOf x v
def keyH (w : World) : Key → Int
  | .inl k => hashInt k
  | .inr x => hashStr w x
theorem keyIs_shape : ∀ {k : Key} {v : Value}, keyIs k v = true → (∃ i t, k = Sum.inl i ∧ v = Value.int i t) ∨ (∃ x t, k = Sum.inr x ∧ v = Value.str x t)
  | .inl i, v, h => by
    obtain ⟨t, e⟩ := Value.isInt_shape (k := i) (v := v) h
    exact .inl ⟨i, t, rfl, e⟩
  | .inr x, v, h => by
    obtain ⟨t, e⟩ := Value.isStrOf_shape (x := x) (v := v) h
    exact .inr ⟨x, t, rfl, e⟩
theorem keyIs_int (i : Int) (t : Tok) : keyIs (.inl i) (.int i t) = true := by simp [keyIs, Value.isInt]
theorem keyIs_str (x : Str) (t : Tok) : keyIs (.inr x) (.str x t) = true := by simp [keyIs, Value.isStrOf]
theorem key_ll (a b : Int) : decide ((Sum.inl a : Key) = Sum.inl b) = (a == b) := by
  by_cases e : a = b
  · subst e; simp
  · have h : ¬ (Sum.inl a : Key) = Sum.inl b := fun q => e (Sum.inl.inj q)
    rw [decide_eq_false h]
    exact (beq_eq_false_iff_ne.mpr e).symm
theorem key_rr (a b : Str) : decide ((Sum.inr a : Key) = Sum.inr b) = decide (a = b) := by
  by_cases e : a = b
  · subst e; simp
  · have h : ¬ (Sum.inr a : Key) = Sum.inr b := fun q => e (Sum.inr.inj q)
    rw [decide_eq_false h, decide_eq_false e]
theorem key_lr (a : Int) (b : Str) : decide ((Sum.inl a : Key) = Sum.inr b) = false := decide_eq_false (fun q => nomatch q)
theorem key_rl (a : Str) (b : Int) : decide ((Sum.inr a : Key) = Sum.inl b) = false := decide_eq_false (fun q => nomatch q)
def mixKind (prog : Program) (w : World) : PySem.KeyKind prog w Key where
  is := keyIs
  hash := keyH w
  inj := fun v a b ha hb => by
    rcases keyIs_shape ha with ⟨i, t, rfl, rfl⟩ | ⟨x, t, rfl, rfl⟩
    · rcases keyIs_shape hb with ⟨j, u, rfl, e⟩ | ⟨y, u, rfl, e⟩
      · injection e with e1 _; rw [e1]
      · exact nomatch e
    · rcases keyIs_shape hb with ⟨j, u, rfl, e⟩ | ⟨y, u, rfl, e⟩
      · exact nomatch e
      · injection e with e1 _; rw [e1]
  byValue := fun k v h => by
    rcases keyIs_shape h with ⟨i, t, rfl, rfl⟩ | ⟨x, t, rfl, rfl⟩ <;> rfl
  pyHash := fun hv h => by
    rcases keyIs_shape hv with ⟨i, t, rfl, rfl⟩ | ⟨x, t, rfl, rfl⟩
    · exact wpAny_pyHash_int h
    · exact wpAny_pyHash_str h
  eqBool := fun hu hv h => by
    rcases keyIs_shape hu with ⟨i, t, rfl, rfl⟩ | ⟨x, t, rfl, rfl⟩
    · rcases keyIs_shape hv with ⟨j, u, rfl, rfl⟩ | ⟨y, u, rfl, rfl⟩
      · rw [key_ll] at h; exact wpAny_eqBool_int h
      · rw [key_lr] at h; exact SeqAt.EqAt.int_str i t y u _ _ _ _ h
    · rcases keyIs_shape hv with ⟨j, u, rfl, rfl⟩ | ⟨y, u, rfl, rfl⟩
      · rw [key_rl] at h; exact SeqAt.EqAt.str_int x t j u _ _ _ _ h
      · rw [key_rr] at h; exact wpAny_eqBool_str h
  «strs» := fun k x t v h => by
    rcases keyIs_shape h with ⟨i, u, rfl, e⟩ | ⟨y, u, rfl, e⟩
    · exact nomatch e
    · injection e with e1 _
      subst e1
      cases v <;> rfl
theorem mixKind_int (prog : Program) (w : World) (i : Int) (t : Tok) : (mixKind prog w).is (.inl i) (.int i t) = true := keyIs_int i t
theorem mixKind_str (prog : Program) (w : World) (x : Str) (t : Tok) : (mixKind prog w).is (.inr x) (.str x t) = true := keyIs_str x t
end L2
namespace L2
open PySem PySem.Spec PyProof.Rows
inductive V where
  | non | bl (b : Bool) | int (i : Int) | str (x : Str) | byt (b : Array UInt8) | flt (b : UInt64) | ref (a : Addr) | ty (n : String)
  deriving DecidableEq
def RelV : V → Value → Prop
  | .non, u => u = Value.none
  | .bl b, u => u = Value.bool b
  | .int i, u => ∃ t, u = Value.int i t
  | .str x, u => ∃ t, u = Value.str x t
  | .byt b, u => ∃ t, u = Value.bytes b t
  | .flt b, u => ∃ t, u = Value.float b t
  | .ref a, u => u = Value.ref a
  | .ty n, u => u = Value.type n
abbrev Vals : List V → List Value → Prop := Paired RelV
theorem Vals.length {xs : List V} {us : List Value} (r : Vals xs us) : xs.length = us.length := Paired.length r
theorem Vals.get : ∀ {xs : List V} {us : List Value} {i : Nat} {x : V}, Vals xs us → xs[i]? = some x → ∃ u, us[i]? = some u ∧ RelV x u
  | _, _, _, _, .nil, e => by simp at e
  | _, _, 0, _, .cons r _, e => by simp at e; subst e; exact ⟨_, rfl, r⟩
  | _, _, i + 1, x, .cons _ t, e => by
    obtain ⟨u, h1, h2⟩ := Vals.get (i := i) (x := x) t (by simpa using e)
    exact ⟨u, by simpa using h1, h2⟩
theorem Vals.append : ∀ {xs ys : List V} {us ws : List Value}, Vals xs us → Vals ys ws → Vals (xs ++ ys) (us ++ ws)
  | _, _, _, _, .nil, s => s
  | _, _, _, _, .cons r t, s => .cons r (Vals.append t s)
theorem Vals.take : ∀ {xs : List V} {us : List Value} (n : Nat), Vals xs us → Vals (xs.take n) (us.take n)
  | _, _, 0, _ => .nil
  | _, _, _ + 1, .nil => .nil
  | _, _, n + 1, .cons r t => .cons r (Vals.take n t)
theorem Vals.drop : ∀ {xs : List V} {us : List Value} (n : Nat), Vals xs us → Vals (xs.drop n) (us.drop n)
  | _, _, 0, r => r
  | _, _, _ + 1, .nil => .nil
  | _, _, n + 1, .cons _ t => Vals.drop n t
def RelO : Option V → Option Value → Prop
  | some v, some u => RelV v u
  | none, none => True
  | _, _ => False
def KV {κ : Type} : List (κ × V) → List (κ × Value) → Prop := Paired fun (p : κ × V) (q : κ × Value) => p.1 = q.1 ∧ RelV p.2 q.2
def kV : Key → V
  | .inl i => .int i
  | .inr x => .str x
inductive HO where
    | lst (xs : List V)
    | tup (xs : List V)
    | dK (kvs : List (Key × V)) | dT (kvs : List (List Key × V))
    | set (S : Int → Bool) (n : Nat)
    | ins (C dx : Addr) (fs : List (Str × V))
    | own (x : Addr)
    | xd (fs : List (Str × V))
    | met (f x : Addr)
    | rng (lo hi : Int)
    | frz (o : Obj) (u : HO)
    | tbl (ps : Array Value)
    | ext (φ : Heap → Prop)
abbrev Hp := Addr → Option HO
def upd (H : Hp) (a : Addr) (o : HO) : Hp := fun b => if b = a then some o else H b
theorem upd_same {H : Hp} {a : Addr} {o : HO} : upd H a o a = some o := by unfold upd; rw [if_pos rfl]
theorem upd_ne {H : Hp} {a b : Addr} {o : HO} (h : b ≠ a) : upd H a o b = H b := by unfold upd; rw [if_neg h]
theorem ne_of_none {H : Hp} {a b : Addr} {o : HO} (h : H a = some o) (h' : H b = none) : a ≠ b := by
  intro e; subst e; rw [h] at h'; cases h'
section
variable (P : Program) (w : World)
def ObjOk (H : Hp) (h : Heap) (a : Addr) : HO → Prop
  | .lst xs => xs.length ≤ sizeLine ∧ ∃ (its : List Value) (n : Nat), Vals xs its ∧ h.get? a = some { cls := .type "list", data := .seq its.toArray n }
  | .tup xs => xs.length ≤ sizeLine ∧ ∃ its : List Value, Vals xs its ∧ IsTup h a its.toArray
  | .dK kvs => kvs.length ≤ sizeLine ∧ (a == sysModules) = false ∧ ∃ vs, KV kvs vs ∧ h.DictOf (mixKind P w) a vs
  | .dT kvs => kvs.length ≤ sizeLine ∧ (a == sysModules) = false ∧ ∃ xs : List (List Key × Addr × Value),
      Paired (fun (p : List Key × V) (q : List Key × Addr × Value) => p.1 = q.1 ∧ H q.2.1 = some (.tup (p.1.map kV)) ∧ RelV p.2 q.2.2) kvs xs ∧
      ∃ o es ep, h.get? a = some o ∧ o.ExactDict ∧ o.data = .dict es ep ∧ es.toList = xs.map (entryOfKey (tupleKind (mixKind P w))) ∧ (xs.map (·.1)).Nodup
  | .set S n => h.SetOf (intKind P w) a S n
  | .ins C dx fs => H dx = some (.own a) ∧ fs.length ≤ 1000 ∧ dx ≠ a ∧ h.get? a = some (PySem.W.instObj C dx) ∧
      ∃ mA, h.Ns1 dx mA ∧ (∀ f, RelO (fs.lookup f) (mA f)) ∧ PySem.Within mA (fs.map (·.1))
  | .own _ => ∃ o, h.get? a = some o
  | .xd fs => ∃ mA, h.Ns1 a mA ∧ ∀ f, RelO (fs.lookup f) (mA f)
  | .rng lo hi => ∃ t u v, h.get? a = some { cls := .type "range", data := .fields #[.int lo t, .int hi u, .int 1 v] }
  | .frz o u => h.get? a = some o ∧ ObjOk H h a u
  | .tbl ps => h.get? a = some { cls := .none, data := .fields ps }
  | .met f x => h.get? a = some (PySem.W.methodObj (.ref f) (.ref x))
  | .ext φ => φ h ∧ (∃ o, h.get? a = some o) ∧ ∀ h1 h2 : Heap, φ h1 → (∀ o, h1.get? a = some o → h2.get? a = some o) → φ h2
def HOk (H : Hp) (h : Heap) : Prop := ∀ a o, H a = some o → ObjOk P w H h a o
end
section
variable {P : Program} {w : World} {H H' : Hp} {h h' : Heap} {a : Addr} {o : HO}
theorem ObjOk.lt (x : ObjOk P w H h a o) : a < h.objs.size := by
  cases o with
  | lst xs => obtain ⟨_, _, _, _, e⟩ := x; exact Heap.lt_size e
  | tup xs => obtain ⟨_, _, _, p⟩ := x; exact p.lt
  | dK kvs => obtain ⟨_, _, _, _, o, _, _, e, _⟩ := x; exact Heap.lt_size e
  | dT kvs => obtain ⟨_, _, _, _, o, _, _, e, _⟩ := x; exact Heap.lt_size e
  | set S n => obtain ⟨o, _, _, _, e, _⟩ := x; exact Heap.lt_size e
  | ins C dx fs => obtain ⟨_, _, _, e, _⟩ := x; exact Heap.lt_size e
  | own y => obtain ⟨_, e⟩ := x; exact Heap.lt_size e
  | xd fs => obtain ⟨_, ⟨_, _, _, e, _⟩, _⟩ := x; exact Heap.lt_size e
  | rng lo hi => obtain ⟨_, _, _, e⟩ := x; exact Heap.lt_size e
  | frz ob u => obtain ⟨e, _⟩ := x; exact Heap.lt_size e
  | tbl ps => exact Heap.lt_size (show h.get? a = some _ from x)
  | met f y => exact Heap.lt_size (show h.get? a = some _ from x)
  | ext φ => obtain ⟨_, ⟨_, e⟩, _⟩ := x; exact Heap.lt_size e
theorem Paired.mapP {α β : Type} {F G : α → β → Prop} : ∀ {l₁ : List α} {l₂ : List β}, Paired F l₁ l₂ → (∀ a b, F a b → G a b) → Paired G l₁ l₂
  | _, _, .nil, _ => .nil
  | _, _, .cons r t, f => .cons (f _ _ r) (Paired.mapP t f)
theorem ObjOk.stay (x : ObjOk P w H h a o) (k : ∀ b u, (b = a ∨ H b = some (.own a)) → h.get? b = some u → h'.get? b = some u)
    (ho : ∀ b, H b = some (.own a) → H' b = some (.own a)) (ht : ∀ b xs, H b = some (.tup xs) → H' b = some (.tup xs)) : ObjOk P w H' h' a o := by
  induction o with
  | lst xs => obtain ⟨z, its, n, r, e⟩ := x; exact ⟨z, its, n, r, k _ _ (.inl rfl) e⟩
  | tup xs => obtain ⟨z, its, r, ob, e, c⟩ := x; exact ⟨z, its, r, ob, k _ _ (.inl rfl) e, c⟩
  | dK kvs => obtain ⟨z, y, vs, r, ob, es, ep, e, c⟩ := x; exact ⟨z, y, vs, r, ob, es, ep, k _ _ (.inl rfl) e, c⟩
  | dT kvs =>
    obtain ⟨z, y, xs, r, ob, es, ep, e, c⟩ := x
    exact ⟨z, y, xs, Paired.mapP r fun p q z => ⟨z.1, ht _ _ z.2.1, z.2.2⟩, ob, es, ep, k _ _ (.inl rfl) e, c⟩
  | set S n => obtain ⟨ob, es, ep, t, e, c⟩ := x; exact ⟨ob, es, ep, t, k _ _ (.inl rfl) e, c⟩
  | ins C dx fs =>
    obtain ⟨d, z, ne, e, mA, ⟨od, es, ep, e2, c⟩, r⟩ := x
    exact ⟨ho _ d, z, ne, k _ _ (.inl rfl) e, mA, ⟨od, es, ep, k _ _ (.inr d) e2, c⟩, r⟩
  | own y => obtain ⟨ob, e⟩ := x; exact ⟨ob, k _ _ (.inl rfl) e⟩
  | xd fs => obtain ⟨mA, ⟨od, es, ep, e, c⟩, r⟩ := x; exact ⟨mA, ⟨od, es, ep, k _ _ (.inl rfl) e, c⟩, r⟩
  | rng lo hi => obtain ⟨t, u, v, e⟩ := x; exact ⟨t, u, v, k _ _ (.inl rfl) e⟩
  | frz ob u ih => obtain ⟨e, q⟩ := x; exact ⟨k _ _ (.inl rfl) e, ih q⟩
  | tbl ps =>
    have e : h.get? a = some { cls := .none, data := .fields ps } := x
    show h'.get? a = some { cls := .none, data := .fields ps }
    exact k a _ (.inl rfl) e
  | met f y =>
    have e : h.get? a = some (PySem.W.methodObj (.ref f) (.ref y)) := x
    show h'.get? a = some (PySem.W.methodObj (.ref f) (.ref y))
    exact k a _ (.inl rfl) e
  | ext φ => obtain ⟨p, ⟨o, e⟩, st⟩ := x; exact ⟨st _ _ p fun o q => k _ _ (.inl rfl) q, ⟨o, k _ _ (.inl rfl) e⟩, st⟩
theorem HOk.lt (x : HOk P w H h) (e : H a = some o) : a < h.objs.size := (x a o e).lt
theorem HOk.fresh (x : HOk P w H h) (e : h.objs.size ≤ a) : H a = none := by
  cases q : H a with
  | none => rfl
  | some u => exact absurd (Nat.lt_of_lt_of_le (x.lt q) e) (Nat.lt_irrefl _)
theorem HOk.kept (x : HOk P w H h) (k : ∀ b u, h.get? b = some u → h'.get? b = some u) : HOk P w H h' := fun a o e =>
  (x a o e).stay (fun b u _ q => k b u q) (fun _ q => q) fun _ _ q => q
theorem HOk.laid (x : HOk P w H h) (k : ∀ b u, h.get? b = some u → h'.get? b = some u) (hp : h.objs.size ≤ a) (new : ObjOk P w (upd H a o) h' a o) : HOk P w (upd H a o) h' := fun b u e => by
  have hn := x.fresh hp
  by_cases hb : b = a
  · subst hb; rw [upd_same] at e; cases e; exact new
  · rw [upd_ne hb] at e
    exact (x b u e).stay (fun c v _ q => k c v q) (fun c q => by rw [upd_ne (ne_of_none q hn)]; exact q) fun c xs q => by rw [upd_ne (ne_of_none q hn)]; exact q
end
def Rd (H : Hp) (a : Addr) (u : HO) : Prop := H a = some u ∨ ∃ o, H a = some (.frz o u)
theorem Rd.ok {P : Program} {w : World} {H : Hp} {h : Heap} {a : Addr} {u : HO} (r : Rd H a u) (x : HOk P w H h) : ObjOk P w H h a u := by
  rcases r with r | ⟨o, r⟩
  · exact x a u r
  · obtain ⟨_, q⟩ := x a _ r
    exact q
def Mut : Option HO → Prop
  | some (.lst _) => True
  | some (.dK _) => True
  | some (.dT _) => True
  | some (.set _ _) => True
  | some (.ins _ _ _) => True
  | some (.ext _) => True
  | _ => False
section
variable {P : Program} {w : World} {H : Hp} {h h' : Heap} {x e : Addr} {o' : HO}
theorem HOk.write (ok : HOk P w H h) (mu : Mut (H x)) (he : e = x ∨ H e = some (.own x)) (k : ∀ b u, b ≠ e → h.get? b = some u → h'.get? b = some u) (heo : ∃ u, h'.get? e = some u)
    (new : ObjOk P w (upd H x o') h' x o') : HOk P w (upd H x o') h' := fun b u q => by
  have nown : ∀ c y, H c = some (.own y) → c ≠ x := fun c y r z => by subst z; rw [r] at mu; exact mu
  have ntup : ∀ c xs, H c = some (.tup xs) → c ≠ x := fun c xs r z => by subst z; rw [r] at mu; exact mu
  by_cases hb : b = x
  · subst hb; rw [upd_same] at q; cases q; exact new
  · rw [upd_ne hb] at q
    by_cases hbe : b = e
    · have q' : H b = some (.own x) := by
        rcases he with z | z
        · exact absurd (hbe.trans z) hb
        · rw [hbe]; exact z
      rw [q] at q'; cases q'
      obtain ⟨v, hv⟩ := heo
      exact ⟨v, by rw [hbe]; exact hv⟩
    · refine (ok b u q).stay (fun c v hc r => k c v ?_ r) (fun c r => by rw [upd_ne (nown c b r)]; exact r) fun c xs r => by rw [upd_ne (ntup c xs r)]; exact r
      rcases hc with rfl | hc
      · exact hbe
      · rintro rfl
        rcases he with z | z
        · exact nown c b hc z
        · rw [hc] at z; cases z; exact hb rfl
end
structure Un (fs ex : List Addr) (H H' : Hp) (h h' : Heap) : Prop where
  keep : ∀ b o, h.get? b = some o → H b = none → b ∉ fs → b ∉ ex → h'.get? b = some o
  slot : ∀ b o, h.get? b = some o → H b = none → b ∈ fs → b ∉ ex → ∃ sl, h'.get? b = some { o with slots := sl }
  free : ∀ b o, h.get? b = some o → H b = none → b ∉ ex → H' b = none
  there : ∀ b o, h.get? b = some o → b ∉ ex → ∃ o', h'.get? b = some o'
  tups : ∀ b xs, H b = some (.tup xs) → H' b = some (.tup xs)
  frzs : ∀ b o u, H b = some (.frz o u) → H' b = some (.frz o u)
  tbls : ∀ b ps, H b = some (.tbl ps) → ∃ more, H' b = some (.tbl (ps ++ more))
section
variable {fs fs' ex ex' : List Addr} {H H1 H2 : Hp} {h h1 h2 h' : Heap} {a x e : Addr} {o : HO}
theorem Un.any (u : Un fs ex H H1 h h1) {b : Addr} {ob : Obj} (q : h.get? b = some ob) (n : H b = none) (hx : b ∉ ex) : ∃ sl, h1.get? b = some { ob with slots := sl } := by
  by_cases hb : b ∈ fs
  · exact u.slot b ob q n hb hx
  · exact ⟨ob.slots, u.keep b ob q n hb hx⟩
theorem Un.kept (k : ∀ b u, h.get? b = some u → h'.get? b = some u) : Un fs ex H H h h' :=
  ⟨fun b ob q _ _ _ => k b ob q, fun b ob q _ _ _ => ⟨ob.slots, k b ob q⟩, fun _ _ _ n _ => n, fun b ob q _ => ⟨ob, k b ob q⟩, fun _ _ q => q, fun _ _ _ q => q, fun _ ps q => ⟨#[], by rw [q]; simp⟩⟩
theorem Un.refl : Un fs ex H H h h := Un.kept fun _ _ q => q
theorem Un.laid (k : ∀ b u, h.get? b = some u → h'.get? b = some u) (hp : h.objs.size ≤ a) (hn : H a = none) : Un fs ex H (upd H a o) h h' where
  keep := fun b u q _ _ _ => k b u q
  slot := fun b u q _ _ _ => ⟨u.slots, k b u q⟩
  free := fun b u q n _ => by rw [upd_ne (Nat.ne_of_lt (Nat.lt_of_lt_of_le (Heap.lt_size q) hp))]; exact n
  there := fun b u q _ => ⟨u, k b u q⟩
  tups := fun b xs q => by rw [upd_ne (ne_of_none q hn)]; exact q
  frzs := fun b u xs q => by rw [upd_ne (ne_of_none q hn)]; exact q
  tbls := fun b ps q => ⟨#[], by rw [upd_ne (ne_of_none q hn), q]; simp⟩
theorem Un.write (mu : Mut (H x)) (he : e = x ∨ H e = some (.own x)) (k : ∀ b u, b ≠ e → h.get? b = some u → h'.get? b = some u) (heo : ∃ u, h'.get? e = some u) : Un fs ex H (upd H x o) h h' := by
  have hx : ∀ b, H b = none → b ≠ x := fun b n z => by subst z; rw [n] at mu; exact mu
  have hb : ∀ b, H b = none → b ≠ e := fun b n z => by
    subst z
    rcases he with r | r
    · exact hx b n r
    · rw [n] at r; cases r
  have hm : ∀ b u, H b = some u → ¬ Mut (some u) → b ≠ x := fun b u q nm z => by subst z; rw [q] at mu; exact nm mu
  refine ⟨fun b u q n _ _ => k b u (hb b n) q, fun b u q n _ _ => ⟨u.slots, k b u (hb b n) q⟩, fun b u q n _ => by rw [upd_ne (hx b n)]; exact n, fun b u q _ => ?_,
    fun b xs q => by rw [upd_ne (hm b _ q fun z => z)]; exact q, fun b u xs q => by rw [upd_ne (hm b _ q fun z => z)]; exact q, fun b ps q => ⟨#[], by rw [upd_ne (hm b _ q fun z => z), q]; simp⟩⟩
  by_cases hbe : b = e
  · subst hbe; exact heo
  · exact ⟨u, k b u hbe q⟩
end
def trk (h : Heap) (H : Hp) : List Addr := (List.range h.objs.size).filter fun a => (H a).isSome
def hidT (h : Heap) (H : Hp) : Heap := PySem.W.hideAll h (trk h H)
theorem hidT_size (h : Heap) (H : Hp) : (hidT h H).objs.size = h.objs.size := PySem.W.hideAll_size _ _
theorem hidT_get {h : Heap} {H : Hp} {b : Addr} {o : Obj} (e : h.get? b = some o) (n : H b = none) : (hidT h H).get? b = some o :=
  PySem.W.hideAll_get _ e fun hm => by
    have q : (H b).isSome = true := (List.mem_filter.mp hm).2
    rw [n] at q; simp at q
theorem of_hidT {h : Heap} {H : Hp} {b : Addr} {o : Obj} (e : (hidT h H).get? b = some o) : h.get? b = some o ∧ H b = none := by
  have e' : h.get? b = some o := PySem.W.of_hideAll (trk h H) e
  refine ⟨e', ?_⟩
  cases q : H b with
  | none => rfl
  | some x =>
    have hm : b ∈ trk h H := List.mem_filter.mpr ⟨List.mem_range.mpr (Heap.lt_size e'), by simp [q]⟩
    have z : (hidT h H).get? b = none := PySem.W.hideAll_none (trk h H) hm
    rw [z] at e; cases e
end L2
namespace L2
open PySem PySem.Spec PyProof.Rows
structure Mod (K : PySem.W.Frag) (mg : Str → Option Value) (base : Heap) : Prop where
  kin : K.In base
  glob : base.Ns mainGlobals mg
  blt : ∃ mb, base.Ns builtinsNs mb ∧ ∀ x : Str, x ≠ "__name__" → mb x = bootBuiltins x
  nolimit : base.NoLimit
structure Cx where
  prog : Program
  w : World
  K : PySem.W.Frag
  mg : Str → Option Value
  base : Heap
  A : Around
  N : List Str
  s₀ : Shared
  H₀ : Hp
  env : Env
  outer : List Env
  stack : List Env
  ex : List Addr
  fn : Str → Bool
  calm : Bool
  pn : List (Addr × Obj)
  xe : Value → Shared → Prop
def frs (l : List Env) : List Addr := l.filterMap (·.frame)
abbrev Cx.fs (X : Cx) : List Addr := frs X.outer
def Vis (sc : Scope) (x : Str) : Prop := sc.names.lookup x = some .local ∨ sc.names.lookup x = some .cell ∨ sc.names.lookup x = some .free
def Loc (sc : Scope) (x : Str) : Prop := sc.names.lookup x = some .local ∨ sc.names.lookup x = some .cell
def Look (env : Env) (h : Heap) (m : Str → Option Value) (x : Str) (u : Value) : Prop :=
  (env.kindOf x = some .local ∧ m x = some u) ∨ ((env.kindOf x = some .cell ∨ env.kindOf x = some .free) ∧ ∃ c, env.cells.lookup x = some c ∧ h.IsCell c (some u))
structure Cx.Ok (X : Cx) : Prop where
  mod : Mod X.K X.mg X.base
  kind : X.env.scope.kind = .function
  glob : X.env.globals = mainGlobals
  blt : X.env.builtins = builtinsNs
  above : X.s₀.heap.objs.size ≤ X.env.locals
  inj : ∀ x y c, X.env.cells.lookup x = some c → X.env.cells.lookup y = some c → x = y
  has : ∀ x, (X.env.kindOf x = some .cell ∨ X.env.kindOf x = some .free) → ∃ c, X.env.cells.lookup x = some c
  cab : ∀ x c, X.fn x = true → X.env.cells.lookup x = some c → X.s₀.heap.objs.size ≤ c
  hd : X.calm = true → X.A.handled = none
  frames : X.A.frames = some X.stack
  stk : X.stack = X.outer ∨ (X.stack = X.env :: X.outer ∧ X.env.frame = some X.env.locals)
  exf : ∀ b ∈ X.ex, b ≠ X.env.locals ∧ ∀ x c, X.env.cells.lookup x = some c → c ≠ b
  bs : ∀ b o, X.base.get? b = some o → X.s₀.heap.get? b = some o ∧ X.H₀ b = none
  bsz : X.base.objs.size ≤ X.s₀.heap.objs.size
  noex : ∀ b o, X.base.get? b = some o → b ∉ X.ex
  exfs : ∀ b ∈ X.ex, b ∉ X.fs
  funs : X.s₀.heap.FunFrames X.base X.outer
  frf : ∀ b ∈ X.fs, X.H₀ b = none
structure Inv (X : Cx) (pins : List (Addr × Obj)) (σ : List (Option V)) (H : Hp) (s : Shared) : Prop where
  ok : X.Ok
  os : s.os = X.s₀.os
  bare : AllBare s.gens
  base : Un X.fs X.ex X.H₀ H X.s₀.heap s.heap
  loc : ∃ m, s.heap.Ns X.env.locals m ∧ ∀ (i : Nat) (x : Str) (v : V), X.N[i]? = some x → σ[i]? = some (some v) → Vis X.env.scope x → ∃ u, RelV v u ∧ Look X.env s.heap m x u
  cell : ∀ x c, X.env.cells.lookup x = some c → ∃ v, s.heap.IsCell c v
  free : H X.env.locals = none
  freeC : ∀ x c, X.env.cells.lookup x = some c → H c = none
  pin : ∀ p ∈ X.pn ++ pins, s.heap.get? p.1 = some p.2 ∧ H p.1 = none ∧ p.1 ≠ X.env.locals ∧ p.1 ∉ X.fs ∧ ∀ v, p.2.data ≠ .cell v
  hok : HOk X.prog X.w H s.heap
  len : σ.length = X.N.length
section
variable {X : Cx} {pins : List (Addr × Obj)} {σ : List (Option V)} {H H' : Hp} {s : Shared} {h' : Heap}
theorem Cx.Ok.nofr (ok : X.Ok) {b : Addr} {o : Obj} (e : X.base.get? b = some o) : b ∉ X.fs := fun hb => by
  have := (ok.funs.mem hb).1
  rw [e] at this; cases this
theorem Inv.bs (I : Inv X pins σ H s) : ∀ b o, X.base.get? b = some o → s.heap.get? b = some o ∧ H b = none := fun b o e =>
  ⟨I.base.keep b o (I.ok.bs b o e).1 (I.ok.bs b o e).2 (I.ok.nofr e) (I.ok.noex b o e), I.base.free b o (I.ok.bs b o e).1 (I.ok.bs b o e).2 (I.ok.noex b o e)⟩
theorem Inv.bk (I : Inv X pins σ H s) : ∀ b o, X.base.get? b = some o → s.heap.get? b = some o := fun b o e => (I.bs b o e).1
theorem Inv.mod (I : Inv X pins σ H s) : Mod X.K X.mg X.base := I.ok.mod
theorem Inv.kIn (I : Inv X pins σ H s) : X.K.In s.heap := I.ok.mod.kin.keeps I.bk
theorem Inv.lt (I : Inv X pins σ H s) : X.env.locals < s.heap.objs.size := let ⟨_, hn, _⟩ := I.loc; hn.lt
theorem Inv.sz (I : Inv X pins σ H s) : X.s₀.heap.objs.size ≤ s.heap.objs.size := Nat.le_trans I.ok.above (Nat.le_of_lt I.lt)
theorem Inv.nofs (I : Inv X pins σ H s) {a : Addr} (h : s.heap.objs.size ≤ a) : a ∉ X.fs := fun hb => by
  obtain ⟨_, o, ho, _⟩ := I.ok.funs.mem hb
  exact absurd (Nat.lt_of_lt_of_le (Heap.lt_size ho) (Nat.le_trans I.sz h)) (Nat.lt_irrefl _)
theorem Inv.cne (I : Inv X pins σ H s) : ∀ x c, X.env.cells.lookup x = some c → c ≠ X.env.locals := fun x c e z => by
  obtain ⟨v, o, ho, hd⟩ := I.cell x c e
  obtain ⟨m, ⟨o', es, ep, ho', hd', _⟩, _⟩ := I.loc
  rw [z, ho'] at ho; cases ho; rw [hd'] at hd; cases hd
theorem Inv.funs (I : Inv X pins σ H s) : s.heap.FunFrames X.base X.outer := by
  have all : ∀ (l : List Env), (∀ b ∈ frs l, b ∈ X.fs) → X.s₀.heap.FunFrames X.base l → s.heap.FunFrames X.base l := by
    intro l
    induction l with
    | nil => intro _ _; trivial
    | cons env r ih =>
      intro hs hl
      obtain ⟨hk, ⟨L, o, hf, hn, ho, hd⟩, hr⟩ := hl
      have hL : L ∈ X.fs := hs L (by unfold frs; rw [List.filterMap_cons, hf]; exact List.mem_cons_self)
      obtain ⟨sl, e⟩ := I.base.slot L o ho (I.ok.frf L hL) hL fun z => I.ok.exfs L z hL
      exact ⟨hk, ⟨L, _, hf, hn, e, hd⟩, ih (fun b hb => hs b (by unfold frs; rw [List.filterMap_cons, hf]; exact List.mem_cons_of_mem _ hb)) hr⟩
  exact all X.outer (fun _ hb => hb) I.ok.funs
theorem Inv.stack (I : Inv X pins σ H s) : s.heap.FunFrames X.base X.stack := by
  rcases I.ok.stk with e | ⟨e, hf⟩
  · rw [e]; exact I.funs
  · rw [e]
    obtain ⟨m, hn, _⟩ := I.loc
    refine .cons (by rw [I.ok.kind]; decide) hf hn ?_ I.funs
    exact Heap.get?_none_of_le (Nat.le_trans I.ok.bsz I.ok.above)
theorem Inv.stkSub (I : Inv X pins σ H s) : ∀ b ∈ frs X.stack, b ∈ X.env.locals :: X.fs := fun b hb => by
  rcases I.ok.stk with e | ⟨e, hf⟩
  · rw [e] at hb; exact List.mem_cons_of_mem _ hb
  · rw [e] at hb
    unfold frs at hb
    rw [List.filterMap_cons, hf] at hb
    exact hb
theorem Inv.stkFree (I : Inv X pins σ H s) : ∀ b ∈ frs X.stack, H b = none := fun b hb => by
  rcases List.mem_cons.mp (I.stkSub b hb) with e | hb
  · rw [e]; exact I.free
  · obtain ⟨_, o, ho, _⟩ := I.ok.funs.mem hb
    exact I.base.free b o ho (I.ok.frf b hb) fun z => I.ok.exfs b z hb
theorem Inv.step {g' : Array GenState} {t' : Nat} {d' : Drawn} {ch : List Addr} (I : Inv X pins σ H s)
    (hch : ∀ b ∈ ch, (b ∈ X.ex ∨ X.s₀.heap.objs.size ≤ b) ∧ b ≠ X.env.locals ∧ (∀ x c, X.env.cells.lookup x = some c → c ≠ b) ∧ ∀ p ∈ X.pn ++ pins, p.1 ≠ b)
    (keep : ∀ b o, b ≠ X.env.locals → b ∉ X.fs → b ∉ ch → s.heap.get? b = some o → H b = none → h'.get? b = some o)
    (slot : ∀ b o, b ≠ X.env.locals → b ∈ X.fs → b ∉ ch → s.heap.get? b = some o → H b = none → ∃ sl, h'.get? b = some { o with slots := sl }) (free : ∀ b o, b ∉ ch → s.heap.get? b = some o → H b = none → H' b = none)
    (there : ∀ b o, b ∉ ch → s.heap.get? b = some o → ∃ o', h'.get? b = some o')
    (tups : ∀ b xs, H b = some (.tup xs) → H' b = some (.tup xs)) (frzs : ∀ b o u, H b = some (.frz o u) → H' b = some (.frz o u)) (tbls : ∀ b ps, H b = some (.tbl ps) → ∃ more, H' b = some (.tbl (ps ++ more)))
    (ns : ∀ m, s.heap.Ns X.env.locals m → h'.Ns X.env.locals m) (hok : HOk X.prog X.w H' h') (hg : AllBare g') :
    Inv X pins σ H' { s with heap := h', gens := g', drawn := d', toks := t' } := by
  have neL : ∀ b o, X.s₀.heap.get? b = some o → b ≠ X.env.locals := fun b o e => Nat.ne_of_lt (Nat.lt_of_lt_of_le (Heap.lt_size e) I.ok.above)
  have neC : ∀ b o, X.s₀.heap.get? b = some o → b ∉ X.ex → b ∉ ch := fun b o e hx hb => by
    rcases (hch b hb).1 with z | z
    · exact hx z
    · exact absurd (Nat.lt_of_lt_of_le (Heap.lt_size e) z) (Nat.lt_irrefl _)
  have cellK : ∀ x c, X.env.cells.lookup x = some c → ∀ v, s.heap.IsCell c v → h'.IsCell c v := fun x c e v ⟨o, ho, hd⟩ => by
    have nch : c ∉ ch := fun z => (hch c z).2.2.1 x c e rfl
    by_cases hc : c ∈ X.fs
    · obtain ⟨sl, q⟩ := slot c o (I.cne x c e) hc nch ho (I.freeC x c e)
      exact ⟨_, q, hd⟩
    · exact ⟨o, keep c o (I.cne x c e) hc nch ho (I.freeC x c e), hd⟩
  refine ⟨I.ok, I.os, hg, ⟨fun b o e n hb hx => ?_, fun b o e n hb hx => ?_, fun b o e n hx => ?_, fun b o e hx => ?_, fun b xs e => tups b xs (I.base.tups b xs e), fun b o xs e => frzs b o xs (I.base.frzs b o xs e), fun b ps e => ?_⟩, ?_, fun x c e => ?_, ?_, fun x c e => ?_, fun p hp => ?_, hok, I.len⟩
  · exact keep b o (neL b o e) hb (neC b o e hx) (I.base.keep b o e n hb hx) (I.base.free b o e n hx)
  · obtain ⟨sl, e1⟩ := I.base.slot b o e n hb hx
    obtain ⟨sl', e2⟩ := slot b _ (neL b o e) hb (neC b o e hx) e1 (I.base.free b o e n hx)
    exact ⟨sl', e2⟩
  · obtain ⟨o', e1⟩ := I.base.there b o e hx
    exact free b o' (neC b o e hx) e1 (I.base.free b o e n hx)
  · obtain ⟨o', e1⟩ := I.base.there b o e hx
    exact there b o' (neC b o e hx) e1
  · obtain ⟨m1, e1⟩ := I.base.tbls b ps e
    obtain ⟨m2, e2⟩ := tbls b _ e1
    exact ⟨m1 ++ m2, by rw [e2, Array.append_assoc]⟩
  · obtain ⟨m, hn, hl⟩ := I.loc
    refine ⟨m, ns m hn, fun i x v e1 e2 e3 => ?_⟩
    obtain ⟨u, r, l⟩ := hl i x v e1 e2 e3
    refine ⟨u, r, ?_⟩
    rcases l with l | ⟨k, c, e, z⟩
    · exact .inl l
    · exact .inr ⟨k, c, e, cellK x c e _ z⟩
  · obtain ⟨v, z⟩ := I.cell x c e
    exact ⟨v, cellK x c e v z⟩
  · obtain ⟨m, ⟨o, _, _, ho, _⟩, _⟩ := I.loc
    exact free _ o (fun z => (hch _ z).2.1 rfl) ho I.free
  · obtain ⟨v, o, ho, hd⟩ := I.cell x c e
    exact free c o (fun z => (hch c z).2.2.1 x c e rfl) ho (I.freeC x c e)
  · obtain ⟨e, n, ne, nf, d⟩ := I.pin p hp
    have nch : p.1 ∉ ch := fun z => (hch p.1 z).2.2.2 p hp rfl
    exact ⟨keep p.1 p.2 ne nf nch e n, free p.1 p.2 nch e n, ne, nf, d⟩
theorem Inv.un {t' : Nat} (I : Inv X pins σ H s) (u : Un X.fs [] H H' s.heap h') (hok : HOk X.prog X.w H' h') : Inv X pins σ H' { s with heap := h', toks := t' } := by
  obtain ⟨m, ⟨o, es, ep, ho, r⟩, _⟩ := id I.loc
  obtain ⟨sl, hL⟩ := u.any ho I.free (by simp)
  exact I.step (g' := s.gens) (d' := s.drawn) (ch := []) (fun _ z => nomatch z) (fun b o _ hb _ e n => u.keep b o e n hb (by simp)) (fun b o _ hb _ e n => u.slot b o e n hb (by simp)) (fun b o _ e n => u.free b o e n (by simp)) (fun b o _ e => u.there b o e (by simp)) u.tups u.frzs u.tbls (fun m' hm => by
    obtain ⟨o', es', ep', ho', r'⟩ := hm
    rw [ho] at ho'; cases ho'
    exact ⟨_, es', ep', hL, r'⟩) hok I.bare
theorem Inv.call {g' : Array GenState} {t' : Nat} {d' : Drawn} {ch : List Addr} (I : Inv X pins σ H s) (u : Un (frs X.stack) ch H H' s.heap h') (hok : HOk X.prog X.w H' h') (hg : AllBare g')
    (hch : ∀ b ∈ ch, (b ∈ X.ex ∨ X.s₀.heap.objs.size ≤ b) ∧ b ≠ X.env.locals ∧ (∀ x c, X.env.cells.lookup x = some c → c ≠ b) ∧ ∀ p ∈ X.pn ++ pins, p.1 ≠ b) :
    Inv X pins σ H' { s with heap := h', gens := g', drawn := d', toks := t' } := by
  obtain ⟨m, ⟨o, es, ep, ho, r⟩, _⟩ := id I.loc
  obtain ⟨sl, hL⟩ := u.any ho I.free fun z => (hch _ z).2.1 rfl
  exact I.step (ch := ch) hch (fun b o hL hb hc e n => u.keep b o e n (fun z => (List.mem_cons.mp (I.stkSub b z)).elim hL hb) hc) (fun b o _ _ hc e n => u.any e n hc) (fun b o hc e n => u.free b o e n hc) (fun b o hc e => u.there b o e hc) u.tups u.frzs u.tbls (fun m' hm => by
    obtain ⟨o', es', ep', ho', r'⟩ := hm
    rw [ho] at ho'; cases ho'
    exact ⟨_, es', ep', hL, r'⟩) hok hg
theorem Inv.turned {t' : Nat} {it : Addr} (I : Inv X pins σ H s) (k : ∀ b o, b ≠ it → s.heap.get? b = some o → h'.get? b = some o) (hn : H it = none) (hL : it ≠ X.env.locals)
    (h1 : it ∈ X.ex ∨ X.s₀.heap.objs.size ≤ it) (h2 : ∀ x c, X.env.cells.lookup x = some c → c ≠ it) (h3 : ∀ p ∈ X.pn ++ pins, p.1 ≠ it) : Inv X pins σ H { s with heap := h', toks := t' } := by
  have nit : ∀ b u, H b = some u → b ≠ it := fun b u e z => by rw [z, hn] at e; cases e
  refine I.step (g' := s.gens) (d' := s.drawn) (ch := [it]) (fun b hb => ?_) (fun b o _ _ hc e _ => k b o (fun z => hc (by simp [z])) e) (fun b o _ _ hc e _ => ⟨o.slots, k b o (fun z => hc (by simp [z])) e⟩) (fun _ _ _ _ n => n)
    (fun b o hc e => ⟨o, k b o (fun z => hc (by simp [z])) e⟩) (fun _ _ e => e) (fun _ _ _ e => e) (fun b ps e => ⟨#[], by rw [e]; simp⟩) (fun m hm => ?_) (fun b u e => ?_) I.bare
  · have e : b = it := by simpa using hb
    subst e
    exact ⟨h1, hL, h2, h3⟩
  · obtain ⟨o, es, ep, ho, r⟩ := hm
    exact ⟨o, es, ep, k _ o (Ne.symm hL) ho, r⟩
  · refine (I.hok b u e).stay (fun c v hc q => k c v ?_ q) (fun _ q => q) fun _ _ q => q
    rcases hc with z | z
    · rw [z]; exact nit b u e
    · exact nit c _ z
theorem Inv.tok (I : Inv X pins σ H s) (t : Nat) : Inv X pins σ H { s with toks := t } := I.un (h' := s.heap) (t' := t) Un.refl I.hok
theorem Inv.kept {t' : Nat} (I : Inv X pins σ H s) (k : ∀ b u, s.heap.get? b = some u → h'.get? b = some u) : Inv X pins σ H { s with heap := h', toks := t' } := I.un (Un.kept k) (I.hok.kept k)
theorem Inv.laid {a : Addr} {o : HO} {t' : Nat} (I : Inv X pins σ H s) (k : ∀ b u, s.heap.get? b = some u → h'.get? b = some u) (hp : s.heap.objs.size ≤ a) (new : ObjOk X.prog X.w (upd H a o) h' a o) :
    Inv X pins σ (upd H a o) { s with heap := h', toks := t' } := I.un (Un.laid k hp (I.hok.fresh hp)) (I.hok.laid k hp new)
theorem Inv.write {x e : Addr} {o : HO} {t' : Nat} (I : Inv X pins σ H s) (mu : Mut (H x)) (he : e = x ∨ H e = some (.own x)) (k : ∀ b u, b ≠ e → s.heap.get? b = some u → h'.get? b = some u) (heo : ∃ u, h'.get? e = some u)
    (new : ObjOk X.prog X.w (upd H x o) h' x o) : Inv X pins σ (upd H x o) { s with heap := h', toks := t' } := I.un (Un.write mu he k heo) (I.hok.write mu he k heo new)
theorem Inv.pins_of {pins' : List (Addr × Obj)} (I : Inv X pins σ H s) (h : ∀ p ∈ pins', s.heap.get? p.1 = some p.2 ∧ H p.1 = none ∧ p.1 ≠ X.env.locals ∧ p.1 ∉ X.fs ∧ ∀ v, p.2.data ≠ .cell v) : Inv X pins' σ H s :=
  ⟨I.ok, I.os, I.bare, I.base, I.loc, I.cell, I.free, I.freeC, fun p hp => (List.mem_append.mp hp).elim (fun z => I.pin p (List.mem_append_left _ z)) (h p), I.hok, I.len⟩
theorem nodup_ix {N : List Str} (hN : N.Nodup) {i j : Nat} {x : Str} (a : N[i]? = some x) (b : N[j]? = some x) : i = j := by
  obtain ⟨h1, e1⟩ := List.getElem?_eq_some_iff.mp a
  obtain ⟨h2, e2⟩ := List.getElem?_eq_some_iff.mp b
  exact (List.getElem_inj hN).mp (e1.trans e2.symm)
theorem store_ok2 {M : Model} {A : Around} {E : Value → Shared → Prop} {i : Nat} {x : Str} {v : V} {u : Value} {Q : Unit → Shared → Prop} (I : Inv X pins σ H s) (hN : X.N.Nodup) (hi : X.N[i]? = some x) (hx : Loc X.env.scope x) (r : RelV v u)
    (h : ∀ s', Inv X pins (σ.set i (some v)) H s' → (∃ a, Heap.SameBut a s.heap s'.heap ∧ (a = X.env.locals ∨ X.env.cells.lookup x = some a)) → Q () s') (hf : X.fn x = true ∨ X.env.scope.names.lookup x = some .local := by first | exact .inl rfl | exact .inr rfl | assumption) : wpAny M A (storeName X.env x u) Q E s := by
  obtain ⟨m, hn, hl⟩ := id I.loc
  have hcls : (X.env.scope.kind == .class || (X.env.scope.kind == .module && X.env.locals != X.env.globals)) = false := by rw [I.ok.kind]; rfl
  have hiσ : i < σ.length := by rw [I.len]; exact (List.getElem?_eq_some_iff.mp hi).1
  have cne := I.cne
  have tracked : ∀ {a : Addr} {h' : Heap}, (∃ o, s.heap.get? a = some o ∧ H a = none) → Heap.SameBut a s.heap h' → HOk X.prog X.w H h' := fun {a h'} ha hs b ob e => by
    obtain ⟨_, _, hfree⟩ := ha
    refine (I.hok b ob e).stay (fun c w' hc q => (hs.2 c ?_).trans q) (fun _ q => q) fun _ _ q => q
    rintro rfl
    rcases hc with rfl | hc
    · rw [hfree] at e; cases e
    · rw [hfree] at hc; cases hc
  rcases hx with hk | hk
  · refine wpAny_storeName_local hk hn (fun h' hn' hs => ?_) hcls
    obtain ⟨oL, _, _, hoL, _⟩ := id hn
    refine h _ ⟨I.ok, I.os, I.bare, ⟨fun b o e n hb hx => ?_, fun b o e n hb hx => ?_, I.base.free, fun b o e hx => ?_, I.base.tups, I.base.frzs, I.base.tbls⟩, ⟨_, hn', fun j y v' e1 e2 e3 => ?_⟩, fun y c e => ?_, I.free, I.freeC, fun p hp => ?_, tracked ⟨oL, hoL, I.free⟩ hs, by simpa using I.len⟩ ⟨_, hs, .inl rfl⟩
    · exact (hs.2 b (Nat.ne_of_lt (Nat.lt_of_lt_of_le (Heap.lt_size e) I.ok.above))).trans (I.base.keep b o e n hb hx)
    · obtain ⟨sl, e1⟩ := I.base.slot b o e n hb hx
      exact ⟨sl, (hs.2 b (Nat.ne_of_lt (Nat.lt_of_lt_of_le (Heap.lt_size e) I.ok.above))).trans e1⟩
    · obtain ⟨o', e1⟩ := I.base.there b o e hx
      exact ⟨o', (hs.2 b (Nat.ne_of_lt (Nat.lt_of_lt_of_le (Heap.lt_size e) I.ok.above))).trans e1⟩
    · by_cases hj : j = i
      · subst hj
        rw [hi] at e1; cases e1
        rw [List.getElem?_set_self hiσ] at e2
        cases e2
        exact ⟨u, r, .inl ⟨hk, by simp⟩⟩
      · rw [List.getElem?_set_ne (Ne.symm hj)] at e2
        obtain ⟨u', r', q⟩ := hl j y v' e1 e2 e3
        refine ⟨u', r', ?_⟩
        rcases q with ⟨k, e⟩ | ⟨k, c, e, z⟩
        · refine .inl ⟨k, ?_⟩
          have : y ≠ x := fun e => hj (nodup_ix hN e1 (e ▸ hi))
          simp [this, e]
        · exact .inr ⟨k, c, e, z.sameBut hs (cne y c e)⟩
    · obtain ⟨w', z⟩ := I.cell y c e
      exact ⟨w', z.sameBut hs (cne y c e)⟩
    · obtain ⟨e, n, ne, nf, d⟩ := I.pin p hp
      exact ⟨(hs.2 p.1 ne).trans e, n, ne, nf, d⟩
  · have hfn : X.fn x = true := by
      rcases hf with z | z
      · exact z
      · rw [z] at hk; cases hk
    obtain ⟨c, hc⟩ := I.ok.has x (.inl hk)
    obtain ⟨w', z⟩ := I.cell x c hc
    refine wpAny_storeName_cell I.ok.kind hk hc z (fun h' hc' hs => ?_)
    obtain ⟨oc, hoc, hocd⟩ := id z
    refine h { s with heap := h' } ⟨I.ok, I.os, I.bare, ⟨fun b o e n hb hx => ?_, fun b o e n hb hx => ?_, I.base.free, fun b o e hx => ?_, I.base.tups, I.base.frzs, I.base.tbls⟩, ⟨m, hn.sameBut hs (Ne.symm (cne x c hc)), fun j y v' e1 e2 e3 => ?_⟩, fun y c' e => ?_, I.free, I.freeC, fun p hp => ?_, tracked ⟨oc, hoc, I.freeC x c hc⟩ hs, by simpa using I.len⟩ ⟨c, hs, .inr hc⟩
    · exact (hs.2 b (Nat.ne_of_lt (Nat.lt_of_lt_of_le (Heap.lt_size e) (I.ok.cab x c hfn hc)))).trans (I.base.keep b o e n hb hx)
    · obtain ⟨sl, e1⟩ := I.base.slot b o e n hb hx
      exact ⟨sl, (hs.2 b (Nat.ne_of_lt (Nat.lt_of_lt_of_le (Heap.lt_size e) (I.ok.cab x c hfn hc)))).trans e1⟩
    · obtain ⟨o', e1⟩ := I.base.there b o e hx
      exact ⟨o', (hs.2 b (Nat.ne_of_lt (Nat.lt_of_lt_of_le (Heap.lt_size e) (I.ok.cab x c hfn hc)))).trans e1⟩
    · by_cases hj : j = i
      · subst hj
        rw [hi] at e1; cases e1
        rw [List.getElem?_set_self hiσ] at e2
        cases e2
        exact ⟨u, r, .inr ⟨.inl hk, c, hc, hc'⟩⟩
      · rw [List.getElem?_set_ne (Ne.symm hj)] at e2
        obtain ⟨u', r', q⟩ := hl j y v' e1 e2 e3
        refine ⟨u', r', ?_⟩
        rcases q with q | ⟨k, c', e, z'⟩
        · exact .inl q
        · refine .inr ⟨k, c', e, z'.sameBut hs ?_⟩
          rintro rfl
          exact hj (nodup_ix hN e1 (I.ok.inj _ _ _ e hc ▸ hi))
    · by_cases hcc : c' = c
      · subst hcc; exact ⟨_, hc'⟩
      · obtain ⟨w2, z2⟩ := I.cell y c' e
        exact ⟨w2, z2.sameBut hs hcc⟩
    · obtain ⟨e, n, ne, nf, d⟩ := I.pin p hp
      refine ⟨(hs.2 p.1 ?_).trans e, n, ne, nf, d⟩
      intro q
      rw [q, hoc] at e
      have q' : oc = p.2 := Option.some.inj e
      exact d w' (by rw [← q']; exact hocd)
theorem store_ok {M : Model} {A : Around} {E : Value → Shared → Prop} {i : Nat} {x : Str} {v : V} {u : Value} {Q : Unit → Shared → Prop} (I : Inv X pins σ H s) (hN : X.N.Nodup) (hi : X.N[i]? = some x) (hx : Loc X.env.scope x) (r : RelV v u)
    (h : ∀ s', Inv X pins (σ.set i (some v)) H s' → Q () s') (hf : X.fn x = true ∨ X.env.scope.names.lookup x = some .local := by first | exact .inl rfl | exact .inr rfl | assumption) : wpAny M A (storeName X.env x u) Q E s :=
  store_ok2 I hN hi hx r (fun s' I' _ => h s' I') hf
theorem Inv.call' {s' : Shared} {ch : List Addr} (I : Inv X pins σ H s) (ho : s'.os = s.os) (u : Un (frs X.stack) ch H H' s.heap s'.heap) (hok : HOk X.prog X.w H' s'.heap) (hg : AllBare s'.gens)
    (hch : ∀ b ∈ ch, (b ∈ X.ex ∨ X.s₀.heap.objs.size ≤ b) ∧ b ≠ X.env.locals ∧ (∀ x c, X.env.cells.lookup x = some c → c ≠ b) ∧ ∀ p ∈ X.pn ++ pins, p.1 ≠ b) : Inv X pins σ H' s' := by
  obtain ⟨h', g', d', t', o'⟩ := s'
  have e : o' = s.os := ho
  subst e
  exact I.call (g' := g') (t' := t') (d' := d') u hok hg hch
end
abbrev XK := Value → Option Addr → Hp → Prop
abbrev St := List (Option V)
abbrev VK := V → Hp → Prop
abbrev TE := St → Hp → VK → Prop
abbrev TT := St → Hp → (Bool → Hp → Prop) → Prop
abbrev TA := St → Hp → (List V → Hp → Prop) → Prop
structure Ends where
  nx : St → Hp → Prop
  rt : VK
  bk : St → Hp → Prop := fun _ _ => False
  ct : St → Hp → Prop := fun _ _ => False
abbrev TS := Ends → St → Hp → Prop
def EP (X : Cx) (pins : List (Addr × Obj)) (σ : St) (Q : VK) (u : Value) (s' : Shared) : Prop := ∃ v H', Inv X pins σ H' s' ∧ RelV v u ∧ Q v H'
def TP (X : Cx) (pins : List (Addr × Obj)) (σ : St) (Q : Bool → Hp → Prop) (b : Bool) (s' : Shared) : Prop := ∃ H', Inv X pins σ H' s' ∧ Q b H'
def AP (X : Cx) (pins : List (Addr × Obj)) (σ : St) (Q : List V → Hp → Prop) (us : List Value) (s' : Shared) : Prop := ∃ vs H', Inv X pins σ H' s' ∧ Vals vs us ∧ Q vs H'
def SP (X : Cx) (pins : List (Addr × Obj)) (D : Ends) (f : Flow) (s' : Shared) : Prop :=
  match f with
  | .next => ∃ σ' H', Inv X pins σ' H' s' ∧ D.nx σ' H'
  | .brk => ∃ σ' H', Inv X pins σ' H' s' ∧ D.bk σ' H'
  | .cont => ∃ σ' H', Inv X pins σ' H' s' ∧ D.ct σ' H'
  | .ret u => ∃ v σ' H', Inv X pins σ' H' s' ∧ RelV v u ∧ D.rt v H'
def PE (X : Cx) (e : Expr) (t : TE) : Prop :=
  ∀ (pins : List (Addr × Obj)) (s : Shared) (σ : St) (H : Hp) (Q : VK), Inv X pins σ H s → t σ H Q → wpAny (model X.prog X.w) X.A (eval e X.env) (EP X pins σ Q) X.xe s
def PT (X : Cx) (e : Expr) (t : TT) : Prop :=
  ∀ (pins : List (Addr × Obj)) (s : Shared) (σ : St) (H : Hp) (Q : Bool → Hp → Prop), Inv X pins σ H s → t σ H Q → wpAny (model X.prog X.w) X.A (isTrue e X.env (eval e X.env)) (TP X pins σ Q) X.xe s
def PW (X : Cx) (e : Expr) (t : TT) : Prop :=
  ∀ (whole : Sem Value) (pins : List (Addr × Obj)) (s : Shared) (σ : St) (H : Hp) (Q : Bool → Hp → Prop), Inv X pins σ H s → t σ H Q → wpAny (model X.prog X.w) X.A (isTrue e X.env whole) (TP X pins σ Q) X.xe s
theorem PW.pt {X : Cx} {e : Expr} {t : TT} (h : PW X e t) : PT X e t := h _
def PA (X : Cx) (es : List Expr) (t : TA) : Prop :=
  ∀ (pos : Pos) (pins : List (Addr × Obj)) (s : Shared) (σ : St) (H : Hp) (Q : List V → Hp → Prop), Inv X pins σ H s → t σ H Q → wpAny (model X.prog X.w) X.A (spliced (backTo pos (starEach es X.env))) (AP X pins σ Q) X.xe s
def PS (X : Cx) (st : Stmt) (t : TS) : Prop :=
  ∀ (pins : List (Addr × Obj)) (s : Shared) (σ : St) (H : Hp) (D : Ends), Inv X pins σ H s → t D σ H → wpAny (model X.prog X.w) X.A (exec st X.env) (SP X pins D) X.xe s
def PSs (X : Cx) (st : List Stmt) (t : TS) : Prop :=
  ∀ (pins : List (Addr × Obj)) (s : Shared) (σ : St) (H : Hp) (D : Ends), Inv X pins σ H s → t D σ H → wpAny (model X.prog X.w) X.A (execs st X.env) (SP X pins D) X.xe s
theorem thn {α : Type} {t : Sem α} {Q Q' : α → Shared → Prop} {M : Model} {A : Around} {E : Value → Shared → Prop} {s : Shared} (h : wpAny M A t Q E s) (hQ : ∀ a s, Q a s → Q' a s) : wpAny M A t Q' E s := wpAny_mono h hQ fun _ _ x => x
end L2
namespace L2
open PySem PySem.Spec PyProof.Rows
section
variable {X : Cx}
def tVar (i : Nat) : TE := fun σ H Q => ∃ v, σ[i]? = some (some v) ∧ Q v H
def tC (v : V) : TE := fun _ H Q => Q v H
theorem pe_var {i : Nat} {x : Str} {pos : Pos} (hN : X.N[i]? = some x) (hv : Vis X.env.scope x) (hd : (x == ("__debug__" : Str)) = false := by decide) (hcd : (x == ("__classdict__" : Str)) = false := by decide) : PE X (.Name x pos) (tVar i) := by
  intro pins s σ H Q I h
  obtain ⟨v, e, h⟩ := h
  obtain ⟨m, hn, hl⟩ := I.loc
  obtain ⟨u, r, l⟩ := hl i x v hN e hv
  have fin : EP X pins σ Q u s := ⟨v, H, I, r, h⟩
  rcases l with ⟨hk, hm⟩ | ⟨hk, c, hc, hcell⟩
  · exact wpAny_Name (wpAny_loadName_local I.ok.kind hk hn hm fin) hd
  · rcases hk with hk | hk
    · exact wpAny_Name (wpAny_loadName_cell I.ok.kind hk hc hcell fin) hd
    · exact wpAny_Name (wpAny_loadName_free I.ok.kind hk hc hcell fin hcd) hd
theorem pe_int {i j pos} : PE X (.Constant (.int i) j pos) (tC (.int i)) := fun _ _ _ H _ I h => wpAny_Constant_int ⟨.int i, H, I.tok _, ⟨_, rfl⟩, h⟩
theorem pe_bl {b j pos} : PE X (.Constant (.bool b) j pos) (tC (.bl b)) := fun _ _ _ H _ I h => Constant_bool ⟨.bl b, H, I, rfl, h⟩
theorem pe_non {j pos} : PE X (.Constant .none j pos) (tC .non) := fun _ _ _ H _ I h => Constant_none ⟨.non, H, I, rfl, h⟩
theorem pe_str {x j pos} : PE X (.Constant (.str x) j pos) (tC (.str x)) := fun _ _ _ H _ I h => Calls.Constant_str ⟨.str x, H, I.tok _, ⟨_, rfl⟩, h⟩
def Gl (X : Cx) (x : Str) : Prop := X.env.kindOf x = some .globalImplicit
theorem ld_glob {E : Value → Shared → Prop} {pins : List (Addr × Obj)} {s : Shared} {σ : St} {H : Hp} {x : Str} {u : Value} {pos : Pos} {Q : Value → Shared → Prop} (I : Inv X pins σ H s) (hg : Gl X x) (hm : X.mg x = some u) (h : Q u s)
    (hd : (x == ("__debug__" : Str)) = false := by decide) : wpAny (model X.prog X.w) X.A (eval (.Name x pos) X.env) Q E s :=
  Calls.Name_function_global I.ok.kind hg (Calls.loadGlobal_global (by rw [I.ok.glob]; exact I.mod.glob.keeps I.bk) hm h) hd
theorem ld_blt {E : Value → Shared → Prop} {pins : List (Addr × Obj)} {s : Shared} {σ : St} {H : Hp} {x : Str} {u : Value} {pos : Pos} {Q : Value → Shared → Prop} (I : Inv X pins σ H s) (hg : Gl X x) (hm : X.mg x = none) (hv : bootBuiltins x = some u) (h : Q u s)
    (hn : x ≠ "__name__" := by decide) (hd : (x == ("__debug__" : Str)) = false := by decide) : wpAny (model X.prog X.w) X.A (eval (.Name x pos) X.env) Q E s := by
  obtain ⟨mb, h1, h2⟩ := I.mod.blt
  exact Calls.Name_function_global I.ok.kind hg (Calls.loadGlobal_builtin (by rw [I.ok.glob]; exact I.mod.glob.keeps I.bk) hm (by rw [I.ok.blt]; exact h1.keeps I.bk) ((h2 x hn).trans hv) h) hd
theorem pe_glob {x : Str} {v : V} {u : Value} {pos : Pos} (hg : Gl X x) (hm : X.mg x = some u) (r : RelV v u) (hd : (x == ("__debug__" : Str)) = false := by decide) : PE X (.Name x pos) (tC v) :=
  fun _ _ _ H _ I h => ld_glob I hg hm ⟨v, H, I, r, h⟩ hd
theorem pe_bltn {x : Str} {v : V} {u : Value} {pos : Pos} (hg : Gl X x) (hm : X.mg x = none) (hv : bootBuiltins x = some u) (r : RelV v u) (hn : x ≠ "__name__" := by decide) (hd : (x == ("__debug__" : Str)) = false := by decide) : PE X (.Name x pos) (tC v) :=
  fun _ _ _ H _ I h => ld_blt I hg hm hv ⟨v, H, I, r, h⟩ hn hd
variable {a b : Expr} {ta tb : TE} {pos : Pos}
def tB (t : TE) : TT := fun σ H Q => t σ H fun x H1 => ∃ c, x = .bl c ∧ Q c H1
theorem pt_val {e : Expr} {t : TE} (h : PE X e t) (he : ∀ whole, isTrue e X.env whole = (do let v ← whole; standAt e.pos; holding [v] (truthy v)) := by intro _; rfl) : PT X e (tB t) := by
  intro pins s σ H Q I hw
  refine isTrue_plain (thn (h pins s σ H _ I hw) fun v s1 ⟨x, H1, I1, r1, q1⟩ => ?_) (he _)
  obtain ⟨d, rfl, q⟩ := q1
  cases r1
  exact wpAny_truthy_bool ⟨H1, I1, q⟩
variable {tA tB' : TT} {rest : List Expr}
def tAnd (t u : TT) : TT := fun σ H Q => t σ H fun c H1 => if c = true then u σ H1 Q else Q false H1
def tOr (t u : TT) : TT := fun σ H Q => t σ H fun c H1 => if c = true then Q true H1 else u σ H1 Q
def tNot (t : TT) : TT := fun σ H Q => t σ H fun c H1 => Q (!c) H1
theorem pw_and1 (ha : PT X a tA) : PW X (.BoolOp .And [a] pos) tA := by
  intro wh pins s σ H Q I h
  refine isTrue_and (thn (ha pins s σ H Q I h) fun c s1 e => ?_)
  cases c with
  | true => exact isTrue_and_nil e
  | false => exact e
theorem pw_or1 (ha : PT X a tA) : PW X (.BoolOp .Or [a] pos) tA := by
  intro wh pins s σ H Q I h
  refine isTrue_or (thn (ha pins s σ H Q I h) fun c s1 e => ?_)
  cases c with
  | false => exact isTrue_or_nil e
  | true => exact e
theorem pw_and (ha : PT X a tA) (hb : PW X (.BoolOp .And (b :: rest) pos) tB') : PW X (.BoolOp .And (a :: b :: rest) pos) (tAnd tA tB') := by
  intro wh pins s σ H Q I h
  refine isTrue_and (thn (ha pins s σ H _ I h) fun c s1 ⟨H1, I1, q1⟩ => ?_)
  cases c with
  | true => exact hb wh pins s1 σ H1 Q I1 q1
  | false => exact ⟨H1, I1, q1⟩
theorem pw_or (ha : PT X a tA) (hb : PW X (.BoolOp .Or (b :: rest) pos) tB') : PW X (.BoolOp .Or (a :: b :: rest) pos) (tOr tA tB') := by
  intro wh pins s σ H Q I h
  refine isTrue_or (thn (ha pins s σ H _ I h) fun c s1 ⟨H1, I1, q1⟩ => ?_)
  cases c with
  | true => exact ⟨H1, I1, q1⟩
  | false => exact hb wh pins s1 σ H1 Q I1 q1
theorem pt_not (ha : PT X a tA) : PT X (.UnaryOp .Not a pos) (tNot tA) := by
  intro pins s σ H Q I h
  exact isTrue_not (ha pins s σ H (fun c H1 => Q (!c) H1) I h)
def tAndV (ta tb : TE) : TE := fun σ H Q => ta σ H fun x H1 => ∃ c, x = .bl c ∧ if c = true then tb σ H1 Q else Q (.bl false) H1
def tOrV (ta tb : TE) : TE := fun σ H Q => ta σ H fun x H1 => ∃ c, x = .bl c ∧ if c = true then Q (.bl true) H1 else tb σ H1 Q
def tNotV (ta : TE) : TE := fun σ H Q => ta σ H fun x H1 => ∃ c, x = .bl c ∧ Q (.bl (!c)) H1
theorem pe_one {op} {t : TE} (h : PE X a t) : PE X (.BoolOp op [a] pos) t := fun pins s σ H Q I hw => BoolOp_one (h pins s σ H Q I hw)
theorem pe_and (ha : PE X a ta) (hb : PE X (.BoolOp .And (b :: rest) pos) tb) : PE X (.BoolOp .And (a :: b :: rest) pos) (tAndV ta tb) := by
  intro pins s σ H Q I h
  refine BoolOp_and (thn (ha pins s σ H _ I h) fun v s1 ⟨x, H1, I1, r1, q1⟩ => ?_)
  obtain ⟨c, rfl, q1⟩ := q1
  cases r1
  refine wpAny_truthy_bool ?_
  cases c with
  | true => exact hb pins s1 σ H1 Q I1 q1
  | false => exact ⟨.bl false, H1, I1, rfl, q1⟩
theorem pe_or (ha : PE X a ta) (hb : PE X (.BoolOp .Or (b :: rest) pos) tb) : PE X (.BoolOp .Or (a :: b :: rest) pos) (tOrV ta tb) := by
  intro pins s σ H Q I h
  refine BoolOp_or (thn (ha pins s σ H _ I h) fun v s1 ⟨x, H1, I1, r1, q1⟩ => ?_)
  obtain ⟨c, rfl, q1⟩ := q1
  cases r1
  refine wpAny_truthy_bool ?_
  cases c with
  | false => exact hb pins s1 σ H1 Q I1 q1
  | true => exact ⟨.bl true, H1, I1, rfl, q1⟩
theorem pe_not (ha : PE X a ta) : PE X (.UnaryOp .Not a pos) (tNotV ta) := by
  intro pins s σ H Q I h
  refine UnaryOp_ (thn (ha pins s σ H _ I h) fun v s1 ⟨x, H1, I1, r1, q1⟩ => ?_)
  obtain ⟨c, rfl, q1⟩ := q1
  cases r1
  exact not_of (wpAny_truthy_bool ⟨.bl (!c), H1, I1, rfl, q1⟩)
def tIf (t : TT) (ta tb : TE) : TE := fun σ H Q => t σ H fun c H1 => if c = true then ta σ H1 Q else tb σ H1 Q
theorem pe_ifExp {c : Expr} (hc : PT X c tA) (ha : PE X a ta) (hb : PE X b tb) : PE X (.IfExp c a b pos) (tIf tA ta tb) := by
  intro pins s σ H Q I h
  refine wpAny_IfExp (thn (hc pins s σ H _ I h) fun d s1 ⟨H1, I1, q1⟩ => ?_)
  cases d with
  | true => exact ha pins s1 σ H1 Q I1 q1
  | false => exact hb pins s1 σ H1 Q I1 q1
end
end L2
namespace L2
open PySem PySem.Spec PyProof.Rows
def SqL (K : PySem.W.Frag) (H : Hp) (a : Addr) (xs : List V) : Prop :=
  Rd H a (.lst xs) ∨
    ∃ (o : Obj) (its : Array Value) (n : Nat), K.lookup a = some o ∧ o.cls = .type "list" ∧ o.dict = none ∧ o.data = .seq its n ∧ its.size ≤ sizeLine ∧ Vals xs its.toList
def SqT (K : PySem.W.Frag) (H : Hp) (a : Addr) (xs : List V) : Prop :=
  Rd H a (.tup xs) ∨
    ∃ (o : Obj) (its : Array Value) (n : Nat), K.lookup a = some o ∧ o.cls = .type "tuple" ∧ o.data = .seq its n ∧ its.size ≤ sizeLine ∧ Vals xs its.toList
def absV : Value → Option V
  | .none => some .non
  | .bool b => some (.bl b)
  | .int i _ => some (.int i)
  | .str x _ => some (.str x)
  | .bytes b _ => some (.byt b)
  | .float b _ => some (.flt b)
  | .ref a => some (.ref a)
  | .type n => some (.ty n)
  | _ => none
theorem RelV.abs {x : V} {u : Value} (r : RelV x u) : absV u = some x := by
  cases x with
  | non => cases r; rfl
  | bl _ => cases r; rfl
  | int _ => obtain ⟨t, rfl⟩ := r; rfl
  | str _ => obtain ⟨t, rfl⟩ := r; rfl
  | byt _ => obtain ⟨t, rfl⟩ := r; rfl
  | flt _ => obtain ⟨t, rfl⟩ := r; rfl
  | ref _ => cases r; rfl
  | ty _ => cases r; rfl
theorem RelV.inj {x y : V} {u : Value} (r : RelV x u) (q : RelV y u) : x = y := Option.some.inj (r.abs.symm.trans q.abs)
theorem Vals.inj : ∀ {xs ys : List V} {us : List Value}, Vals xs us → Vals ys us → xs = ys
  | _, _, _, .nil, .nil => rfl
  | _, _, _, .cons r t, .cons r' t' => by rw [r.inj r', Vals.inj t t']
section
variable {X : Cx} {pins : List (Addr × Obj)} {σ : St} {H : Hp} {s : Shared} {a : Addr} {xs ys : List V}
theorem SqL.of {K : PySem.W.Frag} (h : H a = some (.lst xs)) : SqL K H a xs := .inl (.inl h)
theorem SqT.of {K : PySem.W.Frag} (h : H a = some (.tup xs)) : SqT K H a xs := .inl (.inl h)
theorem Inv.list (I : Inv X pins σ H s) (h : SqL X.K H a xs) : ∃ its : List Value, Vals xs its ∧ PlainL s.heap a its.toArray ∧ xs.length ≤ sizeLine := by
  rcases h with h | ⟨o, its, n, hk, hc, hd, hs, hz, r⟩
  · obtain ⟨z, its, n, r, e⟩ := h.ok I.hok
    exact ⟨its, r, ⟨_, n, e, rfl, rfl, rfl⟩, z⟩
  · refine ⟨its.toList, r, ⟨o, n, I.kIn a o hk, hc, hd, by simpa using hs⟩, ?_⟩
    have e := r.length
    simp only [Array.length_toList] at e
    omega
theorem Inv.tuple (I : Inv X pins σ H s) (h : SqT X.K H a xs) : ∃ its : List Value, Vals xs its ∧ IsTup s.heap a its.toArray ∧ xs.length ≤ sizeLine := by
  rcases h with h | ⟨o, its, n, hk, hc, hs, hz, r⟩
  · obtain ⟨z, its, r, p⟩ := h.ok I.hok
    exact ⟨its, r, p, z⟩
  · refine ⟨its.toList, r, ⟨o, I.kIn a o hk, hc, n, by simpa using hs⟩, ?_⟩
    have e := r.length
    simp only [Array.length_toList] at e
    omega
theorem Inv.list_inj (I : Inv X pins σ H s) (h : SqL X.K H a xs) (h' : SqL X.K H a ys) : xs = ys := by
  obtain ⟨its, r, ⟨o, n, e, _, _, d⟩, _⟩ := I.list h
  obtain ⟨its', r', ⟨o', n', e', _, _, d'⟩, _⟩ := I.list h'
  rw [e] at e'; cases e'
  rw [d] at d'
  injection d' with d1 _
  have : its = its' := by simpa using congrArg Array.toList d1
  subst this
  exact r.inj r'
end
abbrev Cx.wish (X : Cx) (E : Value → Shared → Prop) : Cx := { X with xe := E }
abbrev Cx.nox (X : Cx) : Cx := X.wish fun _ _ => False
theorem Cx.Ok.wish {X : Cx} (ok : X.Ok) (E : Value → Shared → Prop) : (X.wish E).Ok :=
  ⟨ok.mod, ok.kind, ok.glob, ok.blt, ok.above, ok.inj, ok.has, ok.cab, ok.hd, ok.frames, ok.stk, ok.exf, ok.bs, ok.bsz, ok.noex, ok.exfs, ok.funs, ok.frf⟩
theorem Cx.Ok.unwish {X : Cx} {E : Value → Shared → Prop} (ok : (X.wish E).Ok) : X.Ok :=
  ⟨ok.mod, ok.kind, ok.glob, ok.blt, ok.above, ok.inj, ok.has, ok.cab, ok.hd, ok.frames, ok.stk, ok.exf, ok.bs, ok.bsz, ok.noex, ok.exfs, ok.funs, ok.frf⟩
section
variable {X : Cx} {pins : List (Addr × Obj)} {σ : St} {H : Hp} {s : Shared} {E : Value → Shared → Prop}
theorem Inv.wish (I : Inv X pins σ H s) (E : Value → Shared → Prop) : Inv (X.wish E) pins σ H s := ⟨I.ok.wish E, I.os, I.bare, I.base, I.loc, I.cell, I.free, I.freeC, I.pin, I.hok, I.len⟩
theorem Inv.unwish (I : Inv (X.wish E) pins σ H s) : Inv X pins σ H s := ⟨I.ok.unwish, I.os, I.bare, I.base, I.loc, I.cell, I.free, I.freeC, I.pin, I.hok, I.len⟩
theorem SP.unwish {D : Ends} {f : Flow} {s' : Shared} (h : SP (X.wish E) pins D f s') : SP X pins D f s' := by
  cases f with
  | next => obtain ⟨σ', H', I, q⟩ := h; exact ⟨σ', H', I.unwish, q⟩
  | brk => obtain ⟨σ', H', I, q⟩ := h; exact ⟨σ', H', I.unwish, q⟩
  | cont => obtain ⟨σ', H', I, q⟩ := h; exact ⟨σ', H', I.unwish, q⟩
  | ret u => obtain ⟨v, σ', H', I, r, q⟩ := h; exact ⟨v, σ', H', I.unwish, r, q⟩
theorem PSs.nox {st : List Stmt} {t : TS} (h : PSs X.nox st t) : PSs X st t := fun pins s σ H D I hw =>
  wpAny_mono (h pins s σ H D (I.wish _) hw) (fun _ _ q => q.unwish) fun _ _ z => False.elim z
end
section
variable {X : Cx} {st : Stmt} {rest : List Stmt} {t u : TS} {e : Expr} {te : TE} {pos : Pos}
def tNext : TS := fun D σ H => D.nx σ H
def tSeq (t u : TS) : TS := fun D σ H => t { D with nx := u D } σ H
theorem pss_nil : PSs X [] tNext := fun _ _ σ H _ I h => wpAny_execs_nil ⟨σ, H, I, h⟩
theorem pss_cons (h1 : PS X st t) (h2 : PSs X rest u) : PSs X (st :: rest) (tSeq t u) := by
  intro pins s σ H D I h
  refine wpAny_execs_cons (thn (h1 pins s σ H { D with nx := u D } I h) fun f s1 q => ?_)
  cases f with
  | next =>
    obtain ⟨σ', H', I', q⟩ := q
    exact h2 pins s1 σ' H' D I' q
  | ret v => exact q
  | brk => exact q
  | cont => exact q
theorem pss_one (h1 : PS X st t) : PSs X [st] t := by
  intro pins s σ H D I h
  refine wpAny_execs_cons (thn (h1 pins s σ H D I h) fun f s1 q => ?_)
  cases f with
  | next => exact wpAny_execs_nil q
  | ret v => exact q
  | brk => exact q
  | cont => exact q
theorem Inv.quiet {pins : List (Addr × Obj)} {σ : St} {H : Hp} {s : Shared} (I : Inv X pins σ H s) : interactive X.env = false := by simp [interactive, I.ok.kind]
def tDrop (te : TE) : TS := fun D σ H => te σ H fun _ H1 => D.nx σ H1
theorem ps_expr (he : PE X e te) (hs : swapsWith e none pos.line X.env = pure false := by rfl) : PS X (.Expr e pos) (tDrop te) := by
  intro pins s σ H D I h
  exact wpAny_Expr_any (thn (he pins s σ H _ I h) fun v s1 ⟨x, H1, I1, r1, q1⟩ => ⟨σ, H1, I1, q1⟩) I.quiet hs
def tRet (te : TE) : TS := fun D σ H => te σ H D.rt
theorem ps_ret (he : PE X e te) : PS X (.Return (some e) pos) (tRet te) := by
  intro pins s σ H D I h
  exact wpAny_Return_some (thn (he pins s σ H _ I h) fun v s1 ⟨x, H1, I1, r1, q1⟩ => ⟨x, σ, H1, I1, r1, q1⟩)
def tRetN : TS := fun D _ H => D.rt .non H
def tIfS (c : TT) (t u : TS) : TS := fun D σ H => c σ H fun b H1 => if b = true then t D σ H1 else u D σ H1
theorem ps_if {c : Expr} {a b : List Stmt} {tc : TT} (hc : PT X c tc) (ha : PSs X a t) (hb : PSs X b u) : PS X (.If c a b pos) (tIfS tc t u) := by
  intro pins s σ H D I h
  refine wpAny_If (thn (hc pins s σ H _ I h) fun d s1 ⟨H1, I1, q1⟩ => ?_)
  cases d with
  | true => exact ha pins s1 σ H1 D I1 q1
  | false => exact hb pins s1 σ H1 D I1 q1
def tNever : TS := fun _ _ _ => False
theorem ps_never : PS X st tNever := fun _ _ _ _ _ _ h => h.elim
end
abbrev TG := V → St → Hp → (St → Hp → Prop) → Prop
abbrev TGs := List V → St → Hp → (St → Hp → Prop) → Prop
def PG (X : Cx) (target : Expr) (t : TG) : Prop :=
  ∀ (pins : List (Addr × Obj)) (s : Shared) (σ : St) (H : Hp) (v : V) (u : Value) (Q : St → Hp → Prop), Inv X pins σ H s → RelV v u → t v σ H Q →
    wpAny (model X.prog X.w) X.A (assign target X.env u) (fun _ s' => ∃ σ' H', Inv X pins σ' H' s' ∧ Q σ' H') X.xe s
def PGs (X : Cx) (ts : List Expr) (t : TGs) : Prop :=
  ∀ (pins : List (Addr × Obj)) (s : Shared) (σ : St) (H : Hp) (vs : List V) (us : List Value) (Q : St → Hp → Prop), Inv X pins σ H s → Vals vs us → t vs σ H Q →
    wpAny (model X.prog X.w) X.A (assignInOrder ((assignEach ts X.env).map (·.2)) us) (fun _ s' => ∃ σ' H', Inv X pins σ' H' s' ∧ Q σ' H') X.xe s
abbrev TSet := V → V → V → Hp → (Hp → Prop) → Prop
section
variable {X : Cx} {pos : Pos}
def gName (i : Nat) : TG := fun v σ H Q => Q (σ.set i (some v)) H
theorem pg_name {i : Nat} {x : Str} (hN : X.N.Nodup) (hi : X.N[i]? = some x) (hx : Loc X.env.scope x) (hf : X.fn x = true ∨ X.env.scope.names.lookup x = some .local := by first | exact .inl rfl | exact .inr rfl | assumption) : PG X (.Name x pos) (gName i) := by
  intro pins s σ H v u Q I r h
  exact wpAny_assign_Name (store_ok I hN hi hx r (fun s' I' => ⟨_, H, I', h⟩) hf)
def gNil : TGs := fun vs σ H Q => vs = [] ∧ Q σ H
def gCons (t : TG) (u : TGs) : TGs := fun vs σ H Q => ∃ v r, vs = v :: r ∧ t v σ H fun σ' H' => u r σ' H' Q
theorem pgs_nil : PGs X [] gNil := by
  intro pins s σ H vs us Q I r h
  obtain ⟨e, h⟩ := h
  subst e
  cases r
  exact assignInOrder_nil ⟨σ, H, I, h⟩
theorem pgs_cons {e : Expr} {es : List Expr} {t : TG} {u : TGs} (h1 : PG X e t) (h2 : PGs X es u)
    (hs : (assignEach (e :: es) X.env).map (·.2) = assign e X.env :: (assignEach es X.env).map (·.2) := by rfl) : PGs X (e :: es) (gCons t u) := by
  intro pins s σ H vs us Q I r h
  obtain ⟨v, vr, e1, h⟩ := h
  subst e1
  cases r with
  | cons r rr =>
    rw [hs]
    refine assignInOrder_cons (thn (h1 pins s σ H _ _ _ I r h) fun _ s1 ⟨σ1, H1, I1, q1⟩ => ?_)
    exact h2 pins s1 σ1 H1 _ _ Q I1 rr q1
def gTup (K : PySem.W.Frag) (n : Nat) (t : TGs) : TG := fun v σ H Q => ∃ a xs, v = .ref a ∧ SqT K H a xs ∧ xs.length = n ∧ t xs σ H Q
theorem pg_tup {es : List Expr} {k : Nat} {t : TGs} {n : Nat} (hc : X.calm = true) (h : PGs X es t)
    (hn : (assignEach es X.env).length = n := by rfl) (hst : (assignEach es X.env).findIdx? (·.1) = none := by rfl) : PG X (.Tuple es k pos) (gTup X.K n t) := by
  intro pins s σ H v u Q I r hw
  obtain ⟨a, xs, e1, hq, hl, hw⟩ := hw
  subst e1
  cases r
  obtain ⟨its, rv, ht, hz⟩ := I.tuple hq
  refine assign_Tuple_tuple (I.ok.hd hc) ht (by simp [hn, ← hl, rv.length]) hst fun h' hx => ?_
  have I1 : Inv X pins σ H { s with heap := h' } := I.kept (t' := s.toks) fun b o e => hx b o (Nat.ne_of_lt (Heap.lt_size e)) e
  exact h pins _ σ H xs _ Q I1 (by simpa using rv) hw
def gSub (to ti : TE) (t : TSet) : TG := fun v σ H Q => to σ H fun o H1 => ti σ H1 fun i H2 => t o i v H2 fun H3 => Q σ H3
def tAsg (te : TE) (g : TG) : TS := fun D σ H => te σ H fun x H1 => g x σ H1 D.nx
theorem ps_asg {tg e : Expr} {te : TE} {g : TG} (he : PE X e te) (hg : PG X tg g) (hs : swapsWithSole [tg] e pos.line X.env = pure false := by rfl) (hw : swappedStores [tg] e X.env = pure none := by rfl)
    (h1 : (assignEach [tg] X.env).map (·.2) = [assign tg X.env] := by rfl) : PS X (.Assign [tg] e pos) (tAsg te g) := by
  intro pins s σ H D I h
  refine wpAny_Assign_stores (thn (he pins s σ H _ I h) fun v s1 ⟨x, H1, I1, r1, q1⟩ => ?_) hs hw
  rw [h1]
  exact thn (hg pins s1 σ H1 x v _ I1 r1 q1) fun _ s2 q => q
theorem ps_set {i : Nat} {x : Str} {e : Expr} {te : TE} {pos' : Pos} (hN : X.N.Nodup) (hi : X.N[i]? = some x) (hx : Loc X.env.scope x) (he : PE X e te) (hs : swapsWith e (some (.Name x pos')) pos.line X.env = pure false := by rfl) (hf : X.fn x = true ∨ X.env.scope.names.lookup x = some .local := by first | exact .inl rfl | exact .inr rfl | assumption) :
    PS X (.Assign [.Name x pos'] e pos) (tAsg te (gName i)) := by
  intro pins s σ H D I h
  refine wpAny_Assign_Name (thn (he pins s σ H _ I h) fun v s1 ⟨y, H1, I1, r1, q1⟩ => ?_) hs
  exact store_ok I1 hN hi hx r1 (fun s2 I2 => ⟨_, H1, I2, q1⟩) hf
end
structure It where
  go : Nat → Hp → Prop
  yld : Nat → Hp → V → Hp → Prop
  stop : Nat → Hp → Prop
def FpOk (X : Cx) (pins : List (Addr × Obj)) (H : Hp) (b : Addr) : Prop :=
  H b = none ∧ b ≠ X.env.locals ∧ b ∉ X.fs ∧ (b ∈ X.ex ∨ X.s₀.heap.objs.size ≤ b) ∧ (∀ x c, X.env.cells.lookup x = some c → c ≠ b) ∧ ∀ p ∈ X.pn ++ pins, p.1 ≠ b
theorem Inv.fpOk {X : Cx} {pins : List (Addr × Obj)} {σ : St} {H H' : Hp} {s : Shared} {b : Addr} (I : Inv X pins σ H s) (hb : s.heap.objs.size ≤ b) (hn : H' b = none) : FpOk X pins H' b := by
  refine ⟨hn, Nat.ne_of_gt (Nat.lt_of_lt_of_le I.lt hb), I.nofs hb, .inr (Nat.le_trans I.sz hb), fun x c e z => ?_, fun p hp z => ?_⟩
  · obtain ⟨v, q⟩ := I.cell x c e
    exact absurd (Nat.lt_of_lt_of_le q.lt (by rw [z]; exact hb)) (Nat.lt_irrefl _)
  · exact absurd (Nat.lt_of_lt_of_le (Heap.lt_size (I.pin p hp).1) (by rw [z]; exact hb)) (Nat.lt_irrefl _)
structure Turn (P : Program) (w : World) (K : PySem.W.Frag) (tg : Expr) (J : It) (fp : List Addr) (it : Addr) (tn : Nat → Heap → Prop) : Prop where
  mem : it ∈ fp
  obj : ∀ i h, tn i h → ∀ b ∈ fp, ∃ o, h.get? b = some o ∧ ∀ v, o.data ≠ .cell v
  keep : ∀ i h h', tn i h → (∀ b ∈ fp, ∀ o, h.get? b = some o → h'.get? b = some o) → tn i h'
  item : ∀ (X : Cx), X.prog = P → X.w = w → X.K = K → X.calm = true → ∀ (i : Nat) (pins : List (Addr × Obj)) (s : Shared) (σ : St) (H : Hp) (E : Value → Shared → Prop), Inv X pins σ H s → (∀ b ∈ fp, FpOk X pins H b) → tn i s.heap → J.go i H →
    wpAny (model P w) X.A (pyNext (.ref it)) (fun r s1 => ∃ u, r = some u ∧
      wpAny (model P w) X.A (letOwnedTupleGo tg (.ref it) u) (fun _ s2 => ∃ x H', Inv X pins σ H' s2 ∧ RelV x u ∧ J.yld i H x H' ∧ tn (i + 1) s2.heap ∧ ∀ b ∈ fp, H' b = none) E s1) E s
  done : ∀ (X : Cx), X.prog = P → X.w = w → X.K = K → X.calm = true → ∀ (i : Nat) (pins : List (Addr × Obj)) (s : Shared) (σ : St) (H : Hp) (E : Value → Shared → Prop), Inv X pins σ H s → (∀ b ∈ fp, FpOk X pins H b) → tn i s.heap → J.stop i H →
    wpAny (model P w) X.A (pyNext (.ref it)) (fun r s1 => r = none ∧ Inv X pins σ H s1) E s
  self : ∀ (A : Around) (i : Nat) (s : Shared) (Q : Value → Shared → Prop) (E : Value → Shared → Prop), tn i s.heap → Q (.ref it) s → wpAny (model P w) A (pyIter (.ref it)) Q E s
abbrev TI := St → Hp → (It → Hp → Prop) → Prop
def PIE (X : Cx) (pins : List (Addr × Obj)) (σ : St) (tg : Expr) (R : It → Hp → Prop) (itv : Value) (s2 : Shared) : Prop :=
  ∃ (it : Addr) (fp : List Addr) (tn : Nat → Heap → Prop) (J : It) (H' : Hp), itv = .ref it ∧ Inv X pins σ H' s2 ∧ Turn X.prog X.w X.K tg J fp it tn ∧ tn 0 s2.heap ∧ (∀ b ∈ fp, FpOk X pins H' b) ∧ R J H'
def PI (X : Cx) (tg iter : Expr) (wi : TI) : Prop :=
  ∀ (pins : List (Addr × Obj)) (s : Shared) (σ : St) (H : Hp) (R : It → Hp → Prop), Inv X pins σ H s → wi σ H R →
    wpAny (model X.prog X.w) X.A (eval iter X.env) (fun v s1 => wpAny (model X.prog X.w) X.A (pyIter v) (PIE X pins σ tg R) X.xe s1) X.xe s
theorem go_of {M : Model} {A : Around} {E : Value → Shared → Prop} {s : Shared} {tg : Expr} {it : Addr} {u : Value} {o : Obj} {n : String} {vs : Array Value} {Q : Unit → Shared → Prop} (ho : s.heap.get? it = some o) (hc : o.cls = .type n) (hd : o.data = .fields vs)
    (hn : ["enumerate", "zip", "dict_itemiterator", "dict_reverseitemiterator", "odict_iterator", "itertools.zip_longest", "itertools.pairwise"].contains n = false) (hQ : Q () s) : wpAny M A (letOwnedTupleGo tg (.ref it) u) Q E s := by
  unfold letOwnedTupleGo
  cases tg <;> first
    | exact wpAny_pure hQ
    | (cases u <;> first
        | exact wpAny_pure hQ
        | (refine wpAny_bind (wpAny_load ho ?_)
           rw [hc, hd]
           show wpAny M A (if (["enumerate", "zip", "dict_itemiterator", "dict_reverseitemiterator", "odict_iterator", "itertools.zip_longest", "itertools.pairwise"].contains n && vs[0]? == some (rawInt _)) = true then _ else _) Q E s
           rw [if_neg (by intro h; rw [hn, Bool.false_and] at h; cases h)]
           exact wpAny_pure hQ))
def Itl (K : PySem.W.Frag) (a : Addr) : It :=
  ⟨fun i H => ∃ xs x, SqL K H a xs ∧ xs[i]? = some x, fun i H x H' => H' = H ∧ ∀ xs, SqL K H a xs → xs[i]? = some x, fun i H => ∃ xs, SqL K H a xs ∧ xs.length ≤ i⟩
def Itr (lo : Int) (n : Nat) : It := ⟨fun i _ => i < n, fun i H x H' => H' = H ∧ x = .int (lo + i), fun i _ => n ≤ i⟩
theorem turn_list {P : Program} {w : World} {K : PySem.W.Frag} {tg : Expr} (a it : Addr) : Turn P w K tg (Itl K a) [it] it (fun i h => h.IsListIter it a i) where
  mem := by simp
  obj := fun i h st b hb => by
    have e : b = it := by simpa using hb
    subst e
    obtain ⟨o, e, c, d⟩ := st
    exact ⟨o, e, fun v z => by rw [d] at z; cases z⟩
  keep := fun i h h' st k => st.at fun o e => k it (by simp) o e
  item := by
    intro X hP hw hK hc i pins s σ H E I hf st hg
    subst hP hw hK
    obtain ⟨xs, x, hq, hx⟩ := hg
    obtain ⟨its, rv, p, hz⟩ := I.list hq
    obtain ⟨u, hu, ru⟩ := rv.get hx
    obtain ⟨f0, f1, f2, f3, f4, f5⟩ := hf it (by simp)
    refine wpAny_pyNext_list_item st p.isList (x := u) (by simpa using hu) fun h' st' sb => ?_
    have I1 : Inv X pins σ H { s with heap := h' } := I.turned (t' := s.toks) (fun b o hb e => (sb.2 b hb).trans e) f0 f1 f3 f4 f5
    obtain ⟨o, e, c, d⟩ := id st'
    exact ⟨u, rfl, go_of (s := { s with heap := h' }) e c d (by decide) ⟨x, H, I1, ru, ⟨rfl, fun ys hy => by rw [I.list_inj hy hq]; exact hx⟩, st', fun b hb => (hf b hb).1⟩⟩
  done := by
    intro X hP hw hK hc i pins s σ H E I hf st hg
    subst hP hw hK
    obtain ⟨xs, hq, hx⟩ := hg
    obtain ⟨its, rv, p, hz⟩ := I.list hq
    obtain ⟨f0, f1, f2, f3, f4, f5⟩ := hf it (by simp)
    have hl := rv.length
    exact wpAny_pyNext_list_end (I.ok.hd hc) st p.isList (by simp; omega) fun h' eb => ⟨rfl, I.turned (t' := s.toks) (fun b o hb e => eb b o hb e) f0 f1 f3 f4 f5⟩
  self := fun _ _ _ _ _ st h => wpAny_pyIter_listiter st h
theorem turn_range {P : Program} {w : World} {K : PySem.W.Frag} {tg : Expr} (it : Addr) (lo : Int) (n : Nat) : Turn P w K tg (Itr lo n) [it] it (fun i h => IsRangeIter h it (lo + (i : Nat) * 1) ((n : Int) - (i : Nat)) 1) where
  mem := by simp
  obj := fun i h st b hb => by
    have e : b = it := by simpa using hb
    subst e
    exact ⟨_, st, fun v z => by
      have z' : Data.fields _ = Data.cell v := z
      cases z'⟩
  keep := fun i h h' st k => k it (by simp) _ st
  item := by
    intro X hP hw hK hc i pins s σ H E I hf st hg
    subst hP hw hK
    obtain ⟨f0, f1, f2, f3, f4, f5⟩ := hf it (by simp)
    have W := Walks.range (prog := X.prog) (w := X.w) (I.ok.hd hc) it lo 1 n
    refine W.item i s _ _ hg st fun v h' tk hv st' kk => ?_
    obtain ⟨t, rfl⟩ := hv
    have I1 : Inv X pins σ H { s with heap := h', toks := tk } := I.turned (fun b o hb e => kk b o (by simpa using hb) e) f0 f1 f3 f4 f5
    refine ⟨_, rfl, go_of (s := { s with heap := h', toks := tk }) (n := "range_iterator") st' rfl rfl (by decide) ⟨.int (lo + i), H, I1, ⟨t, ?_⟩, ⟨rfl, rfl⟩, st', fun b hb => (hf b hb).1⟩⟩
    rw [Int.mul_one]
  done := by
    intro X hP hw hK hc i pins s σ H E I hf st hg
    subst hP hw hK
    obtain ⟨f0, f1, f2, f3, f4, f5⟩ := hf it (by simp)
    exact wpAny_pyNext_range_end (I.ok.hd hc) st (by have : n ≤ i := hg; omega) fun h' eb => ⟨rfl, I.turned (t' := s.toks) (fun b o hb e => eb b o hb e) f0 f1 f3 f4 f5⟩
  self := fun _ _ _ _ _ st h => wpAny_pyIter_rangeiter st h
end L2
namespace L2
open PySem PySem.Spec PyProof.Rows
section
variable {X : Cx} {tg : Expr}
def iList (K : PySem.W.Frag) (tl : TE) : TI := fun σ H R => tl σ H fun x H1 => ∃ a, x = .ref a ∧ (∃ xs, SqL K H1 a xs) ∧ R (Itl K a) H1
theorem pi_list {l : Expr} {tl : TE} (hl : PE X l tl) : PI X tg l (iList X.K tl) := by
  intro pins s σ H R I h
  refine thn (hl pins s σ H _ I h) fun v s1 ⟨x, H1, I1, r1, q1⟩ => ?_
  obtain ⟨a, e, ⟨xs, hq⟩, q⟩ := q1
  subst e
  cases r1
  obtain ⟨its, rv, p, hz⟩ := I1.list hq
  refine wpAny_pyIter_list p.isList ?_
  refine ⟨s1.heap.objs.size, [s1.heap.objs.size], _, _, H1, rfl, I1.kept (t' := s1.toks) fun b o e => Heap.get?_push_of_some _ e, turn_list a _, ⟨_, Heap.get?_push_size _ rfl, rfl, rfl⟩, fun b hb => ?_, q⟩
  have e : b = s1.heap.objs.size := by simpa using hb
  subst e
  exact I1.fpOk (Nat.le_refl _) (I1.hok.fresh (Nat.le_refl _))
theorem range_it {pins : List (Addr × Obj)} {σ : St} {H : Hp} {s : Shared} {R : It → Hp → Prop} {E : Value → Shared → Prop} {lo hi : Int} {t u v : Tok} {tk : Nat} (I : Inv X pins σ H s) (h1 : -(2 ^ 62) ≤ lo) (h2 : lo < 2 ^ 62) (h3 : -(2 ^ 62) ≤ hi) (h4 : hi < 2 ^ 62)
    (q : R (Itr lo (hi - lo).toNat) H) : wpAny (model X.prog X.w) X.A (pyIter (.ref s.heap.objs.size)) (PIE X pins σ tg R) E { s with heap := s.heap.push { cls := .type "range", data := .fields #[.int lo t, .int hi u, .int 1 v] }, toks := tk } := by
  refine wpAny_pyIter_range (IsRange.new ..) (small_one h1 h2 h3 h4) ?_
  have I1 : Inv X pins σ H { s with heap := s.heap.push { cls := .type "range", data := .fields #[.int lo t, .int hi u, .int 1 v] }, toks := tk } := I.kept fun b o e => Heap.get?_push_of_some _ e
  refine ⟨(s.heap.push { cls := .type "range", data := .fields #[.int lo t, .int hi u, .int 1 v] }).objs.size, [(s.heap.push { cls := .type "range", data := .fields #[.int lo t, .int hi u, .int 1 v] }).objs.size], _, _, H, rfl,
    I1.kept (t' := tk) fun b o e => Heap.get?_push_of_some _ e, turn_range _ lo (hi - lo).toNat, ?_, fun b hb => ?_, q⟩
  · have e1 : lo + ((0 : Nat) : Int) * 1 = lo := by simp
    have e2 : (((hi - lo).toNat : Nat) : Int) - ((0 : Nat) : Int) = Builtin.Range.rangeSize lo hi 1 := by rw [rangeSize_one]; split <;> omega
    show IsRangeIter _ _ (lo + ((0 : Nat) : Int) * 1) ((((hi - lo).toNat : Nat) : Int) - ((0 : Nat) : Int)) 1
    rw [e1, e2]
    exact Heap.get?_push_size _ rfl
  · have e : b = (s.heap.push { cls := .type "range", data := .fields #[.int lo t, .int hi u, .int 1 v] }).objs.size := by simpa using hb
    subst e
    exact I1.fpOk (Nat.le_refl _) (I1.hok.fresh (Nat.le_refl _))
def iRng1 (ta : TA) : TI := fun σ H R => ta σ H fun vs H1 => ∃ j : Int, vs = [.int j] ∧ -(2 ^ 62) ≤ j ∧ j < 2 ^ 62 ∧ R (Itr 0 j.toNat) H1
def iRng2 (ta : TA) : TI := fun σ H R => ta σ H fun vs H1 => ∃ i j : Int, vs = [.int i, .int j] ∧ (-(2 ^ 62) ≤ i ∧ i < 2 ^ 62 ∧ -(2 ^ 62) ≤ j ∧ j < 2 ^ 62) ∧ R (Itr i (j - i).toNat) H1
theorem pi_range1 {a : Expr} {ta : TA} {p pos : Pos} (hg : Gl X "range") (hm : X.mg "range" = none) (ha : PA X [a] ta) (hs : starEach [a] X.env = [(false, eval a X.env)] := by rfl) : PI X tg (.Call (.Name "range" p) [a] [] pos) (iRng1 ta) := by
  intro pins s σ H R I h
  refine Call_ (ld_blt I hg hm boot_range (PyProof.Rows.callWith_type1 (thn (ha pos pins s σ H _ I h) fun us s1 ⟨vs, H1, I1, r1, q1⟩ => ?_) hs rfl))
  obtain ⟨j, e, q1, q2, q⟩ := q1
  subst e
  cases r1 with
  | cons r rr =>
    cases rr
    obtain ⟨t, rfl⟩ := r
    exact call_range_1 (range_it I1 (by omega) (by omega) q1 q2 (by simpa using q))
theorem pi_range2 {a b : Expr} {ta : TA} {p pos : Pos} (hg : Gl X "range") (hm : X.mg "range" = none) (ha : PA X [a, b] ta) (hs : starEach [a, b] X.env = [(false, eval a X.env), (false, eval b X.env)] := by rfl) (hs2 : starEach [b] X.env = [(false, eval b X.env)] := by rfl) :
    PI X tg (.Call (.Name "range" p) [a, b] [] pos) (iRng2 ta) := by
  intro pins s σ H R I h
  refine Call_ (ld_blt I hg hm boot_range (PyProof.Rows.callWith_type1 (thn (ha pos pins s σ H _ I h) fun us s1 ⟨vs, H1, I1, r1, q1⟩ => ?_) (by rw [hs, hs2]) (by rw [hs2]; rfl)))
  obtain ⟨i, j, e, ⟨q1, q2, q3, q4⟩, q⟩ := q1
  subst e
  cases r1 with
  | cons r rr =>
    cases rr with
    | cons r' rr =>
      cases rr
      obtain ⟨t, rfl⟩ := r
      obtain ⟨t', rfl⟩ := r'
      exact call_range_2 (range_it I1 q1 q2 q3 q4 q)
def tFor (wi : TI) (g : TG) (tb : TS) : TS := fun D σ H => wi σ H fun J H1 => ∃ W : Nat → Nat → St → Hp → Prop, (∃ m, W 0 m σ H1) ∧ ∀ i m σ H, W i m σ H →
  (J.stop i H ∧ D.nx σ H) ∨ (J.go i H ∧ ∃ N : St → Hp → Prop, (∀ σ' H', N σ' H' → ∃ m', m' < m ∧ W (i + 1) m' σ' H') ∧ ∀ x H', J.yld i H x H' → g x σ H' fun σ2 H2 => tb { D with nx := N, ct := N, bk := D.nx } σ2 H2)
def pinsAt (fp : List Addr) (h : Heap) : List (Addr × Obj) := fp.filterMap fun b => (h.get? b).map fun o => (b, o)
theorem mem_pinsAt {fp : List Addr} {h : Heap} {b : Addr} {o : Obj} (hb : b ∈ fp) (e : h.get? b = some o) : (b, o) ∈ pinsAt fp h := List.mem_filterMap.mpr ⟨b, hb, by rw [e]; rfl⟩
theorem of_pinsAt {fp : List Addr} {h : Heap} {p : Addr × Obj} (hp : p ∈ pinsAt fp h) : p.1 ∈ fp ∧ h.get? p.1 = some p.2 := by
  obtain ⟨b, hb, e⟩ := List.mem_filterMap.mp hp
  cases q : h.get? b with
  | none => rw [q] at e; cases e
  | some o =>
    rw [q] at e
    have e' : (b, o) = p := Option.some.inj e
    subst e'
    exact ⟨hb, q⟩
theorem Inv.pinned {pins : List (Addr × Obj)} {σ : St} {H : Hp} {s : Shared} {fp : List Addr} (I : Inv X pins σ H s) (hf : ∀ b ∈ fp, FpOk X pins H b) (ho : ∀ b ∈ fp, ∃ o, s.heap.get? b = some o ∧ ∀ v, o.data ≠ .cell v) : Inv X (pins ++ pinsAt fp s.heap) σ H s :=
  I.pins_of fun p hp => (List.mem_append.mp hp).elim (fun z => I.pin p (List.mem_append_right _ z)) fun z => by
    obtain ⟨hb, e⟩ := of_pinsAt z
    obtain ⟨f0, f1, f2, _⟩ := hf p.1 hb
    obtain ⟨o, e', d⟩ := ho p.1 hb
    rw [e] at e'; cases e'
    exact ⟨e, f0, f1, f2, d⟩
theorem Inv.unpinned {pins pl : List (Addr × Obj)} {σ : St} {H : Hp} {s : Shared} (I : Inv X (pins ++ pl) σ H s) : Inv X pins σ H s := I.pins_of fun p hp => I.pin p (List.mem_append_right _ (List.mem_append_left _ hp))
theorem ps_for {iter : Expr} {body : List Stmt} {wi : TI} {g : TG} {tb : TS} {pos : Pos} (hp : PassesOwn (model X.prog X.w) X.A X.env X.xe) (hc : X.calm = true) (hi : PI X tg iter wi) (hg : PG X tg g) (hb : PSs X body tb)
    (hs : ∀ x, foldedSetIterable iter X.env x = pure x := by intro _; rfl) : PS X (.For tg iter body [] pos) (tFor wi g tb) := by
  intro pins s σ H D I h
  refine wpAny_For (thn (hi pins s σ H _ I h) fun v s1 h1 => thn h1 fun itv s2 h2 => ?_) hs
  obtain ⟨it, fp, tn, J, H2, e, I2, T, st2, f2, W, ⟨m0, w0⟩, turn⟩ := h2
  subst e
  -- what stays true of the iterator's objects through the loop
  have stat : ∀ {H' : Hp}, (∀ b ∈ fp, H' b = none) → ∀ b ∈ fp, FpOk X pins H' b := fun hn b hb => ⟨hn b hb, (f2 b hb).2⟩
  refine codeAny_forLoop_any (fun n s' => ∃ i σ' H', Inv X pins σ' H' s' ∧ tn i s'.heap ∧ (∀ b ∈ fp, H' b = none) ∧ W i n σ' H') ?_ m0 ⟨0, σ, H2, I2, st2, fun b hb => (f2 b hb).1, w0⟩
  rintro n s3 ⟨i, σ3, H3, I3, st3, fr3, w3⟩
  rcases turn i n σ3 H3 w3 with ⟨stop, qn⟩ | ⟨go, N, hN, step⟩
  · refine wpAny_passesOwn hp (thn (T.done X rfl rfl rfl hc i pins s3 σ3 H3 X.xe I3 (stat fr3) st3 stop) fun r s4 ⟨hr, I4⟩ => ?_)
    subst hr
    exact wpAny_execs_nil ⟨σ3, H3, I4, qn⟩
  · refine wpAny_passesOwn hp (thn (T.item X rfl rfl rfl hc i pins s3 σ3 H3 X.xe I3 (stat fr3) st3 go) fun r s4 ⟨u, hr, h4⟩ => ?_)
    subst hr
    refine wpAny_passesOwn hp (thn h4 fun _ s5 ⟨x, H5, I5, r5, y5, st5, fr5⟩ => ?_)
    have I5' := I5.pinned (stat fr5) (T.obj _ _ st5)
    refine wpAny_passesOwn hp (thn (hg _ s5 σ3 H5 x u _ I5' r5 (step x H5 y5)) fun _ s6 ⟨σ6, H6, I6, q6⟩ => ?_)
    refine wpAny_passesOwn hp (thn (hb _ s6 σ6 H6 _ I6 q6) fun f s7 q7 => ?_)
    have again : ∀ {σ7 : St} {H7 : Hp}, Inv X (pins ++ pinsAt fp s5.heap) σ7 H7 s7 → N σ7 H7 → ∃ m, m < n ∧ ∃ i σ' H', Inv X pins σ' H' s7 ∧ tn i s7.heap ∧ (∀ b ∈ fp, H' b = none) ∧ W i m σ' H' := fun {σ7 H7} I7 n7 => by
      obtain ⟨m', hm, w7⟩ := hN σ7 H7 n7
      refine ⟨m', hm, i + 1, σ7, H7, I7.unpinned, T.keep _ _ _ st5 fun b hb o e => (I7.pin (b, o) (List.mem_append_right _ (List.mem_append_right _ (mem_pinsAt hb e)))).1, fun b hb => ?_, w7⟩
      obtain ⟨o, e, d⟩ := T.obj _ _ st5 b hb
      exact (I7.pin (b, o) (List.mem_append_right _ (List.mem_append_right _ (mem_pinsAt hb e)))).2.1
    cases f with
    | next => obtain ⟨σ7, H7, I7, n7⟩ := q7; exact again I7 n7
    | cont => obtain ⟨σ7, H7, I7, n7⟩ := q7; exact again I7 n7
    | brk => obtain ⟨σ7, H7, I7, q7⟩ := q7; exact ⟨σ7, H7, I7.unpinned, q7⟩
    | ret v => obtain ⟨x7, σ7, H7, I7, r7, q7⟩ := q7; exact ⟨x7, σ7, H7, I7.unpinned, r7, q7⟩
end
theorem for_range {lo : Int} {n : Nat} {g : TG} {tb : TS} {D : Ends} {σ : St} {H : Hp} (Pv : Nat → St → Hp → Prop) (h0 : Pv 0 σ H)
    (hs : ∀ i σ H, i < n → Pv i σ H → g (.int (lo + i)) σ H fun σ2 H2 => tb { D with nx := Pv (i + 1), ct := Pv (i + 1), bk := D.nx } σ2 H2) (hd : ∀ σ H, Pv n σ H → D.nx σ H) :
    ∃ W : Nat → Nat → St → Hp → Prop, (∃ m, W 0 m σ H) ∧ ∀ i m σ H, W i m σ H →
      ((Itr lo n).stop i H ∧ D.nx σ H) ∨ ((Itr lo n).go i H ∧ ∃ N : St → Hp → Prop, (∀ σ' H', N σ' H' → ∃ m', m' < m ∧ W (i + 1) m' σ' H') ∧ ∀ x H', (Itr lo n).yld i H x H' → g x σ H' fun σ2 H2 => tb { D with nx := N, ct := N, bk := D.nx } σ2 H2) := by
  refine ⟨fun i m σ H => m = n - i ∧ i ≤ n ∧ Pv i σ H, ⟨n, by simp, Nat.zero_le _, h0⟩, ?_⟩
  rintro i m σ H ⟨rfl, hi, p⟩
  by_cases hlt : i < n
  · refine .inr ⟨hlt, Pv (i + 1), fun σ' H' p' => ⟨n - (i + 1), by omega, rfl, hlt, p'⟩, fun x H' y => ?_⟩
    obtain ⟨e, y⟩ := y
    subst e y
    exact hs i σ _ hlt p
  · have e : i = n := by omega
    subst e
    exact .inl ⟨Nat.le_refl _, hd σ H p⟩
end L2
namespace L2
open PySem PySem.Spec PyProof.Rows
abbrev R2 := V → V → Hp → VK → Prop
def OpR (X : Cx) (f : Value → Value → Sem Value) (r : R2) : Prop :=
  ∀ (pins : List (Addr × Obj)) (s : Shared) (σ : St) (H : Hp) (x y : V) (v u : Value) (Q : VK), Inv X pins σ H s → RelV x v → RelV y u → r x y H Q →
    wpAny (model X.prog X.w) X.A (f v u) (EP X pins σ Q) X.xe s
def UnR (X : Cx) (f : Value → Sem Value) (r : V → Hp → VK → Prop) : Prop :=
  ∀ (pins : List (Addr × Obj)) (s : Shared) (σ : St) (H : Hp) (x : V) (v : Value) (Q : VK), Inv X pins σ H s → RelV x v → r x H Q →
    wpAny (model X.prog X.w) X.A (f v) (EP X pins σ Q) X.xe s
def CallR (X : Cx) (f : Value) (r : List V → Hp → VK → Prop) : Prop :=
  ∀ (pins : List (Addr × Obj)) (s : Shared) (σ : St) (H : Hp) (xs : List V) (us : List Value) (Q : VK), Inv X pins σ H s → Vals xs us → r xs H Q →
    wpAny (model X.prog X.w) X.A (call f us) (EP X pins σ Q) X.xe s
def tOp (r : R2) (ta tb : TE) : TE := fun σ H Q => ta σ H fun x H1 => tb σ H1 fun y H2 => r x y H2 Q
def tUn (r : V → Hp → VK → Prop) (ta : TE) : TE := fun σ H Q => ta σ H fun x H1 => r x H1 Q
def rI (C : Int → Int → Prop) (g : Int → Int → V) : R2 := fun x y H Q => ∃ i j, x = .int i ∧ y = .int j ∧ C i j ∧ Q (g i j) H
def rI0 (g : Int → Int → V) : R2 := fun x y H Q => ∃ i j, x = .int i ∧ y = .int j ∧ Q (g i j) H
def rU (g : Int → V) : V → Hp → VK → Prop := fun x H Q => ∃ i, x = .int i ∧ Q (g i) H
section
variable {X : Cx} {a b c : Expr} {ta tb tc : TE} {pos : Pos}
theorem binT (ha : PE X a ta) (hb : PE X b tb) {pins : List (Addr × Obj)} {s : Shared} {σ : St} {H : Hp} {R : V → V → Hp → Prop} (I : Inv X pins σ H s)
    (h : ta σ H fun x H1 => tb σ H1 fun y H2 => R x y H2) {Q : Value → Shared → Prop} {f : Value → Value → Sem Value}
    (hf : ∀ v u s2 x y H2, Inv X pins σ H2 s2 → RelV x v → RelV y u → R x y H2 → wpAny (model X.prog X.w) X.A (f v u) Q X.xe s2) :
    wpAny (model X.prog X.w) X.A (eval a X.env) (fun v s₁ => wpAny (model X.prog X.w) X.A (eval b X.env) (fun u s₂ => wpAny (model X.prog X.w) X.A (f v u) Q X.xe s₂) X.xe s₁) X.xe s := by
  refine thn (ha pins s σ H _ I h) fun v s1 ⟨x, H1, I1, r1, q1⟩ => ?_
  refine thn (hb pins s1 σ H1 _ I1 q1) fun u s2 ⟨y, H2, I2, r2, q2⟩ => ?_
  exact hf v u s2 x y H2 I2 r1 r2 q2
theorem pe_op {op : Operator} {r : R2} (ho : OpR X (binaryOp op) r) (ha : PE X a ta) (hb : PE X b tb) : PE X (.BinOp a op b pos) (tOp r ta tb) := by
  intro pins s σ H Q I h
  exact wpAny_BinOp (binT ha hb I h fun v u s2 x y H2 I2 rx ry q => ho pins s2 σ H2 x y v u Q I2 rx ry q)
theorem pe_un {op : UnaryOp} {r : V → Hp → VK → Prop} (ho : UnR X (unaryOp op) r) (ha : PE X a ta) : PE X (.UnaryOp op a pos) (tUn r ta) := by
  intro pins s σ H Q I h
  exact UnaryOp_ (thn (ha pins s σ H _ I h) fun v s1 ⟨x, H1, I1, r1, q1⟩ => ho pins s1 σ H1 x v Q I1 r1 q1)
theorem opI {f : Value → Value → Sem Value} {C : Int → Int → Prop} {g : Int → Int → Int}
    (rule : ∀ (i j : Int) (t u : Tok) (s : Shared) (Q : Value → Shared → Prop) (E : Value → Shared → Prop), C i j → Q (.int (g i j) s.toks) { s with toks := s.toks + 1 } → wpAny (model X.prog X.w) X.A (f (.int i t) (.int j u)) Q E s) :
    OpR X f (rI C fun i j => .int (g i j)) := by
  intro pins s σ H x y v u Q I rx ry h
  obtain ⟨i, j, rfl, rfl, hc, q⟩ := h
  obtain ⟨t, rfl⟩ := rx
  obtain ⟨t', rfl⟩ := ry
  exact rule i j t t' s _ _ hc ⟨.int (g i j), H, I.tok _, ⟨_, rfl⟩, q⟩
theorem opI0 {f : Value → Value → Sem Value} {g : Int → Int → Int}
    (rule : ∀ (i j : Int) (t u : Tok) (s : Shared) (Q : Value → Shared → Prop) (E : Value → Shared → Prop), Q (.int (g i j) s.toks) { s with toks := s.toks + 1 } → wpAny (model X.prog X.w) X.A (f (.int i t) (.int j u)) Q E s) :
    OpR X f (rI0 fun i j => .int (g i j)) := by
  intro pins s σ H x y v u Q I rx ry h
  obtain ⟨i, j, rfl, rfl, q⟩ := h
  obtain ⟨t, rfl⟩ := rx
  obtain ⟨t', rfl⟩ := ry
  exact rule i j t t' s _ _ ⟨.int (g i j), H, I.tok _, ⟨_, rfl⟩, q⟩
theorem opB0 {f : Value → Value → Sem Value} {g : Int → Int → Bool}
    (rule : ∀ (i j : Int) (t u : Tok) (s : Shared) (Q : Value → Shared → Prop) (E : Value → Shared → Prop), Q (.bool (g i j)) s → wpAny (model X.prog X.w) X.A (f (.int i t) (.int j u)) Q E s) :
    OpR X f (rI0 fun i j => .bl (g i j)) := by
  intro pins s σ H x y v u Q I rx ry h
  obtain ⟨i, j, rfl, rfl, q⟩ := h
  obtain ⟨t, rfl⟩ := rx
  obtain ⟨t', rfl⟩ := ry
  exact rule i j t t' s _ _ ⟨.bl (g i j), H, I, rfl, q⟩
def CDiv (i j : Int) : Prop := 0 < j ∧ j < 1073741824
def CPow (i j : Int) : Prop := 0 ≤ j ∧ j ≤ 1000000 ∧ i.natAbs < 2 ^ 64
def CMul (i j : Int) : Prop := (-(2 ^ 64) < i ∧ i < 2 ^ 64) ∨ (-(2 ^ 64) < j ∧ j < 2 ^ 64)
theorem CMul.ok {i j : Int} (h : CMul i j) : IntMulOk i j := by
  rcases h with ⟨h1, h2⟩ | ⟨h1, h2⟩
  · exact .of_left (intBits_le_64 h1 h2)
  · exact .of_right (intBits_le_64 h1 h2)
theorem two_pow_nn (k : Nat) : (0 : Int) ≤ 2 ^ k := by
  rw [two_pow_cast]
  exact Int.natCast_nonneg _
theorem op_add : OpR X (binaryOp .Add) (rI0 fun i j => .int (i + j)) := opI0 fun _ _ _ _ _ _ _ q => add_int q
theorem op_sub : OpR X (binaryOp .Sub) (rI0 fun i j => .int (i - j)) := opI0 fun _ _ _ _ _ _ _ q => sub_int q
theorem op_mul : OpR X (binaryOp .Mult) (rI CMul fun i j => .int (i * j)) := opI fun _ _ _ _ _ _ _ hc q => mul_int q hc.ok
theorem op_fdiv : OpR X (binaryOp .FloorDiv) (rI CDiv fun i j => .int (i / j)) := opI fun i j _ _ _ _ _ hc q => by
  have h1 : (0 : Int) < j := hc.1
  have h2 : j < 1073741824 := hc.2
  exact floordiv_int (by omega) (by rw [Int.fdiv_eq_ediv_of_nonneg i (by omega)]; exact q) (.inl (PyProof.noPylong_small (by omega)))
theorem op_mod : OpR X (binaryOp .Mod) (rI (fun _ j => 0 < j) fun i j => .int (i % j)) := opI fun i j _ _ _ _ _ hc q => by
  have h1 : (0 : Int) < j := hc
  exact mod_int' (by omega) (by rw [Int.fmod_eq_emod_of_nonneg i (by omega)]; exact q)
theorem op_shr : OpR X (binaryOp .RShift) (rI (fun _ j => 0 ≤ j) fun i j => .int (i / 2 ^ j.toNat)) := opI fun i j _ _ _ _ _ hc q =>
  rshift_int hc (by rw [Int.fdiv_eq_ediv_of_nonneg i (two_pow_nn _)]; exact q)
theorem unI {f : Value → Sem Value} {g : Int → Int}
    (rule : ∀ (i : Int) (t : Tok) (s : Shared) (Q : Value → Shared → Prop) (E : Value → Shared → Prop), Q (.int (g i) s.toks) { s with toks := s.toks + 1 } → wpAny (model X.prog X.w) X.A (f (.int i t)) Q E s) :
    UnR X f (rU fun i => .int (g i)) := by
  intro pins s σ H x v Q I rx h
  obtain ⟨i, rfl, q⟩ := h
  obtain ⟨t, rfl⟩ := rx
  exact rule i t s _ _ ⟨.int (g i), H, I.tok _, ⟨_, rfl⟩, q⟩
theorem un_neg : UnR X (unaryOp .USub) (rU fun i => .int (-i)) := unI fun _ _ _ _ _ q => neg_int q
end
def scal : V → V → Bool
  | .non, .non => true | .non, .int _ => true | .int _, .non => true | .non, .bl _ => true | .bl _, .non => true | .non, .str _ => true | .str _, .non => true
  | .int _, .int _ => true | .bl _, .bl _ => true | .str _, .str _ => true | .byt _, .byt _ => true
  | .int _, .str _ => true | .str _, .int _ => true | .bl _, .str _ => true | .str _, .bl _ => true
  | _, _ => false
def rEq : R2 := fun x y H Q => scal x y = true ∧ Q (.bl (decide (x = y))) H
def rNe : R2 := fun x y H Q => scal x y = true ∧ Q (.bl (!decide (x = y))) H
theorem dec_int {i j : Int} : decide (V.int i = V.int j) = (i == j) := by
  rw [Bool.eq_iff_iff]
  simp
theorem dec_bl {i j : Bool} : decide (V.bl i = V.bl j) = (i == j) := by
  rw [Bool.eq_iff_iff]
  simp
theorem dec_str {i j : Str} : decide (V.str i = V.str j) = (i == j) := by
  rw [Bool.eq_iff_iff]
  simp
theorem dec_byt {i j : Array UInt8} : decide (V.byt i = V.byt j) = (i.toList == j.toList) := by
  rw [Bool.eq_iff_iff]
  cases i
  cases j
  simp
section
variable {X : Cx} {a b c : Expr} {ta tb tc : TE} {pos : Pos}
theorem fin_bl {pins : List (Addr × Obj)} {σ : St} {H : Hp} {s : Shared} {Q : VK} {k k' : Bool} (I : Inv X pins σ H s) (q : Q (.bl k) H) (e : k = k') : EP X pins σ Q (.bool k') s := by
  subst e
  exact ⟨.bl k, H, I, rfl, q⟩
theorem op_eq : OpR X (compareOp .Eq) rEq := by
  intro pins s σ H x y v u Q I rx ry h
  obtain ⟨hs, q⟩ := h
  cases x with
  | non =>
    cases rx
    cases y with
    | non => cases ry; exact PySem.EqNone.eq_none_none (fin_bl I q (by simp))
    | bl j => cases ry; exact PySem.EqNone.eq_none_bool (fin_bl I q (by simp))
    | int j => obtain ⟨t', rfl⟩ := ry; exact PySem.EqNone.eq_none_int (fin_bl I q (by simp))
    | str j => obtain ⟨t', rfl⟩ := ry; exact PySem.EqNone.eq_none_str (fin_bl I q (by simp))
    | _ => exact absurd (show false = true from hs) Bool.false_ne_true
  | bl i =>
    cases rx
    cases y with
    | non => cases ry; exact PySem.EqNone.eq_bool_none (fin_bl I q (by simp))
    | bl j => cases ry; exact eq_bool (fin_bl I q dec_bl)
    | str j => obtain ⟨t', rfl⟩ := ry; exact PySem.EqMixed.eq_bool_str (fin_bl I q (by simp))
    | _ => exact absurd (show false = true from hs) Bool.false_ne_true
  | int i =>
    obtain ⟨t, rfl⟩ := rx
    cases y with
    | non => cases ry; exact PySem.EqNone.eq_int_none (fin_bl I q (by simp))
    | int j => obtain ⟨t', rfl⟩ := ry; exact eq_int (fin_bl I q dec_int)
    | str j => obtain ⟨t', rfl⟩ := ry; exact PySem.EqMixed.eq_int_str (fin_bl I q (by simp))
    | _ => exact absurd (show false = true from hs) Bool.false_ne_true
  | str i =>
    obtain ⟨t, rfl⟩ := rx
    cases y with
    | non => cases ry; exact PySem.EqNone.eq_str_none (fin_bl I q (by simp))
    | bl j => cases ry; exact PySem.EqMixed.eq_str_bool (fin_bl I q (by simp))
    | int j => obtain ⟨t', rfl⟩ := ry; exact PySem.EqMixed.eq_str_int (fin_bl I q (by simp))
    | str j => obtain ⟨t', rfl⟩ := ry; exact eq_str (fin_bl I q dec_str)
    | _ => exact absurd (show false = true from hs) Bool.false_ne_true
  | byt i =>
    obtain ⟨t, rfl⟩ := rx
    cases y with
    | byt j => obtain ⟨t', rfl⟩ := ry; exact PySem.W.eq_bytes (fin_bl I q dec_byt)
    | _ => exact absurd (show false = true from hs) Bool.false_ne_true
  | _ => cases y <;> exact absurd (show false = true from hs) Bool.false_ne_true
theorem op_ne : OpR X (compareOp .NotEq) rNe := by
  intro pins s σ H x y v u Q I rx ry h
  obtain ⟨hs, q⟩ := h
  cases x with
  | non =>
    cases rx
    cases y with
    | non => cases ry; exact PySem.EqNone.ne_none_none (fin_bl I q (by simp))
    | bl j => cases ry; exact PySem.EqNone.ne_none_bool (fin_bl I q (by simp))
    | int j => obtain ⟨t', rfl⟩ := ry; exact PySem.EqNone.ne_none_int (fin_bl I q (by simp))
    | str j => obtain ⟨t', rfl⟩ := ry; exact PySem.EqNone.ne_none_str (fin_bl I q (by simp))
    | _ => exact absurd (show false = true from hs) Bool.false_ne_true
  | bl i =>
    cases rx
    cases y with
    | non => cases ry; exact PySem.EqNone.ne_bool_none (fin_bl I q (by simp))
    | bl j => cases ry; exact ne_bool (fin_bl I q (congrArg not dec_bl))
    | str j => obtain ⟨t', rfl⟩ := ry; exact PySem.EqMixed.ne_bool_str (fin_bl I q (by simp))
    | _ => exact absurd (show false = true from hs) Bool.false_ne_true
  | int i =>
    obtain ⟨t, rfl⟩ := rx
    cases y with
    | non => cases ry; exact PySem.EqNone.ne_int_none (fin_bl I q (by simp))
    | int j => obtain ⟨t', rfl⟩ := ry; exact ne_int (fin_bl I q (congrArg not dec_int))
    | str j => obtain ⟨t', rfl⟩ := ry; exact PySem.EqMixed.ne_int_str (fin_bl I q (by simp))
    | _ => exact absurd (show false = true from hs) Bool.false_ne_true
  | str i =>
    obtain ⟨t, rfl⟩ := rx
    cases y with
    | non => cases ry; exact PySem.EqNone.ne_str_none (fin_bl I q (by simp))
    | bl j => cases ry; exact PySem.EqMixed.ne_str_bool (fin_bl I q (by simp))
    | int j => obtain ⟨t', rfl⟩ := ry; exact PySem.EqMixed.ne_str_int (fin_bl I q (by simp))
    | str j => obtain ⟨t', rfl⟩ := ry; exact ne_str (fin_bl I q (congrArg not dec_str))
    | _ => exact absurd (show false = true from hs) Bool.false_ne_true
  | byt i =>
    obtain ⟨t, rfl⟩ := rx
    cases y with
    | byt j => obtain ⟨t', rfl⟩ := ry; exact PySem.W.ne_bytes (fin_bl I q (congrArg not dec_byt))
    | _ => exact absurd (show false = true from hs) Bool.false_ne_true
  | _ => cases y <;> exact absurd (show false = true from hs) Bool.false_ne_true
theorem op_lt : OpR X (compareOp .Lt) (rI0 fun i j => .bl (decide (i < j))) := opB0 fun _ _ _ _ _ _ _ q => lt_int q
theorem op_le : OpR X (compareOp .LtE) (rI0 fun i j => .bl (decide (i ≤ j))) := opB0 fun _ _ _ _ _ _ _ q => le_int q
theorem op_gt : OpR X (compareOp .Gt) (rI0 fun i j => .bl (decide (j < i))) := opB0 fun _ _ _ _ _ _ _ q => gt_int q
theorem op_ge : OpR X (compareOp .GtE) (rI0 fun i j => .bl (decide (j ≤ i))) := opB0 fun _ _ _ _ _ _ _ q => ge_int q
theorem op_in_str : OpR X (compareOp .In) (fun x y H Q => ∃ i j, x = .str i ∧ y = .str j ∧ Q (.bl (!(Builtin.Str.occurrences j i 0 j.length 1).isEmpty)) H) := by
  intro pins s σ H x y v u Q I rx ry h
  obtain ⟨i, j, rfl, rfl, q⟩ := h
  obtain ⟨t, rfl⟩ := rx
  obtain ⟨t', rfl⟩ := ry
  exact in_str (fin_bl I q rfl)
theorem op_isN : OpR X (compareOp .Is) (fun x y H Q => y = .non ∧ Q (.bl (decide (x = .non))) H) := by
  intro pins s σ H x y v u Q I rx ry h
  obtain ⟨rfl, q⟩ := h
  cases ry
  refine is_none_gen (fin_bl I q ?_)
  cases x <;> first
    | (cases rx; rfl)
    | (obtain ⟨t, rfl⟩ := rx; rfl)
theorem nomark (b : Expr) {op : CmpOp} (h : op ≠ .In := by decide) (h2 : op ≠ .NotIn := by decide) : behindInMarks op b = false := by
  have e1 : (op == CmpOp.In) = false := by cases op <;> first | rfl | exact absurd rfl h
  have e2 : (op == CmpOp.NotIn) = false := by cases op <;> first | rfl | exact absurd rfl h2
  cases b <;> simp [behindInMarks, e1, e2]
theorem pe_cmpR {op : CmpOp} {r : R2} (ho : OpR X (compareOp op) r) (ha : PE X a ta) (hb : PE X b tb) (hm : behindInMarks op b = false) : PE X (.Compare a [op] [b] pos) (tOp r ta tb) := by
  intro pins s σ H Q I h
  exact wpAny_Compare1 (binT ha hb I h fun v u s2 x y H2 I2 rx ry q => ho pins s2 σ H2 x y v u Q I2 rx ry q) hm
def tTest (t : TE) : TT := fun σ H Q => t σ H fun x H' => ∃ k, x = .bl k ∧ Q k H'
theorem pt_cmpR {op : CmpOp} {r : R2} (ho : OpR X (compareOp op) r) (ha : PE X a ta) (hb : PE X b tb) (hm : behindInMarks op b = false) : PT X (.Compare a [op] [b] pos) (tTest (tOp r ta tb)) := by
  intro pins s σ H Q I h
  refine wpAny_isTrue_Compare1 (thn (ha pins s σ H _ I h) fun v s1 ⟨x, H1, I1, r1, q1⟩ => thn (hb pins s1 σ H1 _ I1 q1) fun u s2 ⟨y, H2, I2, r2, q2⟩ =>
    thn (ho pins s2 σ H2 x y v u _ I2 r1 r2 q2) fun c s3 ⟨z, H3, I3, r3, k, e, q3⟩ => ?_) hm
  subst e
  cases r3
  exact wpAny_truthy_bool ⟨H3, I3, q3⟩
def tChain (r r' : R2) (ta tb tc : TE) : TE := fun σ H Q => ta σ H fun x H1 => tb σ H1 fun y H2 => r x y H2 fun z H3 => ∃ k, z = .bl k ∧
  (if k = true then tc σ H3 fun w' H4 => r' y w' H4 Q else Q (.bl false) H3)
theorem pt_chain {op op' : CmpOp} {r r' : R2} (ho : OpR X (compareOp op) r) (ho' : OpR X (compareOp op') r') (ha : PE X a ta) (hb : PE X b tb) (hc : PE X c tc)
    (hm : lastMarks [op, op'] [b, c] = false := by with_unfolding_all rfl) : PT X (.Compare a [op, op'] [b, c] pos) (tTest (tChain r r' ta tb tc)) := by
  intro pins s σ H Q I h
  refine isTrue_chain (thn (ha pins s σ H _ I h) fun v s1 ⟨x, H1, I1, r1, q1⟩ => test_link (thn (hb pins s1 σ H1 _ I1 q1) fun u s2 ⟨y, H2, I2, r2, q2⟩ =>
    thn (ho pins s2 σ H2 x y v u _ I2 r1 r2 q2) fun d s3 ⟨z, H3, I3, r3, k, e, q3⟩ => ?_)) hm
  subst e
  cases r3
  refine wpAny_truthy_bool ?_
  cases k with
  | false =>
    obtain ⟨k', e', q'⟩ := q3
    cases e'
    exact ite_ff ⟨H3, I3, q'⟩
  | true =>
    refine ite_tt (test_last (thn (hc pins s3 σ H3 _ I3 q3) fun w' s4 ⟨z', H4, I4, r4, q4⟩ => thn (ho' pins s4 σ H4 y z' u w' _ I4 r2 r4 q4) fun d' s5 ⟨z2, H5, I5, r5, k2, e2, q5⟩ => ?_))
    subst e2
    cases r5
    exact wpAny_truthy_bool ⟨H5, I5, q5⟩
theorem line63 : (sizeLine : Nat) < 2 ^ 63 := by rw [sizeLine_eq]; decide
theorem op_add_str : OpR X (binaryOp .Add) (fun x y H Q => ∃ i j, x = .str i ∧ y = .str j ∧ i.length + j.length ≤ sizeLine ∧ Q (.str (i ++ j)) H) := by
  intro pins s σ H x y v u Q I rx ry h
  obtain ⟨i, j, rfl, rfl, hz, q⟩ := h
  obtain ⟨t, rfl⟩ := rx
  obtain ⟨t', rfl⟩ := ry
  exact add_str (fun t' tk => ⟨.str (i ++ j), H, I.tok _, ⟨_, rfl⟩, q⟩) hz
theorem vals1 {x : V} {us : List Value} (r : Vals [x] us) : ∃ u, us = [u] ∧ RelV x u := by
  cases r with
  | cons r1 r2 => cases r2; exact ⟨_, rfl, r1⟩
theorem vals2 {x y : V} {us : List Value} (r : Vals [x, y] us) : ∃ u w', us = [u, w'] ∧ RelV x u ∧ RelV y w' := by
  cases r with
  | cons r1 r2 =>
    cases r2 with
    | cons r3 r4 => cases r4; exact ⟨_, _, rfl, r1, r3⟩
theorem call_int1 : CallR X (.type "int") (fun xs H Q => (∃ i, xs = [.int i] ∧ Q (.int i) H) ∨ ∃ k, xs = [.bl k] ∧ Q (.int (if k then 1 else 0)) H) := by
  intro pins s σ H xs us Q I r h
  rcases h with ⟨i, rfl, q⟩ | ⟨k, rfl, q⟩
  · obtain ⟨u, rfl, t, rfl⟩ := vals1 r
    exact call_int_int ⟨.int i, H, I, ⟨_, rfl⟩, q⟩
  · obtain ⟨u, rfl, r1⟩ := vals1 r
    cases r1
    exact call_int_bool ⟨.int (if k then 1 else 0), H, I.tok _, ⟨_, rfl⟩, q⟩
end
end L2
namespace L2
open PySem PySem.Spec PyProof.Rows
structure ObjM (h : Heap) (x dx C : Addr) (mA : Str → Option Value) : Prop where
  obj : h.get? x = some (PySem.W.instObj C dx)
  ns : h.Ns1 dx mA
  ne : dx ≠ x
theorem lookIn_ns {h : Heap} {dx : Addr} {mA : Str → Option Value} (n : h.Ns1 dx mA) : ∃ od, h.get? dx = some od ∧ ∀ name, PySem.W.lookIn name od = some (mA name) := by
  obtain ⟨o, es, ep, ho, hd, hk, _, hm⟩ := n
  refine ⟨o, ho, fun name => ?_⟩
  have e := hm name
  unfold nsFind findBy at e
  rw [← Array.find?_toList] at e
  unfold PySem.W.lookIn
  rw [hd]
  dsimp only
  split
  · rename_i y q
    rw [q] at e
    exact congrArg some e
  · rename_i q
    rw [q] at e
    have a : es.toList.any (·.refKey) = false := by
      rw [List.any_eq_false]
      intro y hy
      obtain ⟨z, t, hkey⟩ := hk y (Array.mem_toList_iff.mp hy)
      simp [DictEntry.refKey, hkey]
    have a' : ¬ es.toList.any (·.refKey) = true := by rw [a]; exact Bool.false_ne_true
    rw [if_neg a']
    exact congrArg some e
theorem ObjM.look {h : Heap} {x dx C : Addr} {mA : Str → Option Value} (I : ObjM h x dx C mA) : ∃ od, PySem.W.InstAt h x (PySem.W.instObj C dx) C (some od) ∧ ∀ name, PySem.W.lookIn name od = some (mA name) :=
  let ⟨od, ho, hl⟩ := lookIn_ns I.ns
  ⟨od, ⟨I.obj, rfl, rfl, ho⟩, hl⟩
section
variable {prog : Program} {w : World} {A : Around} {E : Value → Shared → Prop} {s : Shared} {K : PySem.W.Frag} {x dx C f : Addr} {mA : Str → Option Value} {name : Str} {v : Value}
theorem get_map {expr : Bool} {Q : Value → Shared → Prop} (X : K.In s.heap) (I : ObjM s.heap x dx C mA) (hg : PySem.W.plainGet K C name = true) (hh : PySem.W.hasDictIn K C = true)
    (ha : PySem.W.findIn K (.ref C) name = some none) (hv : mA name = some v) (hv' : PySem.W.handedIn v = true) (h : Q v { s with toks := s.toks + 1 }) :
    wpAny (model prog w) A (getAttr (.ref x) name expr) Q E s := by
  obtain ⟨od, J, hl⟩ := I.look
  exact PySem.W.get_value X J (PySem.W.plainGet_of hg).1 (PySem.W.findObj_own hh ha rfl (by rw [hl, hv])) hv' h
theorem get_meth {pl : Sem Bool} {Q : Value × List Value → Shared → Prop} (X : K.In s.heap) (I : ObjM s.heap x dx C mA) (hg : PySem.W.plainGet K C name = true)
    (hf : PySem.W.findIn K (.ref C) name = some (some (.ref f))) (ht : PySem.W.isFn K (.ref f) = true) (hv : mA name = none) (h : Q (.ref f, [.ref x]) s) :
    wpAny (model prog w) A (getMethod (.ref x) name pl) Q E s := by
  obtain ⟨od, J, hl⟩ := I.look
  exact PySem.W.method_fn X J (PySem.W.plainGet_of hg).1 (PySem.W.plainGet_of hg).2 hf (beq_iff_eq.mp ht) (by show (PySem.W.lookIn name od).map (·.isSome) = some false; rw [hl, hv]; rfl) h
theorem set_map {ns : List Str} {Q : Unit → Shared → Prop} (X : K.In s.heap) (I : ObjM s.heap x dx C mA)
    (hs : PySem.W.findIn K (.ref C) "__setattr__" = some (some (.builtin "object.__setattr__"))) (hp : PySem.W.plainOver K C = true) (ht : PySem.W.takerIn K C name = some none) (hh : PySem.W.hasDictIn K C = true)
    (hw : PySem.Within mA ns) (hsz : ns.length ≤ sizeLine)
    (h : ∀ h', ObjM h' x dx C (fun y => if y = name then some v else mA y) → Heap.SameBut dx s.heap h' → Q () { s with heap := h', toks := s.toks + 2 }) :
    wpAny (model prog w) A (setAttr (.ref x) name v) Q E s := by
  obtain ⟨od, J, hl⟩ := I.look
  refine PySem.W.set_plain X J hs (PySem.W.osa_open (s := { s with toks := s.toks + 1 }) (r := none) X J hp ht fun b => ?_)
  obtain ⟨cd, hc, hd'⟩ := PySem.W.any_some hh
  have hx : s.heap.get? x = some ⟨.ref C, some dx, .plain, #[]⟩ := I.obj
  refine wpAny_bind (wpAny_pure (wpAny_bind (wpAny_bind (wpAny_loadPart hx (wpAny_bind (PySem.W.Looks.here (s := { s with toks := s.toks + 1 }) (PySem.W.looks_clsIn X hc) ?_))))))
  rw [hd']
  refine wpAny_pure (a := some dx) (wpAny_bind (wpAny_pure (wpAny_bind ?_)))
  refine wpAny_nsSet1 (s := { s with toks := s.toks + 1 }) I.ns fun h' hn2 hs2 => ?_
  obtain ⟨oD, esD, epD, hoD, hdD, hcD⟩ := hn2.count (PySem.Within.cons name v hw)
  refine wpAny_bind (wpAny_lookBehind hoD (by rw [hdD]; exact pastItsLine_dict (Nat.le_trans hcD (by rw [List.length_cons]; omega))) ?_)
  exact wpAny_pure (h _ ⟨(hs2.2 _ (Ne.symm I.ne)).trans I.obj, hn2, I.ne⟩ hs2)
theorem make_map {R : Result → Shared → Prop} {vs : List Value} {kw : List (Str × Value)} (X : K.In s.heap) (hm : PySem.W.makesIn K C = true)
    (hi : PySem.W.findIn K (.ref C) "__init__" = some (some (.ref f))) (hf : PySem.W.typeIn K (.ref f) = some (.type "function"))
    (h : codeAny (model prog w) (A.under (.builtin "type.__call__" ⟨.ref C :: vs, kw⟩)) (.call (.ref f) ⟨.ref (s.heap.objs.size + 1) :: vs, kw⟩) (PySem.W.InitBack (s.heap.objs.size + 1) R)
      { s with heap := (s.heap.push PySem.W.emptyDict).push (PySem.W.instObj C s.heap.objs.size) }) :
    codeAny (model prog w) A (.call (.ref C) ⟨vs, kw⟩) R s := by
  obtain ⟨hh, g, d, t, os⟩ := s
  exact PySem.W.make_core (PySem.W.makes_of X hm) (PySem.W.looks_findIn X hi) (fun self => PySem.W.bind_fn X self hf) (.inl rfl) h
end
def putF (f : Str) (v : V) : List (Str × V) → List (Str × V)
  | [] => [(f, v)]
  | (g, x) :: r => if g = f then (g, v) :: r else (g, x) :: putF f v r
theorem lookup_putF (f g : Str) (v : V) : ∀ fs : List (Str × V), (putF f v fs).lookup g = if g = f then some v else fs.lookup g
  | [] => by
    show List.lookup g [(f, v)] = _
    by_cases h : g = f
    · have hb : (g == f) = true := beq_iff_eq.mpr h
      simp only [List.lookup, hb, if_pos h]
    · have hb : (g == f) = false := beq_eq_false_iff_ne.mpr h
      simp only [List.lookup, hb, if_neg h]
  | (k, x) :: r => by
    have ih := lookup_putF f g v r
    rw [show putF f v ((k, x) :: r) = (if k = f then (k, v) :: r else (k, x) :: putF f v r) from rfl]
    by_cases hk : k = f
    · rw [if_pos hk]
      by_cases h : g = k
      · have hb : (g == k) = true := beq_iff_eq.mpr h
        simp only [List.lookup, hb, if_pos (h.trans hk)]
      · have hb : (g == k) = false := beq_eq_false_iff_ne.mpr h
        simp only [List.lookup, hb, if_neg (fun e : g = f => h (e.trans hk.symm))]
    · rw [if_neg hk]
      by_cases h : g = k
      · have hb : (g == k) = true := beq_iff_eq.mpr h
        simp only [List.lookup, hb, if_neg (fun e : g = f => hk (h.symm.trans e))]
      · have hb : (g == k) = false := beq_eq_false_iff_ne.mpr h
        simp only [List.lookup, hb]
        exact ih
theorem keys_putF (f : Str) (v : V) : ∀ fs : List (Str × V), f ∈ (putF f v fs).map (·.1) ∧ ∀ g, g ∈ fs.map (·.1) → g ∈ (putF f v fs).map (·.1)
  | [] => ⟨by simp [putF], fun g h => by simp at h⟩
  | (k, x) :: r => by
    obtain ⟨i1, i2⟩ := keys_putF f v r
    rw [show putF f v ((k, x) :: r) = (if k = f then (k, v) :: r else (k, x) :: putF f v r) from rfl]
    by_cases hk : k = f
    · rw [if_pos hk]
      subst hk
      exact ⟨by simp, fun g h => by simpa using h⟩
    · rw [if_neg hk]
      refine ⟨?_, fun g h => ?_⟩
      · rw [List.map_cons]
        exact List.mem_cons_of_mem _ i1
      · rw [List.map_cons] at h ⊢
        rcases List.mem_cons.mp h with e | e
        · exact List.mem_cons.mpr (.inl e)
        · exact List.mem_cons_of_mem _ (i2 g e)
theorem length_putF (f : Str) (v : V) : ∀ fs : List (Str × V), (putF f v fs).length ≤ fs.length + 1
  | [] => by simp [putF]
  | (k, x) :: r => by
    have ih := length_putF f v r
    rw [show putF f v ((k, x) :: r) = (if k = f then (k, v) :: r else (k, x) :: putF f v r) from rfl]
    by_cases hk : k = f
    · rw [if_pos hk, List.length_cons, List.length_cons]; omega
    · rw [if_neg hk, List.length_cons, List.length_cons]; omega
theorem RelO.some_of {v : V} {o : Option Value} (r : RelO (some v) o) : ∃ u, o = some u ∧ RelV v u := by
  cases o with
  | none => exact (show False from r).elim
  | some u => exact ⟨u, rfl, r⟩
theorem RelO.none_of {o : Option Value} (r : RelO none o) : o = none := by
  cases o with
  | none => rfl
  | some u => exact (show False from r).elim
theorem handed_of {v : V} {u : Value} (r : RelV v u) : PySem.W.handedIn u = true := by
  cases v with
  | non => cases (show u = Value.none from r); rfl
  | bl b => cases (show u = Value.bool b from r); rfl
  | int i => obtain ⟨t, e⟩ := (show ∃ t, u = Value.int i t from r); cases e; rfl
  | str x => obtain ⟨t, e⟩ := (show ∃ t, u = Value.str x t from r); cases e; rfl
  | byt b => obtain ⟨t, e⟩ := (show ∃ t, u = Value.bytes b t from r); cases e; rfl
  | flt b => obtain ⟨t, e⟩ := (show ∃ t, u = Value.float b t from r); cases e; rfl
  | ref a => cases (show u = Value.ref a from r); rfl
  | ty n => cases (show u = Value.type n from r); rfl
section
variable {P : Program} {w : World} {H H' : Hp} {h h' : Heap} {a C dx : Addr} {fs fs' : List (Str × V)}
theorem ins_get (hok : HOk P w H h) (e : H a = some (.ins C dx fs)) : ∃ mA, ObjM h a dx C mA ∧ (∀ f, RelO (fs.lookup f) (mA f)) ∧ PySem.Within mA (fs.map (·.1)) ∧ fs.length ≤ 1000 ∧ H dx = some (.own a) := by
  obtain ⟨d, z, ne, ob, mA, n, r, q⟩ := (show ObjOk P w H h a (.ins C dx fs) from hok a _ e)
  exact ⟨mA, ⟨ob, n, ne⟩, r, q, z, d⟩
end
structure Cls (K : PySem.W.Frag) (C : Addr) : Prop where
  pg : PySem.W.plainGet K C Str.empty = true
  hd : PySem.W.hasDictIn K C = true
  po : PySem.W.plainOver K C = true
  sa : PySem.W.findIn K (.ref C) "__setattr__" = some (some (.builtin "object.__setattr__"))
theorem Cls.get {K : PySem.W.Frag} {C : Addr} (c : Cls K C) (f : Str) : PySem.W.plainGet K C f = true := c.pg
def NoAttr (K : PySem.W.Frag) (C : Addr) (f : Str) : Prop := PySem.W.findIn K (.ref C) f = some none
theorem NoAttr.taker {K : PySem.W.Frag} {C : Addr} {f : Str} (n : NoAttr K C f) : PySem.W.takerIn K C f = some none := by
  unfold PySem.W.takerIn
  rw [show PySem.W.findIn K (.ref C) f = some none from n]
  rfl
structure Meth (K : PySem.W.Frag) (C : Addr) (m : Str) (f : Addr) : Prop where
  at_ : PySem.W.findIn K (.ref C) m = some (some (.ref f))
  fn : PySem.W.isFn K (.ref f) = true
  kp : PySem.W.keepIn K (.ref f) = true
section
variable {X : Cx} {pins : List (Addr × Obj)} {σ : St} {H : Hp} {s : Shared} {a C dx : Addr} {fs : List (Str × V)} {f : Str} {v : V} {A : Around} {E : Value → Shared → Prop}
theorem getattr_ok {b : Bool} {Q : Value → Shared → Prop} (I : Inv X pins σ H s) (e : H a = some (.ins C dx fs)) (c : Cls X.K C) (n : NoAttr X.K C f) (l : fs.lookup f = some v)
    (h : ∀ u s', Inv X pins σ H s' → RelV v u → Q u s') : wpAny (model X.prog X.w) A (getAttr (.ref a) f b) Q E s := by
  obtain ⟨mA, O, r, _, _, _⟩ := ins_get I.hok e
  obtain ⟨u, hu, ru⟩ := RelO.some_of (v := v) (o := mA f) (by rw [← l]; exact r f)
  exact get_map I.kIn O (c.get f) c.hd n hu (handed_of ru) (h u _ (I.tok _) ru)
theorem getmeth_ok {m : Str} {g : Addr} {pl : Sem Bool} {Q : Value × List Value → Shared → Prop} (I : Inv X pins σ H s) (e : H a = some (.ins C dx fs)) (c : Cls X.K C) (k : Meth X.K C m g) (l : fs.lookup m = none)
    (h : Q (.ref g, [.ref a]) s) : wpAny (model X.prog X.w) A (getMethod (.ref a) m pl) Q E s := by
  obtain ⟨mA, O, r, _, _, _⟩ := ins_get I.hok e
  have hn : mA m = none := RelO.none_of (by rw [← l]; exact r m)
  exact get_meth I.kIn O (c.get m) k.at_ k.fn hn h
theorem setattr_ok {y : V} {u : Value} {Q : Unit → Shared → Prop} (I : Inv X pins σ H s) (e : H a = some (.ins C dx fs)) (c : Cls X.K C) (n : NoAttr X.K C f) (hl : fs.length < 1000) (ry : RelV y u)
    (h : ∀ s', Inv X pins σ (upd H a (.ins C dx (putF f y fs))) s' → Q () s') : wpAny (model X.prog X.w) A (setAttr (.ref a) f u) Q E s := by
  obtain ⟨mA, O, r, wi, _, ho⟩ := ins_get I.hok e
  have hz : (fs.map (·.1)).length ≤ sizeLine := by rw [List.length_map, sizeLine_eq]; omega
  refine set_map I.kIn O c.sa c.po n.taker c.hd wi hz fun h' O' sb => h _ ?_
  have hd : ∃ o, h'.get? dx = some o := let ⟨o, _, _, e', _⟩ := O'.ns; ⟨o, e'⟩
  refine I.write (x := a) (e := dx) (by rw [e]; exact True.intro) (.inr ho) (fun b q hb z => (sb.2 b hb).trans z) hd ?_
  refine ⟨by rw [upd_ne O.ne]; exact ho, ?_, O.ne, O'.obj, _, O'.ns, fun g => ?_, fun g hg => ?_⟩
  · have := length_putF f y fs; omega
  · show RelO ((putF f y fs).lookup g) (if g = f then some u else mA g)
    rw [lookup_putF]
    by_cases q : g = f
    · rw [if_pos q, if_pos q]; exact ry
    · rw [if_neg q, if_neg q]; exact r g
  · by_cases q : g = f
    · rw [q]; exact (keys_putF f y fs).1
    · refine (keys_putF f y fs).2 g (wi g fun z => hg ?_)
      show (if g = f then some u else mA g) = none
      rw [if_neg q]; exact z
theorem Inv.made (I : Inv X pins σ H s) : Inv X pins σ (upd (upd H s.heap.objs.size (.own (s.heap.objs.size + 1))) (s.heap.objs.size + 1) (.ins C s.heap.objs.size []))
    { s with heap := (s.heap.push PySem.W.emptyDict).push (PySem.W.instObj C s.heap.objs.size) } := by
  have e1 : (s.heap.push PySem.W.emptyDict).get? s.heap.objs.size = some PySem.W.emptyDict := Heap.get?_push_size s.heap rfl
  have e2 : ((s.heap.push PySem.W.emptyDict).push (PySem.W.instObj C s.heap.objs.size)).get? (s.heap.objs.size + 1) = some (PySem.W.instObj C s.heap.objs.size) := by
    have := Heap.get?_push_size (s.heap.push PySem.W.emptyDict) (o := PySem.W.instObj C s.heap.objs.size) rfl
    rwa [Heap.size_push] at this
  have e3 : (s.heap.push PySem.W.emptyDict).Ns s.heap.objs.size (fun _ => none) := ⟨PySem.W.emptyDict, #[], _, e1, rfl, (fun e he => absurd he (by simp)), fun _ => rfl⟩
  have I1 := I.laid (a := s.heap.objs.size) (o := .own (s.heap.objs.size + 1)) (h' := s.heap.push PySem.W.emptyDict) (t' := s.toks) (fun b u q => Heap.get?_push_of_some _ q) (Nat.le_refl _) ⟨_, e1⟩
  refine I1.laid (a := s.heap.objs.size + 1) (o := .ins C s.heap.objs.size []) (t' := s.toks) (fun b u q => Heap.get?_push_of_some _ q) (Nat.le_of_eq (Heap.size_push _ _)) ?_
  have ne : s.heap.objs.size ≠ s.heap.objs.size + 1 := Nat.ne_of_lt (Nat.lt_succ_self _)
  refine ⟨by rw [upd_ne ne, upd_same], Nat.zero_le _, ne, e2, fun _ => none, (Heap.Ns1.of_empty e3).at fun o q => Heap.get?_push_of_some _ q, fun _ => True.intro, fun y hy => absurd rfl hy⟩
theorem attr_of {prog : Program} {w : World} {env : Env} {e : Expr} {f : Str} {pos : Pos} {s : Shared} {Q : Value → Shared → Prop} (hb : attributeBase e f env (eval e env) = eval e env)
    (h : wpAny (model prog w) A (eval e env) (fun o s₁ => wpAny (model prog w) A (getAttr o f true) Q E s₁) E s) : wpAny (model prog w) A (eval (.Attribute e f pos) env) Q E s :=
  Attribute_any_ h (by rw [arm_eval_Attribute, hb])
end
section
variable {X : Cx} {o e value : Expr} {f : Str} {pos pos' tpos : Pos} {ta tv : TE}
end
section
variable {X : Cx} {pins : List (Addr × Obj)} {σ : St} {H : Hp} {s : Shared} {A : Around} {E : Value → Shared → Prop} {Q : Value → Shared → Prop} {c : Value} {b : Bool}
inductive TyOf (K : PySem.W.Frag) (H : Hp) : V → Value → Prop where
  | non : TyOf K H .non (.type "NoneType")
  | bl (x : Bool) : TyOf K H (.bl x) (.type "bool")
  | int (i : Int) : TyOf K H (.int i) (.type "int")
  | str (x : Str) : TyOf K H (.str x) (.type "str")
  | flt (x : UInt64) : TyOf K H (.flt x) (.type "float")
  | lst {a : Addr} {xs : List V} (e : H a = some (.lst xs)) : TyOf K H (.ref a) (.type "list")
  | frz {a : Addr} {o : Obj} {xs : List V} (e : H a = some (.frz o (.lst xs))) : TyOf K H (.ref a) (.type "list")
  | tup {a : Addr} {xs : List V} (e : H a = some (.tup xs)) : TyOf K H (.ref a) (.type "tuple")
  | dK {a : Addr} {kvs : List (Key × V)} (e : H a = some (.dK kvs)) : TyOf K H (.ref a) (.type "dict")
  | dT {a : Addr} {kvs : List (List Key × V)} (e : H a = some (.dT kvs)) : TyOf K H (.ref a) (.type "dict")
  | ins {a C dx : Addr} {fs : List (Str × V)} (e : H a = some (.ins C dx fs)) (cl : Cls K C) (ha : PySem.W.findIn K (.ref C) "__class__" = some (some (.builtin "object.__class__")))
      (hn : PySem.W.specialIn K (.builtin "object.__class__") "__get__" = some (some (.builtin "getset_descriptor.__get__"))) (htk : PySem.W.takesIn K (.builtin "object.__class__") = some true)
      (hm : PySem.W.mroIn K C (.type "object") = some true) : TyOf K H (.ref a) (.ref C)
theorem isinst_ok {x : V} {u t : Value} (I : Inv X pins σ H s) (rx : RelV x u) (ty : TyOf X.K H x t) (e : PySem.W.kitOne X.K t c = some b) (h : ∀ tk, Q (.bool b) { s with toks := tk }) :
    wpAny (model X.prog X.w) A (call (.builtin "isinstance") [u, c]) Q E s := by
  cases ty with
  | non => cases (show u = Value.none from rx); exact PySem.W.kia_one PySem.W.kitx_none I.kIn True.intro e (fun z => nomatch z) h
  | bl y => cases (show u = Value.bool y from rx); exact PySem.W.kia_one PySem.W.kitx_bool I.kIn True.intro e (fun z => nomatch z) h
  | int i => obtain ⟨t, q⟩ := (show ∃ t, u = Value.int i t from rx); cases q; exact PySem.W.kia_one PySem.W.kitx_int I.kIn True.intro e (fun z => nomatch z) h
  | str y => obtain ⟨t, q⟩ := (show ∃ t, u = Value.str y t from rx); cases q; exact PySem.W.kia_one PySem.W.kitx_str I.kIn True.intro e (fun z => nomatch z) h
  | flt y => obtain ⟨t, q⟩ := (show ∃ t, u = Value.float y t from rx); cases q; exact PySem.W.kia_one PySem.W.kitx_float I.kIn True.intro e (fun z => nomatch z) h
  | @lst a xs ea =>
    cases (show u = Value.ref a from rx)
    obtain ⟨_, _, n, _, h1⟩ := (show ObjOk X.prog X.w H s.heap a (.lst xs) from I.hok a _ ea)
    exact PySem.W.kia_one PySem.W.kitx_list I.kIn ⟨_, h1, rfl⟩ e (fun z => nomatch z) h
  | @frz a ob xs ea =>
    cases (show u = Value.ref a from rx)
    obtain ⟨_, _, _, n, _, h1⟩ := (show ObjOk X.prog X.w H s.heap a (.frz ob (.lst xs)) from I.hok a _ ea)
    exact PySem.W.kia_one PySem.W.kitx_list I.kIn ⟨_, h1, rfl⟩ e (fun z => nomatch z) h
  | @tup a xs ea =>
    cases (show u = Value.ref a from rx)
    obtain ⟨_, _, _, p⟩ := (show ObjOk X.prog X.w H s.heap a (.tup xs) from I.hok a _ ea)
    obtain ⟨o, h1, h2, _⟩ := p
    exact PySem.W.kia_one PySem.W.kitx_tuple I.kIn ⟨o, h1, h2⟩ e (fun z => nomatch z) h
  | @dK a kvs ea =>
    cases (show u = Value.ref a from rx)
    obtain ⟨_, _, vs, _, p⟩ := (show ObjOk X.prog X.w H s.heap a (.dK kvs) from I.hok a _ ea)
    obtain ⟨o, es, ep, h1, h2, _⟩ := p
    exact PySem.W.kia_one PySem.W.kitx_dict I.kIn ⟨o, h1, h2.1⟩ e (fun z => nomatch z) h
  | @dT a kvs ea =>
    cases (show u = Value.ref a from rx)
    obtain ⟨_, _, xs, _, o, es, ep, h1, h2, _⟩ := (show ObjOk X.prog X.w H s.heap a (.dT kvs) from I.hok a _ ea)
    exact PySem.W.kia_one PySem.W.kitx_dict I.kIn ⟨o, h1, h2.1⟩ e (fun z => nomatch z) h
  | @ins a C dx fs ea cl ha hn htk hm =>
    cases (show u = Value.ref a from rx)
    obtain ⟨mA, O, _⟩ := ins_get I.hok ea
    obtain ⟨od, J, _⟩ := O.look
    exact PySem.W.kia_one (PySem.W.kitx_own (cl.get _) cl.hd ha hn htk hm) I.kIn J e (fun z => nomatch z) h
end
end L2
namespace L2
open PySem PySem.Spec PyProof.Rows
structure Room (k : Nat) (A : Around) : Prop where
  hd : A.handled = none
  dp : A.depth + 3 * k + 5 < recursionLimit
  un : A.units + 16 * k + 200 < cLine
theorem Room.mono {j k : Nat} {A : Around} (r : Room k A) (h : j ≤ k) : Room j A := ⟨r.hd, by have := r.dp; omega, by have := r.un; omega⟩
theorem Room.deeper {k : Nat} {A : Around} (r : Room (k + 1) A) (env : Env) : Room k (A.deeper env) :=
  ⟨r.hd, by have := r.dp; show A.depth + 1 + 3 * k + 5 < _; omega, by have := r.un; show A.units + 3 + 16 * k + 200 < _; omega⟩
theorem make_depth {A : Around} {C : Addr} {us : List Value} {kw : List (Str × Value)} : (A.under (.builtin "type.__call__" ⟨.ref C :: us, kw⟩)).depth = A.depth + 1 := by
  first | rfl | simp [Around.under, Code.weight, Code.isCreation, Code.isGuard, Code.isCaller, Code.frames, Code.isFrame, guardIds]
theorem make_units {A : Around} {C : Addr} {us : List Value} {kw : List (Str × Value)} : (A.under (.builtin "type.__call__" ⟨.ref C :: us, kw⟩)).units = A.units + 1 := by
  first | rfl | simp [Around.under, Code.cUnits, Code.frames, Code.isFrame]
theorem Room.make {k : Nat} {A : Around} (r : Room (k + 1) A) (C : Addr) (us : List Value) (kw : List (Str × Value)) : Room k (A.under (.builtin "type.__call__" ⟨.ref C :: us, kw⟩)) :=
  ⟨r.hd, by have := r.dp; rw [make_depth]; omega, by have := r.un; rw [make_units]; omega⟩
theorem Room.depth {k : Nat} {A : Around} (r : Room k A) : A.depth < recursionLimit := by have := r.dp; omega
theorem Room.units {k : Nat} {A : Around} (r : Room k A) : A.units + 64 < cLine := by have := r.un; omega
def tNil : TA := fun _ H Q => Q [] H
def tCons (ta : TE) (tr : TA) : TA := fun σ H Q => ta σ H fun x H1 => tr σ H1 fun xs H2 => Q (x :: xs) H2
section
variable {X : Cx} {e : Expr} {es : List Expr} {te : TE} {t : TA} {pos : Pos}
theorem pa_nil : PA X [] tNil := fun _ _ _ _ H Q I h => Calls.spliced_nil ⟨[], H, I, .nil, h⟩
theorem pa_cons (ha : PE X e te) (hr : PA X es t) (hs : starEach (e :: es) X.env = (false, eval e X.env) :: starEach es X.env := by rfl) : PA X (e :: es) (tCons te t) := by
  intro pos pins s σ H Q I h
  rw [hs]
  show wpAny _ _ (spliced ((false, eval e X.env) :: backTo pos (starEach es X.env))) _ _ s
  refine Calls.spliced_cons (thn (ha pins s σ H _ I h) fun u s1 ⟨x, H1, I1, r1, q1⟩ => ?_)
  exact thn (hr pos pins s1 σ H1 _ I1 q1) fun us s2 ⟨xs, H2, I2, r2, q2⟩ => ⟨x :: xs, H2, I2, .cons r1 r2, q2⟩
def tTup (t : TA) : TE := fun σ H Q => t σ H fun xs H1 => xs.length ≤ sizeLine ∧ ∀ p, H1 p = none → Q (.ref p) (upd H1 p (.tup xs))
def tLst (t : TA) : TE := fun σ H Q => t σ H fun xs H1 => xs.length ≤ sizeLine ∧ ∀ p, H1 p = none → Q (.ref p) (upd H1 p (.lst xs))
theorem pe_tup {x1} (h : PA X es t) : PE X (.Tuple es x1 pos) (tTup t) := by
  intro pins s σ H Q I hq
  refine wpAny_Tuple_spliced (thn (h pos pins s σ H _ I hq) fun us s1 ⟨xs, H1, I1, r, z, q⟩ => ⟨by rw [← r.length]; exact z, ?_⟩)
  have hf : H1 s1.heap.objs.size = none := I1.hok.fresh (Nat.le_refl _)
  refine ⟨.ref s1.heap.objs.size, upd H1 s1.heap.objs.size (.tup xs), I1.laid (t' := s1.toks) (fun b u e => Heap.get?_push_of_some _ e) (Nat.le_refl _) ?_, rfl, q _ hf⟩
  exact ⟨z, us, r, ⟨_, Heap.get?_push_size _ rfl, rfl, _, rfl⟩⟩
theorem pe_lst (h : PA X es t) : PE X (.List es pos) (tLst t) := by
  intro pins s σ H Q I hq
  refine wpAny_List_spliced (thn (h pos pins s σ H _ I hq) fun us s1 ⟨xs, H1, I1, r, z, q⟩ => ⟨by rw [← r.length]; exact z, ?_⟩)
  have hf : H1 s1.heap.objs.size = none := I1.hok.fresh (Nat.le_refl _)
  refine ⟨.ref s1.heap.objs.size, upd H1 s1.heap.objs.size (.lst xs), I1.laid (t' := s1.toks) (fun b u e => Heap.get?_push_of_some _ e) (Nat.le_refl _) ?_, rfl, q _ hf⟩
  exact ⟨z, us, 0, r, Heap.get?_push_size _ rfl⟩
end
abbrev Sp := List V → Hp → VK → XK → Prop
abbrev CXT := List Env → Hp → Shared → XK → Value → Shared → Prop
structure Env0 (P : Program) (w : World) (K : PySem.W.Frag) (mg : Str → Option Value) (base : Heap) (A : Around) (outer : List Env) (s : Shared) (H : Hp) : Prop where
  frames : A.frames = some outer
  mod : Mod K mg base
  bs : ∀ b o, base.get? b = some o → s.heap.get? b = some o ∧ H b = none
  bsz : base.objs.size ≤ s.heap.objs.size
  funs : s.heap.FunFrames base outer
  frf : ∀ b ∈ frs outer, H b = none
  hok : HOk P w H s.heap
  bare : AllBare s.gens
def CE (outer : List Env) (P : Program) (w : World) (H : Hp) (s : Shared) (Q : VK) (u : Value) (s' : Shared) : Prop :=
  ∃ v H', s'.os = s.os ∧ AllBare s'.gens ∧ Un (frs outer) [] H H' s.heap s'.heap ∧ HOk P w H' s'.heap ∧ RelV v u ∧ Q v H'
def CR (CX : CXT) (outer : List Env) (P : Program) (w : World) (H : Hp) (s : Shared) (Q : VK) (E : XK) (r : Result) (s' : Shared) : Prop :=
  match r with
  | .ok (.ret u) => CE outer P w H s Q u s'
  | .ok _ => False
  | .error e => CX outer H s E e s'
structure FnOk (P : Program) (w : World) (K : PySem.W.Frag) (mg : Str → Option Value) (base : Heap) (CX : CXT) (k : Nat) (f : Addr) (fd : FuncData) (ps : List Str) (sp : Sp) : Prop where
  len : ∀ vs H Q E, sp vs H Q E → vs.length = ps.length
  run : ∀ (A : Around) (outer : List Env) (s : Shared) (H : Hp) (args : Args) (us : List Value) (vs : List V) (Q : VK) (E : XK), Room k A → Env0 P w K mg base A outer s H → BindsTo s fd args (ps.zip us) → Vals vs us → sp vs H Q E →
    codeAny (model P w) A (.call (.ref f) args) (CR CX outer P w H s Q E) s
theorem FnOk.mono {P : Program} {w : World} {K : PySem.W.Frag} {mg : Str → Option Value} {base : Heap} {CX : CXT} {j k : Nat} {f : Addr} {fd : FuncData} {ps : List Str} {sp : Sp} (F : FnOk P w K mg base CX j f fd ps sp) (h : j ≤ k) :
    FnOk P w K mg base CX k f fd ps sp := ⟨F.len, fun A outer s H args us vs Q E hr => F.run A outer s H args us vs Q E (hr.mono h)⟩
theorem FnOk.imp {P : Program} {w : World} {K : PySem.W.Frag} {mg : Str → Option Value} {base : Heap} {CX : CXT} {k : Nat} {f : Addr} {fd : FuncData} {ps : List Str} {sp sp' : Sp} (F : FnOk P w K mg base CX k f fd ps sp)
    (h : ∀ vs H Q E, sp' vs H Q E → sp vs H Q E) : FnOk P w K mg base CX k f fd ps sp' :=
  ⟨fun vs H Q E q => F.len vs H Q E (h _ _ _ _ q), fun A outer s H args us vs Q E hr he hb hv hs => F.run A outer s H args us vs Q E hr he hb hv (h _ _ _ _ hs)⟩
theorem Env0.make {P : Program} {w : World} {K : PySem.W.Frag} {mg : Str → Option Value} {base : Heap} {A : Around} {outer : List Env} {s : Shared} {H : Hp} (e : Env0 P w K mg base A outer s H) (C : Addr) (us : List Value) (kw : List (Str × Value)) :
    Env0 P w K mg base (A.under (.builtin "type.__call__" ⟨.ref C :: us, kw⟩)) outer s H := ⟨by first | exact e.frames | (simpa [Around.under, Code.envs, Code.isFrame, pushEnvs] using e.frames), e.mod, e.bs, e.bsz, e.funs, e.frf, e.hok, e.bare⟩
section
variable {X : Cx} {pins : List (Addr × Obj)} {σ : St} {H : Hp} {s s' : Shared}
theorem Inv.env0 (I : Inv X pins σ H s) : Env0 X.prog X.w X.K X.mg X.base X.A X.stack s H :=
  ⟨I.ok.frames, I.ok.mod, I.bs, Nat.le_trans I.ok.bsz I.sz, I.stack, I.stkFree, I.hok, I.bare⟩
theorem Inv.after {Q : VK} {u : Value} (I : Inv X pins σ H s) (h : CE X.stack X.prog X.w H s Q u s') : EP X pins σ Q u s' := by
  obtain ⟨v, H', os, bare, un, hok, r, q⟩ := h
  obtain ⟨hh, g, d, t, os'⟩ := s'
  obtain rfl : os' = s.os := os
  exact ⟨v, H', I.call (h' := hh) (g' := g) (d' := d) (t' := t) (ch := []) un hok bare (fun b z => absurd z (by simp)), r, q⟩
end
def tCall (sp : Sp) (dvs : List V) (E : XK) (t : TA) : TE := fun σ H Q => t σ H fun vs H1 => sp (vs ++ dvs) H1 Q E
def tMake (C : Addr) (sp : Sp) (dvs : List V) (E : XK) (t : TA) : TE := fun σ H Q => t σ H fun vs H1 => ∀ x dx, H1 x = none → H1 dx = none → dx ≠ x →
  sp (.ref x :: (vs ++ dvs)) (upd (upd H1 dx (.own x)) x (.ins C dx [])) (fun v H2 => v = .non ∧ Q (.ref x) H2) E
def Binds (K : PySem.W.Frag) (fd : FuncData) (ps : List Str) (ds : List Value) : Prop :=
  ∀ (s : Shared) (us : List Value), K.In s.heap → (us ++ ds).length = ps.length → BindsTo s fd ⟨us, []⟩ (ps.zip (us ++ ds))
theorem Binds.all {K : PySem.W.Frag} {fd : FuncData} {ps : List Str} (h : ∀ us : List Value, us.length = ps.length → bindArgs fd ⟨us, []⟩ = pure (ps.zip us)) : Binds K fd ps [] := fun s us _ hl => by
  rw [List.append_nil] at hl ⊢
  exact .of_eq (h us hl)
def Passes (CX : CXT) (X : Cx) (E : XK) : Prop := ∀ (pins : List (Addr × Obj)) (σ : St) (H : Hp) (s : Shared) (e : Value) (s' : Shared), Inv X pins σ H s → CX X.stack H s E e s' → X.xe e s'
section
variable {X : Cx} {CX : CXT} {k : Nat} {f C : Addr} {fd : FuncData} {ps : List Str} {sp : Sp} {dvs : List V} {ds : List Value} {E : XK} {x m : Str} {p pos apos : Pos} {e o : Expr} {es : List Expr} {ta : TE} {t : TA}
theorem run_fn {pins : List (Addr × Obj)} {σ : St} {H : Hp} {s : Shared} {Q : VK} {us : List Value} {vs : List V} (F : FnOk X.prog X.w X.K X.mg X.base CX k f fd ps sp) (hr : Room k X.A) (hb : Binds X.K fd ps ds) (hd : Vals dvs ds) (hx : Passes CX X E)
    (I : Inv X pins σ H s) (r : Vals vs us) (h : sp (vs ++ dvs) H Q E) : wpAny (model X.prog X.w) X.A (call (.ref f) us) (EP X pins σ Q) X.xe s := by
  have r2 : Vals (vs ++ dvs) (us ++ ds) := r.append hd
  have hl : (us ++ ds).length = ps.length := by rw [← r2.length]; exact F.len _ _ _ _ h
  refine wpAny_call (codeAny_mono (F.run X.A X.stack s H ⟨us, []⟩ (us ++ ds) (vs ++ dvs) Q E hr I.env0 (hb s us I.kIn hl) r2 h) fun r s' hq => ?_)
  cases r with
  | error e => exact hx pins σ H s e s' I hq
  | ok fl =>
    cases fl with
    | ret u => exact I.after hq
    | next => exact False.elim hq
    | brk => exact False.elim hq
    | cont => exact False.elim hq
theorem pe_call (F : FnOk X.prog X.w X.K X.mg X.base CX k f fd ps sp) (hr : Room k X.A) (hg : Gl X x) (hm : X.mg x = some (.ref f)) (hk : PySem.W.keepIn X.K (.ref f) = true) (hb : Binds X.K fd ps ds) (hd : Vals dvs ds) (hx : Passes CX X E)
    (ha : PA X (e :: es) t) (hdb : (x == ("__debug__" : Str)) = false := by decide) (he : starEach (e :: es) X.env = (false, eval e X.env) :: starEach es X.env := by rfl) (hpl : (backTo pos (starEach es X.env)).any (·.1) = false := by rfl) :
    PE X (.Call (.Name x p) (e :: es) [] pos) (tCall sp dvs E t) := by
  intro pins s σ H Q I h
  refine wpAny_Call_Name_kw (ld_glob I hg hm ?_ hdb)
  refine PySem.W.callWith_K (h₀ := X.base) I.ok.mod.kin hk (thn (ha pos pins s σ H _ I h) fun us s1 ⟨vs, H1, I1, r, q⟩ => ⟨I1.kIn, ?_⟩) he hpl
  exact run_fn F hr hb hd hx I1 r q
structure Mk (K : PySem.W.Frag) (C f : Addr) : Prop where
  makes : PySem.W.makesIn K C = true
  init : PySem.W.findIn K (.ref C) "__init__" = some (some (.ref f))
  fn : PySem.W.isFn K (.ref f) = true
  kp : PySem.W.keepIn K (.ref C) = true
theorem run_make {pins : List (Addr × Obj)} {σ : St} {H : Hp} {s : Shared} {Q : VK} {us : List Value} {vs : List V} (M : Mk X.K C f) (F : FnOk X.prog X.w X.K X.mg X.base CX k f fd ps sp) (hr : Room (k + 1) X.A) (hb : Binds X.K fd ps ds) (hd : Vals dvs ds)
    (hx : Passes CX X E) (I : Inv X pins σ H s) (r : Vals vs us)
    (h : ∀ x dx, H x = none → H dx = none → dx ≠ x → sp (.ref x :: (vs ++ dvs)) (upd (upd H dx (.own x)) x (.ins C dx [])) (fun v H2 => v = .non ∧ Q (.ref x) H2) E) :
    wpAny (model X.prog X.w) X.A (call (.ref C) us) (EP X pins σ Q) X.xe s := by
  have hq := h (s.heap.objs.size + 1) s.heap.objs.size (I.hok.fresh (Nat.le_succ _)) (I.hok.fresh (Nat.le_refl _)) (Nat.ne_of_lt (Nat.lt_succ_self _))
  have I2 := Inv.made (C := C) I
  have r2 : Vals (V.ref (s.heap.objs.size + 1) :: (vs ++ dvs)) (Value.ref (s.heap.objs.size + 1) :: (us ++ ds)) := .cons rfl (r.append hd)
  have hl : (Value.ref (s.heap.objs.size + 1) :: us ++ ds).length = ps.length := by
    have e := r2.length
    rw [F.len _ _ _ _ hq] at e
    exact e.symm
  refine wpAny_call (make_map (f := f) I.kIn M.makes M.init (beq_iff_eq.mp M.fn) (codeAny_mono (F.run _ X.stack _ _ ⟨Value.ref (s.heap.objs.size + 1) :: us, []⟩ (Value.ref (s.heap.objs.size + 1) :: (us ++ ds)) _ _ E (hr.make C us [])
    (I2.env0.make C us []) (hb _ (Value.ref (s.heap.objs.size + 1) :: us) I2.kIn hl) r2 hq) fun r s' hq' => ?_))
  cases r with
  | error e => exact hx pins σ _ _ e s' I2 hq'
  | ok fl =>
    cases fl with
    | ret u =>
      obtain ⟨v, H', I3, rv, ev, q3⟩ := I2.after hq'
      subst ev
      exact ⟨rv, ⟨V.ref (s.heap.objs.size + 1), H', I3, rfl, q3⟩⟩
    | next => exact False.elim hq'
    | brk => exact False.elim hq'
    | cont => exact False.elim hq'
theorem pe_make (M : Mk X.K C f) (F : FnOk X.prog X.w X.K X.mg X.base CX k f fd ps sp) (hr : Room (k + 1) X.A) (hg : Gl X x) (hm : X.mg x = some (.ref C)) (hb : Binds X.K fd ps ds) (hd : Vals dvs ds) (hx : Passes CX X E)
    (ha : PA X (e :: es) t) (hdb : (x == ("__debug__" : Str)) = false := by decide) (he : starEach (e :: es) X.env = (false, eval e X.env) :: starEach es X.env := by rfl) (hpl : (backTo pos (starEach es X.env)).any (·.1) = false := by rfl) :
    PE X (.Call (.Name x p) (e :: es) [] pos) (tMake C sp dvs E t) := by
  intro pins s σ H Q I h
  refine wpAny_Call_Name_kw (ld_glob I hg hm ?_ hdb)
  refine PySem.W.callWith_K (h₀ := X.base) I.ok.mod.kin M.kp (thn (ha pos pins s σ H _ I h) fun us s1 ⟨vs, H1, I1, r, q⟩ => ⟨I1.kIn, ?_⟩) he hpl
  exact run_make M F hr hb hd hx I1 r q
end
section
variable {X : Cx} {CX : CXT} {k : Nat} {f C : Addr} {fd : FuncData} {ps ks : List Str} {sp : Sp} {E : XK} {x m : Str} {p pos apos kpos : Pos} {e o : Expr} {es : List Expr} {kws : List Keyword} {te ta : TE} {t tk : TA} {nm : Option Str}
variable {g : List Value → List Value → List Value} {gV : List V → List V → List V}
end
structure FnScope (N P : List Str) (sc : Scope) : Prop where
  kind : sc.kind = .function
  co : sc.isCoroutine = false
  gen : sc.isGenerator = false
  nd : N.Nodup
  pre : N.take P.length = P
  par : ∀ x ∈ P, sc.names.lookup x = some .local ∨ sc.names.lookup x = some .cell
  nofree : ∀ y ∈ sc.names, y.2 ≠ .free
theorem bindL_out {kindOf : Str → Option NameKind} {x : Str} : ∀ {binds : List (Str × Value)} {m : Str → Option Value}, (∀ v, (x, v) ∉ binds) → bindL kindOf binds m x = m x
  | [], _, _ => rfl
  | (n, v) :: r, m, h => by
    unfold bindL
    rw [bindL_out fun w hw => h w (List.mem_cons_of_mem _ hw)]
    split
    · have : x ≠ n := by rintro rfl; exact h v List.mem_cons_self
      simp [this]
    · rfl
theorem bindC_out {kindOf : Str → Option NameKind} {x : Str} : ∀ {binds : List (Str × Value)} {m : Str → Option Value}, (∀ v, (x, v) ∉ binds) → bindC kindOf binds m x = m x
  | [], _, _ => rfl
  | (n, v) :: r, m, h => by
    unfold bindC
    rw [bindC_out fun w hw => h w (List.mem_cons_of_mem _ hw)]
    split
    · rfl
    · have : x ≠ n := by rintro rfl; exact h v List.mem_cons_self
      simp [this]
theorem bindL_get {kindOf : Str → Option NameKind} {x : Str} {v : Value} : ∀ {P : List Str} {vs : List Value} {i : Nat} {m : Str → Option Value}, P.Nodup → P[i]? = some x → vs[i]? = some v → kindOf x = some .local →
    bindL kindOf (P.zip vs) m x = some v
  | [], _, _, _, _, h, _, _ => by simp at h
  | _ :: _, [], _, _, _, _, h, _ => by simp at h
  | p :: P, w :: vs, 0, m, nd, h1, h2, hk => by
    simp at h1 h2; subst h1; subst h2
    show bindL kindOf ((p, w) :: P.zip vs) m p = _
    unfold bindL
    rw [bindL_out fun v hv => (List.nodup_cons.mp nd).1 (List.of_mem_zip hv).1, if_pos hk]
    simp
  | p :: P, w :: vs, i + 1, m, nd, h1, h2, hk => by
    show bindL kindOf ((p, w) :: P.zip vs) m x = _
    unfold bindL
    exact bindL_get (i := i) (List.nodup_cons.mp nd).2 (by simpa using h1) (by simpa using h2) hk
theorem bindC_get {kindOf : Str → Option NameKind} {x : Str} {v : Value} : ∀ {P : List Str} {vs : List Value} {i : Nat} {m : Str → Option Value}, P.Nodup → P[i]? = some x → vs[i]? = some v → kindOf x ≠ some .local →
    bindC kindOf (P.zip vs) m x = some v
  | [], _, _, _, _, h, _, _ => by simp at h
  | _ :: _, [], _, _, _, _, h, _ => by simp at h
  | p :: P, w :: vs, 0, m, nd, h1, h2, hk => by
    simp at h1 h2; subst h1; subst h2
    show bindC kindOf ((p, w) :: P.zip vs) m p = _
    unfold bindC
    rw [bindC_out fun v hv => (List.nodup_cons.mp nd).1 (List.of_mem_zip hv).1, if_neg hk]
    simp
  | p :: P, w :: vs, i + 1, m, nd, h1, h2, hk => by
    show bindC kindOf ((p, w) :: P.zip vs) m x = _
    unfold bindC
    exact bindC_get (i := i) (List.nodup_cons.mp nd).2 (by simpa using h1) (by simpa using h2) hk
def start (N : List Str) (vs : List V) : St := vs.map some ++ List.replicate (N.length - vs.length) none
def cxOf (CX : CXT) (P : Program) (w : World) (K : PySem.W.Frag) (mg : Str → Option Value) (base : Heap) (N : List Str) (qual : Str) (scope : Scope) (f : Addr) (cd : Value) (A : Around) (outer : List Env) (s : Shared) (H : Hp) (E : XK) : Cx where
  prog := P
  w := w
  K := K
  mg := mg
  base := base
  A := A.deeper (envOfC qual scope s.heap.objs.size f cd)
  N := N
  s₀ := s
  H₀ := H
  env := envOfC qual scope s.heap.objs.size f cd
  outer := outer
  stack := envOfC qual scope s.heap.objs.size f cd :: outer
  ex := []
  calm := true
  fn := fun _ => true
  pn := []
  xe := fun e s' => wpAny (model P w) (A.deeper (envOfC qual scope s.heap.objs.size f cd)) (leaving (envOfC qual scope s.heap.objs.size f cd) e) (fun _ s'' => CX outer H s E e s'') (fun e' s'' => CX outer H s E e' s'') s'
theorem cell_has {sc : Scope} {n : Nat} {x : Str} (h : sc.names.lookup x = some .cell) : ∃ c, (cellsFrom n sc.names []).lookup x = some c := by
  have q := PySem.W.cellsFrom_some sc.names n [] (.inl h)
  exact Option.isSome_iff_exists.mp q
theorem inv_start {CX : CXT} {P : Program} {w : World} {K : PySem.W.Frag} {mg : Str → Option Value} {base : Heap} {N ps : List Str} {qual : Str} {scope : Scope} {f : Addr} {cd : Value} {A : Around} {outer : List Env} {s s1 : Shared} {H : Hp} {E : XK} {us : List Value} {vs : List V}
    (S : FnScope N ps scope) (hd : A.handled = none) (e0 : Env0 P w K mg base A outer s H) (hl : vs.length = ps.length) (r : Vals vs us)
    (x : InCallC s s.heap.objs.size (bindL (envOfC qual scope s.heap.objs.size f cd).kindOf (ps.zip us) fun _ => none) (cellsFrom (s.heap.objs.size + 1) scope.names []) (bindC (envOfC qual scope s.heap.objs.size f cd).kindOf (ps.zip us) fun _ => none) s1) :
    Inv (cxOf CX P w K mg base N qual scope f cd A outer s H E) [] (start N vs) H s1 := by
  have hpl : ps.length ≤ N.length := by have := congrArg List.length S.pre; rw [List.length_take] at this; omega
  obtain ⟨h1, tk, rfl, hk⟩ := x.done
  have noA : ∀ b : Addr, b ∉ (cxOf CX P w K mg base N qual scope f cd A outer s H E).ex := fun b z => absurd (show b ∈ ([] : List Addr) from z) (by simp)
  refine ⟨⟨e0.mod, S.kind, rfl, rfl, Nat.le_refl _, fun y z c h1 h2 => ?_, fun y hy => ?_, fun y c _ h => ?_, fun _ => hd, Around.frames_deeper e0.frames, .inr ⟨rfl, rfl⟩, fun b z => absurd z (noA b), e0.bs, e0.bsz, fun b _ _ => noA b, fun b z => absurd z (noA b), e0.funs, e0.frf⟩,
    rfl, e0.bare, Un.kept hk, ⟨_, x.toInCall.ns, fun i y v h1 h2 h3 => ?_⟩, fun y c h => ⟨_, x.cell y c h⟩, e0.hok.fresh (Nat.le_refl _), fun y c h => ?_, fun p hp => absurd (show p ∈ ([] : List (Addr × Obj)) from hp) (by simp), e0.hok.kept hk, ?_⟩
  · exact name_of_addr x.apart (PySem.mem_of_lookup h1) (PySem.mem_of_lookup h2)
  · have hy : scope.names.lookup y = some .cell ∨ scope.names.lookup y = some .free := hy
    rcases hy with hy | hy
    · exact cell_has hy
    · exact absurd rfl (S.nofree _ (PySem.mem_of_lookup hy))
  · exact Nat.le_of_lt (x.above y c (PySem.mem_of_lookup h))
  · have hi : i < vs.length := by
      unfold start at h2
      by_cases hi : i < vs.length
      · exact hi
      · rw [List.getElem?_append_right (by simpa using hi)] at h2
        rw [List.getElem?_replicate] at h2
        split at h2 <;> cases h2
    have ha : vs[i]? = some v := by
      unfold start at h2
      rw [List.getElem?_append_left (by simpa using hi), List.getElem?_map] at h2
      cases e : vs[i]? with
      | none => rw [e] at h2; cases h2
      | some a => rw [e] at h2; cases h2; rfl
    obtain ⟨u, hu, rv⟩ := r.get ha
    have hp : ps[i]? = some y := by
      rw [← S.pre, List.getElem?_take_of_lt (by omega)]; exact h1
    have ndP : ps.Nodup := by rw [← S.pre]; exact S.nd.sublist (List.take_sublist _ _)
    refine ⟨u, rv, ?_⟩
    rcases S.par y (List.mem_of_getElem? hp) with k | k
    · exact .inl ⟨k, bindL_get ndP hp hu k⟩
    · obtain ⟨c, e⟩ := cell_has (n := s.heap.objs.size + 1) k
      refine .inr ⟨.inl k, c, e, ?_⟩
      have q := x.cell y c e
      rw [bindC_get ndP hp hu (by show scope.names.lookup y ≠ _; rw [k]; decide)] at q
      exact q
  · exact e0.hok.fresh (Nat.le_of_lt (x.above y c (PySem.mem_of_lookup h)))
  · unfold start
    show _ = N.length
    rw [List.length_append, List.length_map, List.length_replicate]
    omega
theorem fn_of {CX : CXT} {P : Program} {w : World} {K : PySem.W.Frag} {mg : Str → Option Value} {base : Heap} {k : Nat} {f : Addr} {name qual : Str} {params : Arguments} {body : List Stmt} {scope : Scope} {dV kV doc pm cdv ct oc : Value} {an od : Option Addr}
    {osl : Array (Option Value)} {N ps : List Str} {sp : Sp} (lk : K.lookup f = some ⟨oc, od, .func (PySem.W.fnOf name qual params body scope dV kV doc pm an cdv ct), osl⟩) (hcd : PySem.W.codeIn K cdv qual = true) (S : FnScope N ps scope)
    (len : ∀ vs H Q E, sp vs H Q E → vs.length = ps.length)
    (hbody : ∀ (A : Around) (outer : List Env) (s : Shared) (H : Hp) (vs : List V) (Q : VK) (E : XK), Room k (A.deeper (envOfC qual scope s.heap.objs.size f cdv)) → sp vs H Q E →
      ∃ t, PSs (cxOf CX P w K mg base N qual scope f cdv A outer s H E) body t ∧ t { nx := fun _ H' => Q .non H', rt := Q } (start N vs) H) :
    FnOk P w K mg base CX (k + 1) f (PySem.W.fnOf name qual params body scope dV kV doc pm an cdv ct) ps sp := by
  refine ⟨len, fun A outer s H args us vs Q E hr e0 hb r hsp => ?_⟩
  have hl := len _ _ _ _ hsp
  have KX : K.In s.heap := e0.mod.kin.keeps fun b o e => (e0.bs b o e).1
  have lim : s.heap.NoLimit := e0.mod.nolimit.keeps fun b o e => (e0.bs b o e).1
  have hkind : ∀ y ∈ ps.zip us, scope.names.lookup y.1 = some .local ∨ (scope.names.lookup y.1 = some .cell ∧ ((cellsFrom (s.heap.objs.size + 1) scope.names []).lookup y.1).isSome = true) := fun ⟨n, v⟩ hy => by
    rcases S.par n (List.of_mem_zip hy).1 with q | q
    · exact .inl q
    · exact .inr ⟨q, PySem.W.cellsFrom_some _ _ _ (.inl q)⟩
  refine codeAny_call_function hr.depth (KX _ _ lk) rfl S.co S.gen rfl (PySem.W.codeRec_of KX hcd) (hb _ _ _ _ ?_)
  refine wpAny_newFunctionEnv_cells S.kind hkind fun env he s1 x => ?_
  subst he
  refine ⟨lim.keeps x.toInCall.keep, codeAny_func ?_⟩
  obtain ⟨t, ht, hq⟩ := hbody A outer s H vs Q E (hr.deeper _) hsp
  have I : Inv (cxOf CX P w K mg base N qual scope f cdv A outer s H E) [] (start N vs) H s1 := inv_start S hr.hd e0 hl r x
  refine wpAny_mono (ht [] s1 (start N vs) H _ I hq) (fun fl s' hs => ?_) fun e s' hs => hs
  have fin : ∀ {σ' : St} {H' : Hp} {v : V} {u : Value}, Inv (cxOf CX P w K mg base N qual scope f cdv A outer s H E) [] σ' H' s' → RelV v u → Q v H' → CE outer P w H s Q u s' :=
    fun {σ' H' v u} J rv q => ⟨v, H', J.os, J.bare, J.base, J.hok, rv, q⟩
  cases fl with
  | ret u =>
    obtain ⟨v, σ', H', J, rv, q⟩ := hs
    exact fin J rv q
  | next =>
    obtain ⟨σ', H', J, q⟩ := hs
    exact fin (v := V.non) (u := Value.none) J rfl q
  | brk =>
    obtain ⟨_, _, _, q⟩ := hs
    exact False.elim q
  | cont =>
    obtain ⟨_, _, _, q⟩ := hs
    exact False.elim q
end L2
namespace L2
open PySem PySem.Spec PyProof.Rows
section
variable {X : Cx} {x : Str} {p pos : Pos} {e : Expr} {es : List Expr} {t : TA} {id T : String} {r : List V → Hp → VK → Prop}
def tCB (r : List V → Hp → VK → Prop) (t : TA) : TE := fun σ H Q => t σ H fun vs H1 => r vs H1 Q
theorem pe_callB (hc : CallR X (.builtin id) r) (hg : Gl X x) (hm : X.mg x = none) (hv : bootBuiltins x = some (.builtin id)) (ha : PA X (e :: es) t) (hn : x ≠ "__name__" := by decide) (hdb : (x == ("__debug__" : Str)) = false := by decide)
    (he : starEach (e :: es) X.env = (false, eval e X.env) :: starEach es X.env := by rfl) (hpl : (backTo pos (starEach es X.env)).any (·.1) = false := by rfl) : PE X (.Call (.Name x p) (e :: es) [] pos) (tCB r t) := by
  intro pins s σ H Q I h
  refine wpAny_Call_Name_kw (ld_blt I hg hm hv ?_ hn hdb)
  exact PyProof.Rows.callWith_builtin1 (thn (ha pos pins s σ H _ I h) fun us s1 ⟨vs, H1, I1, r1, q1⟩ => hc pins s1 σ H1 vs us Q I1 r1 q1) he hpl
theorem pe_callTy (hc : CallR X (.type T) r) (hg : Gl X x) (hm : X.mg x = none) (hv : bootBuiltins x = some (.type T)) (ha : PA X (e :: es) t) (hn : x ≠ "__name__" := by decide) (hdb : (x == ("__debug__" : Str)) = false := by decide)
    (he : starEach (e :: es) X.env = (false, eval e X.env) :: starEach es X.env := by rfl) (hpl : (backTo pos (starEach es X.env)).any (·.1) = false := by rfl) : PE X (.Call (.Name x p) (e :: es) [] pos) (tCB r t) := by
  intro pins s σ H Q I h
  refine wpAny_Call_Name_kw (ld_blt I hg hm hv ?_ hn hdb)
  exact PyProof.Rows.callWith_type1 (thn (ha pos pins s σ H _ I h) fun us s1 ⟨vs, H1, I1, r1, q1⟩ => hc pins s1 σ H1 vs us Q I1 r1 q1) he hpl
end
end L2
namespace HT
open PySem PyProof.Rows
section
open PySem.SeqAt
open PySem.AutoSeq1 (wpAny_loadPart')
open PySem.MeetsSeq PySem.MeetsSeq2 PySem.MeetsSeq3
end
section
variable {prog : Program} {w : World} {A : Around} {E : Value → Shared → Prop} {s : Shared}
def sIx (n d : Nat) : Option Int → Nat
  | none => d
  | some v => if v < 0 then (v + (n : Int)).toNat else min v.toNat n
theorem sIx_nat (n d k : Nat) : sIx n d (some (k : Int)) = min k n := by
  show (if (k : Int) < 0 then ((k : Int) + (n : Int)).toNat else min (k : Int).toNat n) = min k n
  rw [if_neg (by omega), Int.toNat_natCast]
end
end HT
namespace L2
open PySem PySem.Spec PyProof.Rows
abbrev TO := St → Hp → (Option Int → Hp → Prop) → Prop
def PO (X : Cx) (e : Option Expr) (t : TO) : Prop :=
  ∀ (pins : List (Addr × Obj)) (s : Shared) (σ : St) (H : Hp) (Q : Option Int → Hp → Prop), Inv X pins σ H s → t σ H Q →
    wpAny (model X.prog X.w) X.A (evalPart e X.env) (fun u s' => ∃ o H', Inv X pins σ H' s' ∧ IsPart u o ∧ Q o H') X.xe s
def tNoPart : TO := fun _ H Q => Q none H
def tPart (t : TE) : TO := fun σ H Q => t σ H fun x H1 => ∃ i, x = .int i ∧ Q (some i) H1
theorem intsAre_of {ns : List Int} : ∀ {us : List Value}, Vals (ns.map V.int) us → IntsAre us ns := by
  induction ns with
  | nil => intro us r; rw [List.map_nil] at r; cases r; exact .nil
  | cons n ns ih =>
    intro us r
    rw [List.map_cons] at r
    cases r with
    | cons r1 r2 =>
      obtain ⟨t, e⟩ := r1
      subst e
      exact .cons n t (ih r2)
section
variable {X : Cx} {e : Expr} {te : TE} {lo hi : Option Expr} {tl th : TO} {pos p2 : Pos}
theorem po_none : PO X none tNoPart := by
  intro pins s σ H Q I h
  rw [evalPart_none]
  exact wpAny_pure ⟨none, H, I, .none, h⟩
theorem po_some (h : PE X e te) : PO X (some e) (tPart te) := by
  intro pins s σ H Q I hw
  rw [evalPart_some]
  refine thn (h pins s σ H _ I hw) fun u s1 ⟨x, H1, I1, r1, q1⟩ => ?_
  obtain ⟨i, rfl, q⟩ := q1
  obtain ⟨t, rfl⟩ := r1
  exact ⟨some i, H1, I1, .int i t, q⟩
def SlR (X : Cx) (r : V → Option Int → Option Int → Hp → VK → Prop) : Prop :=
  ∀ (pins : List (Addr × Obj)) (s : Shared) (σ : St) (H : Hp) (x : V) (v vl vu : Value) (lo hi : Option Int) (sl : Addr) (Q : VK), Inv X pins σ H s → RelV x v → s.heap.IsSliceOf sl vl vu .none → IsPart vl lo → IsPart vu hi → r x lo hi H Q →
    ∃ T id, typeLookup (.type T) "__getitem__" = pure (some (.builtin id)) ∧ s.TypeIs v T ∧ wpAny (model X.prog X.w) X.A (getItem v (.ref sl)) (EP X pins σ Q) X.xe s
def tSl (r : V → Option Int → Option Int → Hp → VK → Prop) (te : TE) (tl th : TO) : TE := fun σ H Q => te σ H fun x H1 => tl σ H1 fun l H2 => th σ H2 fun u H3 => r x l u H3 Q
theorem pe_slice {r : V → Option Int → Option Int → Hp → VK → Prop} (hr : SlR X r) (he : PE X e te) (hl : PO X lo tl) (hu : PO X hi th) : PE X (.Subscript e (.Slice lo hi none p2) pos) (tSl r te tl th) := by
  intro pins s σ H Q I h
  refine Subscript_ (thn (he pins s σ H _ I h) fun v s1 ⟨x, H1, I1, r1, q1⟩ => ?_)
  refine wpAny_Slice (thn (hl pins s1 σ H1 _ I1 q1) fun vl s2 ⟨l, H2, I2, pl, q2⟩ => thn (hu pins s2 σ H2 _ I2 q2) fun vu s3 ⟨u, H3, I3, pu, q3⟩ => ?_)
  rw [evalPart_none]
  refine wpAny_pure ?_
  have I4 : Inv X pins σ H3 { s3 with heap := s3.heap.push { cls := .type "slice", data := .fields #[vl, vu, .none] } } := I3.kept (t' := s3.toks) fun b ob q => Heap.get?_push_of_some _ q
  obtain ⟨T, id, hT, ht, hg⟩ := hr pins { s3 with heap := s3.heap.push { cls := .type "slice", data := .fields #[vl, vu, .none] } } σ H3 x v vl vu l u s3.heap.objs.size Q I4 r1 (Heap.IsSliceOf.new ..) pl pu q3
  show wpAny (model X.prog X.w) X.A (subscriptTail e (.Slice lo hi none p2) v (.ref s3.heap.objs.size)) (EP X pins σ Q) X.xe { s3 with heap := s3.heap.push { cls := .type "slice", data := .fields #[vl, vu, .none] } }
  exact tail_any (ops := [.ref s3.heap.objs.size, v]) ht hT hg (by with_unfolding_all rfl)
def cutV (xs : List V) (lo hi : Option Int) : List V := (xs.drop (HT.sIx xs.length 0 lo)).take (HT.sIx xs.length xs.length hi - HT.sIx xs.length 0 lo)
theorem cutV_length (xs : List V) (lo hi : Option Int) : (cutV xs lo hi).length ≤ xs.length := by
  unfold cutV
  rw [List.length_take, List.length_drop]
  omega
end
end L2
namespace L2
open PySem PySem.Spec PyProof.Rows
def ixN (n : Nat) (i : Int) : Option Nat := if 0 ≤ i then (if i < n then some i.toNat else none) else if -(n : Int) ≤ i then some (i + n).toNat else none
def atI {α : Type} (xs : List α) (i : Int) : Option α := (ixN xs.length i).bind fun j => xs[j]?
theorem ixN_seq {n : Nat} {i : Int} {j : Nat} (h : ixN n i = some j) : seqIndex? i n = some j ∧ j < n ∧ -(n : Int) ≤ i ∧ i < n := by
  unfold ixN at h
  by_cases h0 : 0 ≤ i
  · rw [if_pos h0] at h
    by_cases h1 : i < n
    · rw [if_pos h1] at h
      have e : i.toNat = j := Option.some.inj h
      exact ⟨by rw [seqIndex_of h0 h1, e], by omega, by omega, h1⟩
    · rw [if_neg h1] at h; cases h
  · rw [if_neg h0] at h
    by_cases h1 : -(n : Int) ≤ i
    · rw [if_pos h1] at h
      have e : (i + n).toNat = j := Option.some.inj h
      exact ⟨by rw [seqIndex_neg (by omega) h1, e], by omega, h1, by omega⟩
    · rw [if_neg h1] at h; cases h
theorem atI_get {α : Type} {xs : List α} {i : Int} {v : α} (h : atI xs i = some v) : ∃ j, seqIndex? i xs.length = some j ∧ xs[j]? = some v ∧ j < xs.length ∧ -(xs.length : Int) ≤ i ∧ i < xs.length := by
  unfold atI at h
  cases e : ixN xs.length i with
  | none => rw [e] at h; cases h
  | some j =>
    rw [e] at h
    obtain ⟨h1, h2, h3, h4⟩ := ixN_seq e
    exact ⟨j, h1, h, h2, h3, h4⟩
theorem atI_nat {α : Type} {xs : List α} {j : Nat} {v : α} (h : xs[j]? = some v) : atI xs (j : Int) = some v := by
  have hj : j < xs.length := (List.getElem?_eq_some_iff.mp h).1
  have e : ixN xs.length (j : Int) = some j := by
    unfold ixN
    rw [if_pos (by omega), if_pos (by omega)]; simp
  unfold atI; rw [e]; exact h
def PlainIx (b : Expr) : Prop := ∀ o i, subscripted b false o i = operate [o, i] (getItem o i)
def IxR (X : Cx) (r : R2) : Prop :=
  ∀ (value slice : Expr) (pins : List (Addr × Obj)) (s : Shared) (σ : St) (H : Hp) (x y : V) (v u : Value) (Q : VK), Inv X pins σ H s → RelV x v → RelV y u → r x y H Q →
    subscripted slice false v u = operate [v, u] (getItem v u) → wpAny (model X.prog X.w) X.A (subscriptTail value slice v u) (EP X pins σ Q) X.xe s
def MtR (X : Cx) (id : String) (r : V → List V → Hp → VK → Prop) : Prop :=
  ∀ (pins : List (Addr × Obj)) (s : Shared) (σ : St) (H : Hp) (x : V) (xs : List V) (v : Value) (us : List Value) (Q : VK), Inv X pins σ H s → RelV x v → Vals xs us → r x xs H Q →
    wpAny (model X.prog X.w) X.A (call (.builtin id) (v :: us)) (EP X pins σ Q) X.xe s
section
variable {X : Cx} {a b : Expr} {ta tb : TE} {pos : Pos}
theorem pe_ix {r : R2} (hr : IxR X r) (ha : PE X a ta) (hb : PE X b tb) (hs : PlainIx b) : PE X (.Subscript a b pos) (tOp r ta tb) := by
  intro pins s σ H Q I h
  exact Subscript_ (binT ha hb I h fun v u s2 x y H2 I2 rx ry q => hr a b pins s2 σ H2 x y v u Q I2 rx ry q (hs _ _))
def rIxL (K : PySem.W.Frag) : R2 := fun x y H Q => ∃ p xs i v, x = .ref p ∧ y = .int i ∧ SqL K H p xs ∧ atI xs i = some v ∧ Q v H
def rIxT (K : PySem.W.Frag) : R2 := fun x y H Q => ∃ p xs i v, x = .ref p ∧ y = .int i ∧ SqT K H p xs ∧ atI xs i = some v ∧ Q v H
def rIxS : R2 := fun x y H Q => ∃ z i c, x = .str z ∧ y = .int i ∧ z.length ≤ sizeLine ∧ atI z.cps.toList i = some c ∧ Q (.str ⟨#[c]⟩) H
theorem ix_list : IxR X (rIxL X.K) := by
  intro value slice pins s σ H x y v u Q I rx ry h hs
  obtain ⟨p, xs, i, z, rfl, rfl, hq, he, q⟩ := h
  cases rx
  obtain ⟨t, rfl⟩ := ry
  obtain ⟨its, r, pl, hz⟩ := I.list hq
  obtain ⟨j, h1, h2, h3, h4, h5⟩ := atI_get he
  obtain ⟨w, ew, rw'⟩ := r.get h2
  have hl := r.length
  have hn := line63
  have fin : EP X pins σ Q w s := ⟨z, H, I, rw', q⟩
  by_cases h0 : 0 ≤ i
  · have hj : i.toNat = j := by
      rw [seqIndex_of h0 h5] at h1
      exact Option.some.inj h1
    exact item_listR pl.isList h0 (by omega) (by rw [hj]; simpa using ew) fin hs
  · have hj : (i + (its.toArray.size : Int)).toNat = j := by
      rw [seqIndex_neg (by omega) h4] at h1
      rw [List.size_toArray, ← hl]
      exact Option.some.inj h1
    exact subscriptTail_builtinR (x := w) pl.isList.typeIs slot_list_getitem.lookup
      (wpAny_getItem_list_neg (Q := fun r s' => r = w ∧ EP X pins σ Q r s') pl.isList (by omega) (by rw [List.size_toArray] <;> omega) (by omega) (by rw [hj]; simpa using ew) ⟨rfl, fin⟩) hs
theorem ix_tup : IxR X (rIxT X.K) := by
  intro value slice pins s σ H x y v u Q I rx ry h hs
  obtain ⟨p, xs, i, z, rfl, rfl, hq, he, q⟩ := h
  cases rx
  obtain ⟨t, rfl⟩ := ry
  obtain ⟨its, r, pl, hz⟩ := I.tuple hq
  obtain ⟨j, h1, h2, h3, h4, h5⟩ := atI_get he
  obtain ⟨w, ew, rw'⟩ := r.get h2
  have hl := r.length
  have hn := line63
  have fin : EP X pins σ Q w s := ⟨z, H, I, rw', q⟩
  exact subscriptTail_builtinR (x := w) pl.typeIs slot_tuple_getitem.lookup
    (getItem_tuple (j := j) (Q := fun r s' => r = w ∧ EP X pins σ Q r s') pl (by omega) (by omega) (by rw [List.size_toArray, ← hl]; exact h1) (by simpa using ew) ⟨rfl, fin⟩) hs
theorem ix_str : IxR X rIxS := by
  intro value slice pins s σ H x y v u Q I rx ry h hs
  obtain ⟨z, i, c, rfl, rfl, hz, he, q⟩ := h
  obtain ⟨t, rfl⟩ := rx
  obtain ⟨t', rfl⟩ := ry
  obtain ⟨j, h1, h2, h3, h4, h5⟩ := atI_get he
  have hl : z.cps.toList.length = z.length := by simp [Str.length]
  rw [hl] at h1 h4 h5
  have hn := line63
  exact tail_any (typeIs_str s z t) slot_str_getitem.lookup (getItem_str (c := c) (by
    have e1 : decide (i < -(2 ^ 63 : Int)) = false := decide_eq_false (by omega)
    have e2 : decide (i ≥ 2 ^ 63) = false := decide_eq_false (by omega)
    rw [e1, e2, Bool.or_false]) (by rw [h1]; simpa using h2) ⟨.str ⟨#[c]⟩, H, I.tok _, ⟨_, rfl⟩, q⟩) hs
theorem Inv.lst {pins : List (Addr × Obj)} {σ : St} {H : Hp} {s : Shared} {p : Addr} {xs : List V} (I : Inv X pins σ H s) (h : H p = some (.lst xs)) :
    ∃ (its : List Value) (n : Nat), Vals xs its ∧ s.heap.get? p = some { cls := .type "list", data := .seq its.toArray n } ∧ xs.length ≤ sizeLine := by
  obtain ⟨z, its, n, r, e⟩ := I.hok p _ h
  exact ⟨its, n, r, e, z⟩
theorem slice_bounds (lo hi : Option Int) (n : Nat) : (sliceBounds lo hi none n).1 = ((HT.sIx n 0 lo : Nat) : Int) ∧ (sliceBounds lo hi none n).2.1 = ((HT.sIx n n hi : Nat) : Int) ∧ (sliceBounds lo hi none n).2.2 = 1 := by
  refine ⟨?_, ?_, rfl⟩
  · cases lo with
    | none => simp [sliceBounds, HT.sIx]
    | some i =>
      simp only [sliceBounds, HT.sIx, Option.getD_none, show (1 : Int) > 0 by decide, if_true]
      by_cases h : i < 0
      · simp only [h, if_true] <;> omega
      · simp only [h, if_false] <;> omega
  · cases hi with
    | none => simp [sliceBounds, HT.sIx]
    | some i =>
      simp only [sliceBounds, HT.sIx, Option.getD_none, show (1 : Int) > 0 by decide, if_true]
      by_cases h : i < 0
      · simp only [h, if_true] <;> omega
      · simp only [h, if_false] <;> omega
theorem slicePick_cut (its : List Value) (lo hi : Option Int) : slicePick its.toArray lo hi none = ((its.drop (HT.sIx its.length 0 lo)).take (HT.sIx its.length its.length hi - HT.sIx its.length 0 lo)).toArray := by
  obtain ⟨h1, h2, h3⟩ := slice_bounds lo hi its.toArray.size
  unfold slicePick
  rw [h1, h2, h3]
  simp only [sliceRange_one, pick_run, List.size_toArray] <;> rfl
def rSlL (K : PySem.W.Frag) : V → Option Int → Option Int → Hp → VK → Prop := fun x lo hi H Q => ∃ a xs, x = .ref a ∧ SqL K H a xs ∧ ∀ p, H p = none → Q (.ref p) (upd H p (.lst (cutV xs lo hi)))
theorem sl_list : SlR X (rSlL X.K) := by
  intro pins s σ H x v vl vu lo hi sl Q I rx hs pl pu h
  obtain ⟨a, xs, rfl, hx, q⟩ := h
  cases rx
  obtain ⟨its, r, ht, hz⟩ := I.list hx
  have hlen := r.length
  refine ⟨"list", _, slot_list_getitem.lookup, ht.isList.typeIs, ?_⟩
  refine wpAny_getItem_list_slice ht.isList hs pl pu .none (by simp) ?_ (by rw [List.size_toArray] <;> omega)
  rw [slicePick_cut, ← hlen]
  refine ⟨.ref s.heap.objs.size, _, I.laid (t' := s.toks) (o := .lst (cutV xs lo hi)) (fun b ob q => Heap.get?_push_of_some _ q) (Nat.le_refl _) ?_, rfl, q _ (I.hok.fresh (Nat.le_refl _))⟩
  exact ⟨Nat.le_trans (cutV_length xs lo hi) hz, _, 0, (r.drop (HT.sIx xs.length 0 lo)).take (HT.sIx xs.length xs.length hi - HT.sIx xs.length 0 lo), Heap.get?_push_size _ rfl⟩
def flatV : V → Bool
  | .non => true
  | .bl _ => true
  | .int _ => true
  | .str _ => true
  | _ => false
def eqV : V → V → Bool
  | .non, .non => true
  | .bl a, .bl b => a == b
  | .bl a, .int b => (if a then 1 else 0) == b
  | .int a, .bl b => a == (if b then 1 else 0)
  | .int a, .int b => a == b
  | .str a, .str b => a == b
  | _, _ => false
theorem eqAt_V {A : Around} {s : Shared} {y x : V} {u v : Value} (ry : RelV y u) (rx : RelV x v) (fy : flatV y = true) (fx : flatV x = true) : SeqAt.EqAt A s u v (eqV y x) := by
  cases y with
  | non =>
    cases ry
    cases x with
    | non => cases rx; exact SeqAt.EqAt.same _
    | bl b => cases rx; exact SeqAt.EqAt.none_bool b
    | int b => obtain ⟨t, rfl⟩ := rx; exact SeqAt.EqAt.none_int b t
    | str b => obtain ⟨t, rfl⟩ := rx; exact SeqAt.EqAt.none_str b t
    | _ => exact absurd (show false = true from fx) Bool.false_ne_true
  | bl a =>
    cases ry
    cases x with
    | non => cases rx; exact SeqAt.EqAt.bool_none a
    | bl b => cases rx; exact SeqAt.EqAt.bool_bool a b
    | int b => obtain ⟨t, rfl⟩ := rx; exact SeqAt.EqAt.bool_int a b t
    | str b => obtain ⟨t, rfl⟩ := rx; exact SeqAt.EqAt.bool_str a b t
    | _ => exact absurd (show false = true from fx) Bool.false_ne_true
  | int a =>
    obtain ⟨t', rfl⟩ := ry
    cases x with
    | non => cases rx; exact SeqAt.EqAt.int_none a t'
    | bl b => cases rx; exact SeqAt.EqAt.int_bool a t' b
    | int b => obtain ⟨t, rfl⟩ := rx; exact SeqAt.EqAt.int_int a t' b t
    | str b => obtain ⟨t, rfl⟩ := rx; exact SeqAt.EqAt.int_str a t' b t
    | _ => exact absurd (show false = true from fx) Bool.false_ne_true
  | str a =>
    obtain ⟨t', rfl⟩ := ry
    cases x with
    | non => cases rx; exact SeqAt.EqAt.str_none a t'
    | bl b => cases rx; exact SeqAt.EqAt.str_bool a t' b
    | int b => obtain ⟨t, rfl⟩ := rx; exact SeqAt.EqAt.str_int a t' b t
    | str b => obtain ⟨t, rfl⟩ := rx; exact SeqAt.EqAt.str_str a t' b t
    | _ => exact absurd (show false = true from fx) Bool.false_ne_true
  | _ => exact absurd (show false = true from fy) Bool.false_ne_true
def eqU (x : V) (u : Value) : Bool := match u with
  | .none => eqV .non x
  | .bool b => eqV (.bl b) x
  | .int i _ => eqV (.int i) x
  | .str z _ => eqV (.str z) x
  | _ => false
theorem eqU_of {x y : V} {u : Value} (r : RelV y u) (f : flatV y = true) : eqU x u = eqV y x := by
  cases y with
  | non => cases r; rfl
  | bl b => cases r; rfl
  | int i => obtain ⟨t, rfl⟩ := r; rfl
  | str z => obtain ⟨t, rfl⟩ := r; rfl
  | _ => exact absurd (show false = true from f) Bool.false_ne_true
theorem any_eqU {x : V} : ∀ {xs : List V} {us : List Value}, Vals xs us → xs.all flatV = true → us.any (eqU x) = xs.any fun y => eqV y x
  | _, _, .nil, _ => rfl
  | y :: xs, u :: us, .cons r t, f => by
    rw [List.all_cons, Bool.and_eq_true] at f
    rw [List.any_cons, List.any_cons, eqU_of r f.1, any_eqU t f.2]
theorem mem_eqAt {A : Around} {s : Shared} {x : V} {v : Value} (rx : RelV x v) (fx : flatV x = true) : ∀ {xs : List V} {us : List Value}, Vals xs us → xs.all flatV = true → ∀ u ∈ us, SeqAt.EqAt A s u v (eqU x u)
  | _, _, .nil, _ => fun u hu => by cases hu
  | y :: xs, u :: us, .cons r t, f => fun u' hu => by
    rw [List.all_cons, Bool.and_eq_true] at f
    rcases List.mem_cons.mp hu with rfl | hu
    · rw [eqU_of r f.1]; exact eqAt_V r rx f.1 fx
    · exact mem_eqAt rx fx t f.2 u' hu
def inV (x : V) (xs : List V) : Bool := xs.any fun y => eqV y x
def rIn (K : PySem.W.Frag) (neg : Bool) : R2 := fun x y H Q => ∃ p xs, y = .ref p ∧ (SqL K H p xs ∨ SqT K H p xs) ∧ flatV x = true ∧ xs.all flatV = true ∧ Q (.bl (if neg then !inV x xs else inV x xs)) H
theorem op_in_seq : OpR X (compareOp .In) (rIn X.K false) := by
  intro pins s σ H x y v u Q I rx ry h
  obtain ⟨p, xs, rfl, hq, fx, fs, q⟩ := h
  cases ry
  rcases hq with hq | hq
  · obtain ⟨its, r, pl, hz⟩ := I.list hq
    refine SeqAt.in_listAt (eqU x) pl.isList (fun w hw => mem_eqAt rx fx r fs w (by simpa using hw)) ⟨.bl _, H, I, rfl, ?_⟩
    rw [show its.toArray.any (eqU x) = its.any (eqU x) by simp, any_eqU r fs]
    exact q
  · obtain ⟨its, r, pl, hz⟩ := I.tuple hq
    refine SeqAt.in_tupleAt (eqU x) pl (fun w hw => mem_eqAt rx fx r fs w (by simpa using hw)) ⟨.bl _, H, I, rfl, ?_⟩
    rw [show its.toArray.any (eqU x) = its.any (eqU x) by simp, any_eqU r fs]
    exact q
theorem op_notIn_seq : OpR X (compareOp .NotIn) (rIn X.K true) := by
  intro pins s σ H x y v u Q I rx ry h
  obtain ⟨p, xs, rfl, hq, fx, fs, q⟩ := h
  cases ry
  rcases hq with hq | hq
  · obtain ⟨its, r, pl, hz⟩ := I.list hq
    refine SeqAt.notIn_listAt (eqU x) pl.isList (fun w hw => mem_eqAt rx fx r fs w (by simpa using hw)) ⟨.bl _, H, I, rfl, ?_⟩
    rw [show its.toArray.any (eqU x) = its.any (eqU x) by simp, any_eqU r fs]
    exact q
  · obtain ⟨its, r, pl, hz⟩ := I.tuple hq
    refine SeqAt.notIn_tupleAt (eqU x) pl (fun w hw => mem_eqAt rx fx r fs w (by simpa using hw)) ⟨.bl _, H, I, rfl, ?_⟩
    rw [show its.toArray.any (eqU x) = its.any (eqU x) by simp, any_eqU r fs]
    exact q
theorem op_notIn_str : OpR X (compareOp .NotIn) (fun x y H Q => ∃ i j, x = .str i ∧ y = .str j ∧ Q (.bl (!(!(Builtin.Str.occurrences j i 0 j.length 1).isEmpty))) H) := by
  intro pins s σ H x y v u Q I rx ry h
  obtain ⟨i, j, rfl, rfl, q⟩ := h
  obtain ⟨t, rfl⟩ := rx
  obtain ⟨t', rfl⟩ := ry
  exact notIn_str ⟨.bl _, H, I, rfl, q⟩
theorem call_len_seq : CallR X (.builtin "len") (fun xs H Q => ∃ p ys, xs = [.ref p] ∧ (SqL X.K H p ys ∨ SqT X.K H p ys) ∧ Q (.int ys.length) H) := by
  intro pins s σ H xs us Q I r h
  obtain ⟨p, ys, rfl, hq, q⟩ := h
  obtain ⟨u, rfl, rx⟩ := vals1 r
  cases rx
  have hn := line63
  rcases hq with hq | hq
  · obtain ⟨its, r', pl, hz⟩ := I.list hq
    have hlen := r'.length
    exact Calls.call_len_list pl.isList (by simp only [List.size_toArray] <;> omega) ⟨.int ys.length, H, I.tok _, ⟨s.toks + 1, by rw [List.size_toArray, hlen]⟩, q⟩
  · obtain ⟨its, r', pl, hz⟩ := I.tuple hq
    have hlen := r'.length
    exact len_tuple pl (by simp only [List.size_toArray] <;> omega) ⟨.int ys.length, H, I.tok _, ⟨s.toks + 1, by rw [List.size_toArray, hlen]⟩, q⟩
theorem call_len_str : CallR X (.builtin "len") (fun xs H Q => ∃ z, xs = [.str z] ∧ z.length ≤ sizeLine ∧ Q (.int z.length) H) := by
  intro pins s σ H xs us Q I r h
  obtain ⟨z, rfl, hz, q⟩ := h
  obtain ⟨u, rfl, t, rfl⟩ := vals1 r
  have hn := line63
  exact len_str (by omega) ⟨.int z.length, H, I.tok _, ⟨_, rfl⟩, q⟩
theorem call_list_of : CallR X (.type "list") (fun xs H Q => ∃ p ys, xs = [.ref p] ∧ (SqL X.K H p ys ∨ SqT X.K H p ys) ∧ ∀ l, H l = none → Q (.ref l) (upd H l (.lst ys))) := by
  intro pins s σ H xs us Q I r h
  obtain ⟨p, ys, rfl, hq, q⟩ := h
  obtain ⟨u, rfl, rx⟩ := vals1 r
  cases rx
  have fin : ∀ (its : List Value), Vals ys its → ys.length ≤ sizeLine → ∀ (h' : Heap) (c' : Nat), (∀ b o', s.heap.get? b = some o' → h'.get? b = some o') →
      h'.get? s.heap.objs.size = some { cls := .type "list", dict := none, data := .seq its.toArray c', slots := #[] } → EP X pins σ Q (.ref s.heap.objs.size) { s with heap := h' } := fun its r' hz h' c' kp e =>
    ⟨.ref s.heap.objs.size, _, I.laid (t' := s.toks) kp (Nat.le_refl _) (show ObjOk X.prog X.w _ h' _ (.lst ys) from ⟨hz, its, c', r', e⟩), rfl, q _ (I.hok.fresh (Nat.le_refl _))⟩
  rcases hq with hq | hq
  · obtain ⟨its, r', pl, hz⟩ := I.list hq
    have hlen := r'.length
    obtain ⟨o, ho, hc, n, hd⟩ := pl.isList
    exact call_list_seq p (.inl rfl) ho hc hd (fun h' c' kp e => fin its r' hz h' c' kp e) (by simp only [List.size_toArray] <;> omega)
  · obtain ⟨its, r', pl, hz⟩ := I.tuple hq
    have hlen := r'.length
    obtain ⟨o, ho, hc, n, hd⟩ := pl
    exact call_list_seq p (.inr rfl) ho hc hd (fun h' c' kp e => fin its r' hz h' c' kp e) (by simp only [List.size_toArray] <;> omega)
theorem call_tuple_of : CallR X (.type "tuple") (fun xs H Q => ∃ p ys, xs = [.ref p] ∧ ((SqL X.K H p ys ∧ ∀ l, H l = none → Q (.ref l) (upd H l (.tup ys))) ∨ (SqT X.K H p ys ∧ Q (.ref p) H))) := by
  intro pins s σ H xs us Q I r h
  obtain ⟨p, ys, rfl, h⟩ := h
  obtain ⟨u, rfl, rx⟩ := vals1 r
  cases rx
  rcases h with ⟨hq, q⟩ | ⟨hq, q⟩
  · obtain ⟨its, r', pl, hz⟩ := I.list hq
    have hlen := r'.length
    refine call_tuple_list pl.isList (fun h' kp => ?_) (by simp only [List.size_toArray] <;> omega)
    have I1 : Inv X pins σ H { s with heap := h' } := I.kept (t' := s.toks) kp
    have I2 : Inv X pins σ (upd H h'.objs.size (.tup ys)) { s with heap := h'.push { cls := .type "tuple", data := .seq its.toArray } } :=
      I1.laid (t' := s.toks) (fun b o e => Heap.get?_push_of_some _ e) (Nat.le_refl _) (show ObjOk X.prog X.w _ _ _ (.tup ys) from ⟨hz, its, r', IsTup.new _ _⟩)
    exact ⟨.ref h'.objs.size, _, I2, rfl, q _ (I1.hok.fresh (Nat.le_refl _))⟩
  · obtain ⟨its, r', pl, hz⟩ := I.tuple hq
    exact call_tuple_same pl ⟨.ref p, H, I, rfl, q⟩
def tyV (K : PySem.W.Frag) (T : String) (x : V) (H : Hp) : Prop := match x with
  | .str _ => T = "str"
  | .int _ => T = "int"
  | .ref p => (T = "list" ∧ ∃ xs, SqL K H p xs) ∨ (T = "tuple" ∧ ∃ o, K.lookup p = some o ∧ o.cls = .type "tuple" ∧ o.dict = none) ∨
      (T = "dict" ∧ ((∃ kvs, H p = some (.dK kvs)) ∨ ∃ kvs, H p = some (.dT kvs))) ∨ (T = "set" ∧ ∃ S n, H p = some (.set S n))
  | _ => False
theorem tyV_is {pins : List (Addr × Obj)} {σ : St} {H : Hp} {s : Shared} {T : String} {x : V} {v : Value} (I : Inv X pins σ H s) (r : RelV x v) (ty : tyV X.K T x H) :
    s.TypeIs v T ∧ ∀ a, v = .ref a → ∃ ob, s.heap.get? a = some ob ∧ ob.dict = none := by
  cases x with
  | str z =>
    obtain ⟨t, rfl⟩ := r
    cases (show T = "str" from ty)
    exact ⟨typeIs_str s z t, fun _ e => nomatch e⟩
  | int i =>
    obtain ⟨t, rfl⟩ := r
    cases (show T = "int" from ty)
    exact ⟨typeIs_int s i t, fun _ e => nomatch e⟩
  | ref p =>
    cases r
    rcases ty with ⟨rfl, xs, hq⟩ | ⟨rfl, o, hk, hc, hd⟩ | ⟨rfl, hk⟩ | ⟨rfl, S, n, hk⟩
    · obtain ⟨its, _, pl, _⟩ := I.list hq
      refine ⟨pl.isList.typeIs, fun a e => ?_⟩
      cases e
      obtain ⟨o, n, e, c, hd, _⟩ := pl
      exact ⟨o, e, hd⟩
    · refine ⟨⟨o, I.kIn p o hk, hc⟩, fun a e => ?_⟩
      cases e
      exact ⟨o, I.kIn _ o hk, hd⟩
    · have z : ∃ o, s.heap.get? p = some o ∧ o.ExactDict := by
        rcases hk with ⟨kvs, hk⟩ | ⟨kvs, hk⟩
        · obtain ⟨_, _, _, _, o, _, _, e, ex, _⟩ := I.hok p _ hk
          exact ⟨o, e, ex⟩
        · obtain ⟨_, _, _, _, o, _, _, e, ex, _⟩ := I.hok p _ hk
          exact ⟨o, e, ex⟩
      obtain ⟨o, e, ex⟩ := z
      refine ⟨⟨o, e, ex.1⟩, fun a e2 => ?_⟩
      cases e2
      exact ⟨o, e, ex.2.1⟩
    · obtain ⟨o, _, _, _, e, ex, _⟩ := I.hok p _ hk
      refine ⟨⟨o, e, ex.1⟩, fun a e2 => ?_⟩
      cases e2
      exact ⟨o, e, ex.2.1⟩
  | _ => exact False.elim ty
def tBM0 (K : PySem.W.Frag) (T : String) (r : V → List V → Hp → VK → Prop) (to : TE) : TE := fun σ H Q => to σ H fun x H1 => tyV K T x H1 ∧ r x [] H1 Q
def tBM (K : PySem.W.Frag) (T : String) (r : V → List V → Hp → VK → Prop) (to : TE) (t : TA) : TE := fun σ H Q => to σ H fun x H1 => tyV K T x H1 ∧ t σ H1 fun xs H2 => r x xs H2 Q
variable {o e : Expr} {es : List Expr} {to : TE} {t : TA} {name : Str} {apos cpos : Pos} {T id : String} {r : V → List V → Hp → VK → Prop}
theorem pe_bm0 (pa : PlainAttrs T) (slot : Slot T name id) (hty : typeOf (.builtin id) = pure (.type "method_descriptor")) (hm : MtR X id r) (ho : PE X o to)
    (hbase : attributeBase o name X.env (eval o X.env) = eval o X.env := by rfl) (hline : (apos.endLine == cpos.line) = true := by rfl) : PE X (.Call (.Attribute o name apos) [] [] cpos) (tBM0 X.K T r to) := by
  intro pins s σ H Q I h
  refine wpAny_Call_method0_late hbase hline (thn (ho pins s σ H _ I h) fun v s1 ⟨x, H1, I1, r1, ty, q1⟩ => ?_)
  obtain ⟨h1, h2⟩ := tyV_is I1 r1 ty
  exact ⟨T, id, pa, slot, hty, h1, h2, Calls.callWith_builtin rfl (PySem.evalArgs_none (hm pins s1 σ H1 x [] v [] Q I1 r1 .nil q1))⟩
theorem pe_bm (pa : PlainAttrs T) (slot : Slot T name id) (hty : typeOf (.builtin id) = pure (.type "method_descriptor")) (hm : MtR X id r) (ho : PE X o to) (ha : PA X (e :: es) t)
    (hbase : attributeBase o name X.env (eval o X.env) = eval o X.env := by rfl)
    (hfew : ((backTo cpos (starEach (e :: es) X.env)).all (fun x => !x.1) && (backToKw cpos (keywordEach [] X.env)).all (fun x => x.1.isSome)
      && decide ((e :: es).length + ([] : List Keyword).length + (if ([] : List Keyword).isEmpty then 0 else 1) < 30)) = true := by rfl)
    (hline : (apos.endLine == cpos.line) = true := by rfl) (hs : starEach (e :: es) X.env = (false, eval e X.env) :: starEach es X.env := by rfl) (hplain : (backTo cpos (starEach es X.env)).any (·.1) = false := by rfl) :
    PE X (.Call (.Attribute o name apos) (e :: es) [] cpos) (tBM X.K T r to t) := by
  intro pins s σ H Q I h
  refine wpAny_Call_method_late hbase hfew hline rfl (thn (ho pins s σ H _ I h) fun v s1 ⟨x, H1, I1, r1, ty, q1⟩ => ?_)
  obtain ⟨h1, h2⟩ := tyV_is I1 r1 ty
  refine ⟨T, id, pa, slot, hty, h1, h2, ?_⟩
  have hA := ha cpos pins s1 σ H1 _ I1 q1
  rw [hs] at hA ⊢
  refine Calls.callWith_builtin (by show (false || (backTo cpos (starEach es X.env)).any (·.1)) = false; rw [hplain] <;> rfl) (Calls.evalArgs_plain ?_)
  exact thn hA fun us s2 ⟨vs, H2, I2, r2, q2⟩ => hm pins s2 σ H2 x vs v us Q I2 r1 r2 q2
/- xs.append(e), list.index on a module's tuple .. are MtR facts of 06m -/
end
end L2
namespace L2
open PySem PySem.Spec PyProof.Rows
def MtM (X : Cx) (id : String) (r : V → List V → Hp → VK → Prop) : Prop :=
  ∀ (pins : List (Addr × Obj)) (s : Shared) (σ : St) (H : Hp) (x : V) (xs : List V) (v : Value) (us : List Value) (Q : VK), Inv X pins σ H s → RelV x v → Vals xs us → r x xs H Q →
    wpAny (model X.prog X.w) X.A (call (.builtin id) (v :: us)) (EP X pins σ Q) X.xe s
theorem Vals.one : ∀ {x : V} {us : List Value}, Vals [x] us → ∃ u, us = [u] ∧ RelV x u
  | _, _, .cons r .nil => ⟨_, rfl, r⟩
theorem Vals.eraseIdx : ∀ {xs : List V} {us : List Value} (i : Nat), Vals xs us → Vals (xs.eraseIdx i) (us.eraseIdx i)
  | _, _, _, .nil => .nil
  | _, _, 0, .cons _ t => t
  | _, _, i + 1, .cons r t => .cons r (Vals.eraseIdx i t)
theorem len_erase {α : Type} : ∀ (l : List α) (i : Nat), (l.eraseIdx i).length ≤ l.length
  | [], _ => Nat.le_refl _
  | _ :: _, 0 => Nat.le_succ _
  | _ :: r, i + 1 => Nat.succ_le_succ (len_erase r i)
section
variable {X : Cx} {pins : List (Addr × Obj)} {σ : St} {H : Hp} {s : Shared} {l b : Addr} {xs ys zs : List V}
theorem Inv.lset {its its' : List Value} {n : Nat} {f : Array Value → Array Value} {t' : Nat} (I : Inv X pins σ H s) (hH : H l = some (.lst xs))
    (e : s.heap.get? l = some { cls := .type "list", data := .seq its.toArray n }) (hf : f its.toArray = its'.toArray) (hv : Vals ys its') (hz : ys.length ≤ sizeLine) :
    Inv X pins σ (upd H l (.lst ys)) { s with heap := s.heap.update l (Obj.mapSeq f), toks := t' } := by
  have q := PySem.IsL.update e f
  rw [hf] at q
  refine I.write (x := l) (e := l) (by rw [hH]; exact trivial) (.inl rfl) (fun b' u hb hu => (Heap.get?_update_other s.heap (Obj.mapSeq f) (Ne.symm hb)).trans hu) ⟨_, q⟩ ?_
  exact ⟨hz, its', _, hv, q⟩
theorem Inv.lnew {its : List Value} {t' : Nat} (I : Inv X pins σ H s) (hv : Vals ys its) (hz : ys.length ≤ sizeLine) :
    Inv X pins σ (upd H s.heap.objs.size (.lst ys)) { s with heap := s.heap.push { cls := .type "list", data := .seq its.toArray }, toks := t' } :=
  I.laid (fun _ _ q => Heap.get?_push_of_some _ q) (Nat.le_refl _) ⟨hz, its, 0, hv, Heap.get?_push_size _ rfl⟩
theorem Inv.fresh (I : Inv X pins σ H s) : H s.heap.objs.size = none := I.hok.fresh (Nat.le_refl _)
theorem Inv.lstM (I : Inv X pins σ H s) (hH : H l = some (.lst xs)) : xs.length ≤ sizeLine ∧ ∃ (its : List Value) (n : Nat), Vals xs its ∧ xs.length = its.length ∧ s.heap.get? l = some { cls := .type "list", data := .seq its.toArray n } := by
  obtain ⟨z, its, n, r, e⟩ := I.hok l _ hH
  exact ⟨z, its, n, r, r.length, e⟩
end
section
variable {X : Cx}
def rAppend : V → List V → Hp → VK → Prop := fun x vs H Q => ∃ l xs y, x = .ref l ∧ vs = [y] ∧ H l = some (.lst xs) ∧ xs.length < sizeLine ∧ Q .non (upd H l (.lst (xs ++ [y])))
theorem mt_append : MtM X "list.append" rAppend := by
  intro pins s σ H x vs v us Q I rx rv h
  obtain ⟨l, xs, y, rfl, rfl, hH, hz, q⟩ := h
  cases rx
  obtain ⟨u, rfl, ru⟩ := rv.one
  obtain ⟨z, its, n, r, hl, e⟩ := I.lstM hH
  refine call_meets F.slot_list_append ⟨_, e, rfl⟩ F.entry_list_append (F.args_list_append_2 _ _) (PySem.list_append l its.toArray n u (by rw [List.size_toArray]; omega)) ⟨e, ?_⟩
  refine ⟨.non, _, I.lset (its' := its ++ [u]) hH e (by simp) (r.append (.cons ru .nil)) ?_, rfl, q⟩
  rw [List.length_append, List.length_singleton]
  omega
def rPopAt : V → List V → Hp → VK → Prop := fun x vs H Q => ∃ l xs i k y, x = .ref l ∧ vs = [.int i] ∧ H l = some (.lst xs) ∧ -(2 ^ 63) ≤ i ∧ i < 2 ^ 63 ∧ seqIndex? i xs.length = some k ∧ xs[k]? = some y ∧ Q y (upd H l (.lst (xs.eraseIdx k)))
theorem mt_popAt : MtM X "list.pop" rPopAt := by
  intro pins s σ H x vs v us Q I rx rv h
  obtain ⟨l, xs, i, k, y, rfl, rfl, hH, h1, h2, hk, hy, q⟩ := h
  cases rx
  obtain ⟨u, rfl, ru⟩ := rv.one
  obtain ⟨t, rfl⟩ := ru
  obtain ⟨z, its, n, r, hl, e⟩ := I.lstM hH
  obtain ⟨w, hw, rw'⟩ := r.get hy
  refine call_meets F.slot_list_pop ⟨_, e, rfl⟩ F.entry_list_pop (F.args_list_pop_2 _ _)
    (MeetsSeq.list_pop_at l its.toArray n i t k w (fitsIndex_both h1 h2) (by rw [List.size_toArray, ← hl]; exact hk) (by rw [← Array.getElem?_toList]; exact hw) (by rw [List.size_toArray]; omega)) ⟨e, ?_⟩
  refine ⟨y, _, I.lset (its' := its.eraseIdx k) hH e ?_ (r.eraseIdx k) ?_, rw', q⟩
  · show its.toArray.eraseIdxIfInBounds k = (its.eraseIdx k).toArray
    rw [List.eraseIdxIfInBounds_toArray]
  · have := len_erase xs k
    omega
def rCat : R2 := fun x y H Q => ∃ l b xs zs, x = .ref l ∧ y = .ref b ∧ H l = some (.lst xs) ∧ H b = some (.lst zs) ∧ xs.length + zs.length ≤ sizeLine ∧ ∀ p, H p = none → Q (.ref p) (upd H p (.lst (xs ++ zs)))
theorem op_cat : OpR X (binaryOp .Add) rCat := by
  intro pins s σ H x y v u Q I rx ry h
  obtain ⟨l, b, xs, zs, rfl, rfl, hH, hB, hz, q⟩ := h
  cases rx
  cases ry
  obtain ⟨z, its, n, r, hl, e⟩ := I.lstM hH
  obtain ⟨z2, its2, n2, r2, hl2, e2⟩ := I.lstM hB
  refine PySem.P.add_list e e2 ?_ (by rw [List.size_toArray, List.size_toArray]; omega)
  have ea : its.toArray ++ its2.toArray = (its ++ its2).toArray := by simp
  rw [ea]
  exact ⟨.ref _, _, I.lnew (t' := s.toks) (r.append r2) (by rw [List.length_append]; omega), rfl, q _ I.fresh⟩
end
end L2
namespace Att
open PySem PySem.W PySem.Calls PyProof.Rows
theorem ints_of_wellAll {P : Params} {h : Heap} : ∀ (ns : List Int) (vs : List Value), WellAll P h vs (ns.map WData.int) → IntsAre vs ns := by
  intro ns
  induction ns with
  | nil =>
    intro vs w
    rw [List.map_nil] at w
    cases w
    exact .nil
  | cons n ns ih =>
    intro vs w
    rw [List.map_cons] at w
    cases w with
    | cons a b =>
      cases a
      exact .cons _ _ (ih _ b)
theorem script_of {l : OpenLaw} {n : Nat} (hn : l.most = some n) {P : Params} {h : Heap} {args : List WData} {vals : List Value}
    (hpre : l.row.toRowW.claim.pre args = true) (hwl : WellAll P h vals args) :
    ∃ a vs ns, vals = [Value.ref a] ∧ args = [WData.list (ns.map WData.int)] ∧ h.get? a = some { cls := .type "list", data := .seq vs.toArray } ∧ IntsAre vs ns ∧ ns.length ≤ n := by
  have hsh : WShape.hasAll [] args [.list .int] = true := (pre_splitW hpre).1
  have hc : l.pre.holds [] { args := args } = true := (pre_splitW hpre).2
  obtain ⟨d, r, rfl, h1, h2⟩ := hasAllW_cons hsh
  obtain rfl := hasAllW_nil h2
  obtain ⟨xs, rfl, h3⟩ := hasW_list h1
  obtain ⟨ns, rfl⟩ := items_int h3
  have hlen : ns.length ≤ n := by
    unfold OpenLaw.pre at hc
    have h4 : (WTm.not (.lt (.lit (.int (n : Int))) (.len (.arg 0)))).holds [] { args := [.list (ns.map .int)] } = true := by
      have h4 := (holds_andW hc).1
      rw [hn] at h4
      exact h4
    have h5 := condW_of h4 (w_not (w_lt w_lit (w_len_list (w_arg rfl))))
    rw [List.length_map] at h5
    refine Nat.le_of_not_lt fun q => ?_
    have q' : (n : Int) < ((ns.length : Nat) : Int) := by omega
    first
      | (rw [decide_eq_true q'] at h5; exact absurd h5 (by decide))
      | (simp at h5; omega)
  cases hwl with
  | cons w1 w2 =>
    cases w2
    cases w1 with
    | list ho hall => exact ⟨_, _, ns, rfl, rfl, ho, ints_of_wellAll ns _ hall, hlen⟩
theorem post_true (l : OpenLaw) (args : List WData) : l.row.toRowW.claim.post args (.bool true) args = true :=
  postW_of (r := l.row.toRowW) (X := (true == true))
    (show WShape.has [] (.bool true) .bool = true by first | rfl | decide | simp [WShape.has, WShape.arms, WShape.armsAll])
    (show (WTm.eq .res (.lit (.bool true))).value [] { args := args, res := some (.bool true), after := args } = some (.bool (true == true)) from w_eq_bool (w_res rfl) w_lit) rfl
theorem attach_call {l : OpenLaw} {n : Nat} {q : Program} {loose : List Str} {XP : (Str → Option Value) → Heap → Prop} {YP : World → Heap → Prop} {d : DefRec}
    (hn : l.most = some n) (hdf : d.params.defaults = [])
    (call : ∀ (w : World) (s₀ s₁ : Shared) (mg mb : Str → Option Value) (fa : Addr) (o : Obj) (pm cd doc : Value) (a : Addr) (vs : List Value) (ns : List Int),
      Ground q loose [] XP w s₀ mg mb s₁.heap → YP w s₁.heap →
      s₁.heap.get? fa = some o → o.data = .func (docDef d.name d.params d.body d.scope pm cd doc) → s₁.heap.CodeRec cd d.name → mg d.name = some (.ref fa) →
      s₁.heap.get? a = some { cls := .type "list", data := .seq vs.toArray } → IntsAre vs ns → ns.length ≤ n → s₁.gens = #[] →
      codeAny (model l.prog w) callerA (.call (.ref fa) ⟨[.ref a], []⟩) (fun r s' => r = .ok (.ret (.bool true)) ∧ OldK s₁.heap s'.heap ∧ s'.os = s₁.os ∧ AllBare s'.gens) s₁) :
    WalkO q loose XP YP l.row.toRowW d [] (fun f vs => PySem.call f vs) := by
  intro w s₀ s₁ mg mb G Y fa o pm cd doc dV kV ho hd hcd hD hmg hg args vals as hpre hlay hrd hwl hlo
  obtain rfl : dV = .none := Dflts.none hD hdf
  obtain rfl : kV = .none := Dflts.noKw hD
  obtain ⟨a, vs, ns, rfl, rfl, hobj, hints, hlen⟩ := script_of hn hpre hwl
  refine enter_call (codeAny_mono (call w s₀ s₁ mg mb fa o pm cd doc a vs ns G Y ho (fd_plain hd) hcd hmg hobj hints hlen hg) fun r s' hq => ?_)
  obtain ⟨rfl, h2, h3, h4⟩ := hq
  exact ⟨.inl ⟨.bool true, .bool true, [], rfl, fun _ => rfl, .bool true, post_true l _, fun _ => ⟨List.Pairwise.nil, fun _ hm => (nomatch hm)⟩⟩, h2, h3, h4⟩
section
variable {prog : Program} {w : World} {A : Around} {E : Value → Shared → Prop} {s : Shared} {K : Frag}
end
end Att
namespace L2
open PySem PySem.Spec PyProof.Rows
theorem vals_ints : ∀ {vs : List Value} {ns : List Int}, IntsAre vs ns → Vals (ns.map V.int) vs
  | _, _, .nil => .nil
  | _, _, .cons n t h => .cons ⟨t, rfl⟩ (vals_ints h)
def Only (H : Hp) : Prop := ∀ b, H b = none ∨ ∃ o xs, H b = some (.frz o (.lst xs))
theorem law_call {P : Program} {w : World} {K : PySem.W.Frag} {mg mb : Str → Option Value} {CX : CXT} {k : Nat} {fa a : Addr} {fd : FuncData} {x : Str} {sp : Sp} {s₁ : Shared} {vs : List Value} {ns : List Int}
    (KX : K.In s₁.heap) (hns : s₁.heap.Ns mainGlobals mg) (hb : s₁.heap.Ns builtinsNs mb) (hbb : ∀ x : Str, x ≠ "__name__" → mb x = bootBuiltins x) (hlim : s₁.heap.NoLimit) (hg : s₁.gens = #[])
    (ha : s₁.heap.get? a = some { cls := .type "list", data := .seq vs.toArray }) (hi : IntsAre vs ns) (hl : ns.length ≤ sizeLine) (hr : Room k callerA)
    (F : ∀ base : Heap, K.In base → base.Ns mainGlobals mg → FnOk P w K mg base CX k fa fd [x] sp) (hbind : ∀ (s : Shared) (u : Value), BindsTo s fd ⟨[u], []⟩ [(x, u)])
    (hsp : ∀ H : Hp, Only H → SqL K H a (ns.map V.int) → sp [.ref a] H (fun v _ => v = .bl true) fun _ _ _ => False)
    (hCX : ∀ H e s', CX [] H s₁ (fun _ _ _ => False) e s' → False) :
    codeAny (model P w) callerA (.call (.ref fa) ⟨[.ref a], []⟩) (fun r s' => r = .ok (.ret (.bool true)) ∧ OldK s₁.heap s'.heap ∧ s'.os = s₁.os ∧ AllBare s'.gens) s₁ := by
  have rv := vals_ints hi
  have lenV := hi.length
  -- from an abstract heap in which nothing but the script may be tracked
  have core : ∀ H : Hp, Only H → SqL K H a (ns.map V.int) → HOk P w H s₁.heap → (∀ b, H b ≠ none → b = a) → (H a ≠ none → K.lookup a = none) →
      codeAny (model P w) callerA (.call (.ref fa) ⟨[.ref a], []⟩) (fun r s' => r = .ok (.ret (.bool true)) ∧ OldK s₁.heap s'.heap ∧ s'.os = s₁.os ∧ AllBare s'.gens) s₁ := by
    intro H hO hS hok hA hK
    have base_of : ∀ {b : Addr} {o : Obj}, s₁.heap.get? b = some o → H b = none → (hidT s₁.heap H).get? b = some o := fun e n => hidT_get e n
    have noA : ∀ {b : Addr} {o : Obj} {es : Array DictEntry} {ep : Nat}, s₁.heap.get? b = some o → o.data = .dict es ep → H b = none := fun {b o es ep} e d => by
      cases q : H b with
      | none => rfl
      | some u =>
        have e' : b = a := hA b (by rw [q]; simp)
        subst e'
        rw [ha] at e; cases e
        have d' : Data.seq vs.toArray _ = Data.dict es ep := d
        cases d'
    have nsK : ∀ {b : Addr} {m : Str → Option Value}, s₁.heap.Ns b m → (hidT s₁.heap H).Ns b m := fun {b m} ⟨o, es, ep, e, d, r⟩ => ⟨o, es, ep, base_of e (noA e d), d, r⟩
    have hKb : K.In (hidT s₁.heap H) := fun b o e => base_of (KX b o e) (by
      cases q : H b with
      | none => rfl
      | some u =>
        have e' : b = a := hA b (by rw [q]; simp)
        subst e'
        rw [hK (by rw [q]; simp)] at e; cases e)
    have hM : Mod K mg (hidT s₁.heap H) := ⟨hKb, nsK hns, ⟨mb, nsK hb, hbb⟩, let ⟨mc, h1, h2⟩ := hlim; ⟨mc, nsK h1, h2⟩⟩
    have e0 : Env0 P w K mg (hidT s₁.heap H) callerA [] s₁ H := ⟨rfl, hM, fun b o e => of_hidT e, Nat.le_of_eq (hidT_size _ _), trivial, fun b hb => absurd (show b ∈ ([] : List Addr) from hb) (by simp), hok, .of_eq hg⟩
    refine codeAny_mono ((F _ hKb (nsK hns)).run callerA [] s₁ H ⟨[.ref a], []⟩ [.ref a] [.ref a] _ _ hr e0 (hbind s₁ (.ref a)) (.cons rfl .nil) (hsp H hO hS)) fun r s' h => ?_
    cases r with
    | error e => exact (hCX H e s' h).elim
    | ok fl =>
      cases fl with
      | next => exact False.elim h
      | brk => exact False.elim h
      | cont => exact False.elim h
      | ret u =>
        obtain ⟨v, H', os, bare, un, hok', r', q⟩ := h
        have q' : v = .bl true := q
        subst q'
        obtain rfl : u = Value.bool true := r'
        refine ⟨rfl, OldK.of_keep fun b o e => ?_, os, bare⟩
        cases q : H b with
        | none => exact un.keep b o e q (by intro z; exact absurd (show b ∈ ([] : List Addr) from z) (by simp)) (by simp)
        | some u =>
          rcases hO b with z | ⟨ob, xs, z⟩
          · rw [q] at z; cases z
          · have z2 := un.frzs b ob _ z
            obtain ⟨e1, _⟩ := hok b _ z
            obtain ⟨e2, _⟩ := hok' b _ z2
            rw [e] at e1; cases e1
            exact e2
  cases hk : K.lookup a with
  | some o =>
    -- the script is one of the module's own objects
    have e := KX a o hk
    rw [ha] at e
    cases e
    refine core (fun _ => none) (fun _ => .inl rfl) (.inr ⟨_, vs.toArray, _, hk, rfl, rfl, rfl, by rw [List.size_toArray, lenV]; exact hl, by simpa using rv⟩) (fun b u z => by have z' : (none : Option HO) = some u := z; cases z') (fun b z => absurd rfl z) fun z => absurd rfl z
  | none =>
    refine core (fun b => if b = a then some (.frz { cls := .type "list", data := .seq vs.toArray } (.lst (ns.map V.int))) else none) (fun b => ?_) (.inl (.inr ⟨{ cls := .type "list", data := .seq vs.toArray }, if_pos rfl⟩)) (fun b u z => ?_) (fun b z => ?_) fun _ => hk
    · by_cases hb : b = a
      · exact .inr ⟨_, _, if_pos hb⟩
      · exact .inl (if_neg hb)
    · by_cases hb : b = a
      · have z' := (if_pos hb).symm.trans z
        cases z'
        subst hb
        exact ⟨ha, by rw [List.length_map]; exact hl, vs, _, rv, ha⟩
      · have z' := (if_neg hb).symm.trans z
        cases z'
    · by_cases hb : b = a
      · exact hb
      · exact absurd (if_neg hb) z
end L2
namespace L2
open PySem PySem.Spec PyProof.Rows
theorem walk_of {l : PySem.W.OpenLaw} {n k : Nat} {q : Program} {loose : List Str} {XP : (Str → Option Value) → Heap → Prop} {YP : World → Heap → Prop} {d : DefRec} {K : Params → PySem.W.Frag} {CX : World → CXT} {sp : World → Sp} {x : Str}
    (hn : l.most = some n) (hn2 : n ≤ sizeLine) (hdf : d.params.defaults = []) (hr : Room k callerA)
    (hY : ∀ (w : World) (h : Heap), YP w h → (K w.params).In h)
    (F : ∀ (w : World) (mg : Str → Option Value) (fa : Addr) (h : Heap), (K w.params).In h → h.Ns mainGlobals mg → mg d.name = some (.ref fa) →
      ∃ fd : FuncData, (∀ (s : Shared) (u : Value), BindsTo s fd ⟨[u], []⟩ [(x, u)]) ∧
        ∀ base : Heap, (K w.params).In base → base.Ns mainGlobals mg → FnOk l.prog w (K w.params) mg base (CX w) k fa fd [x] (sp w))
    (hsp : ∀ (w : World) (H : Hp) (a : Addr) (ns : List Int), ns.length ≤ n → Only H → SqL (K w.params) H a (ns.map V.int) → sp w [.ref a] H (fun v _ => v = .bl true) fun _ _ _ => False)
    (hCX : ∀ (w : World) (H : Hp) (s : Shared) (e : Value) (s' : Shared), CX w [] H s (fun _ _ _ => False) e s' → False) :
    PySem.W.WalkO q loose XP YP l.row.toRowW d [] (fun f vs => PySem.call f vs) := by
  refine Att.attach_call hn hdf fun w s₀ s₁ mg mb fa o pm cd doc a vs ns G Y ho hd hcd hmg hobj hints hlen hg => ?_
  have KX := hY w _ Y
  obtain ⟨fd, hb, hF⟩ := F w mg fa _ KX G.T.g hmg
  exact law_call KX G.T.g G.T.b G.T.builtins G.T.nolimit hg hobj hints (Nat.le_trans hlen hn2) hr hF hb (fun H hO hS => hsp w H a ns hlen hO hS) fun H e s' => hCX w H s₁ e s'
end L2
/- THE LAST THEOREM (shape; LID, My.* are yours):
   My.Adr: a structure of the addresses that your layer names (classes, functions); My.Txt K t: a structure (Prop) of the equations over K;
   My.txt_mk : {K} {implicit addresses ..} (e1 : nsIn K mainGlobals "law" = some (some (.ref f))) (e2 : K.lookup f = some ⟨oc, od, .func (fnOf "law" "law" params body scope dV kV doc pm an cdv ct), sl⟩) (e3 : codeIn K cdv "law" = true) .. : ∃ t, My.Txt K t
set_option maxRecDepth 100000 in
set_option maxHeartbeats 0 in
theorem PySem.Challenge.cw_LID_holds : PySem.Challenge.rw_LID.Holds := by
  w_on; o_law; k_head; (case hw => w_witness2)
  k_fill
  refine L2.walk_of (l := PySem.Challenge.rw_LID) (n := 63) (k := 40) (x := "script") (CX := fun w => ..) (sp := fun _ => My.sp_law) rfl (by decide) rfl ⟨rfl, by decide, by decide⟩ (fun w h Y => PySem.W.kIn_of Y) ?F ?S ?C
  case F =>
    intro w mg fa h KX G hmg
    have T : ∃ t, My.Txt (L2.KOf KX) t := by
      dsimp only [L2.KOf]                          -- K must stand as «<heap const> w.params» for k_is
      refine' My.txt_mk ?e1 ?e2 ?e3 ..
      (case e1 => PySem.W.k_is)                    -- in the order: a name -> its address -> its object -> its parts
      (case e2 => PySem.W.k_is)
      ..
    obtain ⟨t, T⟩ := T
    have e0 := hmg.symm.trans (PySem.W.mg_of KX G T.law)
    cases e0                                       -- fa is the law's own address
    exact ⟨_, fun s u => .of_eq rfl, fun base kb nb => My.law_fn T kb nb⟩     -- if «.of_eq rfl» comes too early: refine' ⟨_, ?b, fun base kb nb => My.law_fn T kb nb⟩; exact fun s u => .of_eq rfl
  case S => exact fun w H a ns hl hO hS => ..
  case C => exact ..
(the tactic k_is has no namespace: write k_is) -/
namespace L2
open PySem PySem.Spec PyProof.Rows
def defArgs (s : Stmt) : Arguments := match s with
  | .FunctionDef _ a _ _ _ _ _ _ _ _ => a
  | _ => { posonlyargs := [], args := [], vararg := none, kwonlyargs := [], kw_defaults := [], kwarg := none, defaults := [] }
def defBody (s : Stmt) : List Stmt := match s with
  | .FunctionDef _ _ b _ _ _ _ _ _ _ => b
  | _ => []
def defScope (s : Stmt) : Scope := match s with
  | .FunctionDef _ _ _ _ _ _ sc _ _ _ => sc
  | _ => { kind := .function, names := [], isGenerator := false, isCoroutine := false }
abbrev CX0 : CXT := fun _ _ _ _ _ _ => False
abbrev E0 : XK := fun _ _ _ => False
theorem pass0 {X : Cx} : Passes CX0 X E0 := fun _ _ _ _ _ _ _ h => h.elim
structure Fun (K : PySem.W.Frag) (x qual : Str) (st : Stmt) (f : Addr) (fd : FuncData) : Prop where
  ex : ∃ (oc : Value) (od : Option Addr) (kV doc pm : Value) (an : Option Addr) (cdv ct : Value) (osl : Array (Option Value)),
    fd = PySem.W.fnOf x qual (defArgs st) (defBody st) (defScope st) .none kV doc pm an cdv ct ∧ K.lookup f = some ⟨oc, od, .func fd, osl⟩ ∧ PySem.W.codeIn K cdv qual = true
  kp : PySem.W.keepIn K (.ref f) = true
section
variable {P : Program} {w : World} {K : PySem.W.Frag} {mg : Str → Option Value} {base : Heap}
theorem Fun.ok {x qual : Str} {st : Stmt} {f : Addr} {fd : FuncData} {N ps : List Str} {k : Nat} {sp : Sp} (F : Fun K x qual st f fd) (S : FnScope N ps (defScope st)) (len : ∀ vs H Q E, sp vs H Q E → vs.length = ps.length)
    (hbody : ∀ (cdv : Value) (A : Around) (outer : List Env) (s : Shared) (H : Hp) (vs : List V) (Q : VK) (E : XK), Room k (A.deeper (envOfC qual (defScope st) s.heap.objs.size f cdv)) → sp vs H Q E →
      ∃ t, PSs (cxOf CX0 P w K mg base N qual (defScope st) f cdv A outer s H E).nox (defBody st) t ∧ t { nx := fun _ H' => Q .non H', rt := Q } (start N vs) H) : FnOk P w K mg base CX0 (k + 1) f fd ps sp := by
  obtain ⟨oc, od, kV, doc, pm, an, cdv, ct, osl, rfl, lk, hcd⟩ := F.ex
  refine fn_of lk hcd S len fun A outer s H vs Q E hr hsp => ?_
  obtain ⟨t, h, q⟩ := hbody cdv A outer s H vs Q E hr hsp
  exact ⟨t, h.nox, q⟩
theorem Fun.binds {x qual : Str} {st : Stmt} {f : Addr} {fd : FuncData} {ps : List Str} (F : Fun K x qual st f fd)
    (h : ∀ (kV doc pm : Value) (an : Option Addr) (cdv ct : Value) (us : List Value), us.length = ps.length → bindArgs (PySem.W.fnOf x qual (defArgs st) (defBody st) (defScope st) .none kV doc pm an cdv ct) ⟨us, []⟩ = pure (ps.zip us)) : Binds K fd ps [] := by
  obtain ⟨oc, od, kV, doc, pm, an, cdv, ct, osl, rfl, lk, hcd⟩ := F.ex
  exact .all (h kV doc pm an cdv ct)
theorem fun_mk {x qual : Str} {st : Stmt} {f : Addr} {oc : Value} {od an : Option Addr} {osl : Array (Option Value)} {kV doc pm cdv ct : Value} (l : K.lookup f = some ⟨oc, od, .func (PySem.W.fnOf x qual (defArgs st) (defBody st) (defScope st) .none kV doc pm an cdv ct), osl⟩)
    (c : PySem.W.codeIn K cdv qual = true) (k : PySem.W.keepIn K (.ref f) = true) : Fun K x qual st f (PySem.W.fnOf x qual (defArgs st) (defBody st) (defScope st) .none kV doc pm an cdv ct) := ⟨⟨oc, od, kV, doc, pm, an, cdv, ct, osl, rfl, l, c⟩, k⟩
end
theorem small1000 {n : Nat} (h : n ≤ 1000) : n < sizeLine := Nat.lt_of_le_of_lt h (by decide)
section
variable {X : Cx}
theorem pv (i : Nat) {x : Str} {pos : Pos} (hN : X.N[i]? = some x := by rfl) (hv : Vis X.env.scope x := by first | exact Or.inl rfl | exact Or.inr (Or.inl rfl) | exact Or.inr (Or.inr rfl)) (hd : (x == ("__debug__" : Str)) = false := by decide)
    (hcd : (x == ("__classdict__" : Str)) = false := by decide) : PE X (.Name x pos) (tVar i) := pe_var hN hv hd hcd
end
theorem iteF {A B : Prop} (h : B) : if false = true then A else B := by
  rw [if_neg Bool.false_ne_true]
  exact h
theorem iteT {A B : Prop} (h : A) : if true = true then A else B := by
  rw [if_pos rfl]
  exact h
def Same (H H' : Hp) : Prop := ∀ b o, H b = some o → H' b = some o
theorem Same.refl (H : Hp) : Same H H := fun _ _ h => h
theorem Same.trans {H H1 H2 : Hp} (a : Same H H1) (b : Same H1 H2) : Same H H2 := fun c o h => b c o (a c o h)
theorem Same.free {H H' : Hp} (e : Same H H') {l : Addr} (h : H' l = Option.none) : H l = Option.none := by
  cases q : H l with
  | none => rfl
  | some o =>
    rw [e l o q] at h
    cases h
theorem Same.seq {K : PySem.W.Frag} {H H' : Hp} {a : Addr} {xs : List V} (e : Same H H') (h : SqL K H a xs) : SqL K H' a xs := by
  rcases h with (h | ⟨o, h⟩) | h
  · exact .inl (.inl (e _ _ h))
  · exact .inl (.inr ⟨o, e _ _ h⟩)
  · exact .inr h
end L2
namespace L2
open PySem PySem.Spec PyProof.Rows
section
variable {κ : Type} [DecidableEq κ]
def valV (kvs : List (κ × V)) (k : κ) : Option V := (kvs.find? fun kv => decide (kv.1 = k)).map (·.2)
def putK (kvs : List (κ × V)) (k : κ) (v : V) : List (κ × V) :=
  if (kvs.any fun kv => decide (kv.1 = k)) = true then kvs.map (fun kv => if kv.1 = k then (kv.1, v) else kv) else kvs ++ [(k, v)]
theorem valV_pos {p : κ × V} {r : List (κ × V)} {k : κ} (e : p.1 = k) : valV (p :: r) k = some p.2 := by simp [valV, List.find?_cons, e]
theorem valV_neg {p : κ × V} {r : List (κ × V)} {k : κ} (e : ¬ p.1 = k) : valV (p :: r) k = valV r k := by simp [valV, List.find?_cons, e]
theorem RelO.isSome_eq {o : Option V} {u : Option Value} (r : RelO o u) : o.isSome = u.isSome := by
  cases o with
  | none => cases u with
    | none => rfl
    | some _ => exact (show False from r).elim
  | some _ => cases u with
    | none => exact (show False from r).elim
    | some _ => rfl
theorem KV.val {kvs : List (κ × V)} {vs : List (κ × Value)} (r : KV kvs vs) (k : κ) : RelO (valV kvs k) (valueAt vs k) := by
  unfold KV at r
  induction r with
  | nil => exact True.intro
  | @cons p q ps qs h t ih =>
    obtain ⟨h1, h2⟩ := h
    by_cases e : p.1 = k
    · have e' : q.1 = k := h1.symm.trans e
      have b : valueAt (q :: qs) k = some q.2 := by simp [valueAt, List.find?_cons, e']
      rw [valV_pos e, b]; exact h2
    · have e' : ¬ q.1 = k := fun z => e (h1.trans z)
      have b : valueAt (q :: qs) k = valueAt qs k := by simp [valueAt, List.find?_cons, e']
      rw [valV_neg e, b]; exact ih
theorem KV.length {kvs : List (κ × V)} {vs : List (κ × Value)} (r : KV kvs vs) : kvs.length = vs.length := Paired.length r
end
theorem kV_is {P : Program} {w : World} {k : Key} {u : Value} (r : RelV (kV k) u) : (mixKind P w).is k u = true := by
  cases k with
  | inl i => obtain ⟨t, e⟩ := (show ∃ t, u = Value.int i t from r); subst e; exact mixKind_int P w i t
  | inr x => obtain ⟨t, e⟩ := (show ∃ t, u = Value.str x t from r); subst e; exact mixKind_str P w x t
theorem items_are {P : Program} {w : World} : ∀ {ks : List Key} {us : List Value}, Vals (ks.map kV) us → ItemsAre (mixKind P w) ks us
  | [], _, r => by rw [List.map_nil] at r; cases r; exact .nil
  | k :: ks, _, r => by
    rw [List.map_cons] at r
    cases r with
    | cons h t => exact .cons (kV_is h) (items_are t)
abbrev KT (H : Hp) : List (List Key × V) → List (List Key × Addr × Value) → Prop := Paired fun p q => p.1 = q.1 ∧ H q.2.1 = some (.tup (p.1.map kV)) ∧ RelV p.2 q.2.2
theorem KT.val {H : Hp} {kvs : List (List Key × V)} {xs : List (List Key × Addr × Value)} (r : KT H kvs xs) (k : List Key) : RelO (valV kvs k) ((atKey xs k).map (·.2)) := by
  induction r with
  | nil => exact True.intro
  | @cons p q ps qs h t ih =>
    obtain ⟨h1, _, h2⟩ := h
    by_cases e : p.1 = k
    · have e' : q.1 = k := h1.symm.trans e
      have b : atKey (q :: qs) k = some q.2 := by simp [atKey, List.find?_cons, e']
      rw [valV_pos e, b]; exact h2
    · have e' : ¬ q.1 = k := fun z => e (h1.trans z)
      have b : atKey (q :: qs) k = atKey qs k := by simp [atKey, List.find?_cons, e']
      rw [valV_neg e, b]; exact ih
section
variable {P : Program} {w : World} {H : Hp} {h : Heap} {a : Addr}
theorem rd_of {u : HO} (ok : HOk P w H h) (e : Rd H a u) : ObjOk P w H h a u := e.ok ok
theorem dk_rd {kvs : List (Key × V)} (ok : HOk P w H h) (e : Rd H a (.dK kvs)) : kvs.length ≤ sizeLine ∧ (a == sysModules) = false ∧ ∃ vs, KV kvs vs ∧ h.DictOf (mixKind P w) a vs :=
  show ObjOk P w H h a (.dK kvs) from rd_of ok e
theorem key_of {ks : List Key} (ok : HOk P w H h) (e : H a = some (.tup (ks.map kV))) : (tupleKind (mixKind P w)).is h ks a := by
  obtain ⟨_, its, r, o, h1, h2, n, h3⟩ := (show ObjOk P w H h a (.tup (ks.map kV)) from ok a _ e)
  exact ⟨o, its.toArray, n, h1, h2, h3, by simpa using items_are r⟩
theorem dt_rd {kvs : List (List Key × V)} (ok : HOk P w H h) (e : Rd H a (.dT kvs)) : kvs.length ≤ sizeLine ∧ (a == sysModules) = false ∧
    ∃ xs, KT H kvs xs ∧ h.DictOfH (tupleKind (mixKind P w)) a xs := by
  obtain ⟨z, y, xs, r, o, es, ep, h1, h2, h3, h4, h5⟩ := (show ObjOk P w H h a (.dT kvs) from rd_of ok e)
  refine ⟨z, y, xs, r, o, es, ep, h1, h2, h3, h4, fun x hx => ?_, h5⟩
  have all : ∀ {l : List (List Key × V)} {m : List (List Key × Addr × Value)}, KT H l m → ∀ x ∈ m, (tupleKind (mixKind P w)).is h x.1 x.2.1 := by
    intro l m q
    induction q with
    | nil => intro x hx; exact nomatch hx
    | @cons p q ps qs hq t ih =>
      intro x hx
      rcases List.mem_cons.mp hx with e | hx
      · subst e
        exact key_of ok (by rw [← hq.1]; exact hq.2.1)
      · exact ih x hx
  exact all r x hx
end
def DGet (H : Hp) (a : Addr) (y : V) (r : Option V) : Prop :=
  (∃ kvs k, Rd H a (.dK kvs) ∧ y = kV k ∧ r = valV kvs k) ∨ ∃ kvs k b, Rd H a (.dT kvs) ∧ y = .ref b ∧ H b = some (.tup (k.map kV)) ∧ r = valV kvs k
def DPut (H : Hp) (a : Addr) (y v : V) (H' : Hp) : Prop :=
  (∃ kvs k, H a = some (.dK kvs) ∧ y = kV k ∧ kvs.length < sizeLine ∧ H' = upd H a (.dK (putK kvs k v))) ∨
  ∃ kvs k b, H a = some (.dT kvs) ∧ y = .ref b ∧ H b = some (.tup (k.map kV)) ∧ kvs.length < sizeLine ∧ H' = upd H a (.dT (putK kvs k v))
theorem DGet.k {H : Hp} {a : Addr} {kvs : List (Key × V)} {k : Key} (e : H a = some (.dK kvs)) : DGet H a (kV k) (valV kvs k) := .inl ⟨kvs, k, .inl e, rfl, rfl⟩
section
variable {X : Cx} {pins : List (Addr × Obj)} {σ : St} {H : Hp} {s : Shared} {a : Addr} {y v : V} {u r : Value} {o : Option V} {A : Around} {E : Value → Shared → Prop}
theorem d_getItem {Q : Value → Shared → Prop} (hu : A.units + 1 < cLine) (I : Inv X pins σ H s) (g : DGet H a y (some v)) (ry : RelV y u) (h : ∀ w' s', Inv X pins σ H s' → RelV v w' → Q w' s') :
    wpAny (model X.prog X.w) A (getItem (.ref a) u) Q E s := by
  rcases g with ⟨kvs, k, e, ey, l⟩ | ⟨kvs, k, b, e, ey, eb, l⟩
  · subst ey
    obtain ⟨z, hd, vs, rel, dd⟩ := dk_rd I.hok e
    obtain ⟨w', hw, rw'⟩ := RelO.some_of (v := v) (o := valueAt vs k) (by rw [l]; exact rel.val k)
    exact wpAny_getItem_of (kV_is ry) dd.mapOf hw (h w' _ (I.tok _) rw')
  · subst ey
    cases (show u = Value.ref b from ry)
    obtain ⟨z, hd, xs, rel, dd⟩ := dt_rd I.hok e
    obtain ⟨w', hw, rw'⟩ := RelO.some_of (v := v) (o := (atKey xs k).map (·.2)) (by rw [l]; exact rel.val k)
    obtain ⟨p, hp, hp2⟩ := Option.map_eq_some_iff.mp hw
    refine wpAny_getItem_heap (tupleKind_room_in1 hu) (key_of I.hok eb) dd hp ?_
    rw [hp2]
    exact h w' _ (I.tok _) rw'
theorem d_in {Q : Value → Shared → Prop} (hu : A.units + 1 < cLine) (I : Inv X pins σ H s) (g : DGet H a y o) (ry : RelV y u) (h : ∀ s', Inv X pins σ H s' → Q (.bool o.isSome) s') :
    wpAny (model X.prog X.w) A (compareOp .In u (.ref a)) Q E s := by
  rcases g with ⟨kvs, k, e, ey, l⟩ | ⟨kvs, k, b, e, ey, eb, l⟩
  · subst ey
    obtain ⟨z, hd, vs, rel, dd⟩ := dk_rd I.hok e
    refine wpAny_in_of (kV_is ry) hd dd.mapOf ?_
    rw [← (rel.val k).isSome_eq, ← l]
    exact h _ (I.tok _)
  · subst ey
    cases (show u = Value.ref b from ry)
    obtain ⟨z, hd, xs, rel, dd⟩ := dt_rd I.hok e
    refine wpAny_in_heap (tupleKind_room_in1 hu) (key_of I.hok eb) hd dd ?_
    have q := (rel.val k).isSome_eq
    rw [Option.isSome_map] at q
    rw [← q, ← l]
    exact h _ (I.tok _)
theorem d_notIn {Q : Value → Shared → Prop} (hu : A.units + 1 < cLine) (I : Inv X pins σ H s) (g : DGet H a y o) (ry : RelV y u) (h : ∀ s', Inv X pins σ H s' → Q (.bool (!o.isSome)) s') :
    wpAny (model X.prog X.w) A (compareOp .NotIn u (.ref a)) Q E s := by
  rcases g with ⟨kvs, k, e, ey, l⟩ | ⟨kvs, k, b, e, ey, eb, l⟩
  · subst ey
    obtain ⟨z, hd, vs, rel, dd⟩ := dk_rd I.hok e
    refine wpAny_notIn_of (kV_is ry) hd dd.mapOf ?_
    rw [← (rel.val k).isSome_eq, ← l]
    exact h _ (I.tok _)
  · subst ey
    cases (show u = Value.ref b from ry)
    obtain ⟨z, hd, xs, rel, dd⟩ := dt_rd I.hok e
    refine wpAny_notIn_heap (tupleKind_room_in1 hu) (key_of I.hok eb) hd dd ?_
    have q := (rel.val k).isSome_eq
    rw [Option.isSome_map] at q
    rw [← q, ← l]
    exact h _ (I.tok _)
end
section
variable {X : Cx} {pins : List (Addr × Obj)} {σ : St} {H : Hp} {s : Shared} {a : Addr} {kvs : List (Key × V)} {k : Key} {u : Value} {A : Around} {E : Value → Shared → Prop}
theorem d_len {Q : Value → Shared → Prop} (I : Inv X pins σ H s) (e : Rd H a (.dK kvs)) (h : ∀ t s', Inv X pins σ H s' → Q (.int kvs.length t) s') : wpAny (model X.prog X.w) A (call (.builtin "len") [.ref a]) Q E s := by
  obtain ⟨z, hd, vs, rel, dd⟩ := dk_rd I.hok e
  refine call_len_dict hd dd (by rw [← rel.length]; rw [sizeLine_eq] at z; omega) ?_
  rw [← rel.length]
  exact h _ _ (I.tok _)
end
theorem dict_typeIs {X : Cx} {pins : List (Addr × Obj)} {σ : St} {H : Hp} {s : Shared} {a : Addr} {y : V} {o : Option V} (I : Inv X pins σ H s) (g : DGet H a y o) : s.TypeIs (.ref a) "dict" := by
  rcases g with ⟨kvs, k, e, _, _⟩ | ⟨kvs, k, b, e, _, _, _⟩
  · obtain ⟨_, _, vs, _, dd⟩ := dk_rd I.hok e
    exact dd.typeIs
  · obtain ⟨_, _, xs, _, dd⟩ := dt_rd I.hok e
    exact dd.typeIs
def sDPut (td ty tv : TE) : TS := fun D σ H => tv σ H fun v H1 => td σ H1 fun x H2 => ty σ H2 fun y H3 => ∃ a H4, x = .ref a ∧ DPut H3 a y v H4 ∧ D.nx σ H4
def tDNewK : TE := fun _ H Q => ∀ p, H p = none → Q (.ref p) (upd H p (.dK []))
end L2
namespace L2
open PySem PySem.Spec PyProof.Rows
section
variable {X : Cx}
theorem call_lenD : CallR X (.builtin "len") (fun xs H Q => ∃ a kvs, xs = [V.ref a] ∧ H a = some (.dK kvs) ∧ Q (.int kvs.length) H) := by
  intro pins s σ H xs us Q I r h
  obtain ⟨a, kvs, rfl, ha, q⟩ := h
  obtain ⟨u, rfl, ru⟩ := vals1 r
  cases ru
  exact d_len I (.inl ha) fun t s' I' => ⟨.int kvs.length, H, I', ⟨t, rfl⟩, q⟩
end
end L2
set_option Elab.async false
set_option linter.all false
set_option maxRecDepth 100000
namespace L2
open PySem PySem.Spec PyProof.Rows
theorem lookup_append' {α : Type} (x : Str) : ∀ (a b : List (Str × α)), (a ++ b).lookup x = match a.lookup x with | some c => some c | none => b.lookup x
  | [], b => rfl
  | (k, v) :: r, b => by
    rw [List.cons_append, List.lookup_cons, List.lookup_cons]
    cases x == k with
    | true => rfl
    | false => exact lookup_append' x r b
theorem cellsFrom_app : ∀ (names : List (Str × NameKind)) (n : Nat) (acc cl : List (Str × Addr)), cellsFrom n names (acc ++ cl) = cellsFrom n names acc ++ cl
  | [], _, _, _ => rfl
  | (y, k) :: r, n, acc, cl => by
    unfold cellsFrom
    split
    · rw [← List.cons_append]; exact cellsFrom_app r _ _ cl
    · exact cellsFrom_app r _ _ cl
theorem cellsFrom_mem {x : Str} {c : Addr} : ∀ (names : List (Str × NameKind)) (n : Nat) (acc : List (Str × Addr)), (x, c) ∈ cellsFrom n names acc → (x, NameKind.cell) ∈ names ∨ (x, c) ∈ acc
  | [], _, _, h => .inr h
  | (y, k) :: r, n, acc, h => by
    unfold cellsFrom at h
    split at h
    · rename_i hk
      have hk : k = .cell := by simpa using hk
      subst hk
      rcases cellsFrom_mem r _ _ h with z | z
      · exact .inl (List.mem_cons_of_mem _ z)
      · rcases List.mem_cons.mp z with z | z
        · cases z; exact .inl List.mem_cons_self
        · exact .inr z
    · rcases cellsFrom_mem r _ _ h with z | z
      · exact .inl (List.mem_cons_of_mem _ z)
      · exact .inr z
theorem closure_go {env : Env} (f : Str × NameKind → List (Str × Addr) → Sem (ForInStep (List (Str × Addr))))
    (hf : ∀ name kind cs, f (name, kind) cs = if kind == .free then (do let a ← cellOf env name; pure (.yield ((name, a) :: cs))) else pure (.yield cs)) :
    ∀ (names : List (Str × NameKind)) (acc : List (Str × Addr)), (∀ x, (x, NameKind.free) ∈ names → ∃ c, env.cells.lookup x = some c) → (∀ x c, acc.lookup x = some c → env.cells.lookup x = some c) →
      ∃ cl, forIn names acc f = (pure cl : Sem _) ∧ (∀ x c, cl.lookup x = some c → env.cells.lookup x = some c) ∧ (∀ x, ((x, NameKind.free) ∈ names ∨ ∃ c, acc.lookup x = some c) → ∃ c, cl.lookup x = some c)
  | [], acc, _, h2 => ⟨acc, rfl, h2, fun x h => h.elim (fun z => nomatch z) id⟩
  | (y, k) :: r, acc, h1, h2 => by
    rw [List.forIn_cons, hf]
    by_cases hk : (k == NameKind.free) = true
    · rw [if_pos hk]
      have hk' : k = .free := by simpa using hk
      subst hk'
      obtain ⟨c, hc⟩ := h1 y List.mem_cons_self
      have e : (cellOf env y : Sem Addr) = pure c := by unfold cellOf; rw [hc]
      rw [e]
      obtain ⟨cl, e1, e2, e3⟩ := closure_go f hf r ((y, c) :: acc) (fun x hx => h1 x (List.mem_cons_of_mem _ hx)) (fun x c' hx => by
        rw [List.lookup_cons] at hx
        cases hb : x == y with
        | true => rw [hb] at hx; cases hx; rw [beq_iff_eq.mp hb]; exact hc
        | false => rw [hb] at hx; exact h2 x c' hx)
      refine ⟨cl, ?_, e2, fun x hx => e3 x ?_⟩
      · exact e1
      · rcases hx with hx | ⟨c', hx⟩
        · rcases List.mem_cons.mp hx with z | z
          · cases z; exact .inr ⟨c, by rw [List.lookup_cons]; simp⟩
          · exact .inl z
        · cases hb : x == y with
          | true => exact .inr ⟨c, by rw [List.lookup_cons, hb]⟩
          | false => exact .inr ⟨c', by rw [List.lookup_cons, hb]; exact hx⟩
    · rw [if_neg hk]
      obtain ⟨cl, e1, e2, e3⟩ := closure_go f hf r acc (fun x hx => h1 x (List.mem_cons_of_mem _ hx)) h2
      refine ⟨cl, e1, e2, fun x hx => e3 x ?_⟩
      rcases hx with hx | hx
      · rcases List.mem_cons.mp hx with z | z
        · cases z; exact absurd rfl hk
        · exact .inl z
      · exact .inr hx
theorem closure_of {scope : Scope} {env : Env} (h : ∀ x, (x, NameKind.free) ∈ scope.names → ∃ c, env.cells.lookup x = some c) :
    ∃ cl, closureFor scope env = pure cl ∧ (∀ x c, cl.lookup x = some c → env.cells.lookup x = some c) ∧ ∀ x, (x, NameKind.free) ∈ scope.names → ∃ c, cl.lookup x = some c := by
  obtain ⟨cl, e1, e2, e3⟩ := closure_go (env := env) (fun x cs => match x with | (name, kind) => if kind == .free then (do let a ← cellOf env name; pure (.yield ((name, a) :: cs))) else pure (.yield cs)) (fun _ _ _ => rfl) scope.names [] h (fun x c hx => nomatch hx)
  refine ⟨cl, ?_, e2, fun x hx => e3 x (.inl hx)⟩
  have : closureFor scope env = (forIn scope.names [] (fun x cs => match x with | (name, kind) => if kind == .free then (do let a ← cellOf env name; pure (.yield ((name, a) :: cs))) else pure (.yield cs)) >>= fun cs => pure cs) := by
    simp only [closureFor]
  rw [this, e1]
  rfl
def blkEnv (scope : Scope) (cl : List (Str × Addr)) (C : Addr) (env : Env) : Env :=
  { newEnv scope C env.globals (cellsFrom (C + 1) scope.names cl) env.qual none .none (some env) builtinsNs with scope := relabel scope env }
theorem nfe_comp {M : Model} {A : Around} {E : Value → Shared → Prop} {s : Shared} {scope : Scope} {cl : List (Str × Addr)} {env : Env} {Q : Env → Shared → Prop}
    (hQ : Q (newEnv scope s.heap.objs.size env.globals (cellsFrom (s.heap.objs.size + 1) scope.names cl) env.qual none .none (some env) builtinsNs) { s with heap := pushCells (s.heap.push { cls := .type "dict", data := .dict #[] }) scope.names }) :
    wpAny M A (newFunctionEnv scope env.globals cl [] env.qual none .none (some env)) Q E s := by
  simp only [newFunctionEnv, Option.isSome_some, if_true]
  refine wpAny_bind (wpAny_alloc ?_)
  refine wpAny_bind (wpAny_layCells _ (fun name kind cells => by cases hkc : kind == NameKind.cell <;> simp [hkc]) _ _ _ _ ?_)
  rw [show ({ s with heap := s.heap.push { cls := .type "dict", data := .dict #[] } } : Shared).heap.objs.size = s.heap.objs.size + 1 from Heap.size_push ..]
  refine wpAny_bind ?_
  rw [List.forIn_nil]
  exact wpAny_pure (wpAny_pure hQ)
section
variable {prog : Program} {w : World} {A : Around} {E : Value → Shared → Prop} {R : Result → Shared → Prop} {s : Shared}
theorem comp_loop {elt target iter : Expr} {ifs : List Expr} {scope : Scope} {pos : Pos} {it acc : Value} {env : Env} (I : Nat → Shared → Prop)
    (turn : ∀ n s, I n s → wpAny (model prog w) A (pyNext it) (fun r s₁ => match r with
      | none => R (.ok .next) s₁
      | some v => wpAny (model prog w) A (letOwnedTupleGo target it v) (fun _ s₁' => wpAny (model prog w) A (assign target env v) (fun _ s₂ =>
          wpAny (model prog w) A (forIn ifs true fun c r => if r = true then do let ok ← isTrue c env (eval c env); pure (ForInStep.yield ok) else pure (ForInStep.yield r)) (fun ok s₃ =>
            if ok = true then wpAny (model prog w) A (eval elt env) (fun x s₄ =>
              wpAny (model prog w) A (call (.builtin "list.append") [acc, x]) (fun _ s₅ => ∃ m, m < n ∧ I m s₅) (notedBy (model prog w) A env fun e s' => R (.error e) s') s₄) (notedBy (model prog w) A env fun e s' => R (.error e) s') s₃
            else ∃ m, m < n ∧ I m s₃) (notedBy (model prog w) A env fun e s' => R (.error e) s') s₂) (notedBy (model prog w) A env fun e s' => R (.error e) s') s₁') (notedBy (model prog w) A env fun e s' => R (.error e) s') s₁) (notedBy (model prog w) A env fun e s' => R (.error e) s') s)
    (n : Nat) (h : I n s) :
    codeAny (model prog w) A (.compLoop (.ListComp elt [⟨target, iter, ifs, 0⟩] scope pos) 0 it acc env) R s := by
  refine codeAny_loop rfl I (fun n s hI => ?_) n h
  show wpAny _ A ((compTurn (.ListComp elt [⟨target, iter, ifs, 0⟩] scope pos) 0 it acc env).onRaise (fun x => do noteFrame x env; theTreesLotGoes x)) _ _ s
  refine wpAny_noted ?_
  rw [compTurn_list]
  refine wpAny_bind (wpAny_standAt (wpAny_bind (wpAny_mono (turn n s hI) (fun r s₁ h₁ => ?_) fun _ _ h' => h')))
  cases r with
  | none => exact wpAny_pure h₁
  | some v =>
    refine wpAny_bind (wpAny_mono h₁ (fun _ s₁' h₁' => ?_) fun _ _ h' => h')
    refine wpAny_bind (wpAny_mono h₁' (fun _ s₂ h₂ => wpAny_bind (wpAny_mono h₂ (fun ok s₃ h₃ => ?_) fun _ _ h' => h')) fun _ _ h' => h')
    cases ok with
    | false => exact wpAny_pure ⟨rfl, h₃⟩
    | true =>
      exact wpAny_bind (wpAny_bind (wpAny_mono h₃ (fun x s₄ h₄ => wpAny_bind (wpAny_mono h₄ (fun _ s₅ h₅ => wpAny_pure (wpAny_pure ⟨rfl, h₅⟩)) fun _ _ h' => h')) fun _ _ h' => h'))
end
end L2
set_option Elab.async false
set_option linter.all false
set_option maxRecDepth 100000
namespace L2
open PySem PySem.Spec PyProof.Rows
theorem relabel_look {scope : Scope} {env : Env} {x : Str} {k : NameKind} (h : (relabel scope env).names.lookup x = some k) : ∃ k', scope.names.lookup x = some k' ∧ (k = k' ∨ (k' = .free ∧ k = .cell)) := by
  unfold relabel at h
  dsimp only at h
  generalize scope.names = names at h ⊢
  induction names with
  | nil => cases h
  | cons p r ih =>
    obtain ⟨n, k0⟩ := p
    rw [List.map_cons] at h
    rw [List.lookup_cons]
    cases hb : x == n with
    | true =>
      refine ⟨k0, rfl, ?_⟩
      dsimp only at h
      split at h
      · rename_i hc
        rw [List.lookup_cons, hb] at h
        cases h
        simp only [Bool.and_eq_true, beq_iff_eq] at hc
        exact .inr ⟨hc.1.1, rfl⟩
      · rw [List.lookup_cons, hb] at h
        cases h
        exact .inl rfl
    | false =>
      dsimp only at h
      refine ih ?_
      split at h
      · rw [List.lookup_cons, hb] at h; exact h
      · rw [List.lookup_cons, hb] at h; exact h
def blkCx (X : Cx) (N : List Str) (scope : Scope) (cl : List (Str × Addr)) (s : Shared) (H : Hp) (fp : List Addr) : Cx where
  prog := X.prog
  w := X.w
  K := X.K
  mg := X.mg
  base := X.base
  A := X.A
  N := N
  s₀ := s
  H₀ := H
  env := blkEnv scope cl (s.heap.objs.size + 1) X.env
  outer := X.stack
  stack := X.stack
  ex := fp
  fn := fun x => scope.names.lookup x == some .cell
  calm := X.calm
  pn := []
  xe := fun e₀ s₁ => (∃ (pins : List (Addr × Obj)) (σ : St), Inv X pins σ H s ∧ ∀ b ∈ fp, FpOk X pins H b) → notedBy (model X.prog X.w) X.A (blkEnv scope cl (s.heap.objs.size + 1) X.env) (fun x s' => ∃ m, s'.heap.Ns (s.heap.objs.size + 1) m ∧ ∀ h', Heap.SameBut (s.heap.objs.size + 1) s'.heap h' → ∀ cenv : Env, cenv.locals = s.heap.objs.size + 1 →
    wpAny (model X.prog X.w) X.A (passOn "comprehension.variables-let-go" x cenv : Sem Value) (fun _ _ => False) X.xe { s' with heap := h' }) e₀ s₁
def subσ (ix : List (Option Nat)) (σ : St) : St := ix.map fun o => match o with | none => none | some i => match σ[i]? with | some v => v | none => none
structure BlkOk (X : Cx) (N : List Str) (ix : List (Option Nat)) (scope : Scope) : Prop where
  kind : scope.kind = .function
  nd : N.Nodup
  len : ix.length = N.length
  names : (scope.names.map (·.1)).Nodup
  free : ∀ x, (x, NameKind.free) ∈ scope.names → X.env.kindOf x = some .cell ∨ X.env.kindOf x = some .free
  at_ : ∀ (j i : Nat) (x : Str), N[j]? = some x → ix[j]? = some (some i) → X.N[i]? = some x ∧ (x, NameKind.free) ∈ scope.names
theorem lookup_of_mem {α : Type} : ∀ {l : List (Str × α)} {x : Str} {k : α}, (l.map (·.1)).Nodup → (x, k) ∈ l → l.lookup x = some k
  | (y, k0) :: r, x, k, nd, h => by
    rw [List.map_cons, List.nodup_cons] at nd
    rw [List.lookup_cons]
    rcases List.mem_cons.mp h with e | e
    · cases e; simp
    · have : x ≠ y := by
        rintro rfl
        exact nd.1 (List.mem_map.mpr ⟨(x, k), e, rfl⟩)
      have hb : (x == y) = false := by simpa using this
      rw [hb]
      exact lookup_of_mem nd.2 e
theorem blk_start {X : Cx} {pins : List (Addr × Obj)} {σ : St} {H : Hp} {s : Shared} {N : List Str} {ix : List (Option Nat)} {scope : Scope} {cl : List (Str × Addr)} {fp : List Addr} (B : BlkOk X N ix scope)
    (I : Inv X pins σ H s) (hcl : ∀ x c, cl.lookup x = some c → X.env.cells.lookup x = some c) (hcf : ∀ x, (x, NameKind.free) ∈ scope.names → ∃ c, cl.lookup x = some c)
    (hfp : ∀ b ∈ fp, FpOk X pins H b) (hob : ∀ b ∈ fp, ∃ o, s.heap.get? b = some o ∧ ∀ v, o.data ≠ .cell v) :
    Inv (blkCx X N scope cl s H fp) [] (subσ ix σ) (upd H s.heap.objs.size (.lst []))
      { s with heap := pushCells ((s.heap.push { cls := .type "list", data := .seq #[] }).push { cls := .type "dict", data := .dict #[] }) scope.names } := by
  have hs2 : (s.heap.push { cls := .type "list", data := .seq #[] }).objs.size = s.heap.objs.size + 1 := Heap.size_push ..
  have hs3 : ((s.heap.push { cls := .type "list", data := .seq #[] }).push { cls := .type "dict", data := .dict #[] }).objs.size = s.heap.objs.size + 2 := by rw [Heap.size_push, hs2]
  have hk : ∀ b o, s.heap.get? b = some o → (pushCells ((s.heap.push { cls := .type "list", data := .seq #[] }).push { cls := .type "dict", data := .dict #[] }) scope.names).get? b = some o :=
    fun b o e => pushCells_keeps _ _ b o (Heap.get?_push_of_some _ (Heap.get?_push_of_some _ e))
  have hl : (pushCells ((s.heap.push { cls := .type "list", data := .seq #[] }).push { cls := .type "dict", data := .dict #[] }) scope.names).get? s.heap.objs.size = some { cls := .type "list", data := .seq #[] } :=
    pushCells_keeps _ _ _ _ (Heap.get?_push_of_some _ (Heap.get?_push_size _ rfl))
  have ok0 := cellsFrom_ok scope.names ((s.heap.push { cls := .type "list", data := .seq #[] }).push { cls := .type "dict", data := .dict #[] }) (s.heap.objs.size + 2) [] ⟨fun _ _ hm => (nomatch hm), List.Pairwise.nil⟩ (by rw [hs3]; exact Nat.le_refl _)
  rw [hs3] at ok0
  have hcells : (blkCx X N scope cl s H fp).env.cells = cellsFrom (s.heap.objs.size + 2) scope.names [] ++ cl := by
    show cellsFrom (s.heap.objs.size + 1 + 1) scope.names cl = _
    rw [← List.nil_append cl, cellsFrom_app]
    simp
  -- a cell of the block: a new one, or one of the closure
  have cases_ : ∀ x c, (blkCx X N scope cl s H fp).env.cells.lookup x = some c → ((x, c) ∈ cellsFrom (s.heap.objs.size + 2) scope.names [] ∧ (x, NameKind.cell) ∈ scope.names) ∨ ((cellsFrom (s.heap.objs.size + 2) scope.names []).lookup x = none ∧ cl.lookup x = some c) := fun x c e => by
    rw [hcells, lookup_append'] at e
    cases q : (cellsFrom (s.heap.objs.size + 2) scope.names []).lookup x with
    | none => rw [q] at e; exact .inr ⟨rfl, e⟩
    | some c' =>
      rw [q] at e
      cases e
      have m := PySem.mem_of_lookup q
      refine .inl ⟨m, ?_⟩
      rcases cellsFrom_mem _ _ _ m with z | z
      · exact z
      · exact nomatch z
  have oldc : ∀ x c, cl.lookup x = some c → c < s.heap.objs.size := fun x c e => by
    obtain ⟨v, q⟩ := I.cell x c (hcl x c e)
    exact q.lt
  have hfree : H s.heap.objs.size = none := I.hok.fresh (Nat.le_refl _)
  have hfix : ∀ b, s.heap.objs.size < b → (upd H s.heap.objs.size (.lst [])) b = none := fun b hb => by
    rw [upd_ne (Nat.ne_of_gt hb)]
    exact I.hok.fresh (Nat.le_of_lt hb)
  have hlt : ∀ b ∈ fp, b < s.heap.objs.size := fun b hb => by
    obtain ⟨o, e, _⟩ := hob b hb
    exact Heap.lt_size e
  have e0 := I.env0
  have isnew : ∀ x c, (x, c) ∈ cellsFrom (s.heap.objs.size + 2) scope.names [] → s.heap.objs.size + 2 ≤ c := fun x c m => (ok0.empty x c m).2
  refine ⟨⟨I.ok.mod, B.kind, I.ok.glob, I.ok.blt, Nat.le_succ _, fun x y c e1 e2 => ?_, fun x hx => ?_, fun x c hx e => ?_, I.ok.hd, I.ok.frames, .inl rfl, fun b hb => ⟨?_, fun x c e => ?_⟩, e0.bs, e0.bsz, fun b o e hb => ?_, fun b hb hb2 => ?_, e0.funs, e0.frf⟩,
    rfl, I.bare, Un.laid hk (Nat.le_refl _) hfree, ⟨fun _ => none, ?_, fun j x v e1 e2 e3 => ?_⟩, fun x c e => ?_, hfix _ (Nat.lt_succ_self _), fun x c e => ?_, fun p hp => absurd (show p ∈ ([] : List (Addr × Obj)) from hp) (by simp), ?_, ?_⟩
  · rcases cases_ x c e1 with ⟨m1, k1⟩ | ⟨n1, q1⟩ <;> rcases cases_ y c e2 with ⟨m2, k2⟩ | ⟨n2, q2⟩
    · exact name_of_addr ok0.apart m1 m2
    · exact absurd (Nat.lt_of_lt_of_le (oldc _ _ q2) (Nat.le_trans (Nat.le_add_right _ _) (isnew _ _ m1))) (Nat.lt_irrefl _)
    · exact absurd (Nat.lt_of_lt_of_le (oldc _ _ q1) (Nat.le_trans (Nat.le_add_right _ _) (isnew _ _ m2))) (Nat.lt_irrefl _)
    · exact I.ok.inj x y c (hcl _ _ q1) (hcl _ _ q2)
  · have hx' : (relabel scope X.env).names.lookup x = some .cell ∨ (relabel scope X.env).names.lookup x = some .free := hx
    have key : scope.names.lookup x = some .cell ∨ scope.names.lookup x = some .free := by
      rcases hx' with z | z
      · obtain ⟨k', e, r | r⟩ := relabel_look z
        · rw [← r] at e; exact .inl e
        · rw [r.1] at e; exact .inr e
      · obtain ⟨k', e, r | r⟩ := relabel_look z
        · rw [← r] at e; exact .inr e
        · cases r.2
    rw [hcells]
    rcases key with z | z
    · obtain ⟨c, q⟩ := cell_has (n := s.heap.objs.size + 2) z
      exact ⟨c, by rw [lookup_append', q]⟩
    · obtain ⟨c, q⟩ := hcf x (PySem.mem_of_lookup z)
      cases q2 : (cellsFrom (s.heap.objs.size + 2) scope.names []).lookup x with
      | none => exact ⟨c, by rw [lookup_append', q2]; exact q⟩
      | some c' => exact ⟨c', by rw [lookup_append', q2]⟩
  · have hx' : scope.names.lookup x = some .cell := by simpa [blkCx] using hx
    rcases cases_ x c e with ⟨m1, k1⟩ | ⟨n1, q1⟩
    · exact Nat.le_trans (Nat.le_add_right _ _) (isnew _ _ m1)
    · obtain ⟨c', q⟩ := cell_has (n := s.heap.objs.size + 2) hx'
      rw [q] at n1; cases n1
  · exact Nat.ne_of_lt (Nat.lt_succ_of_lt (hlt b hb))
  · rcases cases_ x c e with ⟨m1, k1⟩ | ⟨n1, q1⟩
    · exact Nat.ne_of_gt (Nat.lt_of_lt_of_le (hlt b hb) (Nat.le_trans (Nat.le_add_right _ _) (isnew _ _ m1)))
    · exact (hfp b hb).2.2.2.2.1 x c (hcl _ _ q1)
  · rcases (hfp b hb).2.2.2.1 with z | z
    · exact I.ok.noex b o e z
    · exact absurd (Nat.lt_of_lt_of_le (Heap.lt_size e) (Nat.le_trans I.ok.bsz z)) (Nat.lt_irrefl _)
  · rcases List.mem_cons.mp (I.stkSub b hb2) with z | z
    · exact (hfp b hb).2.1 z
    · exact (hfp b hb).2.2.1 z
  · show Heap.Ns _ (s.heap.objs.size + 1) _
    rw [← hs2]
    exact (Heap.Ns.new _ (.type "dict")).keeps (pushCells_keeps _ _)
  · -- a name of the block
    unfold subσ at e2
    rw [List.getElem?_map] at e2
    cases q : ix[j]? with
    | none => rw [q] at e2; cases e2
    | some o =>
      rw [q] at e2
      cases o with
      | none => cases e2
      | some i =>
        simp only [Option.map_some, Option.some.injEq] at e2
        obtain ⟨hN, hm⟩ := B.at_ j i x e1 q
        have hσ : σ[i]? = some (some v) := by
          cases q2 : σ[i]? with
          | none => rw [q2] at e2; cases e2
          | some z => rw [q2] at e2; exact congrArg some e2
        obtain ⟨m, hn, hl'⟩ := I.loc
        have hkind := B.free x hm
        have hvis : Vis X.env.scope x := hkind.elim (fun z => .inr (.inl z)) fun z => .inr (.inr z)
        obtain ⟨u, ru, lk⟩ := hl' i x v hN hσ hvis
        refine ⟨u, ru, ?_⟩
        obtain ⟨c, hc⟩ := hcf x hm
        have hnone : (cellsFrom (s.heap.objs.size + 2) scope.names []).lookup x = none := by
          cases q2 : (cellsFrom (s.heap.objs.size + 2) scope.names []).lookup x with
          | none => rfl
          | some c' =>
            rcases cellsFrom_mem _ _ _ (PySem.mem_of_lookup q2) with z | z
            · have a1 := lookup_of_mem B.names z
              have a2 := lookup_of_mem B.names hm
              rw [a1] at a2; cases a2
            · exact nomatch z
        have hcell : (blkCx X N scope cl s H fp).env.cells.lookup x = some c := by rw [hcells, lookup_append', hnone]; exact hc
        have hkk : (blkCx X N scope cl s H fp).env.kindOf x = some .cell ∨ (blkCx X N scope cl s H fp).env.kindOf x = some .free := by
          rcases e3 with z | z | z
          · obtain ⟨k', e, r | r⟩ := relabel_look (show (relabel scope X.env).names.lookup x = some .local from z)
            · rw [lookup_of_mem B.names hm] at e; cases e; cases r
            · cases r.2
          · exact .inl z
          · exact .inr z
        refine .inr ⟨hkk, c, hcell, ?_⟩
        rcases lk with ⟨k1, _⟩ | ⟨_, c2, e4, z⟩
        · rcases hkind with z | z <;> rw [k1] at z <;> cases z
        · rw [hcl x c hc] at e4; cases e4
          exact z.keeps hk
  · rcases cases_ x c e with ⟨m1, k1⟩ | ⟨n1, q1⟩
    · exact ⟨none, (ok0.empty x c m1).1⟩
    · obtain ⟨v, z⟩ := I.cell x c (hcl _ _ q1)
      exact ⟨v, z.keeps hk⟩
  · rcases cases_ x c e with ⟨m1, k1⟩ | ⟨n1, q1⟩
    · exact hfix c (Nat.lt_of_lt_of_le (Nat.lt_add_of_pos_right (by decide)) (isnew _ _ m1))
    · rw [upd_ne (Nat.ne_of_lt (oldc _ _ q1))]
      exact I.freeC x c (hcl _ _ q1)
  · exact I.hok.laid hk (Nat.le_refl _) ⟨Nat.zero_le _, [], 0, .nil, hl⟩
  · show (subσ ix σ).length = N.length
    unfold subσ
    rw [List.length_map]
    exact B.len
end L2
set_option Elab.async false
set_option linter.all false
set_option maxRecDepth 100000
namespace L2
open PySem PySem.Spec PyProof.Rows
def PTs (X : Cx) (ifs : List Expr) (t : TT) : Prop :=
  ∀ (pins : List (Addr × Obj)) (s : Shared) (σ : St) (H : Hp) (Q : Bool → Hp → Prop), Inv X pins σ H s → t σ H Q →
    wpAny (model X.prog X.w) X.A (forIn ifs true fun c r => if r = true then do let ok ← isTrue c X.env (eval c X.env); pure (ForInStep.yield ok) else pure (ForInStep.yield r)) (TP X pins σ Q) X.xe s
def tTrue : TT := fun _ H Q => Q true H
theorem pts_nil {X : Cx} : PTs X [] tTrue := fun _ _ _ H _ I h => wpAny_tests_nil ⟨H, I, h⟩
theorem pts_one {X : Cx} {c : Expr} {t : TT} (h : PT X c t) : PTs X [c] t := fun pins s σ H Q I q => wpAny_tests_one (h pins s σ H Q I q)
def tCompG (ix : List (Option Nat)) (wi : TI) (g : TG) (tt : TT) (te : TE) (fin : Addr → Hp → Prop) : St → Hp → Prop := fun σ H => wi σ H fun J H1 => ∀ l, H1 l = none →
  ∃ W : Nat → Nat → St → Hp → Prop, (∃ m, W 0 m (subσ ix σ) (upd H1 l (.lst []))) ∧ ∀ i m σ' H', W i m σ' H' →
    (J.stop i H' ∧ fin l H') ∨ (J.go i H' ∧ ∃ N : St → Hp → Prop, (∀ σ'' H'', N σ'' H'' → ∃ m', m' < m ∧ W (i + 1) m' σ'' H'') ∧ ∀ x H2, J.yld i H' x H2 → g x σ' H2 fun σ2 H3 => tt σ2 H3 fun b H4 =>
      if b = true then te σ2 H4 fun y H5 => ∃ ys, H5 l = some (.lst ys) ∧ ys.length < sizeLine ∧ N σ2 (upd H5 l (.lst (ys ++ [y]))) else N σ2 H4)
section
variable {X : Cx} {pins : List (Addr × Obj)} {σ σ' : St} {H H' : Hp} {s s' : Shared} {N : List Str} {scope : Scope} {cl : List (Str × Addr)} {fp : List Addr}
theorem blk_end {h' : Heap} (I : Inv X pins σ H s) (J : Inv (blkCx X N scope cl s H fp) [] σ' H' s') (hfp : ∀ b ∈ fp, FpOk X pins H b) (sb : Heap.SameBut (s.heap.objs.size + 1) s'.heap h') : Inv X pins σ H' { s' with heap := h' } := by
  have u : Un (frs X.stack) fp H H' s.heap s'.heap := J.base
  have hC : H' (s.heap.objs.size + 1) = none := J.free
  have ne : ∀ b o, s.heap.get? b = some o → b ≠ s.heap.objs.size + 1 := fun b o e => Nat.ne_of_lt (Nat.lt_succ_of_lt (Heap.lt_size e))
  refine I.call' (s' := { s' with heap := h' }) (ch := fp) J.os ⟨fun b o e n hb hx => ?_, fun b o e n hb hx => ?_, u.free, fun b o e hx => ?_, u.tups, u.frzs, u.tbls⟩ (fun b ob e => ?_) J.bare fun b hb => ?_
  · exact (sb.2 b (ne b o e)).trans (u.keep b o e n hb hx)
  · obtain ⟨sl, q⟩ := u.slot b o e n hb hx
    exact ⟨sl, (sb.2 b (ne b o e)).trans q⟩
  · obtain ⟨o', q⟩ := u.there b o e hx
    exact ⟨o', (sb.2 b (ne b o e)).trans q⟩
  · refine (J.hok b ob e).stay (fun c w' hc q => (sb.2 c ?_).trans q) (fun _ q => q) fun _ _ q => q
    rintro rfl
    rcases hc with rfl | hc
    · rw [hC] at e; cases e
    · rw [hC] at hc; cases hc
  · obtain ⟨f0, f1, f2, f3, f4, f5⟩ := hfp b hb
    exact ⟨f3, f1, f4, f5⟩
theorem comp_run {tg iter elt : Expr} {ifs : List Expr} {pos : Pos} {ix : List (Option Nat)} {wi : TI} {g : TG} {tt : TT} {te : TE} {fin : Addr → Hp → Prop} {RR : Value → Addr → Result → Shared → Prop} (B : BlkOk X N ix scope) (hc : X.calm = true)
    (hi : PI X tg iter wi) (hg : ∀ cl s H fp, PG (blkCx X N scope cl s H fp) tg g) (ht : ∀ cl s H fp, PTs (blkCx X N scope cl s H fp) ifs tt) (he : ∀ cl s H fp, PE (blkCx X N scope cl s H fp) elt te)
    (hcl : ∀ x c, cl.lookup x = some c → X.env.cells.lookup x = some c) (hcf : ∀ x, (x, NameKind.free) ∈ scope.names → ∃ c, cl.lookup x = some c)
    (I : Inv X pins σ H s) (h : tCompG ix wi g tt te fin σ H)
    (ok : ∀ (s2 : Shared) (H2 : Hp) (fp : List Addr) (σ3 : St) (H3 : Hp) (s3 : Shared), Inv X pins σ H2 s2 → (∀ b ∈ fp, FpOk X pins H2 b) → Inv (blkCx X N scope cl s2 H2 fp) [] σ3 H3 s3 → fin s2.heap.objs.size H3 → RR (.ref s2.heap.objs.size) (s2.heap.objs.size + 1) (.ok .next) s3)
    (bad : ∀ (a C : Addr) (x : Value) (s' : Shared), (∃ m, s'.heap.Ns C m ∧ ∀ h', Heap.SameBut C s'.heap h' → ∀ cenv : Env, cenv.locals = C → wpAny (model X.prog X.w) X.A (passOn "comprehension.variables-let-go" x cenv : Sem Value) (fun _ _ => False) X.xe { s' with heap := h' }) → RR (.ref a) C (.error x) s') :
    wpAny (model X.prog X.w) X.A (eval iter X.env) (fun x s₁ => wpAny (model X.prog X.w) X.A (pyIter x) (fun it s₂ => wpAny (model X.prog X.w) X.A (newList []) (fun acc s₃ =>
      wpAny (model X.prog X.w) X.A (newFunctionEnv scope X.env.globals cl [] X.env.qual none .none (some X.env)) (fun cenv s₄ =>
        codeAny (model X.prog X.w) X.A (.compStart (.ListComp elt [⟨tg, iter, ifs, 0⟩] scope pos) 0 it acc { cenv with scope := relabel scope X.env }) (RR acc cenv.locals) s₄) X.xe s₃) X.xe s₂) X.xe s₁) X.xe s := by
  refine thn (hi pins s σ H _ I h) fun v s1 h1 => thn h1 fun itv s2 h2 => ?_
  obtain ⟨it, fp, tn, J, H2, e, I2, T, st2, f2, h2⟩ := h2
  subst e
  refine wpAny_newList (nfe_comp ?_) (Nat.zero_le _)
  have hs2 : (s2.heap.push { cls := .type "list", data := .seq (([] : List Value)).toArray }).objs.size = s2.heap.objs.size + 1 := Heap.size_push ..
  dsimp only
  rw [hs2]
  have I3 := blk_start (fp := fp) B I2 hcl hcf f2 (T.obj _ _ st2)
  obtain ⟨W, ⟨m0, w0⟩, turn⟩ := h2 s2.heap.objs.size I2.fresh
  have hk : ∀ b o, s2.heap.get? b = some o → (pushCells ((s2.heap.push { cls := .type "list", data := .seq #[] }).push { cls := .type "dict", data := .dict #[] }) scope.names).get? b = some o :=
    fun b o e => pushCells_keeps _ _ b o (Heap.get?_push_of_some _ (Heap.get?_push_of_some _ e))
  have st3 := T.keep _ _ _ st2 fun b _ o e => hk b o e
  have fr3 : ∀ b ∈ fp, (upd H2 s2.heap.objs.size (.lst [])) b = none := fun b hb => by
    obtain ⟨o, e, _⟩ := T.obj _ _ st2 b hb
    rw [upd_ne (Nat.ne_of_lt (Heap.lt_size e))]
    exact (f2 b hb).1
  have stat : ∀ {σ5 : St} {H5 : Hp} {s5 : Shared}, Inv (blkCx X N scope cl s2 H2 fp) [] σ5 H5 s5 → (∀ b ∈ fp, H5 b = none) → ∀ b ∈ fp, FpOk (blkCx X N scope cl s2 H2 fp) [] H5 b := fun I5 hn b hb =>
    ⟨hn b hb, (I5.ok.exf b hb).1, I5.ok.exfs b hb, .inl hb, (I5.ok.exf b hb).2, fun p hp => absurd (show p ∈ ([] : List (Addr × Obj)) from hp) (by simp)⟩
  have loop : ∀ s₃ : Shared, s₃ = { s2 with heap := pushCells ((s2.heap.push { cls := .type "list", data := .seq #[] }).push { cls := .type "dict", data := .dict #[] }) scope.names } →
      codeAny (model X.prog X.w) X.A (.compLoop (.ListComp elt [⟨tg, iter, ifs, 0⟩] scope pos) 0 (.ref it) (.ref s2.heap.objs.size) (blkCx X N scope cl s2 H2 fp).env) (RR (.ref s2.heap.objs.size) (s2.heap.objs.size + 1)) s₃ := by
    rintro s₃ rfl
    refine comp_loop (fun n s' => ∃ i σ' H', Inv (blkCx X N scope cl s2 H2 fp) [] σ' H' s' ∧ tn i s'.heap ∧ (∀ b ∈ fp, H' b = none) ∧ W i n σ' H') ?_ m0 ⟨0, _, _, I3, st3, fr3, w0⟩
    rintro n s4 ⟨i, σ4, H4, I4, st4, fr4, w4⟩
    have xe_ : ∀ x s', (blkCx X N scope cl s2 H2 fp).xe x s' → notedBy (model X.prog X.w) X.A (blkCx X N scope cl s2 H2 fp).env (fun e s' => RR (.ref s2.heap.objs.size) (s2.heap.objs.size + 1) (.error e) s') x s' := fun x s' hx =>
      wpAny_mono (hx ⟨pins, σ, I2, f2⟩) (fun _ s'' q => bad _ _ _ _ q) fun e s'' q => bad _ _ _ _ q
    rcases turn i n σ4 H4 w4 with ⟨stop, qn⟩ | ⟨go, Nx, hN, step⟩
    · refine wpAny_mono (T.done (blkCx X N scope cl s2 H2 fp) rfl rfl rfl hc i [] s4 σ4 H4 _ I4 (stat I4 fr4) st4 stop) (fun r s5 ⟨hr, I5⟩ => ?_) xe_
      subst hr
      exact ok s2 H2 fp σ4 H4 s5 I2 f2 I5 qn
    · refine wpAny_mono (T.item (blkCx X N scope cl s2 H2 fp) rfl rfl rfl hc i [] s4 σ4 H4 _ I4 (stat I4 fr4) st4 go) (fun r s5 ⟨u, hr, h5⟩ => ?_) xe_
      subst hr
      refine wpAny_mono h5 (fun _ s6 ⟨x, H6, I6, r6, y6, st6, fr6⟩ => ?_) xe_
      have I6' := I6.pinned (stat I6 fr6) (T.obj _ _ st6)
      refine wpAny_mono (hg cl s2 H2 fp _ s6 σ4 H6 x u _ I6' r6 (step x H6 y6)) (fun _ s7 ⟨σ7, H7, I7, q7⟩ => ?_) xe_
      have again : ∀ {σ8 : St} {H8 : Hp} {s8 : Shared}, Inv (blkCx X N scope cl s2 H2 fp) ([] ++ pinsAt fp s6.heap) σ8 H8 s8 → Nx σ8 H8 → ∃ m, m < n ∧ ∃ i σ' H', Inv (blkCx X N scope cl s2 H2 fp) [] σ' H' s8 ∧ tn i s8.heap ∧ (∀ b ∈ fp, H' b = none) ∧ W i m σ' H' := fun {σ8 H8 s8} I8 n8 => by
        obtain ⟨m', hm, w8⟩ := hN σ8 H8 n8
        refine ⟨m', hm, i + 1, σ8, H8, I8.unpinned, T.keep _ _ _ st6 fun b hb o e => (I8.pin (b, o) (List.mem_append_right _ (List.mem_append_right _ (mem_pinsAt hb e)))).1, fun b hb => ?_, w8⟩
        obtain ⟨o, e, d⟩ := T.obj _ _ st6 b hb
        exact (I8.pin (b, o) (List.mem_append_right _ (List.mem_append_right _ (mem_pinsAt hb e)))).2.1
      refine wpAny_mono (ht cl s2 H2 fp _ s7 σ7 H7 _ I7 q7) (fun okb s8 ⟨H8, I8, q8⟩ => ?_) xe_
      cases okb with
      | false => exact again I8 q8
      | true =>
        refine wpAny_mono (he cl s2 H2 fp _ s8 σ7 H8 _ I8 q8) (fun y s9 ⟨yv, H9, I9, r9, ys, hl, hz, q9⟩ => ?_) xe_
        refine wpAny_mono (mt_append (X := blkCx X N scope cl s2 H2 fp) _ s9 σ7 H9 (.ref s2.heap.objs.size) [yv] (.ref s2.heap.objs.size) [y] (fun _ H10 => Nx σ7 H10) I9 rfl (.cons r9 .nil) ⟨_, ys, yv, rfl, rfl, hl, hz, q9⟩) (fun _ s10 ⟨_, H10, I10, _, q10⟩ => ?_) xe_
        exact again I10 q10
  exact codeAny_compStart_list (loop _ rfl) (T.self _ 0 _ _ _ st3 (loop _ rfl))
def tComp (ix : List (Option Nat)) (wi : TI) (g : TG) (tt : TT) (te : TE) : TE := fun σ H Q => tCompG ix wi g tt te (fun l H' => Q (.ref l) H') σ H
def sComp (k : Nat) (ix : List (Option Nat)) (wi : TI) (g : TG) (tt : TT) (te : TE) : TS := fun D σ H => tCompG ix wi g tt te (fun l H' => D.nx (σ.set k (some (.ref l))) H') σ H
theorem comp_cl (I : Inv X pins σ H s) {ix : List (Option Nat)} (B : BlkOk X N ix scope) : ∃ cl, closureFor scope X.env = pure cl ∧ (∀ x c, cl.lookup x = some c → X.env.cells.lookup x = some c) ∧ ∀ x, (x, NameKind.free) ∈ scope.names → ∃ c, cl.lookup x = some c :=
  closure_of fun x hx => I.ok.has x (B.free x hx)
theorem names_local {ix : List (Option Nat)} (B : BlkOk X N ix scope) : ∀ x ∈ scope.names, x.2 = NameKind.local → scope.names.lookup x.1 = some .local := fun x hx e => by
  obtain ⟨n, k⟩ := x
  cases e
  exact lookup_of_mem B.names hx
theorem pe_comp {tg iter elt : Expr} {ifs : List Expr} {pos : Pos} {ix : List (Option Nat)} {wi : TI} {g : TG} {tt : TT} {te : TE} (N : List Str) (B : BlkOk X N ix scope) (hc : X.calm = true)
    (hi : PI X tg iter wi) (hg : ∀ cl s H fp, PG (blkCx X N scope cl s H fp) tg g) (ht : ∀ cl s H fp, PTs (blkCx X N scope cl s H fp) ifs tt) (he : ∀ cl s H fp, PE (blkCx X N scope cl s H fp) elt te)
    (hs : ∀ x, foldedSetIterable iter X.env x = pure x := by intro _; rfl) : PE X (.ListComp elt [⟨tg, iter, ifs, 0⟩] scope pos) (tComp ix wi g tt te) := by
  intro pins s σ H Q I h
  obtain ⟨cl, e1, e2, e3⟩ := comp_cl I B
  rw [eval_ListComp]
  refine wpAny_comprehension_free (use := none) rfl hs e1 B.kind (names_local B) ?_
  refine comp_run (RR := fun acc C => compPost (model X.prog X.w) X.A X.xe none (EP X pins σ Q) acc C) B hc hi hg ht he e2 e3 I h (fun s2 H2 fp σ3 H3 s3 I2 f2 J q => ?_) (fun a C x s' q => q)
  obtain ⟨m, hn, _⟩ := J.loc
  exact ⟨m, hn, fun h' sb => ⟨.ref _, H3, blk_end I2 J f2 sb, rfl, q⟩⟩
theorem ps_comp {y : Str} {py spos : Pos} {k : Nat} {tg iter elt : Expr} {ifs : List Expr} {pos : Pos} {ix : List (Option Nat)} {wi : TI} {g : TG} {tt : TT} {te : TE} (hN : X.N.Nodup) (hy : X.N[k]? = some y) (hx : Loc X.env.scope y)
    (hsw : swapsWith (.ListComp elt [⟨tg, iter, ifs, 0⟩] scope pos) (some (.Name y py)) spos.line X.env = pure true) (N : List Str) (B : BlkOk X N ix scope) (hc : X.calm = true)
    (hi : PI X tg iter wi) (hg : ∀ cl s H fp, PG (blkCx X N scope cl s H fp) tg g) (ht : ∀ cl s H fp, PTs (blkCx X N scope cl s H fp) ifs tt) (he : ∀ cl s H fp, PE (blkCx X N scope cl s H fp) elt te)
    (hs : ∀ x, foldedSetIterable iter X.env x = pure x := by intro _; rfl) (hf : X.fn y = true ∨ X.env.scope.names.lookup y = some .local := by first | exact .inl rfl | exact .inr rfl | assumption) :
    PS X (.Assign [.Name y py] (.ListComp elt [⟨tg, iter, ifs, 0⟩] scope pos) spos) (sComp k ix wi g tt te) := by
  intro pins s σ H D I h
  obtain ⟨cl, e1, e2, e3⟩ := comp_cl I B
  rw [exec_Assign_Name_used _ _ _ _ hsw]
  refine wpAny_bind (wpAny_standAt (wpAny_bind ?_))
  show wpAny _ X.A (do let _ ← comprehension (.ListComp elt [⟨tg, iter, ifs, 0⟩] scope pos) scope X.env _ (newList []) false (eval iter X.env) (some (assign (.Name y py) X.env))) _ _ s
  refine wpAny_bind (wpAny_mono (wpAny_comprehension_free (use := some (assign (.Name y py) X.env)) (Q := fun _ s' => SP X pins D .next s') rfl hs e1 B.kind (names_local B) ?_) (fun _ s' hq => wpAny_pure (wpAny_pure hq)) fun _ _ e => e)
  refine comp_run (RR := fun acc C => compPost (model X.prog X.w) X.A X.xe (some (assign (.Name y py) X.env)) (fun _ s' => SP X pins D .next s') acc C) B hc hi hg ht he e2 e3 I h (fun s2 H2 fp σ3 H3 s3 I2 f2 J q => ?_) (fun a C x s' q => q)
  obtain ⟨m, hn, _⟩ := J.loc
  have I3 : Inv X pins σ H3 { s3 with heap := s3.heap } := blk_end I2 J f2 (Heap.SameBut.refl _ _)
  show wpAny _ X.A (assign (.Name y py) X.env (.ref _)) _ _ _
  refine wpAny_assign_Name (store_ok2 (v := .ref _) I3 hN hy hx rfl (fun s4 I4 ⟨a, sb4, ha⟩ => ?_) hf)
  have hlt : a < s2.heap.objs.size := by
    rcases ha with rfl | ha
    · exact I2.lt
    · obtain ⟨v, z⟩ := I2.cell _ _ ha
      exact z.lt
  have hCa : s2.heap.objs.size + 1 ≠ a := Nat.ne_of_gt (Nat.lt_succ_of_lt hlt)
  refine ⟨m, hn.sameBut sb4 hCa, fun h' sb => ?_⟩
  refine ⟨_, H3, I4.turned (t' := s4.toks) (it := s2.heap.objs.size + 1) (fun b o hb e => (sb.2 b hb).trans e) J.free (Nat.ne_of_gt (Nat.lt_succ_of_lt I2.lt)) (.inr (Nat.le_trans I2.sz (Nat.le_succ _))) (fun x c e => ?_) (fun p hp => ?_), q⟩
  · obtain ⟨v, z⟩ := I2.cell x c e
    exact Nat.ne_of_lt (Nat.lt_succ_of_lt z.lt)
  · exact Nat.ne_of_lt (Nat.lt_succ_of_lt (Heap.lt_size (I2.pin p hp).1))
end
end L2
set_option Elab.async false
set_option linter.all false
set_option maxRecDepth 100000
namespace L2
open PySem PySem.Spec PyProof.Rows
def bnd {α : Type} : Option α → (α → Prop) → Prop
  | some a, k => k a
  | none, _ => False
theorem bnd_of {α : Type} {o : Option α} {a : α} {k : α → Prop} (h : o = some a) (q : k a) : bnd o k := by subst h; exact q
theorem bnd_ex {α : Type} {o : Option α} {k : α → Prop} (h : bnd o k) : ∃ a, o = some a ∧ k a := by
  cases o with
  | none => exact h.elim
  | some a => exact ⟨a, rfl, h⟩
theorem bnd_some {α : Type} {a : α} {k : α → Prop} : bnd (some a) k = k a := rfl
def unM : Option HO → Option (List V)
  | some (.lst xs) => some xs
  | _ => none
def unL : Option HO → Option (List V)
  | some (.lst xs) => some xs
  | some (.frz _ (.lst xs)) => some xs
  | _ => none
def unS : Option HO → Option (List V)
  | some (.lst xs) => some xs
  | some (.frz _ (.lst xs)) => some xs
  | some (.tup xs) => some xs
  | _ => none
theorem unM_ex {o : Option HO} {xs : List V} (h : unM o = some xs) : o = some (.lst xs) := by
  unfold unM at h; split at h
  · cases h; rfl
  · cases h
theorem unL_sq {K : PySem.W.Frag} {H : Hp} {p : Addr} {xs : List V} (h : unL (H p) = some xs) : SqL K H p xs := by
  unfold unL at h; split at h
  · rename_i e; cases h; exact .inl (.inl e)
  · rename_i o _ e; cases h; exact .inl (.inr ⟨_, e⟩)
  · cases h
theorem unS_sq {K : PySem.W.Frag} {H : Hp} {p : Addr} {xs : List V} (h : unS (H p) = some xs) : SqL K H p xs ∨ SqT K H p xs := by
  unfold unS at h; split at h
  · rename_i e; cases h; exact .inl (.inl (.inl e))
  · rename_i o _ e; cases h; exact .inl (.inl (.inr ⟨_, e⟩))
  · rename_i e; cases h; exact .inr (.inl (.inl e))
  · cases h
mutual
inductive DV (K : PySem.W.Frag) (H : Hp) : V → PyData → Prop
  | non : DV K H .non .none
  | bl (b : Bool) : DV K H (.bl b) (.bool b)
  | int (i : Int) : DV K H (.int i) (.int i)
  | str (x : Str) : DV K H (.str x) (.str x)
  | lst {a : Addr} {xs : List V} {ds : List PyData} : SqL K H a xs → DVs K H xs ds → DV K H (.ref a) (.list ds)
  | tup {a : Addr} {xs : List V} {ds : List PyData} : SqT K H a xs → DVs K H xs ds → DV K H (.ref a) (.tuple ds)
inductive DVs (K : PySem.W.Frag) (H : Hp) : List V → List PyData → Prop
  | nil : DVs K H [] []
  | cons {x : V} {d : PyData} {xs : List V} {ds : List PyData} : DV K H x d → DVs K H xs ds → DVs K H (x :: xs) (d :: ds)
end
section
variable {X : Cx} {pins : List (Addr × Obj)} {σ : St} {H : Hp} {s : Shared}
mutual
theorem DV.reads (I : Inv X pins σ H s) : ∀ {x : V} {d : PyData} {v : Value}, DV X.K H x d → RelV x v → ∃ as, Reads s.heap v d as
  | _, _, _, .non, r => by cases r; exact ⟨_, .none⟩
  | _, _, _, .bl b, r => by cases r; exact ⟨_, .bool b⟩
  | _, _, _, .int i, r => by obtain ⟨t, rfl⟩ := r; exact ⟨_, .int i t⟩
  | _, _, _, .str x, r => by obtain ⟨t, rfl⟩ := r; exact ⟨_, .str x t⟩
  | _, _, _, .lst (a := a) h hs, r => by
    cases r
    obtain ⟨its, rv, p, _⟩ := I.list h
    obtain ⟨as, q⟩ := DVs.reads I hs rv
    obtain ⟨o, h1, h2, n, h3⟩ := p.isList
    exact ⟨_, .list h1 h2 h3 q⟩
  | _, _, _, .tup (a := a) h hs, r => by
    cases r
    obtain ⟨its, rv, p, _⟩ := I.tuple h
    obtain ⟨as, q⟩ := DVs.reads I hs rv
    obtain ⟨o, h1, h2, n, h3⟩ := p
    exact ⟨_, .tuple h1 h2 h3 q⟩
theorem DVs.reads (I : Inv X pins σ H s) : ∀ {xs : List V} {ds : List PyData} {us : List Value}, DVs X.K H xs ds → Vals xs us → ∃ as, ReadsAll s.heap us ds as
  | _, _, _, .nil, .nil => ⟨_, .nil⟩
  | _, _, _, .cons h hs, .cons r rs => by
    obtain ⟨as, q⟩ := DV.reads I h r
    obtain ⟨bs, q2⟩ := DVs.reads I hs rs
    exact ⟨_, .cons q q2⟩
end
end
theorem DVs.ints {K : PySem.W.Frag} {H : Hp} : ∀ ns : List Int, DVs K H (ns.map V.int) (ns.map PyData.int)
  | [] => .nil
  | n :: r => .cons (.int n) (DVs.ints r)
theorem eqv_ints : ∀ ns ms : List Int, PyData.eqvAll (ns.map PyData.int) (ms.map PyData.int) = decide (ns = ms) := PySem.W.ked_eqvAll
theorem lay_ints : ∀ ns : List Int, PyData.canLayAll0 (ns.map PyData.int) = true
  | [] => rfl
  | n :: r => by rw [List.map_cons, PyData.canLayAll0, lay_ints r]; rfl
theorem depth_ints : ∀ ns : List Int, PyData.depthAll (ns.map PyData.int) = 0
  | [] => rfl
  | n :: r => by rw [List.map_cons, PyData.depthAll, depth_ints r]; rfl
theorem shaped_ints (ns : List Int) : SeqAt.shaped (.list (ns.map PyData.int)) = true := by
  simp [SeqAt.shaped, PyData.canLay0, lay_ints, PyData.depth, depth_ints]
def cAdd : R2
  | .int i, .int j, H, Q => Q (.int (i + j)) H
  | .str i, .str j, H, Q => i.length + j.length ≤ sizeLine ∧ Q (.str (i ++ j)) H
  | .ref l, .ref b, H, Q => bnd (unM (H l)) fun xs => bnd (unM (H b)) fun zs => xs.length + zs.length ≤ sizeLine ∧ ∀ p, H p = none → Q (.ref p) (upd H p (.lst (xs ++ zs)))
  | _, _, _, _ => False
def cSub : R2
  | .int i, .int j, H, Q => Q (.int (i - j)) H
  | _, _, _, _ => False
def cMul : R2
  | .int i, .int j, H, Q => CMul i j ∧ Q (.int (i * j)) H
  | _, _, _, _ => False
def cDiv : R2
  | .int i, .int j, H, Q => CDiv i j ∧ Q (.int (i / j)) H
  | _, _, _, _ => False
def cMod : R2
  | .int i, .int j, H, Q => 0 < j ∧ Q (.int (i % j)) H
  | _, _, _, _ => False
def cPow : R2
  | .int i, .int j, H, Q => CPow i j ∧ Q (.int (i ^ j.toNat)) H
  | _, _, _, _ => False
def cCmp (g : Int → Int → Bool) : R2
  | .int i, .int j, H, Q => Q (.bl (g i j)) H
  | _, _, _, _ => False
def rEqD (K : PySem.W.Frag) : R2 := fun x y H Q => ∃ d e, DV K H x d ∧ DV K H y e ∧ SeqAt.shaped d = true ∧ SeqAt.shaped e = true ∧ Q (.bl (PyData.eqv d e)) H
def rNeD (K : PySem.W.Frag) : R2 := fun x y H Q => ∃ d e, DV K H x d ∧ DV K H y e ∧ SeqAt.shaped d = true ∧ SeqAt.shaped e = true ∧ Q (.bl (!PyData.eqv d e)) H
def cEq (K : PySem.W.Frag) : R2
  | .int i, .int j, H, Q => Q (.bl (decide (i = j))) H
  | .bl i, .bl j, H, Q => Q (.bl (decide (i = j))) H
  | .str i, .str j, H, Q => Q (.bl (decide (i = j))) H
  | x, y, H, Q => rEqD K x y H Q
def cNe (K : PySem.W.Frag) : R2
  | .int i, .int j, H, Q => Q (.bl (!decide (i = j))) H
  | .bl i, .bl j, H, Q => Q (.bl (!decide (i = j))) H
  | .str i, .str j, H, Q => Q (.bl (!decide (i = j))) H
  | x, y, H, Q => rNeD K x y H Q
def rInD (K : PySem.W.Frag) (neg : Bool) : R2 := fun x y H Q => ∃ d ds, DV K H x d ∧ (DV K H y (.list ds) ∨ DV K H y (.tuple ds)) ∧ PyData.canLayAll0 ds = true ∧ PyData.canLay0 d = true ∧ min (PyData.depthAll ds) d.depth ≤ 62 ∧
  Q (.bl (if neg then !ds.any (fun y => PyData.eqv y d) else ds.any fun y => PyData.eqv y d)) H
def keyOf : V → Option Key
  | .int i => some (.inl i)
  | .str x => some (.inr x)
  | _ => none
def unD : Option HO → Option (List (Key × V))
  | some (.dK kvs) => some kvs
  | _ => none
def cIn (K : PySem.W.Frag) (neg : Bool) : R2
  | .ref a, y, H, Q => rInD K neg (.ref a) y H Q
  | x, .ref p, H, Q => (match unD (H p) with
    | some kvs => bnd (keyOf x) fun k => Q (.bl (if neg then !(valV kvs k).isSome else (valV kvs k).isSome)) H
    | none => bnd (unS (H p)) fun xs => flatV x = true ∧ xs.all flatV = true ∧ Q (.bl (if neg then !inV x xs else inV x xs)) H)
  | .str i, .str j, H, Q => Q (.bl (if neg then !(!(Builtin.Str.occurrences j i 0 j.length 1).isEmpty) else !(Builtin.Str.occurrences j i 0 j.length 1).isEmpty)) H
  | _, _, _, _ => False
def cIx : R2
  | .ref p, y, H, Q => (match unD (H p) with
    | some kvs => bnd (keyOf y) fun k => bnd (valV kvs k) fun v => Q v H
    | none => match y with
      | .int i => bnd (unS (H p)) fun xs => bnd (atI xs i) fun v => Q v H
      | _ => False)
  | .str z, .int i, H, Q => z.length ≤ sizeLine ∧ bnd (atI z.cps.toList i) fun c => Q (.str ⟨#[c]⟩) H
  | _, _, _, _ => False
theorem unD_ex {o : Option HO} {kvs : List (Key × V)} (h : unD o = some kvs) : o = some (.dK kvs) := by
  unfold unD at h; split at h
  · cases h; rfl
  · cases h
theorem keyOf_kV {x : V} {k : Key} (h : keyOf x = some k) : x = kV k := by
  unfold keyOf at h; split at h
  · cases h; rfl
  · cases h; rfl
  · cases h
section
variable {X : Cx} {a b c : Expr} {ta tb tc : TE} {pos : Pos}
theorem op_cAdd : OpR X (binaryOp .Add) cAdd := by
  intro pins s σ H x y v u Q I rx ry h
  unfold cAdd at h
  split at h
  · exact op_add pins s σ H _ _ v u Q I rx ry ⟨_, _, rfl, rfl, h⟩
  · exact op_add_str pins s σ H _ _ v u Q I rx ry ⟨_, _, rfl, rfl, h.1, h.2⟩
  · obtain ⟨xs, e1, h⟩ := bnd_ex h
    obtain ⟨zs, e2, h⟩ := bnd_ex h
    exact op_cat pins s σ H _ _ v u Q I rx ry ⟨_, _, xs, zs, rfl, rfl, unM_ex e1, unM_ex e2, h.1, h.2⟩
  · exact h.elim
theorem op_cSub : OpR X (binaryOp .Sub) cSub := by
  intro pins s σ H x y v u Q I rx ry h
  unfold cSub at h
  split at h
  · exact op_sub pins s σ H _ _ v u Q I rx ry ⟨_, _, rfl, rfl, h⟩
  · exact h.elim
theorem op_cMul : OpR X (binaryOp .Mult) cMul := by
  intro pins s σ H x y v u Q I rx ry h
  unfold cMul at h
  split at h
  · exact op_mul pins s σ H _ _ v u Q I rx ry ⟨_, _, rfl, rfl, h.1, h.2⟩
  · exact h.elim
theorem op_cDiv : OpR X (binaryOp .FloorDiv) cDiv := by
  intro pins s σ H x y v u Q I rx ry h
  unfold cDiv at h
  split at h
  · exact op_fdiv pins s σ H _ _ v u Q I rx ry ⟨_, _, rfl, rfl, h.1, h.2⟩
  · exact h.elim
theorem op_cMod : OpR X (binaryOp .Mod) cMod := by
  intro pins s σ H x y v u Q I rx ry h
  unfold cMod at h
  split at h
  · exact op_mod pins s σ H _ _ v u Q I rx ry ⟨_, _, rfl, rfl, h.1, h.2⟩
  · exact h.elim
theorem op_cCmp {op : CmpOp} {g : Int → Int → Bool} (o : OpR X (compareOp op) (rI0 fun i j => .bl (g i j))) : OpR X (compareOp op) (cCmp g) := by
  intro pins s σ H x y v u Q I rx ry h
  unfold cCmp at h
  split at h
  · exact o pins s σ H _ _ v u Q I rx ry ⟨_, _, rfl, rfl, h⟩
  · exact h.elim
theorem op_cLt : OpR X (compareOp .Lt) (cCmp fun i j => decide (i < j)) := op_cCmp op_lt
theorem op_cLe : OpR X (compareOp .LtE) (cCmp fun i j => decide (i ≤ j)) := op_cCmp op_le
theorem op_cGt : OpR X (compareOp .Gt) (cCmp fun i j => decide (j < i)) := op_cCmp op_gt
theorem op_cGe : OpR X (compareOp .GtE) (cCmp fun i j => decide (j ≤ i)) := op_cCmp op_ge
theorem op_eqD (hu : X.A.units + 64 < cLine) : OpR X (compareOp .Eq) (rEqD X.K) := by
  intro pins s σ H x y v u Q I rx ry h
  obtain ⟨d, e, h1, h2, h3, h4, q⟩ := h
  obtain ⟨as, r1⟩ := h1.reads I rx
  obtain ⟨bs, r2⟩ := h2.reads I ry
  exact eq_dataH r1 r2 h3 h4 hu ⟨.bl _, H, I, rfl, q⟩
theorem op_neD (hu : X.A.units + 64 < cLine) : OpR X (compareOp .NotEq) (rNeD X.K) := by
  intro pins s σ H x y v u Q I rx ry h
  obtain ⟨d, e, h1, h2, h3, h4, q⟩ := h
  obtain ⟨as, r1⟩ := h1.reads I rx
  obtain ⟨bs, r2⟩ := h2.reads I ry
  exact ne_dataH r1 r2 h3 h4 hu ⟨.bl _, H, I, rfl, q⟩
theorem op_cEq (hu : X.A.units + 64 < cLine) : OpR X (compareOp .Eq) (cEq X.K) := by
  intro pins s σ H x y v u Q I rx ry h
  unfold cEq at h
  split at h
  · refine op_eq pins s σ H _ _ v u Q I rx ry ⟨rfl, ?_⟩
    simpa using h
  · refine op_eq pins s σ H _ _ v u Q I rx ry ⟨rfl, ?_⟩
    simpa using h
  · refine op_eq pins s σ H _ _ v u Q I rx ry ⟨rfl, ?_⟩
    simpa using h
  · exact op_eqD hu pins s σ H _ _ v u Q I rx ry h
theorem op_cNe (hu : X.A.units + 64 < cLine) : OpR X (compareOp .NotEq) (cNe X.K) := by
  intro pins s σ H x y v u Q I rx ry h
  unfold cNe at h
  split at h
  · refine op_ne pins s σ H _ _ v u Q I rx ry ⟨rfl, ?_⟩
    simpa using h
  · refine op_ne pins s σ H _ _ v u Q I rx ry ⟨rfl, ?_⟩
    simpa using h
  · refine op_ne pins s σ H _ _ v u Q I rx ry ⟨rfl, ?_⟩
    simpa using h
  · exact op_neD hu pins s σ H _ _ v u Q I rx ry h
theorem op_inD (hu : X.A.units + 64 < cLine) : OpR X (compareOp .In) (rInD X.K false) := by
  intro pins s σ H x y v u Q I rx ry h
  obtain ⟨d, ds, h1, h2, h3, h4, h5, q⟩ := h
  obtain ⟨as, r1⟩ := h1.reads I rx
  rcases h2 with h2 | h2
  · obtain ⟨bs, r2⟩ := h2.reads I ry
    exact SeqAt.in_list_reads r2 r1 h3 h4 (by omega) ⟨.bl _, H, I, rfl, q⟩
  · obtain ⟨bs, r2⟩ := h2.reads I ry
    exact SeqAt.in_tuple_reads r2 r1 h3 h4 (by omega) ⟨.bl _, H, I, rfl, q⟩
theorem op_notInD (hu : X.A.units + 64 < cLine) : OpR X (compareOp .NotIn) (rInD X.K true) := by
  intro pins s σ H x y v u Q I rx ry h
  obtain ⟨d, ds, h1, h2, h3, h4, h5, q⟩ := h
  obtain ⟨as, r1⟩ := h1.reads I rx
  rcases h2 with h2 | h2
  · obtain ⟨bs, r2⟩ := h2.reads I ry
    exact SeqAt.notIn_list_reads r2 r1 h3 h4 (by omega) ⟨.bl _, H, I, rfl, q⟩
  · obtain ⟨bs, r2⟩ := h2.reads I ry
    exact SeqAt.notIn_tuple_reads r2 r1 h3 h4 (by omega) ⟨.bl _, H, I, rfl, q⟩
theorem op_cIn (hu : X.A.units + 64 < cLine) : OpR X (compareOp .In) (cIn X.K false) := by
  intro pins s σ H x y v u Q I rx ry h
  unfold cIn at h
  split at h
  · exact op_inD hu pins s σ H _ _ v u Q I rx ry h
  · rename_i p hx
    split at h
    · rename_i kvs e
      obtain ⟨k, ek, q⟩ := bnd_ex h
      cases (show u = Value.ref p from ry)
      have g : DGet H p x (valV kvs k) := by rw [keyOf_kV ek]; exact DGet.k (unD_ex e)
      exact d_in (Nat.lt_of_le_of_lt (Nat.add_le_add_left (by decide : 1 ≤ 64) _) hu) I g rx fun s' I' => ⟨.bl _, H, I', rfl, q⟩
    · obtain ⟨xs, e, f1, f2, q⟩ := bnd_ex h
      exact op_in_seq pins s σ H _ _ v u Q I rx ry ⟨p, xs, rfl, unS_sq e, f1, f2, q⟩
  · exact op_in_str pins s σ H _ _ v u Q I rx ry ⟨_, _, rfl, rfl, h⟩
  · exact h.elim
theorem op_cNotIn (hu : X.A.units + 64 < cLine) : OpR X (compareOp .NotIn) (cIn X.K true) := by
  intro pins s σ H x y v u Q I rx ry h
  unfold cIn at h
  split at h
  · exact op_notInD hu pins s σ H _ _ v u Q I rx ry h
  · rename_i p hx
    split at h
    · rename_i kvs e
      obtain ⟨k, ek, q⟩ := bnd_ex h
      cases (show u = Value.ref p from ry)
      have g : DGet H p x (valV kvs k) := by rw [keyOf_kV ek]; exact DGet.k (unD_ex e)
      exact d_notIn (Nat.lt_of_le_of_lt (Nat.add_le_add_left (by decide : 1 ≤ 64) _) hu) I g rx fun s' I' => ⟨.bl _, H, I', rfl, q⟩
    · obtain ⟨xs, e, f1, f2, q⟩ := bnd_ex h
      exact op_notIn_seq pins s σ H _ _ v u Q I rx ry ⟨p, xs, rfl, unS_sq e, f1, f2, q⟩
  · exact op_notIn_str pins s σ H _ _ v u Q I rx ry ⟨_, _, rfl, rfl, h⟩
  · exact h.elim
end
end L2
set_option Elab.async false
set_option linter.all false
set_option maxRecDepth 100000
namespace L2
open PySem PySem.Spec PyProof.Rows
section
variable {X : Cx} {a b c : Expr} {ta tb tc : TE} {pos : Pos}
theorem ix_c (hu : X.A.units + 64 < cLine) : IxR X cIx := by
  intro value slice pins s σ H x y v u Q I rx ry h hs
  cases x with
  | ref p =>
    unfold cIx at h
    dsimp only at h
    split at h
    · rename_i kvs e
      obtain ⟨k, ek, h⟩ := bnd_ex h
      obtain ⟨z, ez, q⟩ := bnd_ex h
      cases (show v = Value.ref p from rx)
      have g : DGet H p y (some z) := by rw [keyOf_kV ek, ← ez]; exact DGet.k (unD_ex e)
      exact tail_any (dict_typeIs I g) PySem.F.slot_dict_getitem.lookup (d_getItem (Nat.lt_of_le_of_lt (Nat.add_le_add_left (by decide : 1 ≤ 64) _) hu) I g ry fun w' s3 I3 rw' => ⟨z, H, I3, rw', q⟩) hs
    · split at h
      · obtain ⟨xs, e, h⟩ := bnd_ex h
        obtain ⟨z, ez, q⟩ := bnd_ex h
        rcases unS_sq (K := X.K) e with r | r
        · exact ix_list value slice pins s σ H _ _ v u Q I rx ry ⟨p, xs, _, z, rfl, rfl, r, ez, q⟩ hs
        · exact ix_tup value slice pins s σ H _ _ v u Q I rx ry ⟨p, xs, _, z, rfl, rfl, r, ez, q⟩ hs
      · exact h.elim
  | str zz =>
    cases y with
    | int i =>
      obtain ⟨hz, h⟩ := (show zz.length ≤ sizeLine ∧ bnd (atI zz.cps.toList i) fun c => Q (.str ⟨#[c]⟩) H from h)
      obtain ⟨z, ez, q⟩ := bnd_ex h
      exact ix_str value slice pins s σ H _ _ v u Q I rx ry ⟨_, _, z, rfl, rfl, hz, ez, q⟩ hs
    | _ => exact False.elim h
  | _ => exact False.elim h
def kLen : List V → Hp → VK → Prop
  | [.ref p], H, Q => (match unD (H p) with
    | some kvs => Q (.int kvs.length) H
    | none => bnd (unS (H p)) fun xs => Q (.int xs.length) H)
  | [.str z], H, Q => z.length ≤ sizeLine ∧ Q (.int z.length) H
  | _, _, _ => False
theorem call_kLen : CallR X (.builtin "len") kLen := by
  intro pins s σ H xs us Q I r h
  unfold kLen at h
  split at h
  · split at h
    · rename_i kvs e
      exact call_lenD pins s σ H _ us Q I r ⟨_, kvs, rfl, unD_ex e, h⟩
    · obtain ⟨ys, e, q⟩ := bnd_ex h
      exact call_len_seq pins s σ H _ us Q I r ⟨_, ys, rfl, unS_sq e, q⟩
  · exact call_len_str pins s σ H _ us Q I r ⟨_, rfl, h.1, h.2⟩
  · exact h.elim
def kAbs : List V → Hp → VK → Prop
  | [.int i], H, Q => Q (.int (if i < 0 then -i else i)) H
  | _, _, _ => False
def kMin : List V → Hp → VK → Prop
  | [.int i, .int j], H, Q => Q (.int (if j < i then j else i)) H
  | _, _, _ => False
def kMax : List V → Hp → VK → Prop
  | [.int i, .int j], H, Q => Q (.int (if j > i then j else i)) H
  | _, _, _ => False
def kList : List V → Hp → VK → Prop
  | [.ref p], H, Q => bnd (unS (H p)) fun ys => ∀ l, H l = none → Q (.ref l) (upd H l (.lst ys))
  | _, _, _ => False
theorem call_kList : CallR X (.type "list") kList := by
  intro pins s σ H xs us Q I r h
  unfold kList at h
  split at h
  · obtain ⟨ys, e, q⟩ := bnd_ex h
    exact call_list_of pins s σ H _ us Q I r ⟨_, ys, rfl, unS_sq e, q⟩
  · exact h.elim
def tyName (H : Hp) : V → Option String
  | .non => some "NoneType"
  | .bl _ => some "bool"
  | .int _ => some "int"
  | .str _ => some "str"
  | .ref p => match H p with
    | some (.lst _) => some "list"
    | some (.frz _ (.lst _)) => some "list"
    | some (.tup _) => some "tuple"
    | some (.dK _) => some "dict"
    | _ => none
  | _ => none
def isTy (t n : String) : Bool := t == n || (t == "bool" && n == "int")
def tyKnown (n : String) : Bool := ["int", "bool", "str", "list", "tuple", "dict"].contains n
theorem tyName_of {K : PySem.W.Frag} {H : Hp} {x : V} {t : String} (h : tyName H x = some t) : TyOf K H x (.type t) ∧ ["NoneType", "int", "bool", "str", "list", "tuple", "dict"].contains t = true := by
  cases x with
  | non => cases h; exact ⟨.non, by decide⟩
  | bl b => cases h; exact ⟨.bl b, by decide⟩
  | int i => cases h; exact ⟨.int i, by decide⟩
  | str i => cases h; exact ⟨.str i, by decide⟩
  | byt _ => cases h
  | flt _ => cases h
  | ty _ => cases h
  | ref p =>
    unfold tyName at h
    dsimp only at h
    split at h
    · rename_i e; cases h; exact ⟨.lst e, by decide⟩
    · rename_i e; cases h; exact ⟨.frz e, by decide⟩
    · rename_i e; cases h; exact ⟨.tup e, by decide⟩
    · rename_i e; cases h; exact ⟨.dK e, by decide⟩
    · cases h
theorem kit_ty (K : PySem.W.Frag) : ∀ t ∈ ["NoneType", "int", "bool", "str", "list", "tuple", "dict"], ∀ n ∈ ["int", "bool", "str", "list", "tuple", "dict"], PySem.W.kitOne K (.type t) (.type n) = some (isTy t n) := by
  intro t ht n hn
  simp only [List.mem_cons, List.not_mem_nil, or_false] at ht hn
  rcases ht with rfl | rfl | rfl | rfl | rfl | rfl | rfl <;> rcases hn with rfl | rfl | rfl | rfl | rfl | rfl <;> rfl
def kIsi : List V → Hp → VK → Prop
  | [x, .ty n], H, Q => tyKnown n = true ∧ bnd (tyName H x) fun t => Q (.bl (isTy t n)) H
  | _, _, _ => False
theorem call_kIsi : CallR X (.builtin "isinstance") kIsi := by
  intro pins s σ H xs us Q I r h
  unfold kIsi at h
  split at h
  · obtain ⟨hn, h⟩ := h
    obtain ⟨t, et, q⟩ := bnd_ex h
    obtain ⟨u, w, rfl, ru, rw'⟩ := vals2 r
    cases rw'
    obtain ⟨ty, ht⟩ := tyName_of (K := X.K) et
    exact isinst_ok I ru ty (kit_ty X.K t (by simpa using ht) _ (by simpa [tyKnown] using hn)) fun tk => ⟨.bl _, H, I.tok tk, rfl, q⟩
  · exact h.elim
def kAppend : V → List V → Hp → VK → Prop
  | .ref l, [y], H, Q => bnd (unM (H l)) fun xs => xs.length < sizeLine ∧ Q .non (upd H l (.lst (xs ++ [y])))
  | _, _, _, _ => False
theorem mt_kAppend : MtR X "list.append" kAppend := by
  intro pins s σ H x vs v us Q I rx rv h
  unfold kAppend at h
  split at h
  · obtain ⟨xs, e, h1, q⟩ := bnd_ex h
    exact mt_append pins s σ H _ _ v us Q I rx rv ⟨_, xs, _, rfl, rfl, unM_ex e, h1, q⟩
  · exact h.elim
theorem tyV_list {K : PySem.W.Frag} {H : Hp} {p : Addr} {xs : List V} (h : H p = some (.lst xs)) : tyV K "list" (.ref p) H := .inl ⟨rfl, _, SqL.of h⟩
def cSl : V → Option Int → Option Int → Hp → VK → Prop
  | .ref p, lo, hi, H, Q => bnd (unL (H p)) fun xs => ∀ l, H l = none → Q (.ref l) (upd H l (.lst (cutV xs lo hi)))
  | _, _, _, _, _ => False
theorem sl_c : SlR X cSl := by
  intro pins s σ H x v vl vu lo hi sl Q I rx hs pl pu h
  unfold cSl at h
  split at h
  · obtain ⟨xs, e, q⟩ := bnd_ex h
    exact sl_list pins s σ H _ v vl vu lo hi sl Q I rx hs pl pu ⟨_, xs, rfl, unL_sq e, q⟩
  · exact h.elim
end
structure Cal (P : Program) (w : World) (K : PySem.W.Frag) (mg : Str → Option Value) (base : Heap) (k : Nat) (x : Str) (ps : List Str) (sp : Sp) : Prop where
  ex : ∃ (f : Addr) (fd : FuncData), FnOk P w K mg base CX0 k f fd ps sp ∧ mg x = some (.ref f) ∧ PySem.W.keepIn K (.ref f) = true ∧ Binds K fd ps []
theorem pe_cal {X : Cx} {k n : Nat} {x : Str} {ps : List Str} {sp : Sp} {p pos : Pos} {e : Expr} {es : List Expr} {t : TA} (C : Cal X.prog X.w X.K X.mg X.base k x ps sp) (hr : Room n X.A) (hk : k ≤ n) (hg : Gl X x) (ha : PA X (e :: es) t)
    (hdb : (x == ("__debug__" : Str)) = false := by decide) (he : starEach (e :: es) X.env = (false, eval e X.env) :: starEach es X.env := by rfl) (hpl : (backTo pos (starEach es X.env)).any (·.1) = false := by rfl) :
    PE X (.Call (.Name x p) (e :: es) [] pos) (tCall sp [] E0 t) := by
  obtain ⟨f, fd, F, hm, hkp, hb⟩ := C.ex
  exact pe_call F (hr.mono hk) hg hm hkp hb .nil pass0 ha hdb he hpl
end L2
set_option Elab.async false
set_option linter.all false
set_option maxRecDepth 100000
namespace L2
open PySem PySem.Spec PyProof.Rows
theorem bt_len : bootBuiltins "len" = some (.builtin "len") := by decide +kernel
theorem bt_any : bootBuiltins "any" = some (.builtin "any") := by decide +kernel
theorem bt_isinstance : bootBuiltins "isinstance" = some (.builtin "isinstance") := by decide +kernel
theorem bt_list : bootBuiltins "list" = some (.type "list") := by decide +kernel
theorem bt_int : bootBuiltins "int" = some (.type "int") := by decide +kernel
theorem bt_bool : bootBuiltins "bool" = some (.type "bool") := by decide +kernel
theorem bt_str : bootBuiltins "str" = some (.type "str") := by decide +kernel
theorem bt_tuple : bootBuiltins "tuple" = some (.type "tuple") := by decide +kernel
def compN (scope : Scope) : List Str := (scope.names.filter fun p => p.2 == .local || p.2 == .cell || p.2 == .free).map (·.1)
def compIx (N : List Str) (scope : Scope) : List (Option Nat) := (compN scope).map fun x => if scope.names.lookup x == some .free then N.findIdx? (· == x) else none
def isCF : Option NameKind → Bool
  | some .cell => true
  | some .free => true
  | _ => false
theorem blk_ok {X : Cx} {scope : Scope} (h1 : scope.kind = .function) (h2 : (scope.names.map (·.1)).Nodup) (h3 : (scope.names.all fun p => p.2 != .free || isCF (X.env.kindOf p.1)) = true) : BlkOk X (compN scope) (compIx X.N scope) scope where
  kind := h1
  nd := h2.sublist (List.Sublist.map _ (List.filter_sublist ..))
  len := by unfold compIx; rw [List.length_map]
  names := h2
  free := fun x hx => by
    have := List.all_eq_true.mp h3 (x, .free) hx
    simp only [bne_self_eq_false, Bool.false_or] at this
    unfold isCF at this
    split at this
    · rename_i e; exact .inl e
    · rename_i e; exact .inr e
    · cases this
  at_ := fun j i x e1 e2 => by
    unfold compIx at e2
    rw [List.getElem?_map, e1] at e2
    simp only [Option.map_some, Option.some.injEq] at e2
    split at e2
    · rename_i hf
      obtain ⟨hlt, hp, _⟩ := List.findIdx?_eq_some_iff_getElem.mp e2
      have hx : X.N[i]? = some x := by
        rw [List.getElem?_eq_getElem hlt]
        have : X.N[i] = x := by simpa using hp
        rw [this]
      refine ⟨hx, PySem.mem_of_lookup (by simpa using hf)⟩
    · cases e2
end L2
set_option Elab.async false
set_option linter.all false
set_option maxRecDepth 100000
namespace L2
open PySem PySem.Spec PyProof.Rows
section
variable {t u : TS} {D : Ends} {σ : St} {H : Hp} {Q : VK} {ta tb : TE} {R : Bool → Hp → Prop} {c d : TT}
theorem w_seq : tSeq t u D σ H = t { D with nx := u D } σ H := rfl
theorem w_next : tNext D σ H = D.nx σ H := rfl
theorem w_asg {g : TG} : tAsg ta g D σ H = ta σ H fun x H1 => g x σ H1 D.nx := rfl
theorem w_gname {i : Nat} {v : V} {k : St → Hp → Prop} : gName i v σ H k = k (σ.set i (some v)) H := rfl
theorem w_var {i : Nat} : tVar i σ H Q = ∃ v, σ[i]? = some (some v) ∧ Q v H := rfl
theorem w_c {v : V} : tC v σ H Q = Q v H := rfl
theorem w_op {r : R2} : tOp r ta tb σ H Q = ta σ H fun x H1 => tb σ H1 fun y H2 => r x y H2 Q := rfl
theorem w_ret : tRet ta D σ H = ta σ H D.rt := rfl
theorem w_retN : tRetN D σ H = D.rt .non H := rfl
theorem w_drop : tDrop ta D σ H = ta σ H fun _ H1 => D.nx σ H1 := rfl
theorem w_if : tIfS c t u D σ H = c σ H fun b H1 => if b = true then t D σ H1 else u D σ H1 := rfl
theorem w_test : tTest ta σ H R = ta σ H fun x H' => ∃ k, x = .bl k ∧ R k H' := rfl
theorem w_b : tB ta σ H R = ta σ H fun x H' => ∃ k, x = .bl k ∧ R k H' := rfl
theorem w_not : tNot c σ H R = c σ H fun k H1 => R (!k) H1 := rfl
theorem w_and : tAnd c d σ H R = c σ H fun k H1 => if k = true then d σ H1 R else R false H1 := rfl
theorem w_or : tOr c d σ H R = c σ H fun k H1 => if k = true then R true H1 else d σ H1 R := rfl
theorem w_notV : tNotV ta σ H Q = ta σ H fun x H1 => ∃ c, x = .bl c ∧ Q (.bl (!c)) H1 := rfl
theorem w_andV : tAndV ta tb σ H Q = ta σ H fun x H1 => ∃ c, x = .bl c ∧ if c = true then tb σ H1 Q else Q (.bl false) H1 := rfl
theorem w_orV : tOrV ta tb σ H Q = ta σ H fun x H1 => ∃ c, x = .bl c ∧ if c = true then Q (.bl true) H1 else tb σ H1 Q := rfl
theorem w_nil {k : List V → Hp → Prop} : tNil σ H k = k [] H := rfl
theorem w_cons {tr : TA} {k : List V → Hp → Prop} : tCons ta tr σ H k = ta σ H fun x H1 => tr σ H1 fun xs H2 => k (x :: xs) H2 := rfl
theorem w_cb {r : List V → Hp → VK → Prop} {tr : TA} : tCB r tr σ H Q = tr σ H fun vs H1 => r vs H1 Q := rfl
theorem w_call {sp : Sp} {dvs : List V} {E : XK} {tr : TA} : tCall sp dvs E tr σ H Q = tr σ H fun vs H1 => sp (vs ++ dvs) H1 Q E := rfl
theorem w_tup {tr : TA} : tTup tr σ H Q = tr σ H fun xs H1 => xs.length ≤ sizeLine ∧ ∀ p, H1 p = none → Q (.ref p) (upd H1 p (.tup xs)) := rfl
theorem w_lst {tr : TA} : tLst tr σ H Q = tr σ H fun xs H1 => xs.length ≤ sizeLine ∧ ∀ p, H1 p = none → Q (.ref p) (upd H1 p (.lst xs)) := rfl
theorem w_bm {K : PySem.W.Frag} {T : String} {r : V → List V → Hp → VK → Prop} {tr : TA} : tBM K T r ta tr σ H Q = ta σ H fun x H1 => tyV K T x H1 ∧ tr σ H1 fun xs H2 => r x xs H2 Q := rfl
theorem w_bm0 {K : PySem.W.Frag} {T : String} {r : V → List V → Hp → VK → Prop} : tBM0 K T r ta σ H Q = ta σ H fun x H1 => tyV K T x H1 ∧ r x [] H1 Q := rfl
theorem w_true : tTrue σ H R = R true H := rfl
theorem w_dnew : tDNewK σ H Q = ∀ p, H p = none → Q (.ref p) (upd H p (.dK [])) := rfl
theorem w_dput {td ty tv : TE} : sDPut td ty tv D σ H = tv σ H fun v H1 => td σ H1 fun x H2 => ty σ H2 fun y H3 => ∃ a H4, x = .ref a ∧ DPut H3 a y v H4 ∧ D.nx σ H4 := rfl
theorem w_add {i j : Int} : cAdd (.int i) (.int j) H Q = Q (.int (i + j)) H := rfl
theorem w_sub {i j : Int} : cSub (.int i) (.int j) H Q = Q (.int (i - j)) H := rfl
theorem w_mul {i j : Int} : cMul (.int i) (.int j) H Q = (CMul i j ∧ Q (.int (i * j)) H) := rfl
theorem w_div {i j : Int} : cDiv (.int i) (.int j) H Q = (CDiv i j ∧ Q (.int (i / j)) H) := rfl
theorem w_mod {i j : Int} : cMod (.int i) (.int j) H Q = (0 < j ∧ Q (.int (i % j)) H) := rfl
theorem w_cmp {g : Int → Int → Bool} {i j : Int} : cCmp g (.int i) (.int j) H Q = Q (.bl (g i j)) H := rfl
theorem w_eqI {K : PySem.W.Frag} {i j : Int} : cEq K (.int i) (.int j) H Q = Q (.bl (decide (i = j))) H := rfl
theorem w_neI {K : PySem.W.Frag} {i j : Int} : cNe K (.int i) (.int j) H Q = Q (.bl (!decide (i = j))) H := rfl
theorem w_eqB {K : PySem.W.Frag} {i j : Bool} : cEq K (.bl i) (.bl j) H Q = Q (.bl (decide (i = j))) H := rfl
theorem w_neB {K : PySem.W.Frag} {i j : Bool} : cNe K (.bl i) (.bl j) H Q = Q (.bl (!decide (i = j))) H := rfl
theorem w_ix {p : Addr} {i : Int} {xs : List V} (h : H p = some (.tup xs)) : cIx (.ref p) (.int i) H Q = bnd (atI xs i) fun v => Q v H := by
  unfold cIx; dsimp only; rw [h]; rfl
theorem w_ixL {p : Addr} {i : Int} {xs : List V} (h : H p = some (.lst xs)) : cIx (.ref p) (.int i) H Q = bnd (atI xs i) fun v => Q v H := by
  unfold cIx; dsimp only; rw [h]; rfl
theorem w_abs {i : Int} : kAbs [.int i] H Q = Q (.int (if i < 0 then -i else i)) H := rfl
theorem w_min {i j : Int} : kMin [.int i, .int j] H Q = Q (.int (if j < i then j else i)) H := rfl
theorem w_len {p : Addr} {xs : List V} (h : H p = some (.lst xs)) : kLen [.ref p] H Q = Q (.int xs.length) H := by
  unfold kLen; dsimp only; rw [h]; rfl
theorem w_lenT {p : Addr} {xs : List V} (h : H p = some (.tup xs)) : kLen [.ref p] H Q = Q (.int xs.length) H := by
  unfold kLen; dsimp only; rw [h]; rfl
theorem w_append {p : Addr} {xs : List V} {y : V} (h : H p = some (.lst xs)) : kAppend (.ref p) [y] H Q = (xs.length < sizeLine ∧ Q .non (upd H p (.lst (xs ++ [y])))) := by
  unfold kAppend; dsimp only; rw [h]; rfl
theorem flat_ints : ∀ ns : List Int, (ns.map V.int).all flatV = true
  | [] => rfl
  | n :: r => by rw [List.map_cons, List.all_cons, flat_ints r]; rfl
theorem inV_ints (i : Int) : ∀ ns : List Int, inV (.int i) (ns.map V.int) = decide (i ∈ ns)
  | [] => by simp [inV]
  | n :: r => by
    have ih := inV_ints i r
    unfold inV at ih ⊢
    rw [List.map_cons, List.any_cons, ih]
    show ((n == i) || decide (i ∈ r)) = decide (i ∈ n :: r)
    rw [Bool.eq_iff_iff, Bool.or_eq_true, beq_iff_eq, decide_eq_true_eq, decide_eq_true_eq, List.mem_cons]
    exact ⟨fun h => h.elim (fun e => .inl e.symm) .inr, fun h => h.elim (fun e => .inl e.symm) .inr⟩
theorem w_in {K : PySem.W.Frag} {p : Addr} {i : Int} {ns : List Int} (h : H p = some (.lst (ns.map V.int))) : cIn K false (.int i) (.ref p) H Q = Q (.bl (decide (i ∈ ns))) H := by
  unfold cIn; dsimp only; rw [h]; dsimp only [unD, unS, bnd]
  rw [inV_ints, flat_ints]
  simp [flatV]
theorem w_nin {K : PySem.W.Frag} {p : Addr} {i : Int} {ns : List Int} (h : H p = some (.lst (ns.map V.int))) : cIn K true (.int i) (.ref p) H Q = Q (.bl (!decide (i ∈ ns))) H := by
  unfold cIn; dsimp only; rw [h]; dsimp only [unD, unS, bnd]
  rw [inV_ints, flat_ints]
  simp [flatV]
end
def LoopR (J : It) (g : TG) (tb : TS) (D : Ends) (σ : St) (H1 : Hp) : Prop := ∃ W : Nat → Nat → St → Hp → Prop, (∃ m, W 0 m σ H1) ∧ ∀ i m σ H, W i m σ H →
  (J.stop i H ∧ D.nx σ H) ∨ (J.go i H ∧ ∃ N : St → Hp → Prop, (∀ σ' H', N σ' H' → ∃ m', m' < m ∧ W (i + 1) m' σ' H') ∧ ∀ x H', J.yld i H x H' → g x σ H' fun σ2 H2 => tb { D with nx := N, ct := N, bk := D.nx } σ2 H2)
def CompR (J : It) (g : TG) (tt : TT) (te : TE) (fin : Addr → Hp → Prop) (σ0 : St) (H1 : Hp) : Prop := ∀ l, H1 l = none →
  ∃ W : Nat → Nat → St → Hp → Prop, (∃ m, W 0 m σ0 (upd H1 l (.lst []))) ∧ ∀ i m σ' H', W i m σ' H' →
    (J.stop i H' ∧ fin l H') ∨ (J.go i H' ∧ ∃ N : St → Hp → Prop, (∀ σ'' H'', N σ'' H'' → ∃ m', m' < m ∧ W (i + 1) m' σ'' H'') ∧ ∀ x H2, J.yld i H' x H2 → g x σ' H2 fun σ2 H3 => tt σ2 H3 fun b H4 =>
      if b = true then te σ2 H4 fun y H5 => ∃ ys, H5 l = some (.lst ys) ∧ ys.length < sizeLine ∧ N σ2 (upd H5 l (.lst (ys ++ [y]))) else N σ2 H4)
section
variable {K : PySem.W.Frag} {g : TG} {tb : TS} {D : Ends} {σ : St} {H : Hp} {tl : TE} {ta : TA} {ix : List (Option Nat)} {tt : TT} {te : TE} {k : Nat} {Q : VK}
theorem w_forL : tFor (iList K tl) g tb D σ H = tl σ H fun x H1 => ∃ a, x = .ref a ∧ (∃ xs, SqL K H1 a xs) ∧ LoopR (Itl K a) g tb D σ H1 := rfl
theorem w_forR1 : tFor (iRng1 ta) g tb D σ H = ta σ H fun vs H1 => ∃ j : Int, vs = [.int j] ∧ -(2 ^ 62) ≤ j ∧ j < 2 ^ 62 ∧ LoopR (Itr 0 j.toNat) g tb D σ H1 := rfl
theorem w_forR2 : tFor (iRng2 ta) g tb D σ H = ta σ H fun vs H1 => ∃ i j : Int, vs = [.int i, .int j] ∧ (-(2 ^ 62) ≤ i ∧ i < 2 ^ 62 ∧ -(2 ^ 62) ≤ j ∧ j < 2 ^ 62) ∧ LoopR (Itr i (j - i).toNat) g tb D σ H1 := rfl
theorem w_compL : tComp ix (iList K tl) g tt te σ H Q = tl σ H fun x H1 => ∃ a, x = .ref a ∧ (∃ xs, SqL K H1 a xs) ∧ CompR (Itl K a) g tt te (fun l H' => Q (.ref l) H') (subσ ix σ) H1 := rfl
theorem w_compR1 : tComp ix (iRng1 ta) g tt te σ H Q = ta σ H fun vs H1 => ∃ j : Int, vs = [.int j] ∧ -(2 ^ 62) ≤ j ∧ j < 2 ^ 62 ∧ CompR (Itr 0 j.toNat) g tt te (fun l H' => Q (.ref l) H') (subσ ix σ) H1 := rfl
theorem w_scompL : sComp k ix (iList K tl) g tt te D σ H = tl σ H fun x H1 => ∃ a, x = .ref a ∧ (∃ xs, SqL K H1 a xs) ∧ CompR (Itl K a) g tt te (fun l H' => D.nx (σ.set k (some (.ref l))) H') (subσ ix σ) H1 := rfl
theorem w_scompR1 : sComp k ix (iRng1 ta) g tt te D σ H = ta σ H fun vs H1 => ∃ j : Int, vs = [.int j] ∧ -(2 ^ 62) ≤ j ∧ j < 2 ^ 62 ∧ CompR (Itr 0 j.toNat) g tt te (fun l H' => D.nx (σ.set k (some (.ref l))) H') (subσ ix σ) H1 := rfl
theorem comp_range {lo : Int} {n : Nat} {fin : Addr → Hp → Prop} {σ0 : St} {H1 : Hp} (Pv : Addr → Nat → St → Hp → Prop) (h0 : ∀ l, H1 l = none → Pv l 0 σ0 (upd H1 l (.lst [])))
    (hs : ∀ l i σ H, H1 l = none → i < n → Pv l i σ H → g (.int (lo + i)) σ H fun σ2 H3 => tt σ2 H3 fun b H4 => if b = true then te σ2 H4 fun y H5 => ∃ ys, H5 l = some (.lst ys) ∧ ys.length < sizeLine ∧ Pv l (i + 1) σ2 (upd H5 l (.lst (ys ++ [y]))) else Pv l (i + 1) σ2 H4)
    (hd : ∀ l σ H, H1 l = none → Pv l n σ H → fin l H) : CompR (Itr lo n) g tt te fin σ0 H1 := by
  intro l hl0
  refine ⟨fun i m σ H => m = n - i ∧ i ≤ n ∧ Pv l i σ H, ⟨n, by simp, Nat.zero_le _, h0 l hl0⟩, ?_⟩
  rintro i m σ H ⟨rfl, hi, p⟩
  by_cases hlt : i < n
  · refine .inr ⟨hlt, Pv l (i + 1), fun σ' H' p' => ⟨n - (i + 1), by omega, rfl, hlt, p'⟩, fun x H' y => ?_⟩
    obtain ⟨e, y⟩ := y
    subst e y
    exact hs l i σ _ hl0 hlt p
  · have e : i = n := by omega
    subst e
    exact .inl ⟨Nat.le_refl _, hd l σ H hl0 p⟩
theorem comp_list {a : Addr} {xs : List V} {fin : Addr → Hp → Prop} {σ0 : St} {H1 : Hp} (Pv : Addr → Nat → St → Hp → Prop) (h0 : ∀ l, H1 l = none → Pv l 0 σ0 (upd H1 l (.lst []))) (hq : ∀ l i σ H, H1 l = none → i ≤ xs.length → Pv l i σ H → SqL K H a xs)
    (hs : ∀ l i x σ H, H1 l = none → xs[i]? = some x → Pv l i σ H → g x σ H fun σ2 H3 => tt σ2 H3 fun b H4 => if b = true then te σ2 H4 fun y H5 => ∃ ys, H5 l = some (.lst ys) ∧ ys.length < sizeLine ∧ Pv l (i + 1) σ2 (upd H5 l (.lst (ys ++ [y]))) else Pv l (i + 1) σ2 H4)
    (hd : ∀ l σ H, H1 l = none → Pv l xs.length σ H → fin l H) : CompR (Itl K a) g tt te fin σ0 H1 := by
  intro l hl0
  refine ⟨fun i m σ H => m = xs.length - i ∧ i ≤ xs.length ∧ Pv l i σ H, ⟨xs.length, by simp, Nat.zero_le _, h0 l hl0⟩, ?_⟩
  rintro i m σ H ⟨rfl, hi, p⟩
  have q := hq l i σ H hl0 hi p
  by_cases hlt : i < xs.length
  · refine .inr ⟨⟨xs, xs[i], q, by simp [hlt]⟩, Pv l (i + 1), fun σ' H' p' => ⟨xs.length - (i + 1), by omega, rfl, hlt, p'⟩, fun x H' y => ?_⟩
    obtain ⟨e, y⟩ := y
    subst e
    exact hs l i x σ _ hl0 (y xs q) p
  · have e : i = xs.length := by omega
    subst e
    exact .inl ⟨⟨xs, q, Nat.le_refl _⟩, hd l σ H hl0 p⟩
theorem w_eqL {p q : Addr} {xs ys : List Int} (hp : H p = some (.lst (xs.map V.int))) (hq : H q = some (.lst (ys.map V.int))) (h : Q (.bl (decide (xs = ys))) H) : cEq K (.ref p) (.ref q) H Q := by
  show rEqD K (.ref p) (.ref q) H Q
  refine ⟨.list (xs.map PyData.int), .list (ys.map PyData.int), .lst (SqL.of hp) (.ints xs), .lst (SqL.of hq) (.ints ys), shaped_ints xs, shaped_ints ys, ?_⟩
  rw [PyData.eqv, eqv_ints]
  exact h
theorem w_neL {p q : Addr} {xs ys : List Int} (hp : H p = some (.lst (xs.map V.int))) (hq : H q = some (.lst (ys.map V.int))) (h : Q (.bl (!decide (xs = ys))) H) : cNe K (.ref p) (.ref q) H Q := by
  show rNeD K (.ref p) (.ref q) H Q
  refine ⟨.list (xs.map PyData.int), .list (ys.map PyData.int), .lst (SqL.of hp) (.ints xs), .lst (SqL.of hq) (.ints ys), shaped_ints xs, shaped_ints ys, ?_⟩
  rw [PyData.eqv, eqv_ints]
  exact h
theorem w_list {p : Addr} {xs : List V} (hp : H p = some (.lst xs)) (h : ∀ l, H l = none → Q (.ref l) (upd H l (.lst xs))) : kList [.ref p] H Q := by
  unfold kList
  dsimp only
  rw [hp]
  exact h
end
theorem blk_ok2 {X : Cx} {N : List Str} {ix : List (Option Nat)} {scope : Scope} (h1 : scope.kind = .function) (h2 : (scope.names.map (·.1)).Nodup) (h3 : (scope.names.all fun p => p.2 != .free || isCF (X.env.kindOf p.1)) = true) (h4 : N = compN scope) (h5 : ix = compIx X.N scope) : BlkOk X N ix scope := by
  subst h4 h5
  exact blk_ok h1 h2 h3
def kLenS (K : PySem.W.Frag) : List V → Hp → VK → Prop := fun xs H Q => ∃ p ys, xs = [.ref p] ∧ (SqL K H p ys ∨ SqT K H p ys) ∧ Q (.int ys.length) H
structure Bt (mg : Str → Option Value) : Prop where
  len_ : mg "len" = none
  abs_ : mg "abs" = none
  min_ : mg "min" = none
  max_ : mg "max" = none
  sorted_ : mg "sorted" = none
  any_ : mg "any" = none
  isinstance_ : mg "isinstance" = none
  list_ : mg "list" = none
  int_ : mg "int" = none
  bool_ : mg "bool" = none
  str_ : mg "str" = none
  tuple_ : mg "tuple" = none
  reversed_ : mg "reversed" = none
  set_ : mg "set" = none
  range_ : mg "range" = none
  zip_ : mg "zip" = none
end L2
set_option Elab.async false
set_option linter.all false
set_option maxRecDepth 100000
namespace L2
open PySem PySem.Spec PyProof.Rows
theorem Vals.get' : ∀ {xs : List V} {us : List Value} {i : Nat} {u : Value}, Vals xs us → us[i]? = some u → ∃ x, xs[i]? = some x ∧ RelV x u
  | _, _, _, _, .nil, h => by simp at h
  | _, _, 0, _, .cons r _, h => by simp at h; subst h; exact ⟨_, rfl, r⟩
  | _, _, i + 1, _, .cons _ t, h => by
    obtain ⟨x, hx, r⟩ := Vals.get' (i := i) t (by simpa using h)
    exact ⟨x, by simpa using hx, r⟩
section
variable {X : Cx} {pins : List (Addr × Obj)} {σ : St} {H : Hp} {s s' : Shared}
theorem Inv.kept' (I : Inv X pins σ H s) (k : ∀ b u, s.heap.get? b = some u → s'.heap.get? b = some u) (ho : s'.os = s.os) (hg : AllBare s'.gens) : Inv X pins σ H s' :=
  I.call' (ch := []) ho (Un.kept k) (I.hok.kept k) hg fun b z => absurd z (by simp)
theorem Inv.walked {l : Addr} {o : Obj} (I : Inv X pins σ H s) (hm : Moved [s.heap.objs.size] (fun a b => b = a) { s with heap := s.heap.push o } s') : Inv X pins σ H s' := by
  refine I.kept' (fun b u e => hm.heap b u (fun z => ?_) (Heap.get?_push_of_some _ e)) hm.os (by rw [show s'.gens = s.gens from hm.gens]; exact I.bare)
  have : b = s.heap.objs.size := by simpa using z
  exact absurd (Heap.lt_size e) (by rw [this]; exact Nat.lt_irrefl _)
def kAny : List V → Hp → VK → Prop
  | [.ref p], H, Q => bnd (unL (H p)) fun ys => ∃ bs : List Bool, ys = bs.map V.bl ∧ Q (.bl (bs.any id)) H
  | _, _, _ => False
theorem any_range (bs : List Bool) : (List.range bs.length).any (fun i => bs.getD i false) = bs.any id := by
  rw [Bool.eq_iff_iff, List.any_eq_true, List.any_eq_true]
  constructor
  · rintro ⟨i, hi, h⟩
    have hi' : i < bs.length := List.mem_range.mp hi
    exact ⟨bs[i], List.getElem_mem hi', by simpa [List.getD, hi'] using h⟩
  · rintro ⟨b, hb, h⟩
    obtain ⟨i, hi, e⟩ := List.mem_iff_getElem.mp hb
    refine ⟨i, List.mem_range.mpr hi, ?_⟩
    have h' : b = true := h
    rw [List.getD, List.getElem?_eq_getElem hi, e]
    exact h'
theorem call_kAny (hc : X.calm = true) : CallR X (.builtin "any") kAny := by
  intro pins s σ H xs us Q I r h
  unfold kAny at h
  split at h
  · rename_i p
    obtain ⟨ys, e, bs, rfl, q⟩ := bnd_ex h
    obtain ⟨u, rfl, ru⟩ := vals1 r
    cases ru
    obtain ⟨its, rv, pl, hz⟩ := I.list (unL_sq e)
    have hl := rv.length
    rw [List.length_map] at hl
    have hlt : p < s.heap.objs.size := by
      obtain ⟨o, h1, _⟩ := pl.isList
      exact Heap.lt_size h1
    refine call_any_walkS (wpAny_pyIter_list pl.isList ?_)
    refine ⟨s.heap.objs.size, _, _, _, its.toArray.size, _, _, fun i => bs.getD i false, rfl, (Walks.list (A := X.A.in1) (I.ok.hd hc) s.heap.objs.size p (Nat.ne_of_lt hlt) its.toArray).toS, ⟨⟨_, Heap.get?_push_size _ rfl, rfl, rfl⟩, pl.isList.push _⟩, ?_, fun s' hm => ?_⟩
    · intro i v s1 Q1 E1 hP hQ
      have hv : its[i]? = some v := by simpa using hP
      obtain ⟨x, hx, rx⟩ := rv.get' hv
      obtain ⟨b, hb, rfl⟩ : ∃ b, bs[i]? = some b ∧ V.bl b = x := by simpa using hx
      cases rx
      refine wpAny_truthy_bool ?_
      have e3 : bs.getD i false = b := by simp [List.getD, hb]
      rw [← e3]
      exact hQ
    · refine ⟨.bl _, H, I.walked (l := p) hm, ?_, q⟩
      have e2 : its.toArray.size = bs.length := by rw [List.size_toArray]; exact hl.symm
      rw [e2, any_range]
      rfl
  · exact h.elim
def kIndex (K : PySem.W.Frag) : V → List V → Hp → VK → Prop
  | .ref p, [y], H, Q => ∃ (ds : List PyData) (d : PyData) (j : Nat), DV K H (.ref p) (.list ds) ∧ DV K H y d ∧ PyData.canLayAll0 ds = true ∧ PyData.canLay0 d = true ∧ min (PyData.depthAll ds) d.depth ≤ 62 ∧
      j ≤ 1000 ∧ (∃ e, ds[j]? = some e ∧ PyData.eqv e d = true) ∧ (∀ m e, m < j → ds[m]? = some e → PyData.eqv e d = false) ∧ Q (.int j) H
  | _, _, _, _ => False
theorem mt_kIndex (hu : X.A.units + 64 < cLine) : MtR X "list.index" (kIndex X.K) := by
  intro pins s σ H x vs v us Q I rx rv h
  unfold kIndex at h
  split at h
  · rename_i p y
    obtain ⟨ds, d, j, hp, hy, hl, hd, hdep, hj, ⟨e, ej, et⟩, hno, q⟩ := h
    cases rx
    obtain ⟨u, rfl, ru⟩ := vals1 rv
    obtain ⟨as, rc⟩ := hp.reads I rfl
    obtain ⟨bs, rx⟩ := hy.reads I ru
    cases rc with
    | @list _ o its n _ _ h1 h2 h3 h4 =>
      obtain ⟨oc, od, oda, osl⟩ := o
      dsimp only at h2 h3
      subst h2 h3
      have hmap := SeqAt.readsAll_map ds _ _ hl h4
      have at_ : ∀ (m : Nat) (hm : m < its.size), ds[m]? = some (SeqAt.readOf s.heap its[m]) := fun m hm => by
        rw [← hmap, List.getElem?_map, Array.getElem?_toList, Array.getElem?_eq_getElem hm]; rfl
      have hjs : j < its.size := by
        have := (List.getElem?_eq_some_iff.mp ej).1
        rw [← hmap, List.length_map, Array.length_toList] at this
        exact this
      refine call_meets F.slot_list_index ⟨_, h1, rfl⟩ F.entry_list_index (F.args_list_index_2 _ _) (SeqAt.list_indexAt p its n od osl u (fun y => PyData.eqv (SeqAt.readOf s.heap y) d) j hjs (by omega) ?_ ?_) ⟨h1, SeqAt.items_eqAt h4 rx hl hd ?_, ⟨.int j, H, I.tok _, ⟨_, rfl⟩, q⟩⟩
      · have := at_ j hjs
        rw [ej] at this
        cases this
        exact et
      · intro m hm hlt
        exact hno m _ hlt (at_ m hm)
      · omega
  · exact h.elim
end
end L2
set_option Elab.async false
set_option linter.all false
set_option maxRecDepth 100000
namespace L2
open PySem PySem.Spec PyProof.Rows
open Builtin Builtin.Str
theorem strs_of : ∀ {ts : List Str} {us : List Value}, Vals (ts.map V.str) us → ∃ l : List (Str × Tok), us = strValues l ∧ l.map (·.1) = ts
  | [], _, .nil => ⟨[], rfl, rfl⟩
  | t :: ts, _, .cons r rs => by
    obtain ⟨l, rfl, e⟩ := strs_of (ts := ts) rs
    obtain ⟨u, rfl⟩ := r
    exact ⟨(t, u) :: l, rfl, by rw [List.map_cons, e]⟩
theorem vals_strs : ∀ (l : List (Str × Tok)), Vals ((l.map (·.1)).map V.str) (strValues l)
  | [] => .nil
  | (t, u) :: l => .cons ⟨u, rfl⟩ (vals_strs l)
section
variable {X : Cx}
def kFind : V → List V → Hp → VK → Prop
  | .str x, [.str y], H, Q => Q (.int (Txt.find x y)) H
  | _, _, _, _ => False
def kSplit : V → List V → Hp → VK → Prop
  | .str x, [.str y], H, Q => (y.length == 0) = false ∧ x.length ≤ sizeLine ∧ (Txt.split x y).length ≤ sizeLine ∧ ∀ l, H l = none → Q (.ref l) (upd H l (.lst ((Txt.split x y).map V.str)))
  | _, _, _, _ => False
theorem mt_kSplit : MtR X "str.split" kSplit := by
  intro pins s σ H x vs v us Q I rx rv h
  unfold kSplit at h
  split at h
  · rename_i x y
    obtain ⟨t, rfl⟩ := rx
    obtain ⟨u, rfl, ru⟩ := vals1 rv
    obtain ⟨t2, rfl⟩ := ru
    obtain ⟨hy, hx, hn, q⟩ := h
    have fin : ∀ (l : List (Str × Tok)) (k : Nat), l.map (·.1) = Txt.split x y → EP X pins σ Q (.ref s.heap.objs.size) { s with heap := s.heap.push { cls := .type "list", data := .seq (strValues l).toArray }, toks := k } := fun l k e => by
      refine ⟨.ref s.heap.objs.size, _, I.lnew (t' := k) (ys := (Txt.split x y).map V.str) (its := strValues l) ?_ (by rw [List.length_map]; exact hn), rfl, q _ I.fresh⟩
      rw [← e]
      exact vals_strs l
    cases h1 : (decide (x.length < y.length) || decide (strKind x < strKind y))
    · cases hf : (occurrences x y 0 x.length (x.length + 1)).isEmpty
      · have e3 : Txt.split x y = partsBetween x (occurrences x y 0 x.length (x.length + 1)) y.length := (if_neg (ne_true_of_eq_false h1)).trans (if_neg (ne_true_of_eq_false hf))
        refine call_meets F.slot_str_split (typeIs_str _ _ _) F.entry_str_split (F.args_str_split_2 _ _) (meets_str_split_sep x y t t2 h1 hy hf hx (by rw [← e3]; exact hn)) ?_
        show wants _ _ _ { s with toks := _, heap := s.heap.push { cls := .type "list", data := .seq (strsFrom s.toks (partsBetween x (occurrences x y 0 x.length (x.length + 1)) y.length)).toArray } }
        rw [strsFrom_eq]
        exact fin (numbered s.toks _) _ ((numbered_texts _ _).trans e3.symm)
      · exact call_meets F.slot_str_split (typeIs_str _ _ _) F.entry_str_split (F.args_str_split_2 _ _) (meets_str_split_not_found x y t t2 h1 hy hf)
          (fin [(x, t)] s.toks ((if_neg (ne_true_of_eq_false h1)).trans (if_pos hf)).symm)
    · exact call_meets F.slot_str_split (typeIs_str _ _ _) F.entry_str_split (F.args_str_split_2 _ _) (meets_str_split_cannot_occur x y t t2 h1)
        (fin [(x, t)] s.toks (if_pos h1).symm)
  · exact h.elim
def cSl2 : V → Option Int → Option Int → Hp → VK → Prop
  | .ref p, lo, hi, H, Q => cSl (.ref p) lo hi H Q
  | .str z, lo, hi, H, Q => z.length ≤ sizeLine ∧ Q (.str (Txt.slice z lo hi)) H
  | _, _, _, _, _ => False
theorem sl_c2 : SlR X cSl2 := by
  intro pins s σ H x v vl vu lo hi sl Q I rx hs pl pu h
  cases x with
  | ref p => exact sl_c pins s σ H _ v vl vu lo hi sl Q I rx hs pl pu h
  | str z =>
    obtain ⟨hz, q⟩ := (show z.length ≤ sizeLine ∧ Q (.str (Txt.slice z lo hi)) H from h)
    obtain ⟨t, rfl⟩ := rx
    have fin : ∀ t' k, EP X pins σ Q (.str (Txt.slice z lo hi) t') { s with toks := k } := fun t' k => ⟨.str _, H, I.tok k, ⟨t', rfl⟩, q⟩
    refine ⟨"str", _, F.slot_str_getitem.lookup, typeIs_str _ _ _, ?_⟩
    cases pl with
    | none =>
      cases pu with
      | none => exact wpAny_getItem_str_slice (l := none) (u := none) (st := none) hs rfl (post_val_or_str ⟨Nat.le_trans (Txt.slice_le z _ _) hz, fin⟩)
      | int j tj => exact wpAny_getItem_str_slice (l := none) (u := some (j, tj)) (st := none) hs rfl (post_val_or_str ⟨Nat.le_trans (Txt.slice_le z _ _) hz, fin⟩)
    | int i ti =>
      cases pu with
      | none => exact wpAny_getItem_str_slice (l := some (i, ti)) (u := none) (st := none) hs rfl (post_val_or_str ⟨Nat.le_trans (Txt.slice_le z _ _) hz, fin⟩)
      | int j tj => exact wpAny_getItem_str_slice (l := some (i, ti)) (u := some (j, tj)) (st := none) hs rfl (post_val_or_str ⟨Nat.le_trans (Txt.slice_le z _ _) hz, fin⟩)
  | _ => exact False.elim h
def Its (x : Str) : It := ⟨fun i _ => i < x.cps.size, fun i H v H' => H' = H ∧ ∃ c, x.cps[i]? = some c ∧ v = .str ⟨#[c]⟩, fun i _ => x.cps.size ≤ i⟩
theorem turn_str {P : Program} {w : World} {K : PySem.W.Frag} {tg : Expr} {x : Str} {t : Tok} (it : Addr) (ty : String) (hty : ["enumerate", "zip", "dict_itemiterator", "dict_reverseitemiterator", "odict_iterator", "itertools.zip_longest", "itertools.pairwise"].contains ty = false)
    (W : ∀ A : Around, A.handled = none → Walks P w A it [it] [it] x.cps.size (SignAt x) (fun i h => h.IsStrIter it ty x t i))
    (slf : ∀ (A : Around) (i : Nat) (s : Shared) (Q : Value → Shared → Prop) (E : Value → Shared → Prop), s.heap.IsStrIter it ty x t i → Q (.ref it) s → wpAny (model P w) A (pyIter (.ref it)) Q E s) :
    Turn P w K tg (Its x) [it] it (fun i h => i ≤ x.cps.size ∧ h.IsStrIter it ty x t i) where
  mem := by simp
  obj := fun i h st b hb => by
    have e : b = it := by simpa using hb
    subst e
    obtain ⟨_, o, e, c, d⟩ := st
    exact ⟨o, e, fun v z => by rw [d] at z; cases z⟩
  keep := fun i h h' st k => by
    obtain ⟨hi, o, e, c, d⟩ := st
    exact ⟨hi, o, k it (by simp) o e, c, d⟩
  item := by
    intro X hP hw hK hc i pins s σ H E I hf st hg
    subst hP hw hK
    obtain ⟨f0, f1, f2, f3, f4, f5⟩ := hf it (by simp)
    have hlt : i < x.cps.size := hg
    refine (W X.A (I.ok.hd hc)).item i s _ _ hlt st.2 fun v h' tk hv st' kk => ?_
    obtain ⟨c, u, hcu, rfl⟩ := hv
    have I1 : Inv X pins σ H { s with heap := h', toks := tk } := I.turned (fun b o hb e => kk b o (by simpa using hb) e) f0 f1 f3 f4 f5
    obtain ⟨o, e, c', d⟩ := id st'
    exact ⟨_, rfl, go_of (s := { s with heap := h', toks := tk }) e c' d hty ⟨.str ⟨#[c]⟩, H, I1, ⟨u, rfl⟩, ⟨rfl, c, hcu, rfl⟩, ⟨hlt, st'⟩, fun b hb => (hf b hb).1⟩⟩
  done := by
    intro X hP hw hK hc i pins s σ H E I hf st hg
    subst hP hw hK
    obtain ⟨f0, f1, f2, f3, f4, f5⟩ := hf it (by simp)
    have hle : x.cps.size ≤ i := hg
    have e : i = x.cps.size := Nat.le_antisymm st.1 hle
    subst e
    exact (W X.A (I.ok.hd hc)).done s _ _ st.2 fun h' tk kk => ⟨rfl, I.turned (fun b o hb e => kk b o (by simpa using hb) e) f0 f1 f3 f4 f5⟩
  self := fun A i s Q E st h => slf A i s Q E st.2 h
def iStr (tl : TE) : TI := fun σ H R => tl σ H fun x H1 => ∃ z, x = .str z ∧ R (Its z) H1
theorem pi_str {tg l : Expr} {tl : TE} (hl : PE X l tl) : PI X tg l (iStr tl) := by
  intro pins s σ H R I h
  refine thn (hl pins s σ H _ I h) fun v s1 ⟨x, H1, I1, r1, q1⟩ => ?_
  obtain ⟨z, rfl, q⟩ := q1
  obtain ⟨t, rfl⟩ := r1
  have fin : ∀ b ∈ [s1.heap.objs.size], FpOk X pins H1 b := fun b hb => by
    have e : b = s1.heap.objs.size := by simpa using hb
    subst e
    exact I1.fpOk (Nat.le_refl _) (I1.hok.fresh (Nat.le_refl _))
  cases ha : z.cps.all (· < 128)
  · refine wpAny_pyIter_wide ha ⟨s1.heap.objs.size, [s1.heap.objs.size], _, Its z, H1, rfl, I1.kept (t' := s1.toks) fun b o e => Heap.get?_push_of_some _ e, turn_str (t := t) _ "str_iterator" (by decide) (fun A' hA => Walks.strWide hA _ z t) (fun A i s Q E st hq => wpAny_pyIter_striter_wide st hq), ⟨Nat.zero_le _, _, Heap.get?_push_size _ rfl, rfl, rfl⟩, fin, q⟩
  · refine wpAny_pyIter_ascii ha ⟨s1.heap.objs.size, [s1.heap.objs.size], _, Its z, H1, rfl, I1.kept (t' := s1.toks) fun b o e => Heap.get?_push_of_some _ e, turn_str (t := t) _ "str_ascii_iterator" (by decide) (fun A' hA => Walks.strAscii hA _ z t) (fun A i s Q E st hq => wpAny_pyIter_striter_ascii st hq), ⟨Nat.zero_le _, _, Heap.get?_push_size _ rfl, rfl, rfl⟩, fin, q⟩
end
section
variable {K : PySem.W.Frag} {g : TG} {tb : TS} {D : Ends} {σ : St} {H : Hp} {tl : TE} {ix : List (Option Nat)} {tt : TT} {te ta : TE} {k : Nat} {Q : VK}
theorem w_sl {r : V → Option Int → Option Int → Hp → VK → Prop} {a b : TO} : tSl r te a b σ H Q = te σ H fun x H1 => a σ H1 fun l H2 => b σ H2 fun u H3 => r x l u H3 Q := rfl
theorem w_part {R : Option Int → Hp → Prop} : tPart te σ H R = te σ H fun x H1 => ∃ i, x = .int i ∧ R (some i) H1 := rfl
theorem w_nopart {R : Option Int → Hp → Prop} : tNoPart σ H R = R none H := rfl
theorem w_gsub {to ti : TE} {t : TSet} {v : V} {R : St → Hp → Prop} : gSub to ti t v σ H R = to σ H fun o H1 => ti σ H1 fun i H2 => t o i v H2 fun H3 => R σ H3 := rfl
theorem w_un {r : V → Hp → VK → Prop} : tUn r te σ H Q = te σ H fun x H1 => r x H1 Q := rfl
theorem w_forS : tFor (iStr tl) g tb D σ H = tl σ H fun x H1 => ∃ z, x = .str z ∧ LoopR (Its z) g tb D σ H1 := rfl
theorem w_compS : tComp ix (iStr tl) g tt te σ H Q = tl σ H fun x H1 => ∃ z, x = .str z ∧ CompR (Its z) g tt te (fun l H' => Q (.ref l) H') (subσ ix σ) H1 := rfl
theorem w_scompS : sComp k ix (iStr tl) g tt te D σ H = tl σ H fun x H1 => ∃ z, x = .str z ∧ CompR (Its z) g tt te (fun l H' => D.nx (σ.set k (some (.ref l))) H') (subσ ix σ) H1 := rfl
theorem w_tyS {x : Str} : tyV K "str" (.str x) H := rfl
theorem w_eqS {i j : Str} : cEq K (.str i) (.str j) H Q = Q (.bl (decide (i = j))) H := rfl
theorem w_neS {i j : Str} : cNe K (.str i) (.str j) H Q = Q (.bl (!decide (i = j))) H := rfl
theorem w_lenS {z : Str} : kLen [.str z] H Q = (z.length ≤ sizeLine ∧ Q (.int z.length) H) := rfl
theorem w_addS {i j : Str} : cAdd (.str i) (.str j) H Q = (i.length + j.length ≤ sizeLine ∧ Q (.str (i ++ j)) H) := rfl
theorem w_ixS {z : Str} {i : Int} : cIx (.str z) (.int i) H Q = (z.length ≤ sizeLine ∧ bnd (atI z.cps.toList i) fun c => Q (.str ⟨#[c]⟩) H) := rfl
theorem w_find {x y : Str} : kFind (.str x) [.str y] H Q = Q (.int (Txt.find x y)) H := rfl
theorem w_split {x y : Str} : kSplit (.str x) [.str y] H Q = ((y.length == 0) = false ∧ x.length ≤ sizeLine ∧ (Txt.split x y).length ≤ sizeLine ∧ ∀ l, H l = none → Q (.ref l) (upd H l (.lst ((Txt.split x y).map V.str)))) := rfl
theorem w_slL {p : Addr} {lo hi : Option Int} {xs : List V} (hp : H p = some (.lst xs)) (h : ∀ l, H l = none → Q (.ref l) (upd H l (.lst (cutV xs lo hi)))) : cSl2 (.ref p) lo hi H Q := by
  show bnd (unL (H p)) _
  rw [hp]
  exact h
end
end L2
set_option Elab.async false
set_option linter.all false
set_option maxRecDepth 100000
namespace L2
open PySem PySem.Spec PyProof.Rows
def cBitI (g : Int → Int → Int) : R2
  | .int i, .int j, H, Q => Q (.int (g i j)) H
  | _, _, _, _ => False
def cShr : R2
  | .int i, .int j, H, Q => 0 ≤ j ∧ Q (.int (i / 2 ^ j.toNat)) H
  | _, _, _, _ => False
section
variable {X : Cx}
theorem op_cShr : OpR X (binaryOp .RShift) cShr := by
  intro pins s σ H x y v u Q I rx ry h
  unfold cShr at h
  split at h
  · exact op_shr pins s σ H _ _ v u Q I rx ry ⟨_, _, rfl, rfl, h.1, h.2⟩
  · exact h.elim
end
section
variable {H : Hp} {Q : VK} {i j : Int}
theorem w_bitI {g : Int → Int → Int} : cBitI g (.int i) (.int j) H Q = Q (.int (g i j)) H := rfl
theorem w_shr : cShr (.int i) (.int j) H Q = (0 ≤ j ∧ Q (.int (i / 2 ^ j.toNat)) H) := rfl
end
end L2
set_option Elab.async false
set_option linter.all false
set_option maxRecDepth 100000
namespace L2
open PySem PySem.Spec PyProof.Rows
section
variable {X : Cx}
def kInt : List V → Hp → VK → Prop
  | [.int i], H, Q => Q (.int i) H
  | [.bl k], H, Q => Q (.int (if k then 1 else 0)) H
  | _, _, _ => False
def kBitLen : V → List V → Hp → VK → Prop
  | .int i, [], H, Q => Q (.int (Builtin.Int.intBits i : Nat)) H
  | _, _, _, _ => False
theorem mt_kBitLen : MtR X "int.bit_length" kBitLen := by
  intro pins s σ H x vs v us Q I rx rv h
  unfold kBitLen at h
  split at h
  · obtain ⟨t, rfl⟩ := rx
    cases rv
    exact call_int_bit_length ⟨.int _, H, I.tok _, ⟨_, rfl⟩, h⟩
  · exact h.elim
def kAll : List V → Hp → VK → Prop
  | [.ref p], H, Q => bnd (unL (H p)) fun ys => ∃ bs : List Bool, ys = bs.map V.bl ∧ Q (.bl (bs.all id)) H
  | _, _, _ => False
theorem all_range (bs : List Bool) : (List.range bs.length).all (fun i => bs.getD i false) = bs.all id := by
  rw [Bool.eq_iff_iff, List.all_eq_true, List.all_eq_true]
  constructor
  · intro h b hb
    obtain ⟨i, hi, e⟩ := List.mem_iff_getElem.mp hb
    have := h i (List.mem_range.mpr hi)
    rw [List.getD, List.getElem?_eq_getElem hi, e] at this
    exact this
  · intro h i hi
    have hi' : i < bs.length := List.mem_range.mp hi
    have := h bs[i] (List.getElem_mem hi')
    simpa [List.getD, hi'] using this
theorem bt_all : bootBuiltins "all" = some (.builtin "all") := by decide +kernel
theorem call_kAll (hc : X.calm = true) : CallR X (.builtin "all") kAll := by
  intro pins s σ H xs us Q I r h
  unfold kAll at h
  split at h
  · rename_i p
    obtain ⟨ys, e, bs, rfl, q⟩ := bnd_ex h
    obtain ⟨u, rfl, ru⟩ := vals1 r
    cases ru
    obtain ⟨its, rv, pl, hz⟩ := I.list (unL_sq e)
    have hl := rv.length
    rw [List.length_map] at hl
    have hlt : p < s.heap.objs.size := by
      obtain ⟨o, h1, _⟩ := pl.isList
      exact Heap.lt_size h1
    refine call_all_walkS (wpAny_pyIter_list pl.isList ?_)
    refine ⟨s.heap.objs.size, _, _, _, its.toArray.size, _, _, fun i => bs.getD i false, rfl, (Walks.list (A := X.A.in1) (I.ok.hd hc) s.heap.objs.size p (Nat.ne_of_lt hlt) its.toArray).toS, ⟨⟨_, Heap.get?_push_size _ rfl, rfl, rfl⟩, pl.isList.push _⟩, ?_, fun s' hm => ?_⟩
    · intro i v s1 Q1 E1 hP hQ
      have hv : its[i]? = some v := by simpa using hP
      obtain ⟨x, hx, rx⟩ := rv.get' hv
      obtain ⟨b, hb, rfl⟩ : ∃ b, bs[i]? = some b ∧ V.bl b = x := by simpa using hx
      cases rx
      refine wpAny_truthy_bool ?_
      have e3 : bs.getD i false = b := by simp [List.getD, hb]
      rw [← e3]
      exact hQ
    · refine ⟨.bl _, H, I.walked (l := p) hm, ?_, q⟩
      have e2 : its.toArray.size = bs.length := by rw [List.size_toArray]; exact hl.symm
      rw [e2, all_range]
      rfl
  · exact h.elim
def Itd (hi : Int) (n : Nat) : It := ⟨fun i _ => i < n, fun i H x H' => H' = H ∧ x = .int (hi - i), fun i _ => n ≤ i⟩
def iRngD (ta : TA) : TI := fun σ H R => ta σ H fun vs H1 => ∃ i j : Int, vs = [.int i, .int j, .int (-1)] ∧ (-(2 ^ 60) ≤ i ∧ i < 2 ^ 60 ∧ -(2 ^ 60) ≤ j ∧ j < 2 ^ 60) ∧ R (Itd i (i - j).toNat) H1
end
section
variable {K : PySem.W.Frag} {g : TG} {tb : TS} {D : Ends} {σ : St} {H : Hp} {ta : TA} {Q : VK}
theorem w_intB {k : Bool} : kInt [.bl k] H Q = Q (.int (if k then 1 else 0)) H := rfl
theorem w_intI {i : Int} : kInt [.int i] H Q = Q (.int i) H := rfl
theorem w_bitlen {i : Int} : kBitLen (.int i) [] H Q = Q (.int (Builtin.Int.intBits i : Nat)) H := rfl
theorem w_all {p : Addr} {bs : List Bool} (hp : H p = some (.lst (bs.map V.bl))) (h : Q (.bl (bs.all id)) H) : kAll [.ref p] H Q := by
  show bnd (unL (H p)) _
  rw [hp]
  exact bnd_of (a := bs.map V.bl) rfl ⟨bs, rfl, h⟩
theorem w_forRD : tFor (iRngD ta) g tb D σ H = ta σ H fun vs H1 => ∃ i j : Int, vs = [.int i, .int j, .int (-1)] ∧ (-(2 ^ 60) ≤ i ∧ i < 2 ^ 60 ∧ -(2 ^ 60) ≤ j ∧ j < 2 ^ 60) ∧ LoopR (Itd i (i - j).toNat) g tb D σ H1 := rfl
end
end L2
set_option Elab.async false
set_option linter.all false
set_option maxRecDepth 100000
namespace L2
open PySem PySem.Spec PyProof.Rows
section
variable {X : Cx}
def Ite (K : PySem.W.Frag) (a : Addr) : It :=
  ⟨fun i H => ∃ xs x, SqL K H a xs ∧ xs[i]? = some x,
   fun i H v H' => ∃ T x, v = .ref T ∧ H T = none ∧ H' = upd H T (.tup [.int i, x]) ∧ ∀ xs, SqL K H a xs → xs[i]? = some x,
   fun i H => ∃ xs, SqL K H a xs ∧ xs.length ≤ i⟩
def iEnum (K : PySem.W.Frag) (ta : TA) : TI := fun σ H R => ta σ H fun vs H1 => ∃ a, vs = [.ref a] ∧ (∃ xs, SqL K H1 a xs) ∧ R (Ite K a) H1
end
section
variable {K : PySem.W.Frag} {g : TG} {tb : TS} {D : Ends} {σ : St} {H : Hp} {ta : TA} {Q : VK} {ix : List (Option Nat)} {tt : TT} {te : TE} {k : Nat}
theorem w_forE : tFor (iEnum K ta) g tb D σ H = ta σ H fun vs H1 => ∃ a, vs = [.ref a] ∧ (∃ xs, SqL K H1 a xs) ∧ LoopR (Ite K a) g tb D σ H1 := rfl
theorem w_compE : tComp ix (iEnum K ta) g tt te σ H Q = ta σ H fun vs H1 => ∃ a, vs = [.ref a] ∧ (∃ xs, SqL K H1 a xs) ∧ CompR (Ite K a) g tt te (fun l H' => Q (.ref l) H') (subσ ix σ) H1 := rfl
theorem w_scompE : sComp k ix (iEnum K ta) g tt te D σ H = ta σ H fun vs H1 => ∃ a, vs = [.ref a] ∧ (∃ xs, SqL K H1 a xs) ∧ CompR (Ite K a) g tt te (fun l H' => D.nx (σ.set k (some (.ref l))) H') (subσ ix σ) H1 := rfl
end
end L2
set_option Elab.async false
set_option linter.all false
set_option maxRecDepth 100000
namespace L2
open PySem PySem.Spec PyProof.Rows
end L2
set_option Elab.async false
set_option linter.all false
set_option maxRecDepth 100000
namespace L2
open PySem PySem.Spec PyProof.Rows
end L2
set_option Elab.async false
set_option linter.all false
set_option maxRecDepth 100000
namespace L2
open PySem PySem.Spec PyProof.Rows
def rngL (i j : Int) : List Int := (List.range (j - i).toNat).map fun (k : Nat) => i + (k : Int)
theorem rngL_len (i j : Int) : (rngL i j).length = (j - i).toNat := by unfold rngL; simp
theorem vals_of_get : ∀ {xs : List V} {us : List Value}, xs.length = us.length → (∀ (i : Nat) x u, xs[i]? = some x → us[i]? = some u → RelV x u) → Vals xs us
  | [], [], _, _ => .nil
  | [], _ :: _, h, _ => by simp at h
  | _ :: _, [], h, _ => by simp at h
  | x :: xs, u :: us, h, f => .cons (f 0 x u rfl rfl) (vals_of_get (by simpa using h) fun i y e h1 h2 => f (i + 1) y e (by simpa using h1) (by simpa using h2))
theorem vals_rng {i j : Int} {acc : Array Value} (h : ItemsOf (fun k v => ∃ t, v = .int (i + k * 1) t) acc (j - i).toNat) : Vals ((rngL i j).map V.int) acc.toList := by
  refine vals_of_get (by rw [List.length_map, rngL_len, Array.length_toList]; exact h.1.symm) fun k x u hx hu => ?_
  obtain ⟨t, rfl⟩ := h.2 k u (by simpa using hu)
  unfold rngL at hx
  rw [List.map_map, List.getElem?_map] at hx
  by_cases hk : k < (j - i).toNat
  · rw [List.getElem?_range hk] at hx
    cases hx
    exact ⟨t, by rw [Int.mul_one]⟩
  · rw [List.getElem?_eq_none (by simpa using hk)] at hx
    cases hx
section
variable {X : Cx}
def tListRng1 (ta : TA) : TE := fun σ H Q => ta σ H fun vs H1 => ∃ j : Int, vs = [.int j] ∧ -(2 ^ 60) ≤ j ∧ j ≤ 1000 ∧ ∀ l, H1 l = none → Q (.ref l) (upd H1 l (.lst ((rngL 0 j).map V.int)))
def tListRng2 (ta : TA) : TE := fun σ H Q => ta σ H fun vs H1 => ∃ i j : Int, vs = [.int i, .int j] ∧ (0 ≤ i ∧ i ≤ 1000 ∧ -(2 ^ 60) ≤ j ∧ j ≤ 1000) ∧ ∀ l, H1 l = none → Q (.ref l) (upd H1 l (.lst ((rngL i j).map V.int)))
theorem list_rng {pins : List (Addr × Obj)} {σ : St} {H1 : Hp} {s1 : Shared} {Q : VK} {i j : Int} {t u v : Tok} {tk : Nat} {A : Around} {E : Value → Shared → Prop} (hh : A.handled = none) (I1 : Inv X pins σ H1 s1) (h1 : 0 ≤ i) (h2 : i ≤ 1000) (h3 : -(2 ^ 60) ≤ j) (h4 : j ≤ 1000)
    (q : ∀ l, H1 l = none → Q (.ref l) (upd H1 l (.lst ((rngL i j).map V.int)))) :
    wpAny (model X.prog X.w) A (call (.type "list") [.ref s1.heap.objs.size]) (EP X pins σ Q) E { s1 with heap := s1.heap.push { cls := .type "range", data := .fields #[.int i t, .int j u, .int 1 v] }, toks := tk } := by
  have I2 : Inv X pins σ H1 { s1 with heap := s1.heap.push { cls := .type "range", data := .fields #[.int i t, .int j u, .int 1 v] }, toks := tk } := I1.kept fun b o e => Heap.get?_push_of_some _ e
  refine call_list_range (n := (j - i).toNat) hh (IsRange.new ..) (small_one (by omega) (by omega) (by omega) (by omega)) (by rw [rangeSize_one]; split <;> omega) (by omega) fun h' tk' acc' c' old hS' hacc => ?_
  have hlen : ((rngL i j).map V.int).length ≤ sizeLine := by rw [List.length_map, rngL_len]; exact Nat.le_of_lt (small1000 (by omega))
  exact ⟨.ref _, _, I2.laid (t' := tk') (o := .lst ((rngL i j).map V.int)) old (Nat.le_refl _) ⟨hlen, acc'.toList, c', vals_rng hacc, hS'⟩, rfl, q _ (I2.hok.fresh (Nat.le_refl _))⟩
theorem pe_listrng1 {a : Expr} {ta : TA} {p p2 pos pos2 : Pos} (hc : X.calm = true) (hgl : Gl X "list") (hgr : Gl X "range") (hl : X.mg "list" = none) (hr : X.mg "range" = none) (ha : PA X [a] ta)
    (hs1 : starEach [.Call (.Name "range" p2) [a] [] pos2] X.env = [(false, eval (.Call (.Name "range" p2) [a] [] pos2) X.env)] := by rfl) (hs : starEach [a] X.env = [(false, eval a X.env)] := by rfl) :
    PE X (.Call (.Name "list" p) [.Call (.Name "range" p2) [a] [] pos2] [] pos) (tListRng1 ta) := by
  intro pins s σ H Q I h
  refine wpAny_Call_Name_kw (ld_blt I hgl hl bt_list ?_ (by decide) (by decide))
  refine PyProof.Rows.callWith_type1 ?_ hs1 rfl
  rw [hs1]
  show wpAny _ _ (spliced [(false, eval (.Call (.Name "range" p2) [a] [] pos2) X.env)]) _ _ s
  refine Calls.spliced_cons ?_
  refine Call_ (ld_blt I hgr hr boot_range (PyProof.Rows.callWith_type1 (thn (ha pos2 pins s σ H _ I h) fun us s1 ⟨vs, H1, I1, r1, q1⟩ => ?_) hs rfl))
  obtain ⟨j, e, q1, q2, q⟩ := q1
  subst e
  cases r1 with
  | cons r rr =>
    cases rr
    obtain ⟨t, rfl⟩ := r
    refine call_range_1 ?_
    refine Calls.spliced_nil ?_
    exact list_rng (I.ok.hd hc) I1 (by omega) (by omega) q1 q2 q
end
section
variable {σ : St} {H : Hp} {Q : VK} {ta : TA}
theorem w_lrng1 : tListRng1 ta σ H Q = ta σ H fun vs H1 => ∃ j : Int, vs = [.int j] ∧ -(2 ^ 60) ≤ j ∧ j ≤ 1000 ∧ ∀ l, H1 l = none → Q (.ref l) (upd H1 l (.lst ((rngL 0 j).map V.int))) := rfl
theorem w_lrng2 : tListRng2 ta σ H Q = ta σ H fun vs H1 => ∃ i j : Int, vs = [.int i, .int j] ∧ (0 ≤ i ∧ i ≤ 1000 ∧ -(2 ^ 60) ≤ j ∧ j ≤ 1000) ∧ ∀ l, H1 l = none → Q (.ref l) (upd H1 l (.lst ((rngL i j).map V.int))) := rfl
end
end L2
namespace L2
end L2
set_option Elab.async false
set_option linter.all false
set_option maxRecDepth 100000
namespace L2
open PySem PySem.Spec PyProof.Rows
local macro_rules | `(tactic| walk_at "w") => `(tactic| (first | simp only [w_seq, w_next, w_asg, w_gname, w_var, w_c, w_op, w_ret, w_retN, w_drop, w_test, w_b, w_not, w_and, w_or, w_notV, w_andV, w_orV, w_nil, w_cons, w_cb, w_call, w_tup, w_lst, w_bm, w_bm0, w_true, w_dnew, w_dput, w_forL, w_forR1, w_forR2, w_compL, w_compR1, w_scompL, w_scompR1, w_add, w_sub, w_mul, w_div, w_mod, w_cmp, w_eqI, w_neI, w_eqB, w_neB, w_abs, w_min, w_sl, w_part, w_nopart, w_gsub, w_un, w_forS, w_compS, w_scompS, w_eqS, w_neS, w_lenS, w_addS, w_find,
  List.getElem?_cons_zero, List.getElem?_cons_succ, Option.some.injEq, exists_eq_left', exists_eq_left, List.set_cons_zero, List.set_cons_succ, bnd_some, V.int.injEq, V.bl.injEq, V.ref.injEq, V.str.injEq, List.append_nil, List.nil_append, List.cons_append] | dsimp only | skip))
theorem len_le {n : Nat} (h : n ≤ 1000) : n ≤ sizeLine := Nat.le_of_lt (small1000 h)
def IsFl (H : Hp) (a : Addr) (h w g : Int) : Prop := H a = some (.tup [.int h, .int w, .int g])
theorem Same.laid {H H' : Hp} {p : Addr} {o : HO} (s : Same H H') (h : H' p = none) : Same H (upd H' p o) := fun b u e => by
  rw [upd_ne (ne_of_none (s b u e) h)]
  exact s b u e
theorem Same.own {H H' : Hp} {p : Addr} {o : HO} (s : Same H H') (h : H p = none) : Same H (upd H' p o) := fun b u e => by
  rw [upd_ne (ne_of_none e h)]
  exact s b u e
theorem getD_of {l : List Int} {i : Nat} {x : Int} (h : l[i]? = some x) : l.getD i 0 = x := by
  rw [List.getD, h]; rfl
theorem atI_ints {ns : List Int} {k : Int} (h0 : 0 ≤ k) (h1 : k < ns.length) : atI (ns.map V.int) k = some (.int (ns.getD k.toNat 0)) := by
  have e : ((k.toNat : Nat) : Int) = k := Int.toNat_of_nonneg h0
  have hlt : k.toNat < ns.length := by omega
  have : (ns.map V.int)[k.toNat]? = some (.int (ns.getD k.toNat 0)) := by
    rw [List.getElem?_map, List.getElem?_eq_getElem hlt]
    simp [List.getD, hlt]
  have q := atI_nat this
  rw [e] at q
  exact q
theorem filter_tt {α : Type} (l : List α) : l.filter (fun _ => true) = l := List.filter_eq_self.mpr fun _ _ => rfl
theorem map_int_get {l : List Int} {i : Nat} {y : V} (h : (l.map V.int)[i]? = some y) : ∃ z, l[i]? = some z ∧ y = .int z := by
  rw [List.getElem?_map] at h
  cases e : l[i]? with
  | none => rw [e] at h; cases h
  | some z => rw [e] at h; cases h; exact ⟨z, rfl, rfl⟩
theorem mul_small {h w : Int} (h0 : 1 ≤ h) (h1 : h ≤ 6) : CMul h w := .inl ⟨by omega, by omega⟩
theorem atI_refs {ps : List Addr} {k : Int} {p : Addr} (h0 : 0 ≤ k) (h : ps[k.toNat]? = some p) : atI (ps.map V.ref) k = some (.ref p) := by
  have e : ((k.toNat : Nat) : Int) = k := Int.toNat_of_nonneg h0
  have q0 : (ps.map V.ref)[k.toNat]? = some (.ref p) := by rw [List.getElem?_map, h]; rfl
  have q := atI_nat q0
  rw [e] at q
  exact q
section
variable {k : Nat} {lo : Int} {n : Nat} {tt : TT} {te : TE} {fin : Addr → Hp → Prop} {σ0 : St} {H1 : Hp} {K : PySem.W.Frag} {a : Addr}
theorem filt_len {n i : Nat} (b : Nat → Bool) (h : i < n) (hn : n ≤ 900) : ((List.range i).filter b).length ≤ 900 := by
  have := List.length_filter_le b (List.range i)
  rw [List.length_range] at this
  omega
theorem compV_range (b : Nat → Bool) (f : Nat → V) (hn : n ≤ 900)
    (ht : ∀ i H R, i < n → Same H1 H → (∀ H', Same H H' → R (b i) H') → tt (σ0.set k (some (.int (lo + i)))) H R)
    (he : ∀ i H Q, i < n → b i = true → Same H1 H → (∀ H', Same H H' → Q (f i) H') → te (σ0.set k (some (.int (lo + i)))) H Q)
    (hd : ∀ l H, H1 l = none → Same H1 H → H l = some (.lst (((List.range n).filter b).map f)) → fin l H) :
    CompR (Itr lo n) (gName k) tt te fin σ0 H1 := by
  refine comp_range (fun l i σ H => (σ = σ0 ∨ ∃ cv, σ = σ0.set k cv) ∧ Same H1 H ∧ H l = some (.lst (((List.range i).filter b).map f))) (fun l hl => ⟨.inl rfl, (Same.refl H1).laid hl, by rw [upd_same]; rfl⟩) ?_ (fun l σ H hl p => hd l H hl p.2.1 p.2.2)
  rintro l i σ H hl hi ⟨hσ, s1, el⟩
  rw [w_gname]
  have e : σ.set k (some (.int (lo + i))) = σ0.set k (some (.int (lo + i))) := by
    rcases hσ with rfl | ⟨cv, rfl⟩
    · rfl
    · exact List.set_set ..
  rw [e]
  refine ht i H _ hi s1 fun H2 s2 => ?_
  have el2 := s2 _ _ el
  cases hb : b i with
  | false =>
    rw [if_neg Bool.false_ne_true]
    refine ⟨.inr ⟨_, rfl⟩, s1.trans s2, ?_⟩
    rw [List.range_succ, List.filter_append, List.filter_cons, hb]
    simpa using el2
  | true =>
    rw [if_pos rfl]
    refine he i H2 _ hi hb (s1.trans s2) fun H3 s3 => ⟨_, s3 _ _ el2, by rw [List.length_map]; exact small1000 (Nat.le_trans (filt_len b hi hn) (by decide)), .inr ⟨_, rfl⟩, ((s1.trans s2).trans s3).own hl, ?_⟩
    rw [upd_same, List.range_succ, List.filter_append, List.filter_cons, hb]
    simp
theorem compV_list {xs : List V} (b : Nat → Bool) (f : Nat → V) (hn : xs.length ≤ 900) (hq : SqL K H1 a xs)
    (ht : ∀ i x H R, xs[i]? = some x → Same H1 H → (∀ H', Same H H' → R (b i) H') → tt (σ0.set k (some x)) H R)
    (he : ∀ i x H Q, xs[i]? = some x → b i = true → Same H1 H → (∀ H', Same H H' → Q (f i) H') → te (σ0.set k (some x)) H Q)
    (hd : ∀ l H, H1 l = none → Same H1 H → H l = some (.lst (((List.range xs.length).filter b).map f)) → fin l H) :
    CompR (Itl K a) (gName k) tt te fin σ0 H1 := by
  refine comp_list (xs := xs) (fun l i σ H => (σ = σ0 ∨ ∃ cv, σ = σ0.set k cv) ∧ Same H1 H ∧ H l = some (.lst (((List.range i).filter b).map f))) (fun l hl => ⟨.inl rfl, (Same.refl H1).laid hl, by rw [upd_same]; rfl⟩) (fun l i σ H _ _ p => p.2.1.seq hq) ?_ (fun l σ H hl p => hd l H hl p.2.1 p.2.2)
  rintro l i x σ H hl hx ⟨hσ, s1, el⟩
  have hi : i < xs.length := (List.getElem?_eq_some_iff.mp hx).1
  rw [w_gname]
  have e : σ.set k (some x) = σ0.set k (some x) := by
    rcases hσ with rfl | ⟨cv, rfl⟩
    · rfl
    · exact List.set_set ..
  rw [e]
  refine ht i x H _ hx s1 fun H2 s2 => ?_
  have el2 := s2 _ _ el
  cases hb : b i with
  | false =>
    rw [if_neg Bool.false_ne_true]
    refine ⟨.inr ⟨_, rfl⟩, s1.trans s2, ?_⟩
    rw [List.range_succ, List.filter_append, List.filter_cons, hb]
    simpa using el2
  | true =>
    rw [if_pos rfl]
    refine he i x H2 _ hx hb (s1.trans s2) fun H3 s3 => ⟨_, s3 _ _ el2, by rw [List.length_map]; exact small1000 (Nat.le_trans (filt_len b hi hn) (by decide)), .inr ⟨_, rfl⟩, ((s1.trans s2).trans s3).own hl, ?_⟩
    rw [upd_same, List.range_succ, List.filter_append, List.filter_cons, hb]
    simp
theorem compI_range (b : Nat → Bool) (f : Nat → Int) (hn : n ≤ 900)
    (ht : ∀ i H R, i < n → Same H1 H → (∀ H', Same H H' → R (b i) H') → tt (σ0.set k (some (.int (lo + i)))) H R)
    (he : ∀ i H Q, i < n → b i = true → Same H1 H → (∀ H', Same H H' → Q (.int (f i)) H') → te (σ0.set k (some (.int (lo + i)))) H Q)
    (hd : ∀ l H, H1 l = none → Same H1 H → H l = some (.lst ((((List.range n).filter b).map f).map V.int)) → fin l H) :
    CompR (Itr lo n) (gName k) tt te fin σ0 H1 :=
  compV_range b (fun i => .int (f i)) hn ht he fun l H hl s1 el => hd l H hl s1 (by rw [List.map_map]; exact el)
end
theorem lay_all : ∀ {ds : List PyData}, (∀ d ∈ ds, PyData.canLay0 d = true) → PyData.canLayAll0 ds = true
  | [], _ => rfl
  | d :: r, h => by rw [PyData.canLayAll0, h d List.mem_cons_self, lay_all fun e he => h e (List.mem_cons_of_mem _ he)]; rfl
theorem depth_all {n : Nat} : ∀ {ds : List PyData}, (∀ d ∈ ds, PyData.depth d ≤ n) → PyData.depthAll ds ≤ n
  | [], _ => Nat.zero_le _
  | d :: r, h => by rw [PyData.depthAll]; exact Nat.max_le.mpr ⟨h d List.mem_cons_self, depth_all fun e he => h e (List.mem_cons_of_mem _ he)⟩
theorem eqv_all {α : Type} [DecidableEq α] (g : α → PyData) (hg : ∀ a b, PyData.eqv (g a) (g b) = decide (a = b)) : ∀ xs ys : List α, PyData.eqvAll (xs.map g) (ys.map g) = decide (xs = ys)
  | [], [] => rfl
  | [], _ :: _ => rfl
  | _ :: _, [] => rfl
  | x :: xs, y :: ys => by
    rw [List.map_cons, List.map_cons, PyData.eqvAll, hg, eqv_all g hg xs ys, Bool.eq_iff_iff]
    simp
structure FlOk (h w g : Int) : Prop where
  h0 : 1 ≤ h
  h1 : h ≤ 6
  w0 : 1 ≤ w
  w1 : w ≤ 6
  m : h * w ≤ 16
  g0 : 1 ≤ g
  g1 : g ≤ 6
section
variable {K : PySem.W.Frag} {H : Hp} {Q : VK}
theorem w_isiL {p : Addr} {xs : List V} (hp : H p = some (.lst xs)) (h : Q (.bl true) H) : kIsi [.ref p, .ty "list"] H Q := by
  refine ⟨by decide, bnd_of (a := "list") (by unfold tyName; dsimp only; rw [hp]) ?_⟩
  rw [show isTy "list" "list" = true by decide]
  exact h
theorem w_isiT {p : Addr} {xs : List V} (hp : H p = some (.tup xs)) (h : Q (.bl true) H) : kIsi [.ref p, .ty "tuple"] H Q := by
  refine ⟨by decide, bnd_of (a := "tuple") (by unfold tyName; dsimp only; rw [hp]) ?_⟩
  rw [show isTy "tuple" "tuple" = true by decide]
  exact h
theorem w_gtup {n : Nat} {t : TGs} {σ : St} {k : St → Hp → Prop} {p : Addr} {xs : List V} (hp : H p = some (.tup xs)) (hn : xs.length = n) (h : t xs σ H k) : gTup K n t (.ref p) σ H k := ⟨p, xs, rfl, SqT.of hp, hn, h⟩
theorem w_gcons2 {i j : Nat} {x y : V} {σ : St} {k : St → Hp → Prop} : gCons (gName i) (gCons (gName j) gNil) [x, y] σ H k = k ((σ.set i (some x)).set j (some y)) H := by
  refine propext ⟨?_, fun h => ⟨x, [y], rfl, y, [], rfl, rfl, h⟩⟩
  rintro ⟨v, r, e, v2, r2, e2, e3, h⟩
  cases e
  cases e2
  exact h
end
end L2
set_option Elab.async false
set_option linter.all false
namespace L2
open PySem PySem.Builtin PySem.Builtin.Str
def tx (l : List Nat) : Str := ⟨l.toArray⟩
theorem tx_cps (l : List Nat) : (tx l).cps.toList = l := by simp [tx]
theorem tx_of (x : Str) : tx x.cps.toList = x := by cases x; simp [tx]
theorem tx_inj {a b : List Nat} (h : tx a = tx b) : a = b := by rw [← tx_cps a, h, tx_cps]
theorem tx_len (l : List Nat) : (tx l).length = l.length := by simp [tx, Str.length]
theorem tx_app (a b : List Nat) : tx a ++ tx b = tx (a ++ b) := by
  refine Str.ext' ?_
  rw [Str.cps_append]
  simp [tx]
theorem tx_dec (a b : List Nat) : decide (tx a = tx b) = decide (a = b) := by
  by_cases h : a = b
  · subst h; simp
  · have : ¬ tx a = tx b := fun e => h (tx_inj e)
    rw [decide_eq_false h, decide_eq_false this]
def catL (c : Nat) : List (List Nat) → List Nat
  | [] => []
  | [x] => x
  | x :: y :: r => x ++ c :: catL c (y :: r)
theorem join_tx (c : Nat) : ∀ ts : List (List Nat), Str.join (tx [c]) (ts.map tx) = tx (catL c ts)
  | [] => rfl
  | [x] => rfl
  | x :: y :: r => by
    show tx x ++ tx [c] ++ Str.join (tx [c]) ((y :: r).map tx) = _
    rw [join_tx c (y :: r), tx_app, tx_app]
    show tx _ = tx (x ++ c :: catL c (y :: r))
    rw [List.append_assoc]; rfl
theorem Txt_join (sep : Str) (ts : List Str) : Txt.join sep ts = Str.join sep ts := StrLaws.glued_eq_join sep ts
theorem cut_inj {c : Nat} : ∀ {a b x y : List Nat}, c ∉ a → c ∉ b → a ++ c :: x = b ++ c :: y → a = b ∧ x = y
  | [], [], _, _, _, _, h => ⟨rfl, by simpa using h⟩
  | [], b :: bs, _, _, _, hb, h => by
    simp at h
    exact absurd (List.mem_cons.mpr (.inl h.1)) hb
  | a :: as, [], _, _, ha, _, h => by
    simp at h
    exact absurd (List.mem_cons.mpr (.inl h.1.symm)) ha
  | a :: as, b :: bs, x, y, ha, hb, h => by
    simp at h
    have := cut_inj (fun z => ha (List.mem_cons_of_mem _ z)) (fun z => hb (List.mem_cons_of_mem _ z)) h.2
    exact ⟨by rw [h.1, this.1], this.2⟩
theorem catL_mem {c : Nat} : ∀ {x : List Nat} {r : List (List Nat)} {y : List Nat}, c ∈ catL c (x :: y :: r) := by
  intro x r y
  show c ∈ x ++ c :: _
  simp
theorem catL_inj {c : Nat} : ∀ {xs ys : List (List Nat)}, xs ≠ [] → ys ≠ [] → (∀ x ∈ xs, c ∉ x) → (∀ y ∈ ys, c ∉ y) → catL c xs = catL c ys → xs = ys
  | [], _, h, _, _, _, _ => absurd rfl h
  | _, [], _, h, _, _, _ => absurd rfl h
  | [x], [y], _, _, _, _, h => by
    have h' : x = y := h
    rw [h']
  | [x], y :: z :: r, _, _, hx, _, h => by
    have h' : x = catL c (y :: z :: r) := h
    exact absurd (h' ▸ catL_mem) (hx x List.mem_cons_self)
  | x :: z :: r, [y], _, _, _, hy, h => by
    have h' : catL c (x :: z :: r) = y := h
    exact absurd (h' ▸ catL_mem) (hy y List.mem_cons_self)
  | x :: z :: r, y :: u :: s, _, _, hx, hy, h => by
    obtain ⟨e1, e2⟩ := cut_inj (hx x List.mem_cons_self) (hy y List.mem_cons_self) (show x ++ c :: catL c (z :: r) = y ++ c :: catL c (u :: s) from h)
    rw [e1, catL_inj (by simp) (by simp) (fun w hw => hx w (List.mem_cons_of_mem _ hw)) (fun w hw => hy w (List.mem_cons_of_mem _ hw)) e2]
theorem split_ne (x y : Str) : Txt.split x y ≠ [] := by
  intro h
  unfold Txt.split at h
  split at h
  · cases h
  · split at h
    · cases h
    · rw [StrLaws.partsBetween_eq] at h
      obtain ⟨p, r, e⟩ := StrLaws.partsFrom_ne x y.length 0 (occurrences x y 0 x.length (x.length + 1))
      rw [e] at h; cases h
theorem split_tx {c : Nat} {rows : List (List Nat)} (hne : rows ≠ []) (hf : ∀ r ∈ rows, c ∉ r) : Txt.split (tx (catL c rows)) (tx [c]) = rows.map tx := by
  have h1 := StrLaws.join_split (tx (catL c rows)) (tx [c])
  have h2 : ∀ p ∈ Txt.split (tx (catL c rows)) (tx [c]), c ∉ p.cps.toList := StrLaws.split_free _ c
  have h3 := split_ne (tx (catL c rows)) (tx [c])
  generalize Txt.split (tx (catL c rows)) (tx [c]) = S at *
  have e : S = (S.map (·.cps.toList)).map tx := by
    rw [List.map_map]
    conv => lhs; rw [← List.map_id S]
    exact List.map_congr_left fun x _ => (tx_of x).symm
  rw [e, join_tx] at h1
  have h4 := tx_inj h1
  have h5 := catL_inj (c := c) (xs := S.map (·.cps.toList)) (ys := rows) (by simpa using h3) hne (fun x hx => by obtain ⟨p, hp, rfl⟩ := List.mem_map.mp hx; exact h2 p hp) hf h4
  rw [e, h5]
end L2
set_option Elab.async false
set_option linter.all false
namespace L2
end L2
set_option Elab.async false
set_option linter.all false
set_option maxRecDepth 100000
namespace L2
open PySem PySem.Spec PyProof.Rows
local macro_rules | `(tactic| walk_at "w") => `(tactic| (first | simp only [w_seq, w_next, w_asg, w_gname, w_var, w_c, w_op, w_ret, w_retN, w_drop, w_test, w_b, w_not, w_and, w_or, w_notV, w_andV, w_orV, w_nil, w_cons, w_cb, w_call, w_tup, w_lst, w_bm, w_bm0, w_true, w_dnew, w_dput, w_forL, w_forR1, w_forR2, w_compL, w_compR1, w_scompL, w_scompR1, w_add, w_sub, w_mul, w_div, w_mod, w_cmp, w_eqI, w_neI, w_eqB, w_neB, w_abs, w_min, w_sl, w_part, w_nopart, w_gsub, w_un, w_forS, w_compS, w_scompS, w_eqS, w_neS, w_lenS, w_addS, w_find,
  List.getElem?_cons_zero, List.getElem?_cons_succ, Option.some.injEq, exists_eq_left', exists_eq_left, List.set_cons_zero, List.set_cons_succ, bnd_some, V.int.injEq, V.bl.injEq, V.ref.injEq, V.str.injEq, List.append_nil, List.nil_append, List.cons_append] | dsimp only | skip))
section
variable {k : Nat} {tt : TT} {te : TE} {fin : Addr → Hp → Prop} {σ0 : St} {H1 : Hp}
theorem compV_str {cs : List Nat} (b : Nat → Bool) (f : Nat → V) (hn : cs.length ≤ 900)
    (ht : ∀ i c H R, cs[i]? = some c → Same H1 H → (∀ H', Same H H' → R (b i) H') → tt (σ0.set k (some (.str (tx [c])))) H R)
    (he : ∀ i c H Q, cs[i]? = some c → b i = true → Same H1 H → (∀ H', Same H H' → Q (f i) H') → te (σ0.set k (some (.str (tx [c])))) H Q)
    (hd : ∀ l H, H1 l = none → Same H1 H → H l = some (.lst (((List.range cs.length).filter b).map f)) → fin l H) :
    CompR (Its (tx cs)) (gName k) tt te fin σ0 H1 := by
  intro l hl
  have hsz : (tx cs).cps.size = cs.length := by simp [tx]
  refine ⟨fun i m σ H => m = cs.length - i ∧ i ≤ cs.length ∧ (σ = σ0 ∨ ∃ cv, σ = σ0.set k cv) ∧ Same H1 H ∧ H l = some (.lst (((List.range i).filter b).map f)), ⟨cs.length, by simp, Nat.zero_le _, .inl rfl, (Same.refl H1).laid hl, by rw [upd_same]; rfl⟩, ?_⟩
  rintro i m σ H ⟨rfl, hi, hσ, s1, el⟩
  by_cases hlt : i < cs.length
  · refine .inr ⟨by show i < (tx cs).cps.size; rw [hsz]; exact hlt, fun σ H => (σ = σ0 ∨ ∃ cv, σ = σ0.set k cv) ∧ Same H1 H ∧ H l = some (.lst (((List.range (i + 1)).filter b).map f)), fun σ' H' p' => ⟨cs.length - (i + 1), by omega, rfl, hlt, p'⟩, ?_⟩
    rintro x H' ⟨rfl, c, hc, rfl⟩
    have hc' : cs[i]? = some c := by simpa [tx] using hc
    show gName k (.str (tx [c])) σ H' _
    rw [w_gname]
    have e : σ.set k (some (.str (tx [c]))) = σ0.set k (some (.str (tx [c]))) := by
      rcases hσ with rfl | ⟨cv, rfl⟩
      · rfl
      · exact List.set_set ..
    rw [e]
    refine ht i c H' _ hc' s1 fun H2 s2 => ?_
    have el2 := s2 _ _ el
    cases hb : b i with
    | false =>
      rw [if_neg Bool.false_ne_true]
      refine ⟨.inr ⟨_, rfl⟩, s1.trans s2, ?_⟩
      rw [List.range_succ, List.filter_append, List.filter_cons, hb]
      simpa using el2
    | true =>
      rw [if_pos rfl]
      refine he i c H2 _ hc' hb (s1.trans s2) fun H3 s3 => ⟨_, s3 _ _ el2, by rw [List.length_map]; exact small1000 (Nat.le_trans (filt_len b hlt hn) (by decide)), .inr ⟨_, rfl⟩, ((s1.trans s2).trans s3).own hl, ?_⟩
      rw [upd_same, List.range_succ, List.filter_append, List.filter_cons, hb]
      simp
  · have e : i = cs.length := by omega
    subst e
    exact .inl ⟨by show (tx cs).cps.size ≤ _; rw [hsz]; exact Nat.le_refl _, hd l H hl s1 el⟩
end
theorem map_range_get {α : Type} (xs : List Int) (g : Int → α) : (List.range xs.length).map (fun i => g (xs.getD i 0)) = xs.map g := by
  have e : xs = (List.range xs.length).map fun i => xs.getD i 0 := by
    refine List.ext_getElem? fun i => ?_
    rw [List.getElem?_map]
    by_cases h : i < xs.length
    · rw [List.getElem?_range h, List.getElem?_eq_getElem h]
      simp [List.getD, h]
    · rw [List.getElem?_eq_none (by omega), List.getElem?_eq_none (by simpa using h)]; rfl
  conv => rhs; rw [e]
  rw [List.map_map]
  rfl
theorem joinOk_small {sep : Str} {ts : List Str} (h1 : ts.length ≤ 1000) (h2 : ∀ t ∈ ts, t.length ≤ 1000) (h3 : sep.length ≤ 10) : JoinOk sep ts = true := by
  unfold JoinOk
  rw [Bool.not_eq_true']
  refine StrLaws.joinFits (B := 1000) h2 ?_
  have a1 : ts.length * 1000 ≤ 1000 * 1000 := Nat.mul_le_mul_right _ h1
  have a2 : ts.length * sep.length ≤ 1000 * 10 := Nat.mul_le_mul h1 h3
  omega
end L2
set_option Elab.async false
set_option linter.all false
set_option maxRecDepth 100000
namespace L2
open PySem PySem.Spec PyProof.Rows
abbrev rIsN : R2 := fun x y H Q => y = .non ∧ Q (.bl (decide (x = .non))) H
abbrev rNotN : R2 := fun x y H Q => y = .non ∧ Q (.bl (!decide (x = .non))) H
def kStr : List V → Hp → VK → Prop
  | [.int i], H, Q => i.natAbs.log2 < 1920 ∧ Q (.str (Str.ofString (toString i))) H
  | _, _, _ => False
section
variable {X : Cx}
theorem call_kStr : CallR X (.type "str") kStr := by
  intro pins s σ H xs us Q I r h
  unfold kStr at h
  split at h
  · obtain ⟨hi, q⟩ := h
    cases r with
    | cons r0 rr =>
      cases rr
      obtain ⟨t, rfl⟩ := r0
      exact PySem.P.str_of_int hi ⟨.str _, H, I.tok _, ⟨_, rfl⟩, q⟩
  · exact h.elim
end
section
variable {K : PySem.W.Frag} {H : Hp} {Q : VK}
theorem w_isN {x : V} : rIsN x .non H Q = Q (.bl (decide (x = .non))) H := by simp [rIsN]
theorem w_notN {x : V} : rNotN x .non H Q = Q (.bl (!decide (x = .non))) H := by simp [rNotN]
theorem w_str {i : Int} : kStr [.int i] H Q = (i.natAbs.log2 < 1920 ∧ Q (.str (Str.ofString (toString i))) H) := rfl
end
end L2
set_option Elab.async false
set_option linter.all false
set_option maxRecDepth 100000
namespace L2
open PySem PySem.Spec PyProof.Rows
structure Bt2 (mg : Str → Option Value) : Prop extends Bt mg where
  all_ : mg "all" = none
  sum_ : mg "sum" = none
  enumerate_ : mg "enumerate" = none
section
variable {K : PySem.W.Frag} {H : Hp} {Q : VK} {D : Ends} {σ : St} {g : TG} {tb : TS} {ta : TA} {ix : List (Option Nat)} {tt : TT} {te tf : TE} {k : Nat}
theorem w_ifE : tIf tt te tf σ H Q = tt σ H fun c H1 => if c = true then te σ H1 Q else tf σ H1 Q := rfl
theorem w_compR2 : tComp ix (iRng2 ta) g tt te σ H Q = ta σ H fun vs H1 => ∃ i j : Int, vs = [.int i, .int j] ∧ (-(2 ^ 62) ≤ i ∧ i < 2 ^ 62 ∧ -(2 ^ 62) ≤ j ∧ j < 2 ^ 62) ∧ CompR (Itr i (j - i).toNat) g tt te (fun l H' => Q (.ref l) H') (subσ ix σ) H1 := rfl
theorem w_scompR2 : sComp k ix (iRng2 ta) g tt te D σ H = ta σ H fun vs H1 => ∃ i j : Int, vs = [.int i, .int j] ∧ (-(2 ^ 62) ≤ i ∧ i < 2 ^ 62 ∧ -(2 ^ 62) ≤ j ∧ j < 2 ^ 62) ∧ CompR (Itr i (j - i).toNat) g tt te (fun l H' => D.nx (σ.set k (some (.ref l))) H') (subσ ix σ) H1 := rfl
theorem isiE {x : V} {n t : String} {b : Bool} (hx : tyName H x = some t) (hn : tyKnown n = true) (hb : isTy t n = b) : kIsi [x, .ty n] H Q = Q (.bl b) H := by
  subst hb
  show (tyKnown n = true ∧ bnd (tyName H x) fun t => Q (.bl (isTy t n)) H) = _
  rw [hx]
  simp only [hn, true_and, bnd_some]
theorem w_isi_ii {i : Int} : kIsi [.int i, .ty "int"] H Q = Q (.bl true) H := isiE (t := "int") rfl (by decide) (by decide)
theorem w_isi_ib {i : Int} : kIsi [.int i, .ty "bool"] H Q = Q (.bl false) H := isiE (t := "int") rfl (by decide) (by decide)
theorem w_isi_is {i : Int} : kIsi [.int i, .ty "str"] H Q = Q (.bl false) H := isiE (t := "int") rfl (by decide) (by decide)
theorem w_isi_bb {i : Bool} : kIsi [.bl i, .ty "bool"] H Q = Q (.bl true) H := isiE (t := "bool") rfl (by decide) (by decide)
theorem w_isi_bi {i : Bool} : kIsi [.bl i, .ty "int"] H Q = Q (.bl true) H := isiE (t := "bool") rfl (by decide) (by decide)
theorem w_isi_ss {i : Str} : kIsi [.str i, .ty "str"] H Q = Q (.bl true) H := isiE (t := "str") rfl (by decide) (by decide)
theorem w_isi_bs {i : Bool} : kIsi [.bl i, .ty "str"] H Q = Q (.bl false) H := isiE (t := "bool") rfl (by decide) (by decide)
theorem w_iteT {A B : Prop} : (if true = true then A else B) = A := if_pos rfl
theorem w_iteF {A B : Prop} : (if false = true then A else B) = B := if_neg Bool.false_ne_true
theorem w_negE {i : Int} : rU (fun i => .int (-i)) (.int i) H Q = Q (.int (-i)) H := by
  refine propext ⟨?_, fun h => ⟨i, rfl, h⟩⟩
  rintro ⟨j, e, h⟩
  cases e
  exact h
theorem ixT {p : Addr} {i : Int} {xs : List V} {v : V} (h : H p = some (.tup xs)) (e : atI xs i = some v) (q : Q v H) : cIx (.ref p) (.int i) H Q := by
  rw [w_ix h]; exact bnd_of e q
theorem ixL {p : Addr} {i : Int} {xs : List V} {v : V} (h : H p = some (.lst xs)) (e : atI xs i = some v) (q : Q v H) : cIx (.ref p) (.int i) H Q := by
  rw [w_ixL h]; exact bnd_of e q
theorem ixI {p : Addr} {i : Int} {ns : List Int} (h : H p = some (.lst (ns.map V.int))) (h0 : 0 ≤ i) (h1 : i < ns.length) (q : Q (.int (ns.getD i.toNat 0)) H) : cIx (.ref p) (.int i) H Q := ixL h (atI_ints h0 h1) q
end
end L2
set_option Elab.async false
set_option linter.all false
set_option maxRecDepth 100000
namespace L2
open PySem PySem.Spec PyProof.Rows
end L2
set_option Elab.async false
set_option linter.all false
set_option maxRecDepth 100000
namespace L2
open PySem PySem.Spec PyProof.Rows
end L2
set_option Elab.async false
set_option linter.all false
set_option maxRecDepth 100000
namespace L2
open PySem PySem.Spec PyProof.Rows
end L2
set_option Elab.async false
set_option linter.all false
set_option maxRecDepth 100000
namespace L2
open PySem PySem.Spec PyProof.Rows
end L2
set_option Elab.async false
set_option linter.all false
set_option maxRecDepth 100000
namespace L2
open PySem PySem.Spec PyProof.Rows
end L2
set_option Elab.async false
set_option linter.all false
set_option maxRecDepth 100000
namespace L2
open PySem PySem.Spec PyProof.Rows
def cMulB : R2
  | .int i, .int j, H, Q => IntMulOk i j ∧ Q (.int (i * j)) H
  | _, _, _, _ => False
end L2
namespace Att
open PySem PySem.W PySem.Calls PyProof.Rows
end Att
namespace L2
open PySem PySem.Spec PyProof.Rows
section
variable {K : PySem.W.Frag} {H : Hp} {Q : VK} {D : Ends} {σ : St}
theorem w_mulB {i j : Int} : cMulB (.int i) (.int j) H Q = (IntMulOk i j ∧ Q (.int (i * j)) H) := rfl
theorem w_pow {i j : Int} : cPow (.int i) (.int j) H Q = (CPow i j ∧ Q (.int (i ^ j.toNat)) H) := rfl
theorem w_any {p : Addr} {bs : List Bool} (hp : H p = some (.lst (bs.map V.bl))) (h : Q (.bl (bs.any id)) H) : kAny [.ref p] H Q := by
  show bnd (unL (H p)) _
  rw [hp]
  exact bnd_of (a := bs.map V.bl) rfl ⟨bs, rfl, h⟩
end
end L2
set_option Elab.async false
set_option linter.all false
set_option maxRecDepth 100000
namespace L2
open PySem PySem.Spec PyProof.Rows
inductive RK where
  | Rule | Unlike | Sum | Rising | Seen | Count | Joined | NoSquare | Ring
  deriving DecidableEq
structure RCl (ι : Type) where
  A : ι → Addr
  ok : ι → Bool
section
variable {ι : Type}
def tFldK (c : RCl ι) (ta : TE) (f : Str) : TE := fun σ H Q => ta σ H fun x H1 => ∃ a k dx fs v, x = .ref a ∧ c.ok k = true ∧ H1 a = some (.ins (c.A k) dx fs) ∧ fs.lookup f = some v ∧ Q v H1
def sFldK (c : RCl ι) (ta tv : TE) (f : Str) : TS := fun D σ H => tv σ H fun y H1 => ta σ H1 fun x H2 => ∃ a k dx fs, x = .ref a ∧ c.ok k = true ∧ H2 a = some (.ins (c.A k) dx fs) ∧ fs.length < 1000 ∧
  D.nx σ (upd H2 a (.ins (c.A k) dx (putF f y fs)))
def tMethK (c : RCl ι) (okm : ι → Bool) (m : Str) (sp : ι → Sp) (ta : TE) (t : TA) : TE := fun σ H Q => ta σ H fun x H1 => ∃ a k dx fs, x = .ref a ∧ okm k = true ∧ H1 a = some (.ins (c.A k) dx fs) ∧ fs.lookup m = none ∧
  t σ H1 fun vs H2 => sp k (x :: vs) H2 Q E0
structure FldK (K : PySem.W.Frag) (c : RCl ι) (f : Str) : Prop where
  ex : ∀ k, c.ok k = true → Cls K (c.A k) ∧ NoAttr K (c.A k) f
structure MCal (P : Program) (w : World) (K : PySem.W.Frag) (mg : Str → Option Value) (base : Heap) (c : RCl ι) (okm : ι → Bool) (k : Nat) (m : Str) (ps : List Str) (sp : ι → Sp) : Prop where
  ex : ∀ i, okm i = true → ∃ (f : Addr) (fd : FuncData), Cls K (c.A i) ∧ Meth K (c.A i) m f ∧ FnOk P w K mg base CX0 k f fd ps (sp i) ∧ Binds K fd ps []
structure KCal (P : Program) (w : World) (K : PySem.W.Frag) (mg : Str → Option Value) (base : Heap) (k : Nat) (x : Str) (C : Addr) (ps : List Str) (sp : Sp) : Prop where
  ex : ∃ (f : Addr) (fd : FuncData), Mk K C f ∧ FnOk P w K mg base CX0 k f fd ps sp ∧ mg x = some (.ref C) ∧ Binds K fd ps []
end
section
variable {ι : Type} {X : Cx} {c : RCl ι} {o e value : Expr} {es : List Expr} {f x m : Str} {p pos pos' apos : Pos} {ta tv : TE} {t : TA} {okm : ι → Bool} {k n : Nat} {ps : List Str} {sp : ι → Sp} {sp1 : Sp} {C : Addr}
theorem pe_fldK (he : PE X e ta) (F : FldK X.K c f) (hb : attributeBase e f X.env (eval e X.env) = eval e X.env := by rfl) : PE X (.Attribute e f pos) (tFldK c ta f) := by
  intro pins s σ H Q I h
  refine attr_of hb (thn (he pins s σ H _ I h) fun u s1 ⟨x, H1, I1, rx, a, k, dx, fs, v, ex, hk, ea, l, q⟩ => ?_)
  subst ex
  obtain rfl : u = Value.ref a := rx
  obtain ⟨cl, na⟩ := F.ex k hk
  exact getattr_ok I1 ea cl na l fun u' s2 I2 ru => ⟨v, H1, I2, ru, q⟩
theorem ps_fldK (ha : PE X o ta) (hv : PE X value tv) (F : FldK X.K c f) (hs : swapsWith value (some (.Attribute o f pos')) pos.line X.env = pure false := by rfl) : PS X (.Assign [.Attribute o f pos'] value pos) (sFldK c ta tv f) := by
  intro pins s σ H D I h
  refine plainObj_wpAny_Assign_Attribute (thn (hv pins s σ H _ I h) fun u s1 ⟨y, H1, I1, ry, q⟩ => thn (ha pins s1 σ H1 _ I1 q) fun ov s2 ⟨x, H2, I2, rx, a, k, dx, fs, ex, hk, ea, l, q2⟩ => ?_) hs
  subst ex
  obtain rfl : ov = Value.ref a := rx
  obtain ⟨cl, na⟩ := F.ex k hk
  exact setattr_ok I2 ea cl na l ry fun s3 I3 => ⟨σ, _, I3, q2⟩
theorem pe_methK0 {pl : Sem Bool} (M : MCal X.prog X.w X.K X.mg X.base c okm k m ps sp) (hr : Room n X.A) (hk : k ≤ n) (he : PE X o ta)
    (ht : eval (.Call (.Attribute o m apos) [] [] pos) X.env = (do
      let ov ← eval o X.env
      standAt apos.atName
      let (f, first) ← holding [ov] (getMethod ov m pl)
      callWith pos f first (backTo pos (starEach [] X.env)) (backToKw pos (keywordEach [] X.env))) := by rfl) :
    PE X (.Call (.Attribute o m apos) [] [] pos) (tMethK c okm m sp ta tNil) := by
  intro pins s σ H Q I h
  refine PySem.W.methodCall_KW (pl := pl) (thn (he pins s σ H _ I h) fun u s1 ⟨x, H1, I1, rx, a, i, dx, fs, ex, hi, ea, l, q⟩ => ?_) ht
  subst ex
  obtain rfl : u = Value.ref a := rx
  obtain ⟨f, fd, cl, hm, F, hb⟩ := M.ex i hi
  refine getmeth_ok I1 ea cl hm l ?_
  exact PySem.W.callWith_K0 (first := [.ref a]) I1.kIn hm.kp (run_fn (us := [.ref a]) (vs := [.ref a]) F (hr.mono hk) hb .nil pass0 I1 (.cons rfl .nil) q)
theorem pe_mk (M : KCal X.prog X.w X.K X.mg X.base k x C ps sp1) (hr : Room n X.A) (hk : k + 1 ≤ n) (hg : Gl X x) (ha : PA X (e :: es) t)
    (hdb : (x == ("__debug__" : Str)) = false := by decide) (he : starEach (e :: es) X.env = (false, eval e X.env) :: starEach es X.env := by rfl) (hpl : (backTo pos (starEach es X.env)).any (·.1) = false := by rfl) :
    PE X (.Call (.Name x p) (e :: es) [] pos) (tMake C sp1 [] E0 t) := by
  obtain ⟨f, fd, mk, F, hm, hb⟩ := M.ex
  exact pe_make mk F (hr.mono hk) hg hm hb .nil pass0 ha hdb he hpl
end
def kTuple (K : PySem.W.Frag) : List V → Hp → VK → Prop
  | [.ref p], H, Q => bnd (unM (H p)) fun ys => ∀ l, H l = none → Q (.ref l) (upd H l (.tup ys))
  | _, _, _ => False
def tInG (ws : List Str) (neg : Bool) (te : TE) : TE := fun σ H Q => te σ H fun x H1 => ∃ z, x = .str z ∧ Q (.bl (if neg then !decide (z ∈ ws) else decide (z ∈ ws))) H1
structure GTup (K : PySem.W.Frag) (mg : Str → Option Value) (x : Str) (ws : List Str) : Prop where
  ex : ∃ (p : Addr) (o : Obj) (its : Array Value) (n : Nat), mg x = some (.ref p) ∧ K.lookup p = some o ∧ o.cls = .type "tuple" ∧ o.data = .seq its n ∧ its.size ≤ sizeLine ∧ Vals (ws.map V.str) its.toList
theorem flat_strs : ∀ ns : List Str, (ns.map V.str).all flatV = true
  | [] => rfl
  | n :: r => by rw [List.map_cons, List.all_cons, flat_strs r]; rfl
theorem inV_strs (i : Str) : ∀ ns : List Str, inV (.str i) (ns.map V.str) = decide (i ∈ ns)
  | [] => by simp [inV]
  | n :: r => by
    have ih := inV_strs i r
    unfold inV at ih ⊢
    rw [List.map_cons, List.any_cons, ih]
    show ((n == i) || decide (i ∈ r)) = decide (i ∈ n :: r)
    rw [Bool.eq_iff_iff, Bool.or_eq_true, beq_iff_eq, decide_eq_true_eq, decide_eq_true_eq, List.mem_cons]
    exact ⟨fun h => h.elim (fun e => .inl e.symm) .inr, fun h => h.elim (fun e => .inl e.symm) .inr⟩
section
variable {X : Cx} {a : Expr} {ta : TE} {pos p : Pos} {x : Str} {ws : List Str}
theorem call_kTuple : CallR X (.type "tuple") (kTuple X.K) := by
  intro pins s σ H xs us Q I r h
  unfold kTuple at h
  split at h
  · obtain ⟨ys, e, q⟩ := bnd_ex h
    exact call_tuple_of pins s σ H _ us Q I r ⟨_, ys, rfl, .inl ⟨SqL.of (unM_ex e), q⟩⟩
  · exact h.elim
theorem op_inG {ws : List Str} {q : Addr} (hq : ∃ (o : Obj) (its : Array Value) (n : Nat), X.K.lookup q = some o ∧ o.cls = .type "tuple" ∧ o.data = .seq its n ∧ its.size ≤ sizeLine ∧ Vals (ws.map V.str) its.toList) :
    OpR X (compareOp .In) (fun x y H Q => ∃ z, x = .str z ∧ y = .ref q ∧ Q (.bl (decide (z ∈ ws))) H) := by
  intro pins s σ H x y v u Q I rx ry h
  obtain ⟨z, rfl, rfl, h⟩ := h
  refine op_in_seq pins s σ H _ _ v u Q I rx ry ⟨q, ws.map V.str, rfl, .inr (.inr hq), rfl, flat_strs ws, ?_⟩
  rw [inV_strs]
  exact h
theorem op_ninG {ws : List Str} {q : Addr} (hq : ∃ (o : Obj) (its : Array Value) (n : Nat), X.K.lookup q = some o ∧ o.cls = .type "tuple" ∧ o.data = .seq its n ∧ its.size ≤ sizeLine ∧ Vals (ws.map V.str) its.toList) :
    OpR X (compareOp .NotIn) (fun x y H Q => ∃ z, x = .str z ∧ y = .ref q ∧ Q (.bl (!decide (z ∈ ws))) H) := by
  intro pins s σ H x y v u Q I rx ry h
  obtain ⟨z, rfl, rfl, h⟩ := h
  refine op_notIn_seq pins s σ H _ _ v u Q I rx ry ⟨q, ws.map V.str, rfl, .inr (.inr hq), rfl, flat_strs ws, ?_⟩
  rw [inV_strs]
  exact h
end
section
variable {ι : Type} {c : RCl ι} {ta tv : TE} {t : TA} {f m : Str} {σ : St} {H : Hp} {Q : VK} {D : Ends} {okm : ι → Bool} {sp : ι → Sp} {sp1 : Sp} {C : Addr} {K : PySem.W.Frag}
theorem w_make : tMake C sp1 [] E0 t σ H Q = t σ H fun vs H1 => ∀ x dx, H1 x = none → H1 dx = none → dx ≠ x → sp1 (.ref x :: (vs ++ [])) (upd (upd H1 dx (.own x)) x (.ins C dx [])) (fun v H2 => v = .non ∧ Q (.ref x) H2) E0 := rfl
theorem w_inG {ws : List Str} {neg : Bool} {te : TE} : tInG ws neg te σ H Q = te σ H fun x H1 => ∃ z, x = .str z ∧ Q (.bl (if neg then !decide (z ∈ ws) else decide (z ∈ ws))) H1 := rfl
theorem w_tuple {p : Addr} {xs : List V} (hp : H p = some (.lst xs)) (h : ∀ l, H l = none → Q (.ref l) (upd H l (.tup xs))) : kTuple K [.ref p] H Q := by
  unfold kTuple
  dsimp only
  rw [hp]
  exact h
end
end L2
set_option Elab.async false
set_option linter.all false
set_option maxRecDepth 100000
namespace L2
open PySem PySem.Spec PyProof.Rows
def cntD (ns : List Int) : Nat := (firstMet (fun i => ns.getD i 0) ns.length).length
def tLenSet (te : TE) : TE := fun σ H Q => te σ H fun x H1 => ∃ p ns, x = .ref p ∧ H1 p = some (.lst (ns.map V.int)) ∧ ns.length ≤ 900 ∧ Q (.int (cntD ns : Nat)) H1
theorem w_lenset {te : TE} {σ : St} {H : Hp} {Q : VK} : tLenSet te σ H Q = te σ H fun x H1 => ∃ p ns, x = .ref p ∧ H1 p = some (.lst (ns.map V.int)) ∧ ns.length ≤ 900 ∧ Q (.int (cntD ns : Nat)) H1 := rfl
theorem bt_set' : bootBuiltins "set" = some (.type "set") := by decide +kernel
theorem pe_lenset {X : Cx} {e : Expr} {te : TE} {p p2 pos pos2 : Pos} (hc : X.calm = true) (hgl : Gl X "len") (hgs : Gl X "set") (hl : X.mg "len" = none) (hs : X.mg "set" = none) (he : PE X e te)
    (hs1 : starEach [.Call (.Name "set" p2) [e] [] pos2] X.env = [(false, eval (.Call (.Name "set" p2) [e] [] pos2) X.env)] := by rfl) (hs2 : starEach [e] X.env = [(false, eval e X.env)] := by rfl) :
    PE X (.Call (.Name "len" p) [.Call (.Name "set" p2) [e] [] pos2] [] pos) (tLenSet te) := by
  intro pins s σ H Q I h
  refine wpAny_Call_Name_kw (ld_blt I hgl hl bt_len ?_ (by decide) (by decide))
  refine PyProof.Rows.callWith_builtin1 ?_ hs1 rfl
  rw [hs1]
  show wpAny _ _ (spliced [(false, eval (.Call (.Name "set" p2) [e] [] pos2) X.env)]) _ _ s
  refine Calls.spliced_cons ?_
  refine wpAny_Call_Name_kw (ld_blt I hgs hs bt_set' ?_ (by decide) (by decide))
  refine PyProof.Rows.callWith_type1 ?_ hs2 rfl
  rw [hs2]
  show wpAny _ _ (spliced [(false, eval e X.env)]) _ _ s
  refine Calls.spliced_cons (thn (he pins s σ H _ I h) fun u s1 ⟨x, H1, I1, r1, q1⟩ => ?_)
  refine Calls.spliced_nil ?_
  obtain ⟨l, ns, rfl, hys, hn, q⟩ := q1
  cases r1
  obtain ⟨its, n, rv, ho, hz⟩ := I1.lst hys
  have hL : s1.heap.IsList l its.toArray := ⟨_, ho, rfl, n, rfl⟩
  have hI : IntsAre its ns := intsAre_of rv
  have hlen := rv.length
  rw [List.length_map] at hlen
  refine call_set_list (ns := ns) (I.ok.hd hc) hL (by simpa using hI) (by rw [List.size_toArray, ← hlen]; exact Nat.lt_of_le_of_lt (Nat.succ_le_succ hn) (by decide)) fun h' tk hS old => ?_
  refine Calls.spliced_nil ?_
  obtain ⟨o, es, ep, t, h1, h2, h3, h4, h5, h6, h7, h8⟩ := hS
  have hb : (firstMet (fun i => ns.getD i 0) its.toArray.size).length ≤ 900 := Nat.le_trans (firstMet_length_le _ _) (by rw [List.size_toArray, ← hlen]; exact hn)
  refine call_len_set h1 h2 h3 h7 (by omega) ?_
  have I2 : Inv X pins σ H1 { s1 with heap := h', toks := tk } := I1.kept fun b o' e => old b o' (Heap.lt_size e) e
  refine ⟨.int _, H1, I2.tok _, ⟨_, rfl⟩, ?_⟩
  rw [h8, List.size_toArray, ← hlen]
  exact q
def kJoin2 : V → List V → Hp → VK → Prop
  | .str sep, [.ref p], H, Q => bnd (unS (H p)) fun ys => ∃ ts : List Str, ys = ts.map V.str ∧ JoinOk sep ts = true ∧ Q (.str (Txt.join sep ts)) H
  | _, _, _, _ => False
theorem mt_kJoin2 {X : Cx} : MtR X "str.join" kJoin2 := by
  intro pins s σ H x vs v us Q I rx rv h
  unfold kJoin2 at h
  split at h
  · rename_i sep p
    obtain ⟨ys, e, ts, rfl, hok, q⟩ := bnd_ex h
    rcases unS_sq (K := X.K) e with hq | hq
    · obtain ⟨t, rfl⟩ := rx
      obtain ⟨u, rfl, ru⟩ := vals1 rv
      cases ru
      obtain ⟨its, rvv, pl, hz⟩ := I.list hq
      obtain ⟨l, rfl, hl⟩ := strs_of rvv
      exact SC.join pl.isList hl hok fun t' k => ⟨.str _, H, I.tok k, ⟨t', rfl⟩, q⟩
    · obtain ⟨t, rfl⟩ := rx
      obtain ⟨u, rfl, ru⟩ := vals1 rv
      cases ru
      obtain ⟨its, rvv, pl, hz⟩ := I.tuple hq
      obtain ⟨l, rfl, hl⟩ := strs_of rvv
      subst hl
      obtain ⟨o, h1, h2, n, h3⟩ := pl
      have hok' := hok
      unfold JoinOk at hok'
      rw [Bool.not_eq_true'] at hok'
      exact call_meets F.slot_str_join (typeIs_str _ _ _) F.entry_str_join (F.args_str_join_2 _ _) (meets_str_join_tuple sep t p l hok') ⟨⟨o, n, h1, h2, h3⟩, post_join l ⟨joinFit_length hok', fun t' k => ⟨.str _, H, I.tok k, ⟨t', rfl⟩, q⟩⟩⟩
  · exact h.elim
end L2
set_option Elab.async false
set_option linter.all false
set_option maxRecDepth 100000
namespace L2
open PySem PySem.Spec PyProof.Rows
section
variable {X : Cx} {e : Expr} {te : TE} {p2 p3 p4 pos : Pos} {z0 : Nat}
def kPopAt : V → List V → Hp → VK → Prop
  | .ref l, [.int i], H, Q => bnd (unM (H l)) fun xs => 0 ≤ i ∧ i < xs.length ∧ bnd (xs[i.toNat]?) fun y => Q y (upd H l (.lst (xs.eraseIdx i.toNat)))
  | _, _, _, _ => False
theorem seqIx {i : Int} {n : Nat} (h0 : 0 ≤ i) (h1 : i < n) : seqIndex? i n = some i.toNat := by
  obtain ⟨k, rfl⟩ := Int.eq_ofNat_of_zero_le h0
  have hk : k < n := by omega
  unfold seqIndex?
  have hn : ¬ ((k : Int) < 0) := by omega
  simp [hk, hn]
theorem mt_kPopAt : MtR X "list.pop" kPopAt := by
  intro pins s σ H x vs v us Q I rx rv h
  unfold kPopAt at h
  split at h
  · obtain ⟨xs, e, h0, h1, h⟩ := bnd_ex h
    obtain ⟨y, ey, q⟩ := bnd_ex h
    have hz : xs.length ≤ sizeLine := (I.lstM (unM_ex e)).1
    have hs : (sizeLine : Int) < 2 ^ 63 := by decide
    exact mt_popAt pins s σ H _ _ v us Q I rx rv ⟨_, xs, _, _, y, rfl, rfl, unM_ex e, by omega, by omega, seqIx h0 h1, ey, q⟩
  · exact h.elim
def tRevL (te : TE) : TE := fun σ H Q => te σ H fun x H1 => ∃ p xs, x = .ref p ∧ H1 p = some (.lst xs) ∧ ∀ l, H1 l = none → Q (.ref l) (upd H1 l (.lst xs.reverse))
end
section
variable {σ : St} {H : Hp} {Q : VK} {te : TE}
theorem w_max {i j : Int} {H : Hp} {Q : VK} : kMax [.int i, .int j] H Q = Q (.int (if j > i then j else i)) H := rfl
theorem w_revL : tRevL te σ H Q = te σ H fun x H1 => ∃ p xs, x = .ref p ∧ H1 p = some (.lst xs) ∧ ∀ l, H1 l = none → Q (.ref l) (upd H1 l (.lst xs.reverse)) := rfl
theorem w_popAt {l : Addr} {i : Int} {xs : List V} {y : V} (hl : H l = some (.lst xs)) (h0 : 0 ≤ i) (h1 : i < xs.length) (ey : xs[i.toNat]? = some y) (q : Q y (upd H l (.lst (xs.eraseIdx i.toNat)))) : kPopAt (.ref l) [.int i] H Q := by
  show bnd (unM (H l)) _
  rw [hl]
  exact bnd_of (a := xs) rfl ⟨h0, h1, bnd_of ey q⟩
end
end L2
set_option Elab.async false
set_option linter.all false
set_option maxRecDepth 100000
namespace L2
open PySem PySem.Spec PyProof.Rows
theorem str_no_int : typeLookup (.type "str") (Str.ofString "__int__") = pure none := by rw [typeLookup_type, builtinLookup_eq_fast]; kernel_rfl
theorem str_no_index : typeLookup (.type "str") (Str.ofString "__index__") = pure none := by rw [typeLookup_type, builtinLookup_eq_fast]; kernel_rfl
theorem str_no_trunc : typeLookup (.type "str") (Str.ofString "__trunc__") = pure none := by rw [typeLookup_type, builtinLookup_eq_fast]; kernel_rfl
def numC (n : Nat) : List Nat := if n < 10 then [48 + n] else [48 + n / 10, 48 + n % 10]
theorem num_ascii {n : Nat} (h : n < 100) : ((tx (numC n)).cps.all fun x => decide (x < 128)) = true := by
  have t : ((List.range 100).all fun n => (tx (numC n)).cps.all fun x => decide (x < 128)) = true := by decide +kernel
  exact List.all_eq_true.mp t n (List.mem_range.mpr h)
theorem wpAny_eqm {α : Type} {M : Model} {A : Around} {E : Value → Shared → Prop} {s : Shared} {Q : α → Shared → Prop} {m m' : Sem α} (e : m = m') (h : wpAny M A m' Q E s) : wpAny M A m Q E s := e ▸ h
set_option maxHeartbeats 4000000 in
theorem gis (n : Nat) (hn : n < 100) (u : Tok) : Gives (Builtin.«int.__new__» ⟨[.type "int", .str (tx (numC n)) u], []⟩) (.int n) :=
  .of_wp fun M A E s Q h => by
    obtain ⟨hp, g, d, tk, os⟩ := s
    have f1 := PySem.F.conv_sub_int
    have f2 := PySem.F.madeHere_int
    have f3 := str_no_int
    have f4 := str_no_index
    have f5 := str_no_trunc
    iterate 44 (any_goals (first | assumption | wp_step))
    refine wpAny_bind (wpAny_of_eq (a := some (tx (numC n))) rfl ?_)
    refine wpAny_of_eq (a := some (numC n)) ?e1 ?_
    case e1 =>
      show (pure (some (if ((tx (numC n)).cps.all fun x => decide (x < 128)) = true then (tx (numC n)).cps.toList else _)) : Sem _) = _
      rw [if_pos (num_ascii hn), tx_cps]
    refine wpAny_eqm (m' := mkInt (n : Int)) ?e2 ?_
    case e2 =>
      clear h f1 f2 f3 f4 f5
      match n, hn with | 0, _ => kernel_rfl | 1, _ => kernel_rfl | 2, _ => kernel_rfl | 3, _ => kernel_rfl | 4, _ => kernel_rfl | 5, _ => kernel_rfl | 6, _ => kernel_rfl | 7, _ => kernel_rfl | 8, _ => kernel_rfl | 9, _ => kernel_rfl | 10, _ => kernel_rfl | 11, _ => kernel_rfl | 12, _ => kernel_rfl | 13, _ => kernel_rfl | 14, _ => kernel_rfl | 15, _ => kernel_rfl | 16, _ => kernel_rfl | 17, _ => kernel_rfl | 18, _ => kernel_rfl | 19, _ => kernel_rfl | 20, _ => kernel_rfl | 21, _ => kernel_rfl | 22, _ => kernel_rfl | 23, _ => kernel_rfl | 24, _ => kernel_rfl | 25, _ => kernel_rfl | 26, _ => kernel_rfl | 27, _ => kernel_rfl | 28, _ => kernel_rfl | 29, _ => kernel_rfl | 30, _ => kernel_rfl | 31, _ => kernel_rfl | 32, _ => kernel_rfl | 33, _ => kernel_rfl | 34, _ => kernel_rfl | 35, _ => kernel_rfl | 36, _ => kernel_rfl | 37, _ => kernel_rfl | 38, _ => kernel_rfl | 39, _ => kernel_rfl | 40, _ => kernel_rfl | 41, _ => kernel_rfl | 42, _ => kernel_rfl | 43, _ => kernel_rfl | 44, _ => kernel_rfl | 45, _ => kernel_rfl | 46, _ => kernel_rfl | 47, _ => kernel_rfl | 48, _ => kernel_rfl | 49, _ => kernel_rfl | 50, _ => kernel_rfl | 51, _ => kernel_rfl | 52, _ => kernel_rfl | 53, _ => kernel_rfl | 54, _ => kernel_rfl | 55, _ => kernel_rfl | 56, _ => kernel_rfl | 57, _ => kernel_rfl | 58, _ => kernel_rfl | 59, _ => kernel_rfl | 60, _ => kernel_rfl | 61, _ => kernel_rfl | 62, _ => kernel_rfl | 63, _ => kernel_rfl | 64, _ => kernel_rfl | 65, _ => kernel_rfl | 66, _ => kernel_rfl | 67, _ => kernel_rfl | 68, _ => kernel_rfl | 69, _ => kernel_rfl | 70, _ => kernel_rfl | 71, _ => kernel_rfl | 72, _ => kernel_rfl | 73, _ => kernel_rfl | 74, _ => kernel_rfl | 75, _ => kernel_rfl | 76, _ => kernel_rfl | 77, _ => kernel_rfl | 78, _ => kernel_rfl | 79, _ => kernel_rfl | 80, _ => kernel_rfl | 81, _ => kernel_rfl | 82, _ => kernel_rfl | 83, _ => kernel_rfl | 84, _ => kernel_rfl | 85, _ => kernel_rfl | 86, _ => kernel_rfl | 87, _ => kernel_rfl | 88, _ => kernel_rfl | 89, _ => kernel_rfl | 90, _ => kernel_rfl | 91, _ => kernel_rfl | 92, _ => kernel_rfl | 93, _ => kernel_rfl | 94, _ => kernel_rfl | 95, _ => kernel_rfl | 96, _ => kernel_rfl | 97, _ => kernel_rfl | 98, _ => kernel_rfl | 99, _ => kernel_rfl | (m + 100), hm => exact absurd hm (by omega)
    repeat (any_goals (first | assumption | wp_step))
    all_goals first | exact ⟨_, rfl, h⟩ | skip
def kInt2 : List V → Hp → VK → Prop
  | [.int i], H, Q => Q (.int i) H
  | [.bl k], H, Q => Q (.int (if k then 1 else 0)) H
  | [.str z], H, Q => ∃ n : Nat, n < 100 ∧ z = tx (numC n) ∧ Q (.int n) H
  | _, _, _ => False
theorem call_kInt2 {X : Cx} : CallR X (.type "int") kInt2 := by
  intro pins s σ H xs us Q I r h
  unfold kInt2 at h
  split at h
  · exact call_int1 pins s σ H _ us Q I r (.inl ⟨_, rfl, h⟩)
  · exact call_int1 pins s σ H _ us Q I r (.inr ⟨_, rfl, h⟩)
  · obtain ⟨n, hn, rfl, q⟩ := h
    obtain ⟨u, rfl, ru⟩ := vals1 r
    obtain ⟨t, rfl⟩ := ru
    exact call_int_1 (gis n hn t).meets (show (Made.int (n : Int)).post _ s from ⟨rfl, ⟨.int n, H, I.tok _, ⟨_, rfl⟩, q⟩⟩)
  · exact h.elim
theorem w_int2B {k : Bool} {H : Hp} {Q : VK} : kInt2 [.bl k] H Q = Q (.int (if k then 1 else 0)) H := rfl
theorem w_int2I {i : Int} {H : Hp} {Q : VK} : kInt2 [.int i] H Q = Q (.int i) H := rfl
theorem num_str {n : Nat} (h : n < 100) : Str.ofString (toString (n : Int)) = tx (numC n) := by
  have t : ((List.range 100).all fun (n : Nat) => decide (Str.ofString (toString (n : Int)) = tx (numC n))) = true := by decide +kernel
  simpa using List.all_eq_true.mp t n (List.mem_range.mpr h)
theorem num_free {n : Nat} (h : n < 100) : 32 ∉ numC n := by
  have t : ((List.range 100).all fun (n : Nat) => decide (32 ∉ numC n)) = true := by decide +kernel
  simpa using List.all_eq_true.mp t n (List.mem_range.mpr h)
theorem num_ne {n : Nat} (h : n < 100) : numC n ≠ [] := by unfold numC; split <;> simp
theorem num_len {n : Nat} : (numC n).length ≤ 2 := by unfold numC; split <;> simp
theorem num_head {n : Nat} (h : n < 100) : ((numC n).head? = some 48 → n = 0) ∧ numC 0 = [48] := by
  have t : ((List.range 100).all fun (n : Nat) => decide ((numC n).head? = some 48 → n = 0)) = true := by decide +kernel
  exact ⟨of_decide_eq_true (List.all_eq_true.mp t n (List.mem_range.mpr h)), rfl⟩
theorem num_dig {n : Nat} (h : n < 100) : ∀ c ∈ numC n, 48 ≤ c ∧ c ≤ 57 := by
  have t : ((List.range 100).all fun (n : Nat) => (numC n).all fun c => decide (48 ≤ c ∧ c ≤ 57)) = true := by decide +kernel
  intro c hc
  simpa using List.all_eq_true.mp (List.all_eq_true.mp t n (List.mem_range.mpr h)) c hc
end L2
set_option Elab.async false
set_option linter.all false
set_option maxRecDepth 100000
namespace L2
open PySem PySem.Spec PyProof.Rows
local macro_rules | `(tactic| walk_at "w") => `(tactic| (first | simp only [w_seq, w_next, w_asg, w_gname, w_var, w_c, w_op, w_ret, w_retN, w_drop, w_test, w_b, w_not, w_and, w_or, w_notV, w_andV, w_orV, w_nil, w_cons, w_cb, w_call, w_tup, w_lst, w_bm, w_bm0, w_true, w_dnew, w_dput, w_forL, w_forR1, w_forR2, w_compL, w_compR1, w_scompL, w_scompR1, w_add, w_sub, w_mul, w_div, w_mod, w_cmp, w_eqI, w_neI, w_eqB, w_neB, w_abs, w_min, w_sl, w_part, w_nopart, w_gsub, w_un, w_forS, w_compS, w_scompS, w_eqS, w_neS, w_lenS, w_addS, w_find,
  List.getElem?_cons_zero, List.getElem?_cons_succ, Option.some.injEq, exists_eq_left', exists_eq_left, List.set_cons_zero, List.set_cons_succ, bnd_some, V.int.injEq, V.bl.injEq, V.ref.injEq, V.str.injEq, List.append_nil, List.nil_append, List.cons_append] | dsimp only | skip))
def sp_many_cells (K : PySem.W.Frag) : Sp := fun vs H Q _ => ∃ (a : Addr) (h w g : Int), vs = [.ref a] ∧ IsFl H a h w g ∧ 1 ≤ h ∧ h ≤ 6 ∧ Q (.int (h * w)) H
theorem sl_many_cells {K : PySem.W.Frag} {vs : List V} {H : Hp} {Q : VK} {E : XK} (h : sp_many_cells K vs H Q E) : vs.length = 1 := by
  obtain ⟨_, _, _, _, rfl, _⟩ := h; rfl
def rd_many_cells (K : PySem.W.Frag) : TS :=
  (tRet (tOp cMul (tOp cIx (tVar 0) (tC (.int 0))) (tOp cIx (tVar 0) (tC (.int 1)))))
theorem rk_many_cells {K : PySem.W.Frag} {vs : List V} {H : Hp} {Q : VK} {E : XK} (h : sp_many_cells K vs H Q E) : rd_many_cells K { nx := fun _ H' => Q .non H', rt := Q } (start ["floor"] vs) H := by
  obtain ⟨a, h, w, g, rfl, ha, h0, h1, q⟩ := h
  show rd_many_cells K _ [some (.ref a)] H
  unfold rd_many_cells
  walk_at "w"
  rw [w_ix ha]
  refine bnd_of (a := V.int h) rfl ?_
  walk_at "w"
  rw [w_ix ha]
  refine bnd_of (a := V.int w) rfl ?_
  walk_at "w"
  exact ⟨mul_small h0 h1, q⟩
end L2
set_option Elab.async false
set_option linter.all false
set_option maxRecDepth 100000
namespace L2
open PySem PySem.Spec PyProof.Rows
local macro_rules | `(tactic| walk_at "w") => `(tactic| (first | simp only [w_seq, w_make, w_inG, w_lenset, w_revL, w_int2B, w_int2I, w_max, w_isN, w_notN, w_pow, if_true, if_false, Bool.false_eq_true, decide_true, decide_false, w_lrng1, w_lrng2, w_ifE, w_compR2, w_scompR2, w_forRD, w_forE, w_compE, w_scompE, w_intB, w_intI, w_bitlen, w_shr, w_isi_ii, w_isi_ib, w_isi_bb, w_isi_bi, w_isi_ss, w_isi_bs, w_isi_is, w_iteT, w_iteF, w_negE, w_bitI, w_str, Bool.not_true, Bool.not_false, w_next, w_asg, w_gname, w_var, w_c, w_op, w_ret, w_retN, w_drop, w_test, w_b, w_not, w_and, w_or, w_notV, w_andV, w_orV, w_nil, w_cons, w_cb, w_call, w_tup, w_lst, w_bm, w_bm0, w_true, w_dnew, w_dput, w_forL, w_forR1, w_forR2, w_compL, w_compR1, w_scompL, w_scompR1, w_add, w_sub, w_mul, w_div, w_mod, w_cmp, w_eqI, w_neI, w_eqB, w_neB, w_abs, w_min, w_sl, w_part, w_nopart, w_gsub, w_un, w_forS, w_compS, w_scompS, w_eqS, w_neS, w_lenS, w_addS, w_find,
  List.getElem?_cons_zero, List.getElem?_cons_succ, Option.some.injEq, exists_eq_left', exists_eq_left, List.set_cons_zero, List.set_cons_succ, bnd_some, V.int.injEq, V.bl.injEq, V.ref.injEq, V.str.injEq, List.append_nil, List.nil_append, List.cons_append] | dsimp only | skip))
def nmC : RK → List Nat
  | .Rule => []
  | .Unlike => [117, 110, 108, 105, 107, 101]
  | .Sum => [115, 117, 109]
  | .Rising => [114, 105, 115, 105, 110, 103]
  | .Seen => [115, 101, 101, 110]
  | .Count => [99, 111, 117, 110, 116]
  | .Joined => [106, 111, 105, 110, 101, 100]
  | .NoSquare => [110, 111, 115, 113, 117, 97, 114, 101]
  | .Ring => [114, 105, 110, 103]
def gt_WITH_NUMBER : List Str := [tx [115, 117, 109], tx [115, 101, 101, 110], tx [99, 111, 117, 110, 116]]
def gt_WITH_SIGN : List Str := [tx [99, 111, 117, 110, 116], tx [106, 111, 105, 110, 101, 100], tx [110, 111, 115, 113, 117, 97, 114, 101], tx [114, 105, 110, 103]]
def gt_OF_ALL_CELLS : List Str := [tx [106, 111, 105, 110, 101, 100], tx [110, 111, 115, 113, 117, 97, 114, 101], tx [114, 105, 110, 103]]
def rFs (p W C : Addr) (n m : Int) : List (Str × V) := [("floor", .ref p), ("words", .ref W), ("cells", .ref C), ("amount", .int n), ("mark", .int m)]
structure IsRule (H : Hp) (c : RCl RK) (k : RK) (r p : Addr) (ws : List (List Nat)) (cs : List Int) (n m : Int) : Prop where
  ok : c.ok k = true
  ex : ∃ dx W C, H r = some (.ins (c.A k) dx (rFs p W C n m)) ∧ H W = some (.tup ((ws.map tx).map V.str)) ∧ H C = some (.tup (cs.map V.int))
theorem IsRule.same {H H' : Hp} {c : RCl RK} {k : RK} {r p : Addr} {ws : List (List Nat)} {cs : List Int} {n m : Int} (x : IsRule H c k r p ws cs n m) (s : Same H H') : IsRule H' c k r p ws cs n m := by
  obtain ⟨dx, W, C, h1, h2, h3⟩ := x.ex
  exact ⟨x.ok, dx, W, C, s _ _ h1, s _ _ h2, s _ _ h3⟩
section
variable {ι : Type} {c : RCl ι} {σ : St} {H : Hp} {Q : VK} {i : Nat} {r dx : Addr} {k : ι} {fs : List (Str × V)} {f m : Str} {v : V} {okm : ι → Bool} {sp : ι → Sp} {t : TA} {D : Ends} {tv : TE} {y : V} {H1 : Hp}
theorem fldE (hσ : σ[i]? = some (some (.ref r))) (ok : c.ok k = true) (hr : H r = some (.ins (c.A k) dx fs)) (hl : fs.lookup f = some v) (q : Q v H) : tFldK c (tVar i) f σ H Q := ⟨_, hσ, r, k, dx, fs, v, rfl, ok, hr, hl, q⟩
theorem methE (hσ : σ[i]? = some (some (.ref r))) (ok : okm k = true) (hr : H r = some (.ins (c.A k) dx fs)) (hl : fs.lookup m = none) (q : t σ H fun vs H2 => sp k (.ref r :: vs) H2 Q E0) : tMethK c okm m sp (tVar i) t σ H Q := ⟨_, hσ, r, k, dx, fs, rfl, ok, hr, hl, q⟩
theorem sfldV {j : Nat} {x : V} (hj : σ[j]? = some (some x)) (hσ : σ[i]? = some (some (.ref r))) (ok : c.ok k = true) (hr : H r = some (.ins (c.A k) dx fs)) (hn : fs.length < 1000) (q : D.nx σ (upd H r (.ins (c.A k) dx (putF f x fs)))) : sFldK c (tVar i) (tVar j) f D σ H :=
  ⟨x, hj, _, hσ, r, k, dx, fs, rfl, ok, hr, hn, q⟩
theorem sfldT {K : PySem.W.Frag} {j : Nat} {p : Addr} {xs : List V} (hj : σ[j]? = some (some (.ref p))) (hp : H p = some (.lst xs)) (hσ : σ[i]? = some (some (.ref r))) (ok : c.ok k = true) (hr : H r = some (.ins (c.A k) dx fs)) (hn : fs.length < 1000)
    (q : ∀ l, H l = none → D.nx σ (upd (upd H l (.tup xs)) r (.ins (c.A k) dx (putF f (.ref l) fs)))) : sFldK c (tVar i) (tCB (kTuple K) (tCons (tVar j) tNil)) f D σ H := by
  unfold sFldK
  walk_at "w"
  refine ⟨_, hj, w_tuple hp fun l hl => ?_⟩
  exact ⟨_, hσ, r, k, dx, fs, rfl, ok, by rw [upd_ne (ne_of_none hr hl)]; exact hr, hn, q l hl⟩
end
theorem w_listT {H : Hp} {Q : VK} {p : Addr} {xs : List V} (hp : H p = some (.tup xs)) (h : ∀ l, H l = none → Q (.ref l) (upd H l (.lst xs))) : kList [.ref p] H Q := by
  unfold kList
  dsimp only
  rw [hp]
  exact h
theorem w_joinL {H : Hp} {Q : VK} {sep : Str} {p : Addr} {ts : List Str} (hp : H p = some (.lst (ts.map V.str))) (hok : JoinOk sep ts = true) (h : Q (.str (Txt.join sep ts)) H) : kJoin2 (.str sep) [.ref p] H Q := by
  unfold kJoin2
  dsimp only
  rw [hp]
  exact ⟨ts, rfl, hok, h⟩
def sp_name (K : PySem.W.Frag) (c : RCl RK) (k : RK) : Sp := fun vs H Q _ => ∃ (r p : Addr) (w : List Nat) (ws : List (List Nat)) (cs : List Int) (n m : Int), vs = [.ref r] ∧ IsRule H c k r p (w :: ws) cs n m ∧ Q (.str (tx w)) H
def sp_spots (K : PySem.W.Frag) (c : RCl RK) (k : RK) : Sp := fun vs H Q _ => ∃ (r p : Addr) (ws : List (List Nat)) (cs : List Int) (n m : Int), vs = [.ref r] ∧ IsRule H c k r p ws cs n m ∧ ∀ l, H l = none → Q (.ref l) (upd H l (.lst (cs.map V.int)))
def CellsIn (cs : List Int) (n : Nat) : Prop := cs.length ≤ 63 ∧ ∀ c ∈ cs, 0 ≤ c ∧ c < n
def sp_Rule___init__ (K : PySem.W.Frag) (c : RCl RK) : Sp := fun vs H Q _ => ∃ (k : RK) (x dx p W C : Addr) (ws : List (List Nat)) (cs : List Int) (n m : Int), vs = [.ref x, .ref p, .ref W, .ref C, .int n, .int m] ∧ c.ok k = true ∧ H x = some (.ins (c.A k) dx []) ∧ W ≠ x ∧ C ≠ x ∧
  H W = some (.lst ((ws.map tx).map V.str)) ∧ H C = some (.lst (cs.map V.int)) ∧ ∀ H', (∀ b o, b ≠ x → H b = some o → H' b = some o) → IsRule H' c k x p ws cs n m → Q .non H'
theorem sl_Rule___init__ {K : PySem.W.Frag} {c : RCl RK} {vs : List V} {H : Hp} {Q : VK} {E : XK} (h : sp_Rule___init__ K c vs H Q E) : vs.length = 6 := by
  obtain ⟨_, _, _, _, _, _, _, _, _, _, rfl, _⟩ := h; rfl
def rd_Rule___init__ (K : PySem.W.Frag) (c : RCl RK) : TS :=
  (tSeq (sFldK c (tVar 0) (tVar 1) "floor")
    (tSeq (sFldK c (tVar 0) (tCB (kTuple K) (tCons (tVar 2) tNil)) "words")
    (tSeq (sFldK c (tVar 0) (tCB (kTuple K) (tCons (tVar 3) tNil)) "cells")
    (tSeq (sFldK c (tVar 0) (tVar 4) "amount")
    (sFldK c (tVar 0) (tVar 5) "mark")))))
theorem rk_Rule___init__ {K : PySem.W.Frag} {c : RCl RK} {vs : List V} {H : Hp} {Q : VK} {E : XK} (h : sp_Rule___init__ K c vs H Q E) : rd_Rule___init__ K c { nx := fun _ H' => Q .non H', rt := Q } (start ["self", "floor", "words", "cells", "amount", "mark"] vs) H := by
  obtain ⟨k, x, dx, p, W, C, ws, cs, n, m, rfl, ok, hx, nW, nC, hW, hC, q⟩ := h
  show rd_Rule___init__ K c _ [some (.ref x), some (.ref p), some (.ref W), some (.ref C), some (.int n), some (.int m)] H
  unfold rd_Rule___init__
  walk_at "w"
  refine sfldV (k := k) (j := 1) rfl rfl ok hx (by decide) ?_
  walk_at "w"
  refine sfldT (k := k) (j := 2) (p := W) rfl (by rw [upd_ne nW]; exact hW) rfl ok upd_same (by show (1 : Nat) < 1000; decide) fun l1 h1 => ?_
  have n1 : l1 ≠ x := fun e => by rw [e, upd_same] at h1; cases h1
  have g1 : H l1 = none := by rw [upd_ne n1] at h1; exact h1
  walk_at "w"
  refine sfldT (k := k) (j := 3) (p := C) rfl (by rw [upd_ne nC, upd_ne (ne_of_none hC g1), upd_ne nC]; exact hC) rfl ok upd_same (by show (2 : Nat) < 1000; decide) fun l2 h2 => ?_
  have n2 : l2 ≠ x := fun e => by rw [e, upd_same] at h2; cases h2
  have n21 : l2 ≠ l1 := fun e => by rw [e, upd_ne n1, upd_same] at h2; cases h2
  have g2 : H l2 = none := by rw [upd_ne n2, upd_ne n21, upd_ne n2] at h2; exact h2
  walk_at "w"
  refine sfldV (k := k) (j := 4) rfl rfl ok upd_same (by show (3 : Nat) < 1000; decide) ?_
  refine sfldV (k := k) (j := 5) rfl rfl ok upd_same (by show (4 : Nat) < 1000; decide) ?_
  refine q _ (fun b o hb e => ?_) ⟨ok, dx, l1, l2, by rw [upd_same]; rfl, ?_, ?_⟩
  · rw [upd_ne hb, upd_ne hb, upd_ne hb, upd_ne (ne_of_none e g2), upd_ne hb, upd_ne (ne_of_none e g1), upd_ne hb]
    exact e
  · rw [upd_ne n1, upd_ne n1, upd_ne n1, upd_ne n21.symm, upd_ne n1, upd_same]
  · rw [upd_ne n2, upd_ne n2, upd_ne n2, upd_same]
def sp_Rule_name (K : PySem.W.Frag) (c : RCl RK) : Sp := fun vs H Q E => ∃ k, sp_name K c k vs H Q E
theorem sl_Rule_name {K : PySem.W.Frag} {c : RCl RK} {vs : List V} {H : Hp} {Q : VK} {E : XK} (h : sp_Rule_name K c vs H Q E) : vs.length = 1 := by
  obtain ⟨_, _, _, _, _, _, _, _, rfl, _⟩ := h; rfl
def rd_Rule_name (K : PySem.W.Frag) (c : RCl RK) : TS :=
  (tRet (tOp cIx (tFldK c (tVar 0) "words") (tC (.int 0))))
theorem rk_Rule_name {K : PySem.W.Frag} {c : RCl RK} {vs : List V} {H : Hp} {Q : VK} {E : XK} (h : sp_Rule_name K c vs H Q E) : rd_Rule_name K c { nx := fun _ H' => Q .non H', rt := Q } (start ["self"] vs) H := by
  obtain ⟨k, r, p, w, ws, cs, n, m, rfl, x, q⟩ := h
  obtain ⟨dx, W, C, h1, h2, h3⟩ := x.ex
  show rd_Rule_name K c _ [some (.ref r)] H
  unfold rd_Rule_name
  walk_at "w"
  refine fldE rfl x.ok h1 (v := .ref W) (by rfl) ?_
  walk_at "w"
  have e0 : atI (((w :: ws).map tx).map V.str) 0 = some (V.str (tx w)) := atI_nat (j := 0) rfl
  exact ixT h2 e0 q
def sp_Rule_spots (K : PySem.W.Frag) (c : RCl RK) : Sp := fun vs H Q E => ∃ k, sp_spots K c k vs H Q E
theorem sl_Rule_spots {K : PySem.W.Frag} {c : RCl RK} {vs : List V} {H : Hp} {Q : VK} {E : XK} (h : sp_Rule_spots K c vs H Q E) : vs.length = 1 := by
  obtain ⟨_, _, _, _, _, _, _, rfl, _⟩ := h; rfl
def rd_Rule_spots (K : PySem.W.Frag) (c : RCl RK) : TS :=
  (tRet (tCB kList (tCons (tFldK c (tVar 0) "cells") tNil)))
theorem rk_Rule_spots {K : PySem.W.Frag} {c : RCl RK} {vs : List V} {H : Hp} {Q : VK} {E : XK} (h : sp_Rule_spots K c vs H Q E) : rd_Rule_spots K c { nx := fun _ H' => Q .non H', rt := Q } (start ["self"] vs) H := by
  obtain ⟨k, r, p, ws, cs, n, m, rfl, x, q⟩ := h
  obtain ⟨dx, W, C, h1, h2, h3⟩ := x.ex
  show rd_Rule_spots K c _ [some (.ref r)] H
  unfold rd_Rule_spots
  walk_at "w"
  refine fldE rfl x.ok h1 (v := .ref C) (by rfl) ?_
  walk_at "w"
  exact w_listT h3 q
def sp_number_in (K : PySem.W.Frag) : Sp := fun vs H Q _ => ∃ n : Nat, vs = [.str (tx (numC n))] ∧ n < 100 ∧ ∀ H', Same H H' → Q (.int n) H'
theorem sl_number_in {K : PySem.W.Frag} {vs : List V} {H : Hp} {Q : VK} {E : XK} (h : sp_number_in K vs H Q E) : vs.length = 1 := by
  obtain ⟨_, rfl, _⟩ := h; rfl
def rd_number_in (K : PySem.W.Frag) : TS :=
  (tSeq (tIfS (tOr (tTest (tOp (cEq K) (tVar 0) (tC (.str (tx []))))) (tOr (tTest (tOp (cCmp fun i j => decide (j < i)) (tCB kLen (tCons (tVar 0) tNil)) (tC (.int 9)))) (tAnd (tTest (tOp (cEq K) (tOp cIx (tVar 0) (tC (.int 0))) (tC (.str (tx [48]))))) (tTest (tOp (cNe K) (tVar 0) (tC (.str (tx [48])))))))) (tRet (tC .non)) tNext)
    (tSeq (tIfS (tNot (tB (tCB kAll (tCons (tComp [none, none] (iStr (tVar 0)) (gName 1) tTrue (tOp (cIn K false) (tVar 1) (tC (.str (tx [48, 49, 50, 51, 52, 53, 54, 55, 56, 57]))))) tNil)))) (tRet (tC .non)) tNext)
    (tRet (tCB kInt2 (tCons (tVar 0) tNil)))))
theorem dig_in {c : Nat} (h0 : 48 ≤ c) (h1 : c ≤ 57) : (!(Builtin.Str.occurrences (tx [48, 49, 50, 51, 52, 53, 54, 55, 56, 57]) ⟨#[c]⟩ 0 (tx [48, 49, 50, 51, 52, 53, 54, 55, 56, 57]).length 1).isEmpty) = true := by
  have t : ((List.range 58).all fun c => !decide (48 ≤ c) || !(Builtin.Str.occurrences (tx [48, 49, 50, 51, 52, 53, 54, 55, 56, 57]) ⟨#[c]⟩ 0 (tx [48, 49, 50, 51, 52, 53, 54, 55, 56, 57]).length 1).isEmpty) = true := by decide +kernel
  have := List.all_eq_true.mp t c (List.mem_range.mpr (by omega))
  simpa [h0] using this
theorem rk_number_in {K : PySem.W.Frag} {vs : List V} {H : Hp} {Q : VK} {E : XK} (h : sp_number_in K vs H Q E) : rd_number_in K { nx := fun _ H' => Q .non H', rt := Q } (start ["word"] vs) H := by
  obtain ⟨n, rfl, hn, q⟩ := h
  have hne := num_ne hn
  have hl := num_len (n := n)
  show rd_number_in K _ [some (.str (tx (numC n)))] H
  unfold rd_number_in
  rw [w_seq, w_if]
  walk_at "w"
  rw [tx_dec, decide_eq_false hne]
  refine iteF ⟨by rw [tx_len]; exact len_le (by omega), ?_⟩
  walk_at "w"
  rw [tx_len, decide_eq_false (show ¬ (9 : Int) < ((numC n).length : Nat) by omega)]
  refine iteF ?_
  rw [w_ixS, tx_len, tx_cps]
  obtain ⟨c, r, ec⟩ : ∃ c r, numC n = c :: r := by
    cases e : numC n with
    | nil => exact absurd e hne
    | cons c r => exact ⟨c, r, rfl⟩
  refine ⟨len_le (by omega), bnd_of (a := c) (by rw [ec]; exact atI_nat (j := 0) rfl) ?_⟩
  walk_at "w"
  have e1 : decide ((⟨#[c]⟩ : Str) = tx [48]) = decide (c = 48) := by
    have : (⟨#[c]⟩ : Str) = tx [c] := rfl
    rw [this, tx_dec]
    simp
  rw [e1, tx_dec]
  have e2 : (decide (c = 48) = true → decide (numC n = [48]) = true) := by
    intro h
    rw [decide_eq_true_eq] at h
    have := (num_head hn).1 (by rw [ec, h]; rfl)
    subst this
    decide
  have goal2 : tSeq (tIfS (tNot (tB (tCB kAll (tCons (tComp [none, none] (iStr (tVar 0)) (gName 1) tTrue (tOp (cIn K false) (tVar 1) (tC (.str (tx [48, 49, 50, 51, 52, 53, 54, 55, 56, 57]))))) tNil)))) (tRet (tC .non)) tNext) (tRet (tCB kInt2 (tCons (tVar 0) tNil)))
      { nx := fun _ H' => Q .non H', rt := Q } [some (.str (tx (numC n)))] H := by
    rw [w_seq, w_if]
    walk_at "w"
    refine compV_str (cs := numC n) (fun _ => true) (fun _ => .bl true) (by omega) ?_ ?_ ?_
    · intro i c H1 R hc s1 k1
      exact k1 _ (Same.refl _)
    · intro i c H1 Q1 hc hb s1 k1
      have hd := num_dig hn c (List.mem_of_getElem? hc)
      show tOp (cIn K false) _ _ [none, some (.str (tx [c]))] H1 Q1
      walk_at "w"
      have q1 := k1 _ (Same.refl H1)
      show Q1 (.bl (if false = true then _ else !(Builtin.Str.occurrences (tx [48, 49, 50, 51, 52, 53, 54, 55, 56, 57]) (tx [c]) 0 (tx [48, 49, 50, 51, 52, 53, 54, 55, 56, 57]).length 1).isEmpty)) H1
      rw [if_neg Bool.false_ne_true, show tx [c] = ⟨#[c]⟩ from rfl, dig_in hd.1 hd.2]
      exact q1
    · intro l H1 hl1 s1 el
      have eb : ((List.range (numC n).length).filter fun _ => true).map (fun _ => V.bl true) = (List.replicate (numC n).length true).map V.bl := by
        rw [filter_tt, List.map_const', List.length_range, List.map_replicate]
      rw [eb] at el
      refine w_all el ?_
      have ea : (List.replicate (numC n).length true).all id = true := by
        rw [List.all_eq_true]
        intro b hb
        exact (List.mem_replicate.mp hb).2
      rw [ea]
      walk_at "w"
      exact ⟨n, hn, rfl, q _ s1⟩
  cases hc : decide (c = 48) with
  | false =>
    refine iteF ?_
    exact goal2
  | true =>
    refine iteT ?_
    rw [e2 hc]
    exact goal2
def sp_number_within (K : PySem.W.Frag) : Sp := fun vs H Q _ => ∃ (n : Nat) (lo hi : Int), vs = [.str (tx (numC n)), .int lo, .int hi] ∧ n < 100 ∧ lo ≤ n ∧ n ≤ hi ∧ ∀ H', Same H H' → Q (.int n) H'
theorem sl_number_within {K : PySem.W.Frag} {vs : List V} {H : Hp} {Q : VK} {E : XK} (h : sp_number_within K vs H Q E) : vs.length = 3 := by
  obtain ⟨_, _, _, rfl, _⟩ := h; rfl
def rd_number_within (K : PySem.W.Frag) : TS :=
  (tSeq (tAsg (tCall (sp_number_in K) [] E0 (tCons (tVar 0) tNil)) (gName 3))
    (tSeq (tIfS (tOr (tTest (tOp rIsN (tVar 3) (tC .non))) (tOr (tTest (tOp (cCmp fun i j => decide (i < j)) (tVar 3) (tVar 1))) (tTest (tOp (cCmp fun i j => decide (j < i)) (tVar 3) (tVar 2))))) tNever tNext)
    (tRet (tVar 3))))
theorem rk_number_within {K : PySem.W.Frag} {vs : List V} {H : Hp} {Q : VK} {E : XK} (h : sp_number_within K vs H Q E) : rd_number_within K { nx := fun _ H' => Q .non H', rt := Q } (start ["word", "least", "most", "number"] vs) H := by
  obtain ⟨n, lo, hi, rfl, hn, h0, h1, q⟩ := h
  show rd_number_within K _ [some (.str (tx (numC n))), some (.int lo), some (.int hi), none] H
  unfold rd_number_within
  walk_at "w"
  refine ⟨n, rfl, hn, fun H1 s1 => ?_⟩
  walk_at "w"
  rw [w_if]
  walk_at "w"
  rw [decide_eq_false (show ¬ V.int n = V.non from fun e => nomatch e)]
  refine iteF ?_
  rw [decide_eq_false (show ¬ (n : Int) < lo by omega)]
  refine iteF ?_
  rw [decide_eq_false (show ¬ hi < (n : Int) by omega)]
  refine iteF ?_
  walk_at "w"
  exact q _ s1
def WOk (ws : List (List Nat)) : Prop := ∀ w ∈ ws, ∀ c ∈ w, c < 128
theorem WOk.cons {w : List Nat} {ws : List (List Nat)} (h : ∀ c ∈ w, c < 128) (hs : WOk ws) : WOk (w :: ws) := fun v hv => by
  rcases List.mem_cons.mp hv with rfl | hv
  · exact h
  · exact hs v hv
theorem num_wok {n : Nat} (h : n < 100) : ∀ c ∈ numC n, c < 128 := fun c hc => by have := num_dig h c hc; omega
theorem tx_ok {w : List Nat} (h : ∀ c ∈ w, c < 128) : PyData.strOk (tx w) = true := by
  unfold PyData.strOk
  simp [tx]
  intro c hc
  have := h c hc
  omega
theorem WOk.strs {ws : List (List Nat)} (h : WOk ws) : ∀ x ∈ ws.map tx, PyData.strOk x = true := fun x hx => by
  obtain ⟨w, hw, rfl⟩ := List.mem_map.mp hx
  exact tx_ok (h w hw)
def sp_first_within (K : PySem.W.Frag) : Sp := fun vs H Q _ => ∃ (p : Addr) (n : Nat) (ws : List (List Nat)) (lo hi : Int), vs = [.ref p, .int lo, .int hi] ∧ H p = some (.lst (((numC n :: ws).map tx).map V.str)) ∧ n < 100 ∧ WOk ws ∧ lo ≤ n ∧ n ≤ hi ∧ ∀ H', Same H H' → Q (.int n) H'
theorem sl_first_within {K : PySem.W.Frag} {vs : List V} {H : Hp} {Q : VK} {E : XK} (h : sp_first_within K vs H Q E) : vs.length = 3 := by
  obtain ⟨_, _, _, _, _, rfl, _⟩ := h; rfl
def rd_first_within (K : PySem.W.Frag) : TS :=
  (tSeq (tIfS (tTest (tOp (cEq K) (tVar 0) (tLst tNil))) tNever tNext)
    (tRet (tCall (sp_number_within K) [] E0 (tCons (tOp cIx (tVar 0) (tC (.int 0))) (tCons (tVar 1) (tCons (tVar 2) tNil))))))
theorem DVs.strs {K : PySem.W.Frag} {H : Hp} : ∀ ns : List Str, DVs K H (ns.map V.str) (ns.map PyData.str)
  | [] => .nil
  | n :: r => .cons (.str n) (DVs.strs r)
theorem eqv_strs' (a b : Str) : PyData.eqv (.str a) (.str b) = decide (a = b) := by
  rw [PyData.eqv]
  by_cases h : a = b
  · subst h; simp
  · simp [h]
theorem shaped_strs (ns : List Str) (hs : ∀ x ∈ ns, PyData.strOk x = true) : SeqAt.shaped (.list (ns.map PyData.str)) = true := by
  have h1 : PyData.canLayAll0 (ns.map PyData.str) = true := lay_all fun d hd => by obtain ⟨x, hx, rfl⟩ := List.mem_map.mp hd; rw [PyData.canLay0]; exact hs x hx
  have h2 : PyData.depthAll (ns.map PyData.str) ≤ 0 := depth_all fun d hd => by obtain ⟨x, _, rfl⟩ := List.mem_map.mp hd; exact Nat.le_refl _
  simp [SeqAt.shaped, PyData.canLay0, h1, PyData.depth]
  omega
theorem w_eqLS {K : PySem.W.Frag} {H : Hp} {Q : VK} {p q : Addr} {xs ys : List Str} (hp : H p = some (.lst (xs.map V.str))) (hq : H q = some (.lst (ys.map V.str))) (h1 : ∀ x ∈ xs, PyData.strOk x = true) (h2 : ∀ x ∈ ys, PyData.strOk x = true) (h : Q (.bl (decide (xs = ys))) H) : cEq K (.ref p) (.ref q) H Q := by
  show rEqD K (.ref p) (.ref q) H Q
  refine ⟨.list (xs.map PyData.str), .list (ys.map PyData.str), .lst (SqL.of hp) (.strs xs), .lst (SqL.of hq) (.strs ys), shaped_strs xs h1, shaped_strs ys h2, ?_⟩
  rw [PyData.eqv, eqv_all PyData.str eqv_strs']
  exact h
theorem w_neLS {K : PySem.W.Frag} {H : Hp} {Q : VK} {p q : Addr} {xs ys : List Str} (hp : H p = some (.lst (xs.map V.str))) (hq : H q = some (.lst (ys.map V.str))) (h1 : ∀ x ∈ xs, PyData.strOk x = true) (h2 : ∀ x ∈ ys, PyData.strOk x = true) (h : Q (.bl (!decide (xs = ys))) H) : cNe K (.ref p) (.ref q) H Q := by
  show rNeD K (.ref p) (.ref q) H Q
  refine ⟨.list (xs.map PyData.str), .list (ys.map PyData.str), .lst (SqL.of hp) (.strs xs), .lst (SqL.of hq) (.strs ys), shaped_strs xs h1, shaped_strs ys h2, ?_⟩
  rw [PyData.eqv, eqv_all PyData.str eqv_strs']
  exact h
theorem rk_first_within {K : PySem.W.Frag} {vs : List V} {H : Hp} {Q : VK} {E : XK} (h : sp_first_within K vs H Q E) : rd_first_within K { nx := fun _ H' => Q .non H', rt := Q } (start ["words", "least", "most"] vs) H := by
  obtain ⟨p, n, ws, lo, hi, rfl, hp, hn, hw, h0, h1, q⟩ := h
  show rd_first_within K _ [some (.ref p), some (.int lo), some (.int hi)] H
  unfold rd_first_within
  rw [w_seq, w_if]
  walk_at "w"
  refine ⟨len_le (by decide), fun l hl => ?_⟩
  have s1 : Same H (upd H l (.lst [])) := (Same.refl H).laid hl
  refine w_eqLS (s1 _ _ hp) (ys := []) upd_same (WOk.strs (WOk.cons (num_wok hn) hw)) (fun x hx => nomatch hx) ?_
  generalize upd H l (.lst []) = H1 at *
  walk_at "w"
  rw [decide_eq_false (by simp)]
  refine iteF ?_
  walk_at "w"
  have e0 : atI (((numC n :: ws).map tx).map V.str) 0 = some (V.str (tx (numC n))) := atI_nat (j := 0) rfl
  refine ixL (s1 _ _ hp) e0 ?_
  walk_at "w"
  exact ⟨n, lo, hi, rfl, hn, h0, h1, fun H2 s2 => q _ (s1.trans s2)⟩
theorem step_len (acc : List Int) (v : Int) : (step_dedup acc v).length ≤ acc.length + 1 := by
  unfold step_dedup
  split <;> simp
theorem dedup_le : ∀ (l acc : List Int), (l.foldl step_dedup acc).length ≤ acc.length + l.length
  | [], acc => by simp
  | x :: r, acc => by
    have h1 := dedup_le r (step_dedup acc x)
    have h2 := step_len acc x
    rw [List.foldl_cons, List.length_cons]
    omega
theorem dedup_nodup : ∀ (l acc : List Int), acc.Nodup → ((l.foldl step_dedup acc).length = acc.length + l.length ↔ (acc ++ l).Nodup)
  | [], acc, h => by simpa using h
  | x :: r, acc, h => by
    rw [List.foldl_cons]
    by_cases hx : x ∈ acc
    · have e : step_dedup acc x = acc := by
        unfold step_dedup
        rw [if_pos (by simpa using hx)]
      rw [e]
      have := dedup_le r acc
      constructor
      · intro z
        rw [List.length_cons] at z
        omega
      · intro z
        have := (List.nodup_append.mp z).2.2 x hx x List.mem_cons_self
        exact absurd rfl this
    · have e : step_dedup acc x = acc ++ [x] := by
        unfold step_dedup
        rw [if_neg (by simpa using hx)]
      rw [e]
      have hn : (acc ++ [x]).Nodup := List.nodup_append.mpr ⟨h, by simp, fun a ha b hb z => hx (by rw [List.mem_singleton.mp hb] at z; exact z ▸ ha)⟩
      have ih := dedup_nodup r (acc ++ [x]) hn
      rw [List.length_append, List.length_singleton] at ih
      rw [List.length_cons, show acc.length + (r.length + 1) = acc.length + 1 + r.length by omega, show acc ++ x :: r = acc ++ [x] ++ r by simp]
      exact ih
theorem map_range_getI (ns : List Int) : (List.range ns.length).map (fun i => ns.getD i 0) = ns := by
  have := map_range_get ns (fun x => x)
  simpa using this
theorem cntD_iff (ns : List Int) : cntD ns = ns.length ↔ ns.Nodup := by
  unfold cntD firstMet
  rw [map_range_getI]
  have := dedup_nodup ns [] List.nodup_nil
  simpa using this
def sp_told_cells (K : PySem.W.Frag) : Sp := fun vs H Q _ => ∃ (a p : Addr) (h w g : Int) (ns : List Nat), vs = [.ref a, .ref p] ∧ IsFl H a h w g ∧ FlOk h w g ∧ H p = some (.lst (((ns.map numC).map tx).map V.str)) ∧ ns ≠ [] ∧ ns.length ≤ 16 ∧ (∀ n ∈ ns, (n : Int) < h * w) ∧ ns.Nodup ∧
  ∀ l H', Same H H' → H l = none → H' l = some (.lst ((ns.map fun (n : Nat) => (n : Int)).map V.int)) → Q (.ref l) H'
theorem sl_told_cells {K : PySem.W.Frag} {vs : List V} {H : Hp} {Q : VK} {E : XK} (h : sp_told_cells K vs H Q E) : vs.length = 2 := by
  obtain ⟨_, _, _, _, _, _, rfl, _⟩ := h; rfl
def rd_told_cells (K : PySem.W.Frag) : TS :=
  (tSeq (sComp 2 [none, none, some 0] (iList K (tVar 1)) (gName 1) tTrue (tCall (sp_number_within K) [] E0 (tCons (tVar 1) (tCons (tC (.int 0)) (tCons (tOp cSub (tCall (sp_many_cells K) [] E0 (tCons (tVar 2) tNil)) (tC (.int 1))) tNil)))))
    (tSeq (tIfS (tTest (tOp (cEq K) (tVar 2) (tLst tNil))) tNever tNext)
    (tSeq (tIfS (tTest (tOp (cNe K) (tLenSet (tVar 2)) (tCB kLen (tCons (tVar 2) tNil)))) tNever tNext)
    (tRet (tVar 2)))))
theorem nodup_cast {ns : List Nat} (h : ns.Nodup) : (ns.map fun (n : Nat) => (n : Int)).Nodup := by
  induction ns with
  | nil => exact List.nodup_nil
  | cons a r ih =>
    rw [List.nodup_cons] at h
    rw [List.map_cons, List.nodup_cons]
    refine ⟨fun z => ?_, ih h.2⟩
    obtain ⟨b, hb, e⟩ := List.mem_map.mp z
    exact h.1 (by have : b = a := by omega
                  exact this ▸ hb)
theorem rk_told_cells {K : PySem.W.Frag} {vs : List V} {H : Hp} {Q : VK} {E : XK} (h : sp_told_cells K vs H Q E) : rd_told_cells K { nx := fun _ H' => Q .non H', rt := Q } (start ["floor", "words", "cells"] vs) H := by
  obtain ⟨a, p, h, w, g, ns, rfl, ha, F, hp, hne, hn16, hlt, hnd, q⟩ := h
  obtain ⟨h0, h1, w0, w1, m16, g0, g1⟩ := F
  show rd_told_cells K _ [some (.ref a), some (.ref p), none] H
  unfold rd_told_cells
  walk_at "w"
  refine ⟨⟨_, SqL.of hp⟩, ?_⟩
  refine compV_list (xs := ((ns.map numC).map tx).map V.str) (fun _ => true) (fun i => .int (ns.getD i 0 : Nat)) (by simp; omega) (SqL.of hp) ?_ ?_ ?_
  · intro i x H1 R hx s1 k1
    exact k1 _ (Same.refl _)
  · intro i x H1 Q1 hx hb s1 k1
    rw [List.getElem?_map, List.getElem?_map, List.getElem?_map] at hx
    cases e : ns[i]? with
    | none => rw [e] at hx; cases hx
    | some n =>
      rw [e] at hx
      cases hx
      have hm := hlt n (List.mem_of_getElem? e)
      show tCall _ _ _ _ [none, some (.str (tx (numC n))), some (.ref a)] H1 Q1
      walk_at "w"
      refine ⟨a, h, w, g, rfl, s1 _ _ ha, h0, h1, ?_⟩
      walk_at "w"
      refine ⟨n, 0, _, rfl, by omega, by omega, by omega, fun H2 s2 => ?_⟩
      have q1 := k1 _ s2
      have eg : ns.getD i 0 = n := by rw [List.getD, e]; rfl
      rw [eg] at q1
      exact q1
  · intro l H1 hl s1 el
    have ec : ((List.range (((ns.map numC).map tx).map V.str).length).filter fun _ => true).map (fun i => V.int (ns.getD i 0 : Nat)) = (ns.map fun (n : Nat) => (n : Int)).map V.int := by
      rw [filter_tt, List.length_map, List.length_map, List.length_map, List.map_map]
      refine List.ext_getElem? fun i => ?_
      rw [List.getElem?_map, List.getElem?_map]
      by_cases h : i < ns.length
      · rw [List.getElem?_range h, List.getElem?_eq_getElem h]
        simp [List.getD, h]
      · rw [List.getElem?_eq_none (by simpa using h), List.getElem?_eq_none (by omega)]; rfl
    rw [ec] at el
    walk_at "w"
    rw [w_if]
    walk_at "w"
    refine ⟨len_le (by decide), fun z hz => ?_⟩
    have s2 : Same H1 (upd H1 z (.lst [])) := (Same.refl H1).laid hz
    refine w_eqL (s2 _ _ el) (ys := []) upd_same ?_
    generalize upd H1 z (.lst []) = H2 at *
    walk_at "w"
    rw [decide_eq_false (by simpa using hne)]
    refine iteF ?_
    walk_at "w"
    rw [w_if]
    walk_at "w"
    refine ⟨l, _, rfl, s2 _ _ el, by rw [List.length_map]; omega, ?_⟩
    rw [w_len (s2 _ _ el), List.length_map]
    walk_at "w"
    rw [decide_eq_true (by rw [(cntD_iff _).mpr (nodup_cast hnd)])]
    refine iteF ?_
    walk_at "w"
    exact q l _ (s1.trans s2) hl (s2 _ _ el)
def allK : RK → Bool
  | .Joined => true
  | .NoSquare => true
  | .Ring => true
  | _ => false
def numK : RK → Bool
  | .Sum => true
  | .Seen => true
  | .Count => true
  | _ => false
def sgnK : RK → Bool
  | .Count => true
  | .Joined => true
  | .NoSquare => true
  | .Ring => true
  | _ => false
theorem in_all (k : RK) : decide (tx (nmC k) ∈ gt_OF_ALL_CELLS) = allK k := by cases k <;> decide +kernel
theorem in_num (k : RK) : decide (tx (nmC k) ∈ gt_WITH_NUMBER) = numK k := by cases k <;> decide +kernel
theorem in_sgn (k : RK) : decide (tx (nmC k) ∈ gt_WITH_SIGN) = sgnK k := by cases k <;> decide +kernel
structure CellsOf (k : RK) (h w : Int) (ns : List Nat) (cs : List Int) : Prop where
  told : allK k = false → ns ≠ [] ∧ ns.length ≤ 16 ∧ (∀ n ∈ ns, (n : Int) < h * w) ∧ ns.Nodup ∧ cs = ns.map fun (n : Nat) => (n : Int)
  all : allK k = true → ns = [] ∧ cs = rngL 0 (h * w)
def sp_cells_of (K : PySem.W.Frag) : Sp := fun vs H Q _ => ∃ (k : RK) (a p : Addr) (h w g : Int) (ns : List Nat) (cs : List Int), vs = [.ref a, .str (tx (nmC k)), .ref p] ∧ IsFl H a h w g ∧ FlOk h w g ∧ H p = some (.lst (((ns.map numC).map tx).map V.str)) ∧ CellsOf k h w ns cs ∧ (∀ n ∈ ns, n < 100) ∧
  ∀ l H', Same H H' → H l = none → H' l = some (.lst (cs.map V.int)) → Q (.ref l) H'
theorem sl_cells_of {K : PySem.W.Frag} {vs : List V} {H : Hp} {Q : VK} {E : XK} (h : sp_cells_of K vs H Q E) : vs.length = 3 := by
  obtain ⟨_, _, _, _, _, _, _, _, rfl, _⟩ := h; rfl
def rd_cells_of (K : PySem.W.Frag) : TS :=
  (tSeq (tIfS (tB (tInG gt_OF_ALL_CELLS true (tVar 1))) (tRet (tCall (sp_told_cells K) [] E0 (tCons (tVar 0) (tCons (tVar 2) tNil)))) tNext)
    (tSeq (tIfS (tTest (tOp (cNe K) (tVar 2) (tLst tNil))) tNever tNext)
    (tRet (tListRng1 (tCons (tCall (sp_many_cells K) [] E0 (tCons (tVar 0) tNil)) tNil)))))
theorem rk_cells_of {K : PySem.W.Frag} {vs : List V} {H : Hp} {Q : VK} {E : XK} (h : sp_cells_of K vs H Q E) : rd_cells_of K { nx := fun _ H' => Q .non H', rt := Q } (start ["floor", "name", "words"] vs) H := by
  obtain ⟨k, a, p, h, w, g, ns, cs, rfl, ha, F, hp, hc, hn, q⟩ := h
  obtain ⟨h0, h1, w0, w1, m16, g0, g1⟩ := id F
  have mpos : 0 ≤ h * w := Int.mul_nonneg (by omega) (by omega)
  show rd_cells_of K _ [some (.ref a), some (.str (tx (nmC k))), some (.ref p)] H
  unfold rd_cells_of
  rw [w_seq, w_if]
  walk_at "w"
  rw [in_all]
  cases hk : allK k with
  | false =>
    obtain ⟨c1, c2, c3, c4, rfl⟩ := hc.told hk
    walk_at "w"
    exact ⟨a, p, h, w, g, ns, rfl, ha, F, hp, c1, c2, c3, c4, q⟩
  | true =>
    obtain ⟨rfl, rfl⟩ := hc.all hk
    walk_at "w"
    rw [w_if]
    walk_at "w"
    refine ⟨len_le (by decide), fun z hz => ?_⟩
    have s1 : Same H (upd H z (.lst [])) := (Same.refl H).laid hz
    refine w_neLS (xs := []) (ys := []) (s1 _ _ hp) upd_same (fun x hx => nomatch hx) (fun x hx => nomatch hx) ?_
    generalize upd H z (.lst []) = H1 at *
    walk_at "w"
    refine ⟨a, h, w, g, rfl, s1 _ _ ha, h0, h1, ?_⟩
    walk_at "w"
    refine ⟨h * w, rfl, by omega, by omega, fun l hl => ?_⟩
    exact q l _ (s1.laid hl) (s1.free hl) upd_same
def sp_rule_by (K : PySem.W.Frag) (c : RCl RK) : Sp := fun vs H Q _ => ∃ (k : RK) (p W C : Addr) (ws : List (List Nat)) (cs : List Int) (n m : Int), vs = [.ref p, .ref W, .ref C, .int n, .int m] ∧ k ≠ .Rule ∧ c.ok k = true ∧ H W = some (.lst (((nmC k :: ws).map tx).map V.str)) ∧ H C = some (.lst (cs.map V.int)) ∧
  ∀ r H', Same H H' → H r = none → IsRule H' c k r p (nmC k :: ws) cs n m → Q (.ref r) H'
theorem sl_rule_by {K : PySem.W.Frag} {c : RCl RK} {vs : List V} {H : Hp} {Q : VK} {E : XK} (h : sp_rule_by K c vs H Q E) : vs.length = 5 := by
  obtain ⟨_, _, _, _, _, _, _, _, rfl, _⟩ := h; rfl
def rd_rule_by (K : PySem.W.Frag) (c : RCl RK) : TS :=
  (tSeq (tAsg (tOp cIx (tVar 1) (tC (.int 0))) (gName 5))
    (tSeq (tIfS (tTest (tOp (cEq K) (tVar 5) (tC (.str (tx [117, 110, 108, 105, 107, 101]))))) (tRet (tMake (c.A .Unlike) (sp_Rule___init__ K c) [] E0 (tCons (tVar 0) (tCons (tVar 1) (tCons (tVar 2) (tCons (tVar 3) (tCons (tVar 4) tNil))))))) tNext)
    (tSeq (tIfS (tTest (tOp (cEq K) (tVar 5) (tC (.str (tx [115, 117, 109]))))) (tRet (tMake (c.A .Sum) (sp_Rule___init__ K c) [] E0 (tCons (tVar 0) (tCons (tVar 1) (tCons (tVar 2) (tCons (tVar 3) (tCons (tVar 4) tNil))))))) tNext)
    (tSeq (tIfS (tTest (tOp (cEq K) (tVar 5) (tC (.str (tx [114, 105, 115, 105, 110, 103]))))) (tRet (tMake (c.A .Rising) (sp_Rule___init__ K c) [] E0 (tCons (tVar 0) (tCons (tVar 1) (tCons (tVar 2) (tCons (tVar 3) (tCons (tVar 4) tNil))))))) tNext)
    (tSeq (tIfS (tTest (tOp (cEq K) (tVar 5) (tC (.str (tx [115, 101, 101, 110]))))) (tRet (tMake (c.A .Seen) (sp_Rule___init__ K c) [] E0 (tCons (tVar 0) (tCons (tVar 1) (tCons (tVar 2) (tCons (tVar 3) (tCons (tVar 4) tNil))))))) tNext)
    (tSeq (tIfS (tTest (tOp (cEq K) (tVar 5) (tC (.str (tx [99, 111, 117, 110, 116]))))) (tRet (tMake (c.A .Count) (sp_Rule___init__ K c) [] E0 (tCons (tVar 0) (tCons (tVar 1) (tCons (tVar 2) (tCons (tVar 3) (tCons (tVar 4) tNil))))))) tNext)
    (tSeq (tIfS (tTest (tOp (cEq K) (tVar 5) (tC (.str (tx [106, 111, 105, 110, 101, 100]))))) (tRet (tMake (c.A .Joined) (sp_Rule___init__ K c) [] E0 (tCons (tVar 0) (tCons (tVar 1) (tCons (tVar 2) (tCons (tVar 3) (tCons (tVar 4) tNil))))))) tNext)
    (tSeq (tIfS (tTest (tOp (cEq K) (tVar 5) (tC (.str (tx [110, 111, 115, 113, 117, 97, 114, 101]))))) (tRet (tMake (c.A .NoSquare) (sp_Rule___init__ K c) [] E0 (tCons (tVar 0) (tCons (tVar 1) (tCons (tVar 2) (tCons (tVar 3) (tCons (tVar 4) tNil))))))) tNext)
    (tSeq (tIfS (tTest (tOp (cEq K) (tVar 5) (tC (.str (tx [114, 105, 110, 103]))))) (tRet (tMake (c.A .Ring) (sp_Rule___init__ K c) [] E0 (tCons (tVar 0) (tCons (tVar 1) (tCons (tVar 2) (tCons (tVar 3) (tCons (tVar 4) tNil))))))) tNext)
    tNever)))))))))
theorem mk_rule {K : PySem.W.Frag} {c : RCl RK} {H : Hp} {Q : VK} {k : RK} {p W C : Addr} {ws : List (List Nat)} {cs : List Int} {n m : Int} (ok : c.ok k = true) (hW : H W = some (.lst ((ws.map tx).map V.str))) (hC : H C = some (.lst (cs.map V.int))) (q : ∀ r H', Same H H' → H r = none → IsRule H' c k r p ws cs n m → Q (.ref r) H') :
    ∀ x dx, H x = none → H dx = none → dx ≠ x → sp_Rule___init__ K c (.ref x :: ([.ref p, .ref W, .ref C, .int n, .int m] ++ [])) (upd (upd H dx (.own x)) x (.ins (c.A k) dx [])) (fun v H2 => v = .non ∧ Q (.ref x) H2) E0 := by
  intro x dx hx hd ne
  refine ⟨k, x, dx, p, W, C, ws, cs, n, m, rfl, ok, upd_same, ne_of_none hW hx, ne_of_none hC hx, ?_, ?_, fun H' hs hr => ⟨rfl, q x H' (fun b o e => hs b o (ne_of_none e hx) ?_) hx hr⟩⟩
  · rw [upd_ne (ne_of_none hW hx), upd_ne (ne_of_none hW hd)]; exact hW
  · rw [upd_ne (ne_of_none hC hx), upd_ne (ne_of_none hC hd)]; exact hC
  · rw [upd_ne (ne_of_none e hx), upd_ne (ne_of_none e hd)]; exact e
theorem rk_rule_by {K : PySem.W.Frag} {c : RCl RK} {vs : List V} {H : Hp} {Q : VK} {E : XK} (h : sp_rule_by K c vs H Q E) : rd_rule_by K c { nx := fun _ H' => Q .non H', rt := Q } (start ["floor", "words", "cells", "amount", "mark", "name"] vs) H := by
  obtain ⟨k, p, W, C, ws, cs, n, m, rfl, hk, ok, hW, hC, q⟩ := h
  have mk := mk_rule (K := K) ok hW hC q
  have e0 : atI (((nmC k :: ws).map tx).map V.str) 0 = some (V.str (tx (nmC k))) := atI_nat (j := 0) rfl
  show rd_rule_by K c _ [some (.ref p), some (.ref W), some (.ref C), some (.int n), some (.int m), none] H
  unfold rd_rule_by
  walk_at "w"
  refine ixL hW e0 ?_
  have D : ∀ (l : List Nat) (t : TS) (u : TS) (D : Ends) (b : Bool), decide (nmC k = l) = b → (if b = true then t D [some (.ref p), some (.ref W), some (.ref C), some (.int n), some (.int m), some (.str (tx (nmC k)))] H else u D [some (.ref p), some (.ref W), some (.ref C), some (.int n), some (.int m), some (.str (tx (nmC k)))] H) →
      tIfS (tTest (tOp (cEq K) (tVar 5) (tC (.str (tx l))))) t u D [some (.ref p), some (.ref W), some (.ref C), some (.int n), some (.int m), some (.str (tx (nmC k)))] H := fun l t u D b hb hq => by
    rw [w_if]
    walk_at "w"
    rw [tx_dec, hb]
    exact hq
  have R : ∀ (D : Ends), D.rt = Q → tRet (tMake (c.A k) (sp_Rule___init__ K c) [] E0 (tCons (tVar 0) (tCons (tVar 1) (tCons (tVar 2) (tCons (tVar 3) (tCons (tVar 4) tNil)))))) D [some (.ref p), some (.ref W), some (.ref C), some (.int n), some (.int m), some (.str (tx (nmC k)))] H := fun D hD => by
    walk_at "w"
    rw [hD]
    exact mk
  cases k with
  | Rule => exact absurd rfl hk
  | Unlike => exact D _ _ _ _ true (by decide) (iteT (R _ rfl))
  | Sum => exact D _ _ _ _ false (by decide) (iteF (D _ _ _ _ true (by decide) (iteT (R _ rfl))))
  | Rising => exact D _ _ _ _ false (by decide) (iteF (D _ _ _ _ false (by decide) (iteF (D _ _ _ _ true (by decide) (iteT (R _ rfl))))))
  | Seen => exact D _ _ _ _ false (by decide) (iteF (D _ _ _ _ false (by decide) (iteF (D _ _ _ _ false (by decide) (iteF (D _ _ _ _ true (by decide) (iteT (R _ rfl))))))))
  | Count => exact D _ _ _ _ false (by decide) (iteF (D _ _ _ _ false (by decide) (iteF (D _ _ _ _ false (by decide) (iteF (D _ _ _ _ false (by decide) (iteF (D _ _ _ _ true (by decide) (iteT (R _ rfl))))))))))
  | Joined => exact D _ _ _ _ false (by decide) (iteF (D _ _ _ _ false (by decide) (iteF (D _ _ _ _ false (by decide) (iteF (D _ _ _ _ false (by decide) (iteF (D _ _ _ _ false (by decide) (iteF (D _ _ _ _ true (by decide) (iteT (R _ rfl))))))))))))
  | NoSquare => exact D _ _ _ _ false (by decide) (iteF (D _ _ _ _ false (by decide) (iteF (D _ _ _ _ false (by decide) (iteF (D _ _ _ _ false (by decide) (iteF (D _ _ _ _ false (by decide) (iteF (D _ _ _ _ false (by decide) (iteF (D _ _ _ _ true (by decide) (iteT (R _ rfl))))))))))))))
  | Ring => exact D _ _ _ _ false (by decide) (iteF (D _ _ _ _ false (by decide) (iteF (D _ _ _ _ false (by decide) (iteF (D _ _ _ _ false (by decide) (iteF (D _ _ _ _ false (by decide) (iteF (D _ _ _ _ false (by decide) (iteF (D _ _ _ _ false (by decide) (iteF (D _ _ _ _ true (by decide) (iteT (R _ rfl))))))))))))))))
def rowW (k : RK) (n m : Nat) (ns : List Nat) : List (List Nat) := nmC k :: ((if numK k then [numC n] else []) ++ (if sgnK k then [numC m] else []) ++ ns.map numC)
structure RowOk2 (k : RK) (h w g : Int) (n m : Nat) (ns : List Nat) (cs : List Int) : Prop where
  k0 : k ≠ .Rule
  n0 : n ≤ 99
  nz : numK k = false → n = 0
  m0 : sgnK k = true → 1 ≤ (m : Int) ∧ (m : Int) ≤ g
  mz : sgnK k = false → m = 0
  cl : CellsOf k h w ns cs
  ns0 : ∀ x ∈ ns, x < 100
  len : ns.length ≤ 16
def sp_read_rule (K : PySem.W.Frag) (c : RCl RK) : Sp := fun vs H Q _ => ∃ (k : RK) (p : Addr) (h w g : Int) (n m : Nat) (ns : List Nat) (cs : List Int), vs = [.ref p, .str (tx (catL 32 (rowW k n m ns)))] ∧ IsFl H p h w g ∧ FlOk h w g ∧ RowOk2 k h w g n m ns cs ∧ c.ok k = true ∧
  ∀ r H', Same H H' → H r = none → IsRule H' c k r p (rowW k n m ns) cs n m → Q (.ref r) H'
theorem sl_read_rule {K : PySem.W.Frag} {c : RCl RK} {vs : List V} {H : Hp} {Q : VK} {E : XK} (h : sp_read_rule K c vs H Q E) : vs.length = 2 := by
  obtain ⟨_, _, _, _, _, _, _, _, _, rfl, _⟩ := h; rfl
def rd_read_rule_t8 (K : PySem.W.Frag) (c : RCl RK) : TS :=
  (tRet (tCall (sp_rule_by K c) [] E0 (tCons (tVar 0) (tCons (tVar 2) (tCons (tCall (sp_cells_of K) [] E0 (tCons (tVar 0) (tCons (tVar 3) (tCons (tVar 4) tNil)))) (tCons (tVar 5) (tCons (tVar 6) tNil)))))))
def rd_read_rule_t2 (K : PySem.W.Frag) (c : RCl RK) : TS :=
  (tSeq (tAsg (tOp cIx (tVar 2) (tC (.int 0))) (gName 3))
    (tSeq (tAsg (tSl cSl2 (tVar 2) (tPart (tC (.int 1))) tNoPart) (gName 4))
    (tSeq (tAsg (tC (.int 0)) (gName 5))
    (tSeq (tAsg (tC (.int 0)) (gName 6))
    (tSeq (tIfS (tB (tInG gt_WITH_NUMBER false (tVar 3))) (tSeq (tAsg (tCall (sp_first_within K) [] E0 (tCons (tVar 4) (tCons (tC (.int 0)) (tCons (tC (.int 99)) tNil)))) (gName 5))
    (tAsg (tSl cSl2 (tVar 4) (tPart (tC (.int 1))) tNoPart) (gName 4))) tNext)
    (tSeq (tIfS (tB (tInG gt_WITH_SIGN false (tVar 3))) (tSeq (tAsg (tCall (sp_first_within K) [] E0 (tCons (tVar 4) (tCons (tC (.int 1)) (tCons (tOp cIx (tVar 0) (tC (.int 2))) tNil)))) (gName 6))
    (tAsg (tSl cSl2 (tVar 4) (tPart (tC (.int 1))) tNoPart) (gName 4))) tNext)
    (rd_read_rule_t8 K c)))))))
def rd_read_rule (K : PySem.W.Frag) (c : RCl RK) : TS :=
  (tSeq (tIfS (tNot (tB (tCB kIsi (tCons (tVar 1) (tCons (tC (.ty "str")) tNil))))) tNever tNext)
    (tSeq (tAsg (tBM K "str" kSplit (tVar 1) (tCons (tC (.str (tx [32]))) tNil)) (gName 2))
    (rd_read_rule_t2 K c)))
theorem nm_free (k : RK) : 32 ∉ nmC k := by cases k <;> decide
theorem rowW_free {k : RK} {n m : Nat} {ns : List Nat} (hn : n < 100) (hm : m < 100) (hs : ∀ x ∈ ns, x < 100) : ∀ r ∈ rowW k n m ns, 32 ∉ r := by
  intro r hr
  unfold rowW at hr
  rcases List.mem_cons.mp hr with rfl | hr
  · exact nm_free k
  rcases List.mem_append.mp hr with hr | hr
  · rcases List.mem_append.mp hr with hr | hr
    · split at hr
      · rw [List.mem_singleton.mp hr]; exact num_free hn
      · cases hr
    · split at hr
      · rw [List.mem_singleton.mp hr]; exact num_free hm
      · cases hr
  · obtain ⟨x, hx, rfl⟩ := List.mem_map.mp hr
    exact num_free (hs x hx)
theorem cut_tail (xs : List V) : cutV xs (some 1) none = xs.drop 1 := by
  unfold cutV
  have h1 : HT.sIx xs.length 0 (some 1) = min 1 xs.length := HT.sIx_nat ..
  have h2 : HT.sIx xs.length xs.length none = xs.length := rfl
  rw [h1, h2]
  cases xs with
  | nil => rfl
  | cons x r =>
    have : min 1 (x :: r).length = 1 := by simp
    rw [this]
    show (r).take _ = r
    rw [List.take_of_length_le (by simp)]
theorem rk_read_rule_t8 {K : PySem.W.Frag} {c : RCl RK} {H : Hp} {Q : VK} {k : RK} {p W R : Addr} {h w g : Int} {n m : Nat} {ws : List (List Nat)} {ns : List Nat} {cs : List Int} {lv : V} (F : FlOk h w g) (ha : IsFl H p h w g) (hW : H W = some (.lst (((nmC k :: ws).map tx).map V.str))) (hR : H R = some (.lst (((ns.map numC).map tx).map V.str))) (hc : CellsOf k h w ns cs) (hn : ∀ x ∈ ns, x < 100) (k0 : k ≠ .Rule) (ok : c.ok k = true)
    (q : ∀ r H', Same H H' → H r = none → IsRule H' c k r p (nmC k :: ws) cs n m → Q (.ref r) H') :
    rd_read_rule_t8 K c { nx := fun _ H' => Q .non H', rt := Q } [some (.ref p), some lv, some (.ref W), some (.str (tx (nmC k))), some (.ref R), some (.int n), some (.int m)] H := by
  unfold rd_read_rule_t8
  walk_at "w"
  refine ⟨k, p, R, h, w, g, ns, cs, rfl, ha, F, hR, hc, hn, fun l H1 s1 hl el => ?_⟩
  walk_at "w"
  exact ⟨k, p, W, l, ws, cs, n, m, rfl, k0, ok, s1 _ _ hW, el, fun r H2 s2 hr x => q r H2 (s1.trans s2) (s1.free hr) x⟩
theorem row_mem_len {k : RK} {n m : Nat} {ns : List Nat} (h : ns.length ≤ 16) : (rowW k n m ns).length ≤ 100 ∧ ∀ w ∈ rowW k n m ns, w.length ≤ 100 := by
  unfold rowW
  refine ⟨?_, fun w hw => ?_⟩
  · simp only [List.length_cons, List.length_append, List.length_map]
    split <;> split <;> simp <;> omega
  · rcases List.mem_cons.mp hw with rfl | hw
    · cases k <;> decide
    have h2 : ∀ x, (numC x).length ≤ 100 := fun x => Nat.le_trans num_len (by decide)
    rcases List.mem_append.mp hw with hw | hw
    · rcases List.mem_append.mp hw with hw | hw
      · split at hw
        · rw [List.mem_singleton.mp hw]; exact h2 _
        · cases hw
      · split at hw
        · rw [List.mem_singleton.mp hw]; exact h2 _
        · cases hw
    · obtain ⟨x, hx, rfl⟩ := List.mem_map.mp hw
      exact h2 _
theorem catL_len32 : ∀ (rows : List (List Nat)), (∀ r ∈ rows, r.length ≤ 100) → (catL 32 rows).length ≤ 101 * rows.length
  | [], _ => Nat.zero_le _
  | [x], h => by
    have := h x List.mem_cons_self
    show x.length ≤ 101 * 1
    omega
  | x :: y :: r, h => by
    have h1 := h x List.mem_cons_self
    have ih := catL_len32 (y :: r) fun z hz => h z (List.mem_cons_of_mem _ hz)
    have e : catL 32 (x :: y :: r) = x ++ 32 :: catL 32 (y :: r) := by first | rfl | simp [catL]
    rw [e, List.length_append, List.length_cons, List.length_cons]
    omega
theorem sl_tail {H : Hp} {Q : VK} {p : Addr} {x : Str} {xs : List Str} (hp : H p = some (.lst ((x :: xs).map V.str))) (q : ∀ l, H l = none → Q (.ref l) (upd H l (.lst (xs.map V.str)))) : cSl2 (.ref p) (some 1) none H Q := by
  refine w_slL hp fun l hl => ?_
  rw [cut_tail]
  exact q l hl
theorem rk_read_rule_t2 {K : PySem.W.Frag} {c : RCl RK} {H : Hp} {Q : VK} {k : RK} {p W : Addr} {h w g : Int} {n m : Nat} {ns : List Nat} {cs : List Int} {lv : V} (F : FlOk h w g) (ha : IsFl H p h w g) (hW : H W = some (.lst (((rowW k n m ns).map tx).map V.str))) (O : RowOk2 k h w g n m ns cs) (ok : c.ok k = true)
    (q : ∀ r H', Same H H' → H r = none → IsRule H' c k r p (rowW k n m ns) cs n m → Q (.ref r) H') :
    rd_read_rule_t2 K c { nx := fun _ H' => Q .non H', rt := Q } [some (.ref p), some lv, some (.ref W), none, none, none, none] H := by
  obtain ⟨k0, n0, nz, m0, mz, cl, ns0, len⟩ := O
  obtain ⟨h0, h1, w0, w1, m16, g0, g1⟩ := id F
  have e0 : atI (((rowW k n m ns).map tx).map V.str) 0 = some (V.str (tx (nmC k))) := atI_nat (j := 0) rfl
  have hns : WOk (ns.map numC) := fun v hv => by obtain ⟨x, hx, rfl⟩ := List.mem_map.mp hv; exact num_wok (ns0 x hx)
  unfold rd_read_rule_t2
  walk_at "w"
  refine ixL hW e0 ?_
  walk_at "w"
  refine sl_tail hW fun R hR => ?_
  have s1 : Same H (upd H R (.lst ((((if numK k then [numC n] else []) ++ (if sgnK k then [numC m] else []) ++ ns.map numC).map tx).map V.str))) := (Same.refl H).laid hR
  have eR : (upd H R (.lst ((((if numK k then [numC n] else []) ++ (if sgnK k then [numC m] else []) ++ ns.map numC).map tx).map V.str))) R = some (.lst ((((if numK k then [numC n] else []) ++ (if sgnK k then [numC m] else []) ++ ns.map numC).map tx).map V.str)) := upd_same
  generalize upd H R (.lst ((((if numK k then [numC n] else []) ++ (if sgnK k then [numC m] else []) ++ ns.map numC).map tx).map V.str)) = H1 at *
  walk_at "w"
  have two : ∀ {H2 : Hp} {R2 : Addr}, Same H H2 → H2 R2 = some (.lst ((((if sgnK k then [numC m] else []) ++ ns.map numC).map tx).map V.str)) →
      tSeq (tIfS (tB (tInG gt_WITH_SIGN false (tVar 3))) (tSeq (tAsg (tCall (sp_first_within K) [] E0 (tCons (tVar 4) (tCons (tC (.int 1)) (tCons (tOp cIx (tVar 0) (tC (.int 2))) tNil)))) (gName 6)) (tAsg (tSl cSl2 (tVar 4) (tPart (tC (.int 1))) tNoPart) (gName 4))) tNext) (rd_read_rule_t8 K c) { nx := fun _ H' => Q .non H', rt := Q }
        [some (.ref p), some lv, some (.ref W), some (.str (tx (nmC k))), some (.ref R2), some (.int n), some (.int 0)] H2 := by
    intro H2 R2 s2 eR2
    rw [w_seq, w_if]
    walk_at "w"
    rw [in_sgn]
    cases hs : sgnK k with
    | false =>
      rw [hs] at eR2
      have := mz hs
      subst this
      walk_at "w"
      exact rk_read_rule_t8 F (s2 _ _ ha) (s2 _ _ hW) eR2 cl ns0 k0 ok fun r H3 s3 hr x => q r H3 (s2.trans s3) (s2.free hr) x
    | true =>
      rw [hs] at eR2
      have hm := m0 hs
      walk_at "w"
      refine ixT (s2 _ _ ha) (v := V.int g) rfl ?_
      walk_at "w"
      refine ⟨R2, m, ns.map numC, 1, g, rfl, eR2, by omega, hns, hm.1, hm.2, fun H3 s3 => ?_⟩
      walk_at "w"
      refine sl_tail (s3 _ _ eR2) fun R3 hR3 => ?_
      have s4 : Same H3 (upd H3 R3 (.lst (((ns.map numC).map tx).map V.str))) := (Same.refl H3).laid hR3
      have s24 := (s2.trans s3).trans s4
      exact rk_read_rule_t8 F (s24 _ _ ha) (s24 _ _ hW) upd_same cl ns0 k0 ok fun r H5 s5 hr x => q r H5 (s24.trans s5) (s24.free hr) x
  rw [w_if]
  walk_at "w"
  rw [in_num]
  cases hn : numK k with
  | false =>
    rw [hn] at eR
    have := nz hn
    subst this
    walk_at "w"
    exact two s1 eR
  | true =>
    rw [hn] at eR
    walk_at "w"
    refine ⟨R, n, (if sgnK k then [numC m] else []) ++ ns.map numC, 0, 99, rfl, eR, by omega, ?_, by omega, by omega, fun H3 s3 => ?_⟩
    · intro v hv
      rcases List.mem_append.mp hv with hv | hv
      · split at hv
        · rename_i hs
          have := m0 hs
          rw [List.mem_singleton.mp hv]; exact num_wok (by omega)
        · cases hv
      · exact hns v hv
    walk_at "w"
    refine sl_tail (s3 _ _ eR) fun R3 hR3 => ?_
    have s4 : Same H3 (upd H3 R3 (.lst ((((if sgnK k then [numC m] else []) ++ ns.map numC).map tx).map V.str))) := (Same.refl H3).laid hR3
    walk_at "w"
    exact two ((s1.trans s3).trans s4) upd_same
theorem rk_read_rule {K : PySem.W.Frag} {c : RCl RK} {vs : List V} {H : Hp} {Q : VK} {E : XK} (h : sp_read_rule K c vs H Q E) : rd_read_rule K c { nx := fun _ H' => Q .non H', rt := Q } (start ["floor", "line", "words", "name", "rest", "amount", "mark"] vs) H := by
  obtain ⟨k, p, h, w, g, n, m, ns, cs, rfl, ha, F, O, ok, q⟩ := h
  have hm : m < 100 := by
    by_cases hs : sgnK k = true
    · have := (O.m0 hs).2
      have := F.g1
      omega
    · have := O.mz (by simpa using hs)
      omega
  have hsp : Txt.split (tx (catL 32 (rowW k n m ns))) (tx [32]) = (rowW k n m ns).map tx := split_tx (by simp [rowW]) (rowW_free (by have := O.n0; omega) hm O.ns0)
  have hl := row_mem_len (k := k) (n := n) (m := m) O.len
  have hl2 := catL_len32 _ hl.2
  show rd_read_rule K c _ [some (.ref p), some (.str (tx (catL 32 (rowW k n m ns)))), none, none, none, none, none] H
  unfold rd_read_rule
  rw [w_seq, w_if]
  walk_at "w"
  refine ⟨w_tyS, ?_⟩
  rw [w_split, hsp]
  refine ⟨by rw [tx_len]; decide, by rw [tx_len]; exact Nat.le_of_lt (Nat.lt_of_le_of_lt hl2 (Nat.lt_of_le_of_lt (Nat.mul_le_mul_left 101 hl.1) (by decide))), by rw [List.length_map]; exact len_le (by omega), fun W hW => ?_⟩
  have s1 : Same H (upd H W (.lst (((rowW k n m ns).map tx).map V.str))) := (Same.refl H).laid hW
  exact rk_read_rule_t2 F (s1 _ _ ha) upd_same O ok fun r H2 s2 hr x => q r H2 (s1.trans s2) (s1.free hr) x
theorem erase_map {α β : Type} (f : α → β) : ∀ (l : List α) (j : Nat), (l.map f).eraseIdx j = (l.eraseIdx j).map f
  | [], _ => rfl
  | _ :: _, 0 => rfl
  | x :: r, j + 1 => by
    show f x :: (r.map f).eraseIdx j = f x :: (r.eraseIdx j).map f
    rw [erase_map f r j]
theorem perm_erase {α : Type} : ∀ (l : List α) (j : Nat) (h : j < l.length), (l[j] :: l.eraseIdx j).Perm l
  | [], _, h => absurd h (by simp)
  | x :: r, 0, _ => List.Perm.refl _
  | x :: r, j + 1, h => by
    have hj : j < r.length := by simpa using h
    have ih := perm_erase r j hj
    show (r[j] :: x :: r.eraseIdx j).Perm (x :: r)
    exact (List.Perm.swap x r[j] (r.eraseIdx j)).trans (List.Perm.cons x ih)
theorem nodup_of_map {α β : Type} (f : α → β) : ∀ {l : List α}, (l.map f).Nodup → l.Nodup
  | [], _ => List.nodup_nil
  | a :: r, h => by
    rw [List.map_cons, List.nodup_cons] at h
    rw [List.nodup_cons]
    exact ⟨fun z => h.1 (List.mem_map.mpr ⟨a, z, rfl⟩), nodup_of_map f h.2⟩
theorem rng_nodup (n : Int) : (rngL 0 n).Nodup := by
  unfold rngL
  have e : (List.range (n - 0).toNat).map (fun (k : Nat) => 0 + (k : Int)) = (List.range (n - 0).toNat).map fun (k : Nat) => (k : Int) := List.map_congr_left fun k _ => by omega
  rw [e]
  exact nodup_cast List.nodup_range
theorem rng_mem {n x : Int} (h : x ∈ rngL 0 n) : 0 ≤ x ∧ x < n := by
  unfold rngL at h
  obtain ⟨k, hk, rfl⟩ := List.mem_map.mp h
  have := List.mem_range.mp hk
  omega
theorem num_log {n : Nat} (h : n < 100) : ((n : Int)).natAbs.log2 < 1920 := by
  have t : ((List.range 100).all fun n => decide (n.log2 < 1920)) = true := by decide +kernel
  have := List.all_eq_true.mp t n (List.mem_range.mpr h)
  simpa using this
theorem str_num {H : Hp} {Q : VK} {n : Nat} (h : n < 100) (q : Q (.str (tx (numC n))) H) : kStr [.int (n : Int)] H Q := by
  refine ⟨num_log h, ?_⟩
  rw [num_str h]
  exact q
theorem strs_comp {K : PySem.W.Frag} {H : Hp} {C : Addr} {cs : List Nat} {fin : Addr → Hp → Prop} (hC : H C = some (.lst ((cs.map fun (n : Nat) => (n : Int)).map V.int))) (hl : cs.length ≤ 100) (hc : ∀ c ∈ cs, c < 100)
    (hd : ∀ l H', H l = none → Same H H' → H' l = some (.lst (((cs.map numC).map tx).map V.str)) → fin l H') : CompR (Itl K C) (gName 1) tTrue (tCB kStr (tCons (tVar 1) tNil)) fin [none, none] H := by
  refine compV_list (xs := (cs.map fun (n : Nat) => (n : Int)).map V.int) (fun _ => true) (fun i => .str (tx (numC (cs.getD i 0)))) (by simp; omega) (SqL.of hC) ?_ ?_ ?_
  · intro i x H1 R hx s1 k1
    exact k1 _ (Same.refl _)
  · intro i x H1 Q1 hx hb s1 k1
    rw [List.getElem?_map, List.getElem?_map] at hx
    cases e : cs[i]? with
    | none => rw [e] at hx; cases hx
    | some n =>
      rw [e] at hx
      cases hx
      show tCB kStr _ [none, some (.int (n : Int))] H1 Q1
      walk_at "w"
      have q1 := k1 _ (Same.refl H1)
      have eg : cs.getD i 0 = n := by rw [List.getD, e]; rfl
      rw [eg] at q1
      have := str_num (H := H1) (Q := Q1) (hc n (List.mem_of_getElem? e)) q1
      exact this
  · intro l H1 hl1 s1 el
    refine hd l H1 hl1 s1 ?_
    rw [el, filter_tt, List.length_map, List.length_map, List.map_map, List.map_map]
    congr 2
    refine List.ext_getElem? fun i => ?_
    rw [List.getElem?_map, List.getElem?_map]
    by_cases h : i < cs.length
    · rw [List.getElem?_range h, List.getElem?_eq_getElem h]
      simp [List.getD, h]
    · rw [List.getElem?_eq_none (by simpa using h), List.getElem?_eq_none (by omega)]; rfl
theorem cat_cons {c : Nat} {x : List Nat} : ∀ {rs : List (List Nat)}, rs ≠ [] → catL c (x :: rs) = x ++ c :: catL c rs
  | [], h => absurd rfl h
  | y :: r, _ => by first | rfl | simp [catL]
end L2
set_option Elab.async false
set_option linter.all false
set_option maxRecDepth 100000
namespace L2
open PySem PySem.Spec PyProof.Rows
section
variable {X : Cx} {a : Expr} {ta : TE} {pos p : Pos} {x : Str} {ws : List Str}
theorem pt_inG (G : GTup X.K X.mg x ws) (ha : PE X a ta) (hg : Gl X x) (hdb : (x == ("__debug__" : Str)) = false := by decide) (hm : behindInMarks .In (.Name x p) = false := by with_unfolding_all rfl) : PT X (.Compare a [.In] [.Name x p] pos) (tB (tInG ws false ta)) := by
  obtain ⟨q, o, its, n, h1, h2⟩ := G.ex
  have h0 := pt_cmpR (pos := pos) (op_inG ⟨o, its, n, h2⟩) ha (pe_glob (v := V.ref q) hg h1 rfl hdb) hm
  intro pins s σ H Q I h
  refine h0 pins s σ H Q I ?_
  have e : (fun (x : V) (H1 : Hp) => ∃ z, x = .str z ∧ ∃ k, V.bl (if false = true then !decide (z ∈ ws) else decide (z ∈ ws)) = .bl k ∧ Q k H1) = fun x H1 => ∃ z, x = .str z ∧ (V.ref q = V.ref q) ∧ ∃ k, V.bl (decide (z ∈ ws)) = .bl k ∧ Q k H1 := by
    funext x H1; simp
  have h' : ta σ H (fun (x : V) (H1 : Hp) => ∃ z, x = .str z ∧ ∃ k, V.bl (if false = true then !decide (z ∈ ws) else decide (z ∈ ws)) = .bl k ∧ Q k H1) := h
  rw [e] at h'
  exact h'
theorem pt_ninG (G : GTup X.K X.mg x ws) (ha : PE X a ta) (hg : Gl X x) (hdb : (x == ("__debug__" : Str)) = false := by decide) (hm : behindInMarks .NotIn (.Name x p) = false := by with_unfolding_all rfl) : PT X (.Compare a [.NotIn] [.Name x p] pos) (tB (tInG ws true ta)) := by
  obtain ⟨q, o, its, n, h1, h2⟩ := G.ex
  have h0 := pt_cmpR (pos := pos) (op_ninG ⟨o, its, n, h2⟩) ha (pe_glob (v := V.ref q) hg h1 rfl hdb) hm
  intro pins s σ H Q I h
  refine h0 pins s σ H Q I ?_
  have e : (fun (x : V) (H1 : Hp) => ∃ z, x = .str z ∧ ∃ k, V.bl (if true = true then !decide (z ∈ ws) else decide (z ∈ ws)) = .bl k ∧ Q k H1) = fun x H1 => ∃ z, x = .str z ∧ (V.ref q = V.ref q) ∧ ∃ k, V.bl (!decide (z ∈ ws)) = .bl k ∧ Q k H1 := by
    funext x H1; simp
  have h' : ta σ H (fun (x : V) (H1 : Hp) => ∃ z, x = .str z ∧ ∃ k, V.bl (if true = true then !decide (z ∈ ws) else decide (z ∈ ws)) = .bl k ∧ Q k H1) := h
  rw [e] at h'
  exact h'
end
end L2
set_option Elab.async false
set_option linter.all false
set_option maxRecDepth 100000
namespace L2
open PySem PySem.Spec PyProof.Rows
local macro_rules | `(tactic| walk_at "w") => `(tactic| (first | simp only [w_seq, w_make, w_inG, w_lenset, w_revL, w_int2B, w_int2I, w_max, w_isN, w_notN, w_pow, if_true, if_false, Bool.false_eq_true, decide_true, decide_false, w_lrng1, w_lrng2, w_ifE, w_compR2, w_scompR2, w_forRD, w_forE, w_compE, w_scompE, w_intB, w_intI, w_bitlen, w_shr, w_isi_ii, w_isi_ib, w_isi_bb, w_isi_bi, w_isi_ss, w_isi_bs, w_isi_is, w_iteT, w_iteF, w_negE, w_bitI, w_str, Bool.not_true, Bool.not_false, w_next, w_asg, w_gname, w_var, w_c, w_op, w_ret, w_retN, w_drop, w_test, w_b, w_not, w_and, w_or, w_notV, w_andV, w_orV, w_nil, w_cons, w_cb, w_call, w_tup, w_lst, w_bm, w_bm0, w_true, w_dnew, w_dput, w_forL, w_forR1, w_forR2, w_compL, w_compR1, w_scompL, w_scompR1, w_add, w_sub, w_mul, w_div, w_mod, w_cmp, w_eqI, w_neI, w_eqB, w_neB, w_abs, w_min, w_sl, w_part, w_nopart, w_gsub, w_un, w_forS, w_compS, w_scompS, w_eqS, w_neS, w_lenS, w_addS, w_find,
  List.getElem?_cons_zero, List.getElem?_cons_succ, Option.some.injEq, exists_eq_left', exists_eq_left, List.set_cons_zero, List.set_cons_succ, bnd_some, V.int.injEq, V.bl.injEq, V.ref.injEq, V.str.injEq, List.append_nil, List.nil_append, List.cons_append] | dsimp only | skip))
inductive PzK where
  | Puzzle
  deriving DecidableEq
structure RR where
  k : RK
  n : Nat
  m : Nat
  ns : List Nat
  cs : List Int
def RR.ws (r : RR) : List (List Nat) := rowW r.k r.n r.m r.ns
def RR.txt (r : RR) : Str := tx (catL 32 r.ws)
def RR.Ok (r : RR) (h w g : Int) : Prop := RowOk2 r.k h w g r.n r.m r.ns r.cs
structure IsRules (H : Hp) (c : RCl RK) (p L : Addr) (rs : List Addr) (rows : List RR) : Prop where
  top : H L = some (.lst (rs.map V.ref))
  len : rs.length = rows.length
  at_ : ∀ (i : Nat) (r : Addr) (x : RR), rs[i]? = some r → rows[i]? = some x → IsRule H c x.k r p x.ws x.cs x.n x.m
theorem IsRules.same {H H' : Hp} {c : RCl RK} {p L : Addr} {rs : List Addr} {rows : List RR} (x : IsRules H c p L rs rows) (s : Same H H') : IsRules H' c p L rs rows :=
  ⟨s _ _ x.top, x.len, fun i r y h1 h2 => (x.at_ i r y h1 h2).same s⟩
theorem IsRule.lst {H : Hp} {c : RCl RK} {k : RK} {r p a : Addr} {ws : List (List Nat)} {cs : List Int} {n m : Int} {xs : List V} {o : HO} (x : IsRule H c k r p ws cs n m) (ha : H a = some (.lst xs)) : IsRule (upd H a o) c k r p ws cs n m := by
  obtain ⟨dx, W, C, h1, h2, h3⟩ := x.ex
  refine ⟨x.ok, dx, W, C, ?_, ?_, ?_⟩
  · rw [upd_ne (fun e => by rw [e, ha] at h1; cases h1)]; exact h1
  · rw [upd_ne (fun e => by rw [e, ha] at h2; cases h2)]; exact h2
  · rw [upd_ne (fun e => by rw [e, ha] at h3; cases h3)]; exact h3
def pFs (p L G : Addr) : List (Str × V) := [("floor", .ref p), ("laws", .ref L), ("given", .ref G)]
structure RowsOk (c : RCl RK) (h w g : Int) (rows : List RR) : Prop where
  F : FlOk h w g
  n : rows.length ≤ 12
  ok : ∀ r ∈ rows, r.Ok h w g
  c : ∀ r ∈ rows, c.ok r.k = true
structure CluesOk (h w g : Int) (cl : List Int) : Prop where
  len : cl.length = (h * w).toNat
  ok : ∀ x ∈ cl, 0 ≤ x ∧ x ≤ g
structure IsPz (H : Hp) (c : RCl RK) (d : RCl PzK) (P L G : Addr) (h w g : Int) (rows : List RR) (cl : List Int) : Prop where
  ok : d.ok .Puzzle = true
  R : RowsOk c h w g rows
  C : CluesOk h w g cl
  gv : H G = some (.lst (cl.map V.int))
  ex : ∃ dx p rs, H P = some (.ins (d.A .Puzzle) dx (pFs p L G)) ∧ IsFl H p h w g ∧ IsRules H c p L rs rows
theorem IsPz.same {H H' : Hp} {c : RCl RK} {d : RCl PzK} {P L G : Addr} {h w g : Int} {rows : List RR} {cl : List Int} (x : IsPz H c d P L G h w g rows cl) (s : Same H H') : IsPz H' c d P L G h w g rows cl := by
  obtain ⟨dx, p, rs, h1, h2, h3⟩ := x.ex
  exact ⟨x.ok, x.R, x.C, s _ _ x.gv, dx, p, rs, s _ _ h1, s _ _ h2, h3.same s⟩
def sp_is_whole (K : PySem.W.Frag) : Sp := fun vs H Q _ => ∃ i : Int, vs = [.int i] ∧ Q (.bl true) H
theorem sl_is_whole {K : PySem.W.Frag} {vs : List V} {H : Hp} {Q : VK} {E : XK} (h : sp_is_whole K vs H Q E) : vs.length = 1 := by
  obtain ⟨_, rfl, _⟩ := h; rfl
def rd_is_whole (K : PySem.W.Frag) : TS :=
  (tRet (tAndV (tCB kIsi (tCons (tVar 0) (tCons (tC (.ty "int")) tNil))) (tNotV (tCB kIsi (tCons (tVar 0) (tCons (tC (.ty "bool")) tNil))))))
theorem rk_is_whole {K : PySem.W.Frag} {vs : List V} {H : Hp} {Q : VK} {E : XK} (h : sp_is_whole K vs H Q E) : rd_is_whole K { nx := fun _ H' => Q .non H', rt := Q } (start ["value"] vs) H := by
  obtain ⟨i, rfl, q⟩ := h
  show rd_is_whole K _ [some (.int i)] H
  unfold rd_is_whole
  walk_at "w"
  exact q
def sp_is_from_one_to (K : PySem.W.Frag) : Sp := fun vs H Q _ => ∃ i m : Int, vs = [.int i, .int m] ∧ Q (.bl (decide (1 ≤ i) && decide (i ≤ m))) H
theorem sl_is_from_one_to {K : PySem.W.Frag} {vs : List V} {H : Hp} {Q : VK} {E : XK} (h : sp_is_from_one_to K vs H Q E) : vs.length = 2 := by
  obtain ⟨_, _, rfl, _⟩ := h; rfl
def rd_is_from_one_to (K : PySem.W.Frag) : TS :=
  (tRet (tAndV (tCall (sp_is_whole K) [] E0 (tCons (tVar 0) tNil)) (tAndV (tOp (cCmp fun i j => decide (i ≤ j)) (tC (.int 1)) (tVar 0)) (tOp (cCmp fun i j => decide (i ≤ j)) (tVar 0) (tVar 1)))))
theorem rk_is_from_one_to {K : PySem.W.Frag} {vs : List V} {H : Hp} {Q : VK} {E : XK} (h : sp_is_from_one_to K vs H Q E) : rd_is_from_one_to K { nx := fun _ H' => Q .non H', rt := Q } (start ["value", "most"] vs) H := by
  obtain ⟨i, m, rfl, q⟩ := h
  show rd_is_from_one_to K _ [some (.int i), some (.int m)] H
  unfold rd_is_from_one_to
  walk_at "w"
  refine ⟨i, rfl, ⟨true, rfl, iteT ?_⟩⟩
  walk_at "w"
  cases hb : decide (1 ≤ i) with
  | false =>
    rw [hb, Bool.false_and] at q
    exact iteF q
  | true =>
    rw [hb, Bool.true_and] at q
    exact iteT q
def sp_floor_of (K : PySem.W.Frag) : Sp := fun vs H Q _ => ∃ h w g : Int, vs = [.int h, .int w, .int g] ∧ FlOk h w g ∧ ∀ p, H p = none → Q (.ref p) (upd H p (.tup [.int h, .int w, .int g]))
theorem sl_floor_of {K : PySem.W.Frag} {vs : List V} {H : Hp} {Q : VK} {E : XK} (h : sp_floor_of K vs H Q E) : vs.length = 3 := by
  obtain ⟨_, _, _, rfl, _⟩ := h; rfl
def rd_floor_of (K : PySem.W.Frag) : TS :=
  (tSeq (tIfS (tNot (tB (tCall (sp_is_from_one_to K) [] E0 (tCons (tVar 0) (tCons (tC (.int 6)) tNil))))) tNever tNext)
    (tSeq (tIfS (tNot (tB (tCall (sp_is_from_one_to K) [] E0 (tCons (tVar 1) (tCons (tC (.int 6)) tNil))))) tNever tNext)
    (tSeq (tIfS (tTest (tOp (cCmp fun i j => decide (j < i)) (tOp cMul (tVar 0) (tVar 1)) (tC (.int 16)))) tNever tNext)
    (tSeq (tIfS (tNot (tB (tCall (sp_is_from_one_to K) [] E0 (tCons (tVar 2) (tCons (tC (.int 6)) tNil))))) tNever tNext)
    (tRet (tTup (tCons (tVar 0) (tCons (tVar 1) (tCons (tVar 2) tNil)))))))))
theorem rk_floor_of {K : PySem.W.Frag} {vs : List V} {H : Hp} {Q : VK} {E : XK} (h : sp_floor_of K vs H Q E) : rd_floor_of K { nx := fun _ H' => Q .non H', rt := Q } (start ["high", "wide", "signs"] vs) H := by
  obtain ⟨h, w, g, rfl, F, q⟩ := h
  obtain ⟨h0, h1, w0, w1, m16, g0, g1⟩ := id F
  show rd_floor_of K _ [some (.int h), some (.int w), some (.int g)] H
  unfold rd_floor_of
  rw [w_seq, w_if]
  walk_at "w"
  refine ⟨h, 6, rfl, ⟨_, rfl, ?_⟩⟩
  rw [decide_eq_true h0, decide_eq_true h1, Bool.and_self]
  refine iteF ?_
  rw [w_if]
  walk_at "w"
  refine ⟨w, 6, rfl, ⟨_, rfl, ?_⟩⟩
  rw [decide_eq_true w0, decide_eq_true w1, Bool.and_self]
  refine iteF ?_
  rw [w_if]
  walk_at "w"
  refine ⟨mul_small h0 h1, ?_⟩
  rw [decide_eq_false (show ¬ (16 : Int) < h * w by omega)]
  refine iteF ?_
  rw [w_if]
  walk_at "w"
  refine ⟨g, 6, rfl, ⟨_, rfl, ?_⟩⟩
  rw [decide_eq_true g0, decide_eq_true g1, Bool.and_self]
  refine iteF ?_
  walk_at "w"
  exact ⟨len_le (by show (3 : Nat) ≤ 1000; decide), q⟩
def sp_checked_floor (K : PySem.W.Frag) : Sp := fun vs H Q _ => ∃ (p : Addr) (h w g : Int), vs = [.ref p] ∧ IsFl H p h w g ∧ FlOk h w g ∧ ∀ p, H p = none → Q (.ref p) (upd H p (.tup [.int h, .int w, .int g]))
theorem sl_checked_floor {K : PySem.W.Frag} {vs : List V} {H : Hp} {Q : VK} {E : XK} (h : sp_checked_floor K vs H Q E) : vs.length = 1 := by
  obtain ⟨_, _, _, _, rfl, _⟩ := h; rfl
def rd_checked_floor (K : PySem.W.Frag) : TS :=
  (tSeq (tIfS (tOr (tNot (tB (tCB kIsi (tCons (tVar 0) (tCons (tC (.ty "tuple")) tNil))))) (tTest (tOp (cNe K) (tCB kLen (tCons (tVar 0) tNil)) (tC (.int 3))))) tNever tNext)
    (tRet (tCall (sp_floor_of K) [] E0 (tCons (tOp cIx (tVar 0) (tC (.int 0))) (tCons (tOp cIx (tVar 0) (tC (.int 1))) (tCons (tOp cIx (tVar 0) (tC (.int 2))) tNil))))))
theorem rk_checked_floor {K : PySem.W.Frag} {vs : List V} {H : Hp} {Q : VK} {E : XK} (h : sp_checked_floor K vs H Q E) : rd_checked_floor K { nx := fun _ H' => Q .non H', rt := Q } (start ["floor"] vs) H := by
  obtain ⟨p, h, w, g, rfl, hp, F, q⟩ := h
  show rd_checked_floor K _ [some (.ref p)] H
  unfold rd_checked_floor
  rw [w_seq, w_if]
  walk_at "w"
  refine w_isiT hp ?_
  walk_at "w"
  rw [w_lenT hp, show (([V.int h, V.int w, V.int g] : List V).length : Int) = 3 from rfl]
  walk_at "w"
  refine ixT hp (v := V.int h) rfl ?_
  walk_at "w"
  refine ixT hp (v := V.int w) rfl ?_
  walk_at "w"
  refine ixT hp (v := V.int g) rfl ?_
  walk_at "w"
  exact ⟨h, w, g, rfl, F, q⟩
def sp_read_rules (K : PySem.W.Frag) (c : RCl RK) : Sp := fun vs H Q _ => ∃ (p a : Addr) (h w g : Int) (rows : List RR), vs = [.ref p, .ref a] ∧ IsFl H p h w g ∧ H a = some (.lst ((rows.map RR.txt).map V.str)) ∧ RowsOk c h w g rows ∧
  ∀ l rs H', Same H H' → H l = none → IsRules H' c p l rs rows → Q (.ref l) H'
theorem sl_read_rules {K : PySem.W.Frag} {c : RCl RK} {vs : List V} {H : Hp} {Q : VK} {E : XK} (h : sp_read_rules K c vs H Q E) : vs.length = 2 := by
  obtain ⟨_, _, _, _, _, _, rfl, _⟩ := h; rfl
def rd_read_rules (K : PySem.W.Frag) (c : RCl RK) : TS :=
  (tSeq (tIfS (tTest (tOp (cCmp fun i j => decide (j < i)) (tCB kLen (tCons (tVar 1) tNil)) (tC (.int 12)))) tNever tNext)
    (tRet (tComp [none, none, some 0] (iList K (tVar 1)) (gName 1) tTrue (tCall (sp_read_rule K c) [] E0 (tCons (tVar 2) (tCons (tVar 1) tNil))))))
theorem rk_read_rules {K : PySem.W.Frag} {c : RCl RK} {vs : List V} {H : Hp} {Q : VK} {E : XK} (h : sp_read_rules K c vs H Q E) : rd_read_rules K c { nx := fun _ H' => Q .non H', rt := Q } (start ["floor", "lines"] vs) H := by
  obtain ⟨p, a, h, w, g, rows, rfl, hp, ha, O, q⟩ := h
  have hn := O.n
  show rd_read_rules K c _ [some (.ref p), some (.ref a)] H
  unfold rd_read_rules
  rw [w_seq, w_if]
  walk_at "w"
  rw [w_len ha, List.length_map, List.length_map]
  walk_at "w"
  rw [decide_eq_false (show ¬ (12 : Int) < (rows.length : Nat) by omega)]
  refine iteF ?_
  walk_at "w"
  refine ⟨⟨_, SqL.of ha⟩, ?_⟩
  refine comp_list (xs := (rows.map RR.txt).map V.str) (fun l i σ H' => (∃ cv, σ = [none, cv, some (.ref p)]) ∧ Same H H' ∧ ∃ rs : List Addr, H' l = some (.lst (rs.map V.ref)) ∧ rs.length = i ∧ ∀ (j : Nat) (r : Addr) (x : RR), rs[j]? = some r → rows[j]? = some x → IsRule H' c x.k r p x.ws x.cs x.n x.m)
    (fun l hl => ⟨⟨none, rfl⟩, (Same.refl H).laid hl, [], by rw [upd_same]; rfl, rfl, fun j r x e => by simp at e⟩) (fun l i σ H' _ _ x => x.2.1.seq (SqL.of ha)) ?_ ?_
  · rintro l i x σ H1 hl hx ⟨⟨cv, rfl⟩, s1, rs, el, hlen, hat⟩
    rw [List.getElem?_map, List.getElem?_map] at hx
    cases e : rows[i]? with
    | none => rw [e] at hx; cases hx
    | some y =>
      rw [e] at hx
      cases hx
      have hi := (List.getElem?_eq_some_iff.mp e).1
      have hm := List.mem_of_getElem? e
      rw [w_gname]
      show tTrue [none, some (.str y.txt), some (.ref p)] H1 _
      walk_at "w"
      refine ⟨y.k, p, h, w, g, y.n, y.m, y.ns, y.cs, rfl, s1 _ _ hp, O.F, O.ok y hm, O.c y hm, fun r H2 s2 hr xr => ?_⟩
      have nrl : r ≠ l := fun z => by rw [z, el] at hr; cases hr
      refine ⟨_, s2 _ _ el, by rw [List.length_map]; exact small1000 (by omega), ⟨_, rfl⟩, (s1.trans s2).own hl, rs ++ [r], by rw [upd_same]; simp, by simp [hlen], fun j r' x' h1 h2 => ?_⟩
      by_cases hj : j < rs.length
      · rw [List.getElem?_append_left hj] at h1
        exact ((hat j r' x' h1 h2).same s2).lst (s2 _ _ el)
      · rw [List.getElem?_append_right (by omega)] at h1
        have hj0 : j - rs.length = 0 := by
          have := (List.getElem?_eq_some_iff.mp h1).1
          simp at this
          omega
        rw [hj0] at h1
        have : j = i := by omega
        subst this
        rw [e] at h2
        simp at h1
        cases h2
        subst h1
        exact xr.lst (s2 _ _ el)
  · rintro l σ H1 hl ⟨_, s1, rs, el, hlen, hat⟩
    exact q l rs H1 s1 hl ⟨el, by rw [hlen]; simp, hat⟩
def filB (least g : Int) (n : Nat) (xs : List Int) : Bool := decide (xs.length = n) && xs.all fun x => decide (least ≤ x) && decide (x ≤ g)
def sp_is_filling (K : PySem.W.Frag) : Sp := fun vs H Q _ => ∃ (p a : Addr) (h w g least : Int) (xs : List Int), vs = [.ref p, .ref a, .int least] ∧ IsFl H p h w g ∧ FlOk h w g ∧ H a = some (.lst (xs.map V.int)) ∧ xs.length ≤ 100 ∧ ∀ H', Same H H' → Q (.bl (filB least g (h * w).toNat xs)) H'
theorem sl_is_filling {K : PySem.W.Frag} {vs : List V} {H : Hp} {Q : VK} {E : XK} (h : sp_is_filling K vs H Q E) : vs.length = 3 := by
  obtain ⟨_, _, _, _, _, _, _, rfl, _⟩ := h; rfl
def rd_is_filling (K : PySem.W.Frag) : TS :=
  (tSeq (tIfS (tOr (tNot (tB (tCB kIsi (tCons (tVar 1) (tCons (tC (.ty "list")) tNil))))) (tTest (tOp (cNe K) (tCB kLen (tCons (tVar 1) tNil)) (tCall (sp_many_cells K) [] E0 (tCons (tVar 0) tNil))))) (tRet (tC (.bl false))) tNext)
    (tRet (tCB kAll (tCons (tComp [none, none, some 0, some 2] (iList K (tVar 1)) (gName 1) tTrue (tAndV (tCall (sp_is_whole K) [] E0 (tCons (tVar 1) tNil)) (tAndV (tOp (cCmp fun i j => decide (i ≤ j)) (tVar 3) (tVar 1)) (tOp (cCmp fun i j => decide (i ≤ j)) (tVar 1) (tOp cIx (tVar 2) (tC (.int 2))))))) tNil))))
theorem rk_is_filling {K : PySem.W.Frag} {vs : List V} {H : Hp} {Q : VK} {E : XK} (h : sp_is_filling K vs H Q E) : rd_is_filling K { nx := fun _ H' => Q .non H', rt := Q } (start ["floor", "filling", "least"] vs) H := by
  obtain ⟨p, a, h, w, g, least, xs, rfl, hp, F, ha, hn, q⟩ := h
  obtain ⟨h0, h1, w0, w1, m16, g0, g1⟩ := id F
  have mpos : 0 ≤ h * w := Int.mul_nonneg (by omega) (by omega)
  show rd_is_filling K _ [some (.ref p), some (.ref a), some (.int least)] H
  unfold rd_is_filling
  rw [w_seq, w_if]
  walk_at "w"
  refine w_isiL ha ?_
  walk_at "w"
  rw [w_len ha, List.length_map]
  walk_at "w"
  refine ⟨p, h, w, g, rfl, hp, h0, h1, ?_⟩
  walk_at "w"
  unfold filB at q
  by_cases hl : xs.length = (h * w).toNat
  · rw [decide_eq_true (show (xs.length : Int) = h * w by omega)]
    rw [decide_eq_true hl] at q
    walk_at "w"
    refine ⟨⟨_, SqL.of ha⟩, ?_⟩
    refine compV_list (xs := xs.map V.int) (fun _ => true) (fun i => .bl (decide (least ≤ xs.getD i 0) && decide (xs.getD i 0 ≤ g))) (by rw [List.length_map]; omega) (SqL.of ha) ?_ ?_ ?_
    · intro i x H1 R hx s1 k1
      exact k1 _ (Same.refl _)
    · intro i x H1 Q1 hx hb s1 k1
      obtain ⟨z, hz, rfl⟩ := map_int_get hx
      have q1 := k1 _ (Same.refl H1)
      rw [getD_of hz] at q1
      show tAndV _ _ [none, some (.int z), some (.ref p), some (.int least)] H1 Q1
      walk_at "w"
      refine ⟨z, rfl, ⟨true, rfl, iteT ?_⟩⟩
      walk_at "w"
      cases hb : decide (least ≤ z) with
      | false =>
        rw [hb, Bool.false_and] at q1
        exact iteF q1
      | true =>
        rw [hb, Bool.true_and] at q1
        refine iteT ?_
        walk_at "w"
        refine ixT (s1 _ _ hp) (v := V.int g) rfl ?_
        walk_at "w"
        exact q1
    · intro l H1 hl1 s1 el
      have eb : ((List.range (xs.map V.int).length).filter fun _ => true).map (fun i => V.bl (decide (least ≤ xs.getD i 0) && decide (xs.getD i 0 ≤ g))) = (xs.map fun x => decide (least ≤ x) && decide (x ≤ g)).map V.bl := by
        rw [filter_tt, List.length_map]
        refine List.ext_getElem? fun i => ?_
        rw [List.getElem?_map, List.getElem?_map, List.getElem?_map]
        by_cases h : i < xs.length
        · rw [List.getElem?_range h, List.getElem?_eq_getElem h]
          simp [List.getD, h]
        · rw [List.getElem?_eq_none (by simpa using h), List.getElem?_eq_none (by omega)]; rfl
      rw [eb] at el
      refine w_all el ?_
      have ea : (xs.map fun x => decide (least ≤ x) && decide (x ≤ g)).all id = xs.all fun x => decide (least ≤ x) && decide (x ≤ g) := by rw [List.all_map]; rfl
      rw [ea]
      exact q _ s1
  · rw [decide_eq_false (show ¬ (xs.length : Int) = h * w by omega)]
    rw [decide_eq_false hl] at q
    walk_at "w"
    exact q _ (Same.refl _)
def sp_checked_clues (K : PySem.W.Frag) : Sp := fun vs H Q _ => ∃ (p a : Addr) (h w g : Int) (xs : List Int), vs = [.ref p, .ref a] ∧ IsFl H p h w g ∧ FlOk h w g ∧ H a = some (.lst (xs.map V.int)) ∧ CluesOk h w g xs ∧ ∀ l H', Same H H' → H l = none → H' l = some (.lst (xs.map V.int)) → Q (.ref l) H'
theorem sl_checked_clues {K : PySem.W.Frag} {vs : List V} {H : Hp} {Q : VK} {E : XK} (h : sp_checked_clues K vs H Q E) : vs.length = 2 := by
  obtain ⟨_, _, _, _, _, _, rfl, _⟩ := h; rfl
def rd_checked_clues (K : PySem.W.Frag) : TS :=
  (tSeq (tIfS (tNot (tB (tCall (sp_is_filling K) [] E0 (tCons (tVar 0) (tCons (tVar 1) (tCons (tC (.int 0)) tNil)))))) tNever tNext)
    (tRet (tCB kList (tCons (tVar 1) tNil))))
theorem CluesOk.fil {h w g : Int} {xs : List Int} (C : CluesOk h w g xs) : filB 0 g (h * w).toNat xs = true := by
  unfold filB
  rw [decide_eq_true C.len, Bool.true_and, List.all_eq_true]
  intro x hx
  have := C.ok x hx
  simp [this.1, this.2]
theorem rk_checked_clues {K : PySem.W.Frag} {vs : List V} {H : Hp} {Q : VK} {E : XK} (h : sp_checked_clues K vs H Q E) : rd_checked_clues K { nx := fun _ H' => Q .non H', rt := Q } (start ["floor", "clues"] vs) H := by
  obtain ⟨p, a, h, w, g, xs, rfl, hp, F, ha, C, q⟩ := h
  obtain ⟨h0, h1, w0, w1, m16, g0, g1⟩ := id F
  show rd_checked_clues K _ [some (.ref p), some (.ref a)] H
  unfold rd_checked_clues
  rw [w_seq, w_if]
  walk_at "w"
  refine ⟨p, a, h, w, g, 0, xs, rfl, hp, F, ha, by have := C.len; omega, fun H1 s1 => ?_⟩
  rw [C.fil]
  refine ⟨true, rfl, iteF ?_⟩
  walk_at "w"
  refine w_list (s1 _ _ ha) fun l hl => ?_
  exact q l _ (s1.laid hl) (s1.free hl) upd_same
theorem IsRule.ins {H : Hp} {c : RCl RK} {k : RK} {r p a : Addr} {ws : List (List Nat)} {cs : List Int} {n m : Int} {C dx : Addr} {fs : List (Str × V)} {o : HO} (x : IsRule H c k r p ws cs n m) (ha : H a = some (.ins C dx fs)) (hf : fs.length ≠ 5) : IsRule (upd H a o) c k r p ws cs n m := by
  obtain ⟨dx', W, C', h1, h2, h3⟩ := x.ex
  refine ⟨x.ok, dx', W, C', ?_, ?_, ?_⟩
  · rw [upd_ne (fun e => by rw [e, ha] at h1; cases h1; exact hf rfl)]; exact h1
  · rw [upd_ne (fun e => by rw [e, ha] at h2; cases h2)]; exact h2
  · rw [upd_ne (fun e => by rw [e, ha] at h3; cases h3)]; exact h3
theorem IsRules.ins {H : Hp} {c : RCl RK} {p L a : Addr} {rs : List Addr} {rows : List RR} {C dx : Addr} {fs : List (Str × V)} {o : HO} (x : IsRules H c p L rs rows) (ha : H a = some (.ins C dx fs)) (hf : fs.length ≠ 5) : IsRules (upd H a o) c p L rs rows :=
  ⟨by rw [upd_ne (fun e => by have := x.top; rw [e, ha] at this; cases this)]; exact x.top, x.len, fun i r y h1 h2 => (x.at_ i r y h1 h2).ins ha hf⟩
def sp_Puzzle___init__ (K : PySem.W.Frag) (c : RCl RK) (d : RCl PzK) : Sp := fun vs H Q _ => ∃ (x dx p a b : Addr) (h w g : Int) (rows : List RR) (cl : List Int), vs = [.ref x, .ref p, .ref a, .ref b] ∧ d.ok .Puzzle = true ∧ H x = some (.ins (d.A .Puzzle) dx []) ∧ IsFl H p h w g ∧ H a = some (.lst ((rows.map RR.txt).map V.str)) ∧ H b = some (.lst (cl.map V.int)) ∧ RowsOk c h w g rows ∧ CluesOk h w g cl ∧
  ∀ L G H', (∀ y o, y ≠ x → H y = some o → H' y = some o) → H L = none → H G = none → IsPz H' c d x L G h w g rows cl → Q .non H'
theorem sl_Puzzle___init__ {K : PySem.W.Frag} {c : RCl RK} {d : RCl PzK} {vs : List V} {H : Hp} {Q : VK} {E : XK} (h : sp_Puzzle___init__ K c d vs H Q E) : vs.length = 4 := by
  obtain ⟨_, _, _, _, _, _, _, _, _, _, rfl, _⟩ := h; rfl
def rd_Puzzle___init__ (K : PySem.W.Frag) (c : RCl RK) (d : RCl PzK) : TS :=
  (tSeq (sFldK d (tVar 0) (tCall (sp_checked_floor K) [] E0 (tCons (tVar 1) tNil)) "floor")
    (tSeq (sFldK d (tVar 0) (tCall (sp_read_rules K c) [] E0 (tCons (tFldK d (tVar 0) "floor") (tCons (tVar 2) tNil))) "laws")
    (sFldK d (tVar 0) (tCall (sp_checked_clues K) [] E0 (tCons (tFldK d (tVar 0) "floor") (tCons (tVar 3) tNil))) "given")))
theorem rk_Puzzle___init__ {K : PySem.W.Frag} {c : RCl RK} {d : RCl PzK} {vs : List V} {H : Hp} {Q : VK} {E : XK} (h : sp_Puzzle___init__ K c d vs H Q E) : rd_Puzzle___init__ K c d { nx := fun _ H' => Q .non H', rt := Q } (start ["self", "floor", "lines", "clues"] vs) H := by
  obtain ⟨x, dx, p, a, b, h, w, g, rows, cl, rfl, ok, hx, hp, ha, hb, R, C, q⟩ := h
  show rd_Puzzle___init__ K c d _ [some (.ref x), some (.ref p), some (.ref a), some (.ref b)] H
  unfold rd_Puzzle___init__ sFldK
  walk_at "w"
  refine ⟨p, h, w, g, rfl, hp, R.F, fun p1 hp1 => ?_⟩
  have nxp : x ≠ p1 := ne_of_none hx hp1
  refine ⟨x, .Puzzle, dx, [], rfl, ok, by rw [upd_ne nxp]; exact hx, by show (0 : Nat) < 1000; decide, ?_⟩
  have f1 : ∀ y o, y ≠ x → H y = some o → (upd (upd H p1 (.tup [.int h, .int w, .int g])) x (.ins (d.A .Puzzle) dx (putF "floor" (.ref p1) []))) y = some o := fun y o ny e => by
    rw [upd_ne ny, upd_ne (ne_of_none e hp1)]; exact e
  have hx1 : (upd (upd H p1 (.tup [.int h, .int w, .int g])) x (.ins (d.A .Puzzle) dx (putF "floor" (.ref p1) []))) x = some (.ins (d.A .Puzzle) dx [("floor", .ref p1)]) := upd_same
  have hp1' : IsFl (upd (upd H p1 (.tup [.int h, .int w, .int g])) x (.ins (d.A .Puzzle) dx (putF "floor" (.ref p1) []))) p1 h w g := by
    show (upd (upd H p1 (.tup [.int h, .int w, .int g])) x _) p1 = _
    rw [upd_ne nxp.symm, upd_same]
  have fr1 : ∀ l, (upd (upd H p1 (.tup [.int h, .int w, .int g])) x (.ins (d.A .Puzzle) dx (putF "floor" (.ref p1) []))) l = none → H l = none := fun l e => by
    have n1 : l ≠ x := fun z => by rw [z, upd_same] at e; cases e
    rw [upd_ne n1] at e
    have n2 : l ≠ p1 := fun z => by rw [z, upd_same] at e; cases e
    rw [upd_ne n2] at e
    exact e
  have nax : a ≠ x := fun z => by rw [z, hx] at ha; cases ha
  have nbx : b ≠ x := fun z => by rw [z, hx] at hb; cases hb
  generalize upd (upd H p1 (.tup [.int h, .int w, .int g])) x (.ins (d.A .Puzzle) dx (putF "floor" (.ref p1) [])) = H1 at *
  refine fldE (c := d) (k := .Puzzle) rfl ok hx1 (v := .ref p1) (by rfl) ?_
  walk_at "w"
  refine ⟨p1, a, h, w, g, rows, rfl, hp1', f1 a _ nax ha, R, fun L rs H2 s2 hL X => ?_⟩
  refine ⟨x, .Puzzle, dx, _, rfl, ok, s2 _ _ hx1, by show (1 : Nat) < 1000; decide, ?_⟩
  have nxL : L ≠ x := fun z => by rw [z, hx1] at hL; cases hL
  have X3 := X.ins (o := .ins (d.A .Puzzle) dx (putF "laws" (.ref L) [("floor", .ref p1)])) (s2 _ _ hx1) (by show (1 : Nat) ≠ 5; decide)
  have f2 : ∀ y o, y ≠ x → H y = some o → (upd H2 x (.ins (d.A .Puzzle) dx (putF "laws" (.ref L) [("floor", .ref p1)]))) y = some o := fun y o ny e => by
    rw [upd_ne ny]; exact s2 _ _ (f1 y o ny e)
  have hx3 : (upd H2 x (.ins (d.A .Puzzle) dx (putF "laws" (.ref L) [("floor", .ref p1)]))) x = some (.ins (d.A .Puzzle) dx [("floor", .ref p1), ("laws", .ref L)]) := upd_same
  have hp3 : IsFl (upd H2 x (.ins (d.A .Puzzle) dx (putF "laws" (.ref L) [("floor", .ref p1)]))) p1 h w g := by
    show (upd H2 x _) p1 = _
    rw [upd_ne nxp.symm]; exact s2 _ _ hp1'
  have fr3 : ∀ l, (upd H2 x (.ins (d.A .Puzzle) dx (putF "laws" (.ref L) [("floor", .ref p1)]))) l = none → H1 l = none := fun l e => by
    have n1 : l ≠ x := fun z => by rw [z, upd_same] at e; cases e
    rw [upd_ne n1] at e
    exact s2.free e
  generalize upd H2 x (.ins (d.A .Puzzle) dx (putF "laws" (.ref L) [("floor", .ref p1)])) = H3 at *
  refine fldE (c := d) (k := .Puzzle) rfl ok hx3 (v := .ref p1) (by rfl) ?_
  walk_at "w"
  refine ⟨p1, b, h, w, g, cl, rfl, hp3, R.F, f2 b _ nbx hb, C, fun G H4 s4 hG eG => ?_⟩
  refine ⟨x, .Puzzle, dx, _, rfl, ok, s4 _ _ hx3, by show (2 : Nat) < 1000; decide, ?_⟩
  have nxG : G ≠ x := fun z => by rw [z, hx3] at hG; cases hG
  refine q L G _ (fun y o ny e => ?_) (fr1 L hL) (fr1 G (fr3 G hG)) ⟨ok, R, C, ?_, dx, p1, rs, ?_, ?_, ?_⟩
  · rw [upd_ne ny]; exact s4 _ _ (f2 y o ny e)
  · rw [upd_ne nxG]; exact eG
  · rw [upd_same]; rfl
  · show (upd H4 x _) p1 = _
    rw [upd_ne nxp.symm]; exact s4 _ _ hp3
  · exact (X3.same s4).ins (s4 _ _ hx3) (by show (2 : Nat) ≠ 5; decide)
theorem mk_puz {K : PySem.W.Frag} {c : RCl RK} {d : RCl PzK} {H : Hp} {Z : Addr → Hp → Prop} {p a b : Addr} {h w g : Int} {rows : List RR} {cl : List Int} (ok : d.ok .Puzzle = true) (hp : IsFl H p h w g) (ha : H a = some (.lst ((rows.map RR.txt).map V.str))) (hb : H b = some (.lst (cl.map V.int))) (R : RowsOk c h w g rows) (C : CluesOk h w g cl)
    (q : ∀ P L G H', Same H H' → H P = none → H L = none → H G = none → IsPz H' c d P L G h w g rows cl → Z P H') :
    ∀ x dx, H x = none → H dx = none → dx ≠ x → sp_Puzzle___init__ K c d (.ref x :: ([.ref p, .ref a, .ref b] ++ [])) (upd (upd H dx (.own x)) x (.ins (d.A .Puzzle) dx [])) (fun v H2 => v = .non ∧ Z x H2) E0 := by
  intro x dx hx hd ne
  have k : ∀ y o, H y = some o → (upd (upd H dx (.own x)) x (.ins (d.A .Puzzle) dx [])) y = some o := fun y o e => by rw [upd_ne (ne_of_none e hx), upd_ne (ne_of_none e hd)]; exact e
  have fr : ∀ y, (upd (upd H dx (.own x)) x (.ins (d.A .Puzzle) dx [])) y = none → H y = none := fun y e => by
    have n1 : y ≠ x := fun z => by rw [z, upd_same] at e; cases e
    rw [upd_ne n1] at e
    have n2 : y ≠ dx := fun z => by rw [z, upd_same] at e; cases e
    rw [upd_ne n2] at e
    exact e
  exact ⟨x, dx, p, a, b, h, w, g, rows, cl, rfl, ok, upd_same, k _ _ hp, k _ _ ha, k _ _ hb, R, C, fun L G H' hs hL hG X => ⟨rfl, q x L G H' (fun y o e => hs y o (ne_of_none e hx) (k _ _ e)) hx (fr L hL) (fr G hG) X⟩⟩
def sp_place (K : PySem.W.Frag) (c : RCl RK) (d : RCl PzK) (_ : PzK) : Sp := fun vs H Q _ => ∃ (P L G : Addr) (h w g : Int) (rows : List RR) (cl : List Int), vs = [.ref P] ∧ IsPz H c d P L G h w g rows cl ∧ ∀ p, IsFl H p h w g → Q (.ref p) H
def sp_Puzzle_place (K : PySem.W.Frag) (c : RCl RK) (d : RCl PzK) : Sp := sp_place K c d .Puzzle
theorem sl_Puzzle_place {K : PySem.W.Frag} {c : RCl RK} {d : RCl PzK} {vs : List V} {H : Hp} {Q : VK} {E : XK} (h : sp_Puzzle_place K c d vs H Q E) : vs.length = 1 := by
  obtain ⟨_, _, _, _, _, _, _, _, rfl, _⟩ := h; rfl
def rd_Puzzle_place (K : PySem.W.Frag) (c : RCl RK) (d : RCl PzK) : TS :=
  (tRet (tFldK d (tVar 0) "floor"))
theorem rk_Puzzle_place {K : PySem.W.Frag} {c : RCl RK} {d : RCl PzK} {vs : List V} {H : Hp} {Q : VK} {E : XK} (h : sp_Puzzle_place K c d vs H Q E) : rd_Puzzle_place K c d { nx := fun _ H' => Q .non H', rt := Q } (start ["self"] vs) H := by
  obtain ⟨P, L, G, h, w, g, rows, cl, rfl, x, q⟩ := h
  obtain ⟨dx, p, rs, h1, h2, h3⟩ := x.ex
  show rd_Puzzle_place K c d _ [some (.ref P)] H
  unfold rd_Puzzle_place
  walk_at "w"
  exact fldE (k := .Puzzle) rfl x.ok h1 (v := .ref p) (by rfl) (q p h2)
def sp_clues (K : PySem.W.Frag) (c : RCl RK) (d : RCl PzK) (_ : PzK) : Sp := fun vs H Q _ => ∃ (P L G : Addr) (h w g : Int) (rows : List RR) (cl : List Int), vs = [.ref P] ∧ IsPz H c d P L G h w g rows cl ∧ ∀ l, H l = none → Q (.ref l) (upd H l (.lst (cl.map V.int)))
def sp_Puzzle_clues (K : PySem.W.Frag) (c : RCl RK) (d : RCl PzK) : Sp := sp_clues K c d .Puzzle
theorem sl_Puzzle_clues {K : PySem.W.Frag} {c : RCl RK} {d : RCl PzK} {vs : List V} {H : Hp} {Q : VK} {E : XK} (h : sp_Puzzle_clues K c d vs H Q E) : vs.length = 1 := by
  obtain ⟨_, _, _, _, _, _, _, _, rfl, _⟩ := h; rfl
def rd_Puzzle_clues (K : PySem.W.Frag) (c : RCl RK) (d : RCl PzK) : TS :=
  (tRet (tCB kList (tCons (tFldK d (tVar 0) "given") tNil)))
theorem rk_Puzzle_clues {K : PySem.W.Frag} {c : RCl RK} {d : RCl PzK} {vs : List V} {H : Hp} {Q : VK} {E : XK} (h : sp_Puzzle_clues K c d vs H Q E) : rd_Puzzle_clues K c d { nx := fun _ H' => Q .non H', rt := Q } (start ["self"] vs) H := by
  obtain ⟨P, L, G, h, w, g, rows, cl, rfl, x, q⟩ := h
  obtain ⟨dx, p, rs, h1, h2, h3⟩ := x.ex
  show rd_Puzzle_clues K c d _ [some (.ref P)] H
  unfold rd_Puzzle_clues
  walk_at "w"
  refine fldE (k := .Puzzle) rfl x.ok h1 (v := .ref G) (by rfl) ?_
  walk_at "w"
  exact w_list x.gv q
def sp_rules (K : PySem.W.Frag) (c : RCl RK) (d : RCl PzK) (_ : PzK) : Sp := fun vs H Q _ => ∃ (P L G : Addr) (h w g : Int) (rows : List RR) (cl : List Int), vs = [.ref P] ∧ IsPz H c d P L G h w g rows cl ∧ ∀ l p rs, H l = none → IsFl (upd H l (.lst (rs.map V.ref))) p h w g → IsRules (upd H l (.lst (rs.map V.ref))) c p l rs rows → Q (.ref l) (upd H l (.lst (rs.map V.ref)))
def sp_Puzzle_rules (K : PySem.W.Frag) (c : RCl RK) (d : RCl PzK) : Sp := sp_rules K c d .Puzzle
theorem sl_Puzzle_rules {K : PySem.W.Frag} {c : RCl RK} {d : RCl PzK} {vs : List V} {H : Hp} {Q : VK} {E : XK} (h : sp_Puzzle_rules K c d vs H Q E) : vs.length = 1 := by
  obtain ⟨_, _, _, _, _, _, _, _, rfl, _⟩ := h; rfl
def rd_Puzzle_rules (K : PySem.W.Frag) (c : RCl RK) (d : RCl PzK) : TS :=
  (tRet (tCB kList (tCons (tFldK d (tVar 0) "laws") tNil)))
theorem rk_Puzzle_rules {K : PySem.W.Frag} {c : RCl RK} {d : RCl PzK} {vs : List V} {H : Hp} {Q : VK} {E : XK} (h : sp_Puzzle_rules K c d vs H Q E) : rd_Puzzle_rules K c d { nx := fun _ H' => Q .non H', rt := Q } (start ["self"] vs) H := by
  obtain ⟨P, L, G, h, w, g, rows, cl, rfl, x, q⟩ := h
  obtain ⟨dx, p, rs, h1, h2, h3⟩ := x.ex
  show rd_Puzzle_rules K c d _ [some (.ref P)] H
  unfold rd_Puzzle_rules
  walk_at "w"
  refine fldE (k := .Puzzle) rfl x.ok h1 (v := .ref L) (by rfl) ?_
  walk_at "w"
  refine w_list h3.top fun l hl => ?_
  have s1 : Same H (upd H l (.lst (rs.map V.ref))) := (Same.refl H).laid hl
  exact q l p rs hl (s1 _ _ h2) ⟨upd_same, h3.len, fun i r y e1 e2 => (h3.at_ i r y e1 e2).same s1⟩
end L2
set_option Elab.async false
set_option linter.all false
set_option maxRecDepth 100000
namespace L2
open PySem PySem.Spec PyProof.Rows
inductive DRows (w : World) (K : PySem.W.Frag) : List DictEntry → List (Str × List Str) → Prop
  | nil : DRows w K [] []
  | cons {hsh : Int} {k : Str} {t : Tok} {q : Addr} {o : Obj} {its : Array Value} {n : Nat} {ws : List Str} {es : List DictEntry} {D : List (Str × List Str)} : hsh = hashStr w k → K.lookup q = some o → o.cls = .type "tuple" → o.data = .seq its n → its.size ≤ sizeLine → Vals (ws.map V.str) its.toList → DRows w K es D → DRows w K (⟨hsh, .str k t, .ref q⟩ :: es) ((k, ws) :: D)
structure GDict (w : World) (K : PySem.W.Frag) (mg : Str → Option Value) (x : Str) (D : List (Str × List Str)) : Prop where
  ex : ∃ (p : Addr) (o : Obj) (es : Array DictEntry) (ep : Nat), mg x = some (.ref p) ∧ K.lookup p = some o ∧ o.ExactDict ∧ o.data = .dict es ep ∧ DRows w K es.toList D ∧ (D.map fun x => x.1).Nodup
theorem DRows.of {P : Program} {w : World} {K : PySem.W.Frag} {es : List DictEntry} {D : List (Str × List Str)} (h : DRows w K es D) :
    ∃ kvs : List (Str × Value), Pairs (strKind P w) es kvs ∧ kvs.map (fun x => x.1) = D.map (fun x => x.1) ∧ (∀ e ∈ es, ∃ k, (strKind P w).is k e.key = true ∧ e.hash = (strKind P w).hash k) ∧
      ∀ k ws, D.lookup k = some ws → ∃ q, valueAt kvs k = some (.ref q) ∧ ∃ (o : Obj) (its : Array Value) (n : Nat), K.lookup q = some o ∧ o.cls = .type "tuple" ∧ o.data = .seq its n ∧ its.size ≤ sizeLine ∧ Vals (ws.map V.str) its.toList := by
  induction h with
  | nil => exact ⟨[], .nil, rfl, fun e he => (by cases he), fun k ws e => (by cases e)⟩
  | @cons hsh k t q o its n ws es D h1 h2 h3 h4 h5 h6 _ ih =>
    obtain ⟨kvs, p1, p2, p3, p4⟩ := ih
    have hk : (strKind P w).is k (.str k t) = true := by show (k == k) = true; simp
    refine ⟨(k, .ref q) :: kvs, .cons hk rfl p1, by rw [List.map_cons, List.map_cons, p2], fun e he => ?_, fun k' ws' e => ?_⟩
    · rcases List.mem_cons.mp he with rfl | he
      · exact ⟨k, hk, h1⟩
      · exact p3 e he
    · rw [List.lookup_cons] at e
      unfold valueAt
      rw [List.find?_cons]
      by_cases hkk : k' = k
      · subst hkk
        simp at e
        subst e
        refine ⟨q, by simp, o, its, n, h2, h3, h4, h5, h6⟩
      · have hb : (k' == k) = false := by simpa using hkk
        rw [hb] at e
        have hd : decide (k = k') = false := decide_eq_false (fun z => hkk z.symm)
        dsimp only
        rw [hd]
        exact p4 k' ws' e
def tIxG (K : PySem.W.Frag) (D : List (Str × List Str)) (te : TE) : TE := fun σ H Q => te σ H fun y H1 => ∃ k ws, y = .str k ∧ D.lookup k = some ws ∧ ∀ q, SqT K H1 q (ws.map V.str) → Q (.ref q) H1
def rInS (K : PySem.W.Frag) : R2 := fun x y H Q => ∃ (z : Str) (q : Addr) (ws : List Str), x = .str z ∧ y = .ref q ∧ SqT K H q (ws.map V.str) ∧ Q (.bl (decide (z ∈ ws))) H
section
variable {X : Cx} {a b : Expr} {ta tb : TE} {pos p : Pos} {x : Str} {D : List (Str × List Str)}
theorem pe_ixG (G : GDict X.w X.K X.mg x D) (hb : PE X b tb) (hg : Gl X x) (hpi : PlainIx b) (hdb : (x == ("__debug__" : Str)) = false := by decide) : PE X (.Subscript (.Name x p) b pos) (tIxG X.K D tb) := by
  obtain ⟨pd, o, es, ep, h1, h2, h3, h4, h5, h6⟩ := G.ex
  obtain ⟨kvs, p1, p2, p3, p4⟩ := h5.of (P := X.prog)
  have ir : IxR X (fun x y H Q => x = .ref pd ∧ ∃ k ws, y = .str k ∧ D.lookup k = some ws ∧ ∀ q, SqT X.K H q (ws.map V.str) → Q (.ref q) H) := by
    intro value slice pins s σ H x y v u Q I rx ry h hs
    obtain ⟨rfl, k, ws, rfl, hl, q⟩ := h
    cases (show v = Value.ref pd from rx)
    have hget : s.heap.get? pd = some o := I.kIn pd o h2
    have dd : Heap.DictOf (strKind X.prog X.w) s.heap pd kvs := ⟨o, es, ep, hget, h3, h4, fun e he => p3 e (Array.mem_toList_iff.mpr he), p1, by rw [p2]; exact h6⟩
    obtain ⟨qa, hv, o2, its, n, g1, g2, g3, g4, g5⟩ := p4 k ws hl
    obtain ⟨t, rfl⟩ : ∃ t, u = Value.str k t := ry
    have hk : (strKind X.prog X.w).is k (.str k t) = true := by show (k == k) = true; simp
    refine tail_any dd.typeIs PySem.F.slot_dict_getitem.lookup (wpAny_getItem_of hk dd.mapOf hv ?_) hs
    exact ⟨.ref qa, H, I.tok _, rfl, q qa (.inr ⟨o2, its, n, g1, g2, g3, g4, g5⟩)⟩
  have h0 := pe_ix (pos := pos) ir (pe_glob (pos := p) (v := V.ref pd) hg h1 rfl hdb) hb hpi
  intro pins s σ H Q I h
  refine h0 pins s σ H Q I ?_
  have e : (fun (y : V) (H1 : Hp) => ∃ k ws, y = .str k ∧ D.lookup k = some ws ∧ ∀ q, SqT X.K H1 q (ws.map V.str) → Q (.ref q) H1) = fun y H1 => (V.ref pd = V.ref pd) ∧ ∃ k ws, y = .str k ∧ D.lookup k = some ws ∧ ∀ q, SqT X.K H1 q (ws.map V.str) → Q (.ref q) H1 := by
    funext y H1; simp
  have h' : tb σ H (fun (y : V) (H1 : Hp) => ∃ k ws, y = .str k ∧ D.lookup k = some ws ∧ ∀ q, SqT X.K H1 q (ws.map V.str) → Q (.ref q) H1) := h
  rw [e] at h'
  exact h'
theorem op_inS : OpR X (compareOp .In) (rInS X.K) := by
  intro pins s σ H x y v u Q I rx ry h
  obtain ⟨z, q, ws, rfl, rfl, hq, h⟩ := h
  refine op_in_seq pins s σ H _ _ v u Q I rx ry ⟨q, ws.map V.str, rfl, .inr hq, rfl, flat_strs ws, ?_⟩
  rw [inV_strs]
  exact h
end
section
variable {K : PySem.W.Frag} {σ : St} {H : Hp} {Q : VK} {te : TE} {D : List (Str × List Str)}
theorem w_ixG : tIxG K D te σ H Q = te σ H fun y H1 => ∃ k ws, y = .str k ∧ D.lookup k = some ws ∧ ∀ q, SqT K H1 q (ws.map V.str) → Q (.ref q) H1 := rfl
end
end L2
set_option Elab.async false
set_option linter.all false
set_option maxRecDepth 100000
namespace L2
open PySem PySem.Spec PyProof.Rows
local macro_rules | `(tactic| walk_at "w") => `(tactic| (first | simp only [w_seq, if_true, if_false, Bool.false_eq_true, decide_true, decide_false, w_lrng1, w_lrng2, w_ifE, w_compR2, w_scompR2, w_forRD, w_forE, w_compE, w_scompE, w_intB, w_intI, w_bitlen, w_shr, w_isi_ii, w_isi_ib, w_isi_bb, w_isi_bi, w_isi_ss, w_isi_bs, w_isi_is, w_iteT, w_iteF, w_negE, w_bitI, w_str, Bool.not_true, Bool.not_false, w_next, w_asg, w_gname, w_var, w_c, w_op, w_ret, w_retN, w_drop, w_test, w_b, w_not, w_and, w_or, w_notV, w_andV, w_orV, w_nil, w_cons, w_cb, w_call, w_tup, w_lst, w_bm, w_bm0, w_true, w_dnew, w_dput, w_forL, w_forR1, w_forR2, w_compL, w_compR1, w_scompL, w_scompR1, w_add, w_sub, w_mul, w_div, w_mod, w_cmp, w_eqI, w_neI, w_eqB, w_neB, w_abs, w_min, w_sl, w_part, w_nopart, w_gsub, w_un, w_forS, w_compS, w_scompS, w_eqS, w_neS, w_lenS, w_addS, w_find,
  List.getElem?_cons_zero, List.getElem?_cons_succ, Option.some.injEq, exists_eq_left', exists_eq_left, List.set_cons_zero, List.set_cons_succ, bnd_some, V.int.injEq, V.bl.injEq, V.ref.injEq, V.str.injEq, List.append_nil, List.nil_append, List.cons_append] | dsimp only | skip))
def stB (m s : Int) : Bool := decide (1 ≤ s) && (decide (s ≤ ((Builtin.Int.intBits m : Nat) : Int)) && decide (m / 2 ^ (s - 1).toNat % 2 = 1))
def sp_stands (K : PySem.W.Frag) : Sp := fun vs H Q _ => ∃ m s : Int, vs = [.int m, .int s] ∧ Q (.bl (stB m s)) H
theorem sl_stands {K : PySem.W.Frag} {vs : List V} {H : Hp} {Q : VK} {E : XK} (h : sp_stands K vs H Q E) : vs.length = 2 := by
  obtain ⟨_, _, rfl, _⟩ := h; rfl
def rd_stands (K : PySem.W.Frag) : TS :=
  (tRet (tAndV (tOp (cCmp fun i j => decide (i ≤ j)) (tC (.int 1)) (tVar 1)) (tAndV (tOp (cCmp fun i j => decide (i ≤ j)) (tVar 1) (tBM0 K "int" kBitLen (tVar 0))) (tOp (cEq K) (tOp cMod (tOp cShr (tVar 0) (tOp cSub (tVar 1) (tC (.int 1)))) (tC (.int 2))) (tC (.int 1))))))
theorem rk_stands {K : PySem.W.Frag} {vs : List V} {H : Hp} {Q : VK} {E : XK} (h : sp_stands K vs H Q E) : rd_stands K { nx := fun _ H' => Q .non H', rt := Q } (start ["mask", "sign"] vs) H := by
  obtain ⟨m, s, rfl, q⟩ := h
  show rd_stands K _ [some (.int m), some (.int s)] H
  unfold rd_stands
  walk_at "w"
  unfold stB at q
  cases h1 : decide (1 ≤ s) with
  | false => rw [h1, Bool.false_and] at q; exact iteF q
  | true =>
    refine iteT ⟨rfl, ?_⟩
    walk_at "w"
    rw [h1, Bool.true_and] at q
    cases h2 : decide (s ≤ ((Builtin.Int.intBits m : Nat) : Int)) with
    | false => rw [h2, Bool.false_and] at q; exact iteF q
    | true =>
      rw [h2, Bool.true_and] at q
      exact iteT ⟨by have := of_decide_eq_true h1; omega, by decide, q⟩
def sgL (m : Int) : List Int := ((List.range (Builtin.Int.intBits m)).filter fun (i : Nat) => stB m (1 + (i : Int))).map fun (i : Nat) => 1 + (i : Int)
def sp_signs_in (K : PySem.W.Frag) : Sp := fun vs H Q _ => ∃ m : Int, vs = [.int m] ∧ Builtin.Int.intBits m ≤ 900 ∧ ∀ l H', Same H H' → H l = none → H' l = some (.lst ((sgL m).map V.int)) → Q (.ref l) H'
theorem sl_signs_in {K : PySem.W.Frag} {vs : List V} {H : Hp} {Q : VK} {E : XK} (h : sp_signs_in K vs H Q E) : vs.length = 1 := by
  obtain ⟨_, rfl, _⟩ := h; rfl
def rd_signs_in (K : PySem.W.Frag) : TS :=
  (tRet (tComp [none, none, some 0] (iRng2 (tCons (tC (.int 1)) (tCons (tOp cAdd (tBM0 K "int" kBitLen (tVar 0)) (tC (.int 1))) tNil))) (gName 1) (tB (tCall (sp_stands K) [] E0 (tCons (tVar 2) (tCons (tVar 1) tNil)))) (tVar 1)))
theorem rk_signs_in {K : PySem.W.Frag} {vs : List V} {H : Hp} {Q : VK} {E : XK} (h : sp_signs_in K vs H Q E) : rd_signs_in K { nx := fun _ H' => Q .non H', rt := Q } (start ["mask"] vs) H := by
  obtain ⟨m, rfl, hb, k⟩ := h
  show rd_signs_in K _ [some (.int m)] H
  unfold rd_signs_in
  walk_at "w"
  refine ⟨rfl, 1, _, rfl, by omega, ?_⟩
  have en : (((Builtin.Int.intBits m : Nat) : Int) + 1 - 1).toNat = Builtin.Int.intBits m := by omega
  rw [en]
  refine compI_range (fun (i : Nat) => stB m (1 + (i : Int))) (fun (i : Nat) => 1 + (i : Int)) hb ?_ ?_ ?_
  · intro i H1 R hi s1 k1
    show tB _ [none, some (.int (1 + (i : Int))), some (.int m)] H1 R
    walk_at "w"
    exact ⟨m, _, rfl, _, rfl, k1 _ (Same.refl _)⟩
  · intro i H1 Q1 hi hb s1 k1
    show tVar 1 [none, some (.int (1 + (i : Int))), some (.int m)] H1 Q1
    exact ⟨_, rfl, k1 _ (Same.refl _)⟩
  · intro l H1 hl s1 el
    exact k l H1 s1 hl el
end L2
set_option Elab.async false
set_option linter.all false
set_option maxRecDepth 100000
namespace L2
open PySem PySem.Spec PyProof.Rows
local macro_rules | `(tactic| walk_at "w") => `(tactic| (first | simp only [w_seq, w_make, w_inG, w_lenset, w_revL, w_int2B, w_int2I, w_max, w_isN, w_notN, w_pow, if_true, if_false, Bool.false_eq_true, decide_true, decide_false, w_lrng1, w_lrng2, w_ifE, w_compR2, w_scompR2, w_forRD, w_forE, w_compE, w_scompE, w_intB, w_intI, w_bitlen, w_shr, w_isi_ii, w_isi_ib, w_isi_bb, w_isi_bi, w_isi_ss, w_isi_bs, w_isi_is, w_iteT, w_iteF, w_negE, w_bitI, w_str, Bool.not_true, Bool.not_false, w_next, w_asg, w_gname, w_var, w_c, w_op, w_ret, w_retN, w_drop, w_test, w_b, w_not, w_and, w_or, w_notV, w_andV, w_orV, w_nil, w_cons, w_cb, w_call, w_tup, w_lst, w_bm, w_bm0, w_true, w_dnew, w_dput, w_forL, w_forR1, w_forR2, w_compL, w_compR1, w_scompL, w_scompR1, w_add, w_sub, w_mul, w_div, w_mod, w_cmp, w_eqI, w_neI, w_eqB, w_neB, w_abs, w_min, w_sl, w_part, w_nopart, w_gsub, w_un, w_forS, w_compS, w_scompS, w_eqS, w_neS, w_lenS, w_addS, w_find,
  List.getElem?_cons_zero, List.getElem?_cons_succ, Option.some.injEq, exists_eq_left', exists_eq_left, List.set_cons_zero, List.set_cons_succ, bnd_some, V.int.injEq, V.bl.injEq, V.ref.injEq, V.str.injEq, List.append_nil, List.nil_append, List.cons_append] | dsimp only | skip))
inductive TK where
  | clue | only | place | count | step | sum | square | reach | turn | pair | ways
  deriving DecidableEq
def tkC : TK → List Nat
  | .clue => [99, 108, 117, 101]
  | .only => [111, 110, 108, 121]
  | .place => [112, 108, 97, 99, 101]
  | .count => [99, 111, 117, 110, 116]
  | .step => [115, 116, 101, 112]
  | .sum => [115, 117, 109]
  | .square => [115, 113, 117, 97, 114, 101]
  | .reach => [114, 101, 97, 99, 104]
  | .turn => [116, 117, 114, 110]
  | .pair => [112, 97, 105, 114]
  | .ways => [119, 97, 121, 115]
def gt_KINDS : List Str := [tx [99, 108, 117, 101], tx [111, 110, 108, 121], tx [112, 108, 97, 99, 101], tx [99, 111, 117, 110, 116], tx [115, 116, 101, 112], tx [115, 117, 109], tx [115, 113, 117, 97, 114, 101], tx [114, 101, 97, 99, 104], tx [116, 117, 114, 110], tx [112, 97, 105, 114], tx [119, 97, 121, 115]]
def gt_LINE_KINDS : List Str := [tx [99, 108, 117, 101], tx [111, 110, 108, 121], tx [112, 108, 97, 99, 101], tx [115, 116, 101, 112], tx [112, 97, 105, 114]]
def gt_NUMBER_KINDS : List Str := [tx [99, 111, 117, 110, 116], tx [115, 117, 109], tx [119, 97, 121, 115]]
def gd_RULES_OF_KIND : List (Str × List Str) := [(tx [111, 110, 108, 121], [tx [117, 110, 108, 105, 107, 101]]), (tx [112, 108, 97, 99, 101], [tx [117, 110, 108, 105, 107, 101]]), (tx [99, 111, 117, 110, 116], [tx [99, 111, 117, 110, 116]]), (tx [115, 116, 101, 112], [tx [114, 105, 115, 105, 110, 103]]), (tx [115, 117, 109], [tx [115, 117, 109]]), (tx [115, 113, 117, 97, 114, 101], [tx [110, 111, 115, 113, 117, 97, 114, 101]]), (tx [114, 101, 97, 99, 104], [tx [106, 111, 105, 110, 101, 100], tx [114, 105, 110, 103]]), (tx [116, 117, 114, 110], [tx [114, 105, 110, 103]]), (tx [112, 97, 105, 114], [tx [117, 110, 108, 105, 107, 101]])]
def wsOf : TK → List Str
  | .only => [tx [117, 110, 108, 105, 107, 101]]
  | .place => [tx [117, 110, 108, 105, 107, 101]]
  | .count => [tx [99, 111, 117, 110, 116]]
  | .step => [tx [114, 105, 115, 105, 110, 103]]
  | .sum => [tx [115, 117, 109]]
  | .square => [tx [110, 111, 115, 113, 117, 97, 114, 101]]
  | .reach => [tx [106, 111, 105, 110, 101, 100], tx [114, 105, 110, 103]]
  | .turn => [tx [114, 105, 110, 103]]
  | .pair => [tx [117, 110, 108, 105, 107, 101]]
  | _ => []
def goesB : TK → RK → Bool
  | .ways, _ => true
  | .only, .Unlike => true
  | .place, .Unlike => true
  | .count, .Count => true
  | .step, .Rising => true
  | .sum, .Sum => true
  | .square, .NoSquare => true
  | .reach, .Joined => true
  | .reach, .Ring => true
  | .turn, .Ring => true
  | .pair, .Unlike => true
  | _, _ => false
def lineK : TK → Bool
  | .clue => true
  | .only => true
  | .place => true
  | .step => true
  | .pair => true
  | _ => false
theorem in_kinds (t : TK) : decide (tx (tkC t) ∈ gt_KINDS) = true := by cases t <;> decide +kernel
theorem in_line (t : TK) : decide (tx (tkC t) ∈ gt_LINE_KINDS) = lineK t := by cases t <;> decide +kernel
theorem gd_at {t : TK} (h1 : t ≠ .clue) (h2 : t ≠ .ways) : gd_RULES_OF_KIND.lookup (tx (tkC t)) = some (wsOf t) := by
  cases t <;> first | exact absurd rfl h1 | exact absurd rfl h2 | decide +kernel
theorem ws_goes {t : TK} (h2 : t ≠ .ways) (k : RK) : decide (tx (nmC k) ∈ wsOf t) = goesB t k := by
  cases t <;> first | exact absurd rfl h2 | (cases k <;> decide +kernel)
theorem tk_ways (t : TK) : decide (tkC t = [119, 97, 121, 115]) = decide (t = .ways) := by cases t <;> decide
theorem tk_clue (t : TK) : decide (tkC t = [99, 108, 117, 101]) = decide (t = .clue) := by cases t <;> decide
theorem tk_only (t : TK) : decide (tkC t = [111, 110, 108, 121]) = decide (t = .only) := by cases t <;> decide
def sp_is_cell (K : PySem.W.Frag) : Sp := fun vs H Q _ => ∃ (p : Addr) (h w g i : Int), vs = [.ref p, .int i] ∧ IsFl H p h w g ∧ FlOk h w g ∧ Q (.bl (decide (0 ≤ i) && decide (i < h * w))) H
theorem sl_is_cell {K : PySem.W.Frag} {vs : List V} {H : Hp} {Q : VK} {E : XK} (h : sp_is_cell K vs H Q E) : vs.length = 2 := by
  obtain ⟨_, _, _, _, _, rfl, _⟩ := h; rfl
def rd_is_cell (K : PySem.W.Frag) : TS :=
  (tRet (tAndV (tCall (sp_is_whole K) [] E0 (tCons (tVar 1) tNil)) (tAndV (tOp (cCmp fun i j => decide (i ≤ j)) (tC (.int 0)) (tVar 1)) (tOp (cCmp fun i j => decide (i < j)) (tVar 1) (tCall (sp_many_cells K) [] E0 (tCons (tVar 0) tNil))))))
theorem rk_is_cell {K : PySem.W.Frag} {vs : List V} {H : Hp} {Q : VK} {E : XK} (h : sp_is_cell K vs H Q E) : rd_is_cell K { nx := fun _ H' => Q .non H', rt := Q } (start ["floor", "value"] vs) H := by
  obtain ⟨p, h, w, g, i, rfl, hp, F, q⟩ := h
  show rd_is_cell K _ [some (.ref p), some (.int i)] H
  unfold rd_is_cell
  walk_at "w"
  refine ⟨i, rfl, ⟨true, rfl, iteT ?_⟩⟩
  walk_at "w"
  cases hb : decide (0 ≤ i) with
  | false =>
    rw [hb, Bool.false_and] at q
    exact iteF q
  | true =>
    rw [hb, Bool.true_and] at q
    refine iteT ?_
    walk_at "w"
    refine ⟨p, h, w, g, rfl, hp, F.h0, F.h1, ?_⟩
    walk_at "w"
    exact q
def sp_is_sign (K : PySem.W.Frag) : Sp := fun vs H Q _ => ∃ (p : Addr) (h w g i : Int), vs = [.ref p, .int i] ∧ IsFl H p h w g ∧ Q (.bl (decide (1 ≤ i) && decide (i ≤ g))) H
theorem sl_is_sign {K : PySem.W.Frag} {vs : List V} {H : Hp} {Q : VK} {E : XK} (h : sp_is_sign K vs H Q E) : vs.length = 2 := by
  obtain ⟨_, _, _, _, _, rfl, _⟩ := h; rfl
def rd_is_sign (K : PySem.W.Frag) : TS :=
  (tRet (tCall (sp_is_from_one_to K) [] E0 (tCons (tVar 1) (tCons (tOp cIx (tVar 0) (tC (.int 2))) tNil))))
theorem rk_is_sign {K : PySem.W.Frag} {vs : List V} {H : Hp} {Q : VK} {E : XK} (h : sp_is_sign K vs H Q E) : rd_is_sign K { nx := fun _ H' => Q .non H', rt := Q } (start ["floor", "value"] vs) H := by
  obtain ⟨p, h, w, g, i, rfl, hp, q⟩ := h
  show rd_is_sign K _ [some (.ref p), some (.int i)] H
  unfold rd_is_sign
  walk_at "w"
  refine ixT hp (v := V.int g) rfl ?_
  walk_at "w"
  exact ⟨i, g, rfl, q⟩
def sp_goes_by (K : PySem.W.Frag) (c : RCl RK) : Sp := fun vs H Q _ => ∃ (t : TK) (k : RK) (r p : Addr) (ws : List (List Nat)) (cs : List Int) (n m : Int), vs = [.str (tx (tkC t)), .ref r] ∧ t ≠ .clue ∧ IsRule H c k r p (nmC k :: ws) cs n m ∧ Q (.bl (goesB t k)) H
theorem sl_goes_by {K : PySem.W.Frag} {c : RCl RK} {vs : List V} {H : Hp} {Q : VK} {E : XK} (h : sp_goes_by K c vs H Q E) : vs.length = 2 := by
  obtain ⟨_, _, _, _, _, _, _, _, rfl, _⟩ := h; rfl
def rd_goes_by (K : PySem.W.Frag) (c : RCl RK) : TS :=
  (tRet (tOrV (tOp (cEq K) (tVar 0) (tC (.str (tx [119, 97, 121, 115])))) (tOp (rInS K) (tMethK c c.ok "name" (sp_name K c) (tVar 1) tNil) (tIxG K gd_RULES_OF_KIND (tVar 0)))))
theorem rk_goes_by {K : PySem.W.Frag} {c : RCl RK} {vs : List V} {H : Hp} {Q : VK} {E : XK} (h : sp_goes_by K c vs H Q E) : rd_goes_by K c { nx := fun _ H' => Q .non H', rt := Q } (start ["kind", "rule"] vs) H := by
  obtain ⟨t, k, r, p, ws, cs, n, m, rfl, t0, x, q⟩ := h
  obtain ⟨dx, W, C, h1, h2, h3⟩ := x.ex
  show rd_goes_by K c _ [some (.str (tx (tkC t))), some (.ref r)] H
  unfold rd_goes_by
  walk_at "w"
  rw [tx_dec, tk_ways]
  by_cases hw : t = .ways
  · subst hw
    rw [decide_eq_true rfl]
    exact iteT q
  · rw [decide_eq_false hw]
    refine iteF ?_
    refine methE (k := k) rfl x.ok h1 (by rfl) ?_
    walk_at "w"
    refine ⟨r, p, nmC k, ws, cs, n, m, rfl, x, ?_⟩
    dsimp only
    rw [w_ixG]
    walk_at "w"
    refine ⟨_, _, rfl, gd_at t0 hw, fun qa hq => ?_⟩
    refine ⟨_, qa, _, rfl, rfl, hq, ?_⟩
    rw [ws_goes hw]
    exact q
def hitB (t : TK) (rows : List RR) (r z : Int) : Bool := if r < 0 then false else if t = .clue then decide (r = 0) else match rows[r.toNat]? with
  | none => false
  | some x => goesB t x.k && decide (z ∈ x.cs)
def sp_has_its_rule (K : PySem.W.Frag) (c : RCl RK) (d : RCl PzK) : Sp := fun vs H Q _ => ∃ (t : TK) (P L G : Addr) (h w g r z : Int) (rows : List RR) (cl : List Int), vs = [.ref P, .str (tx (tkC t)), .int r, .int z] ∧ IsPz H c d P L G h w g rows cl ∧ ∀ H', Same H H' → Q (.bl (hitB t rows r z)) H'
theorem sl_has_its_rule {K : PySem.W.Frag} {c : RCl RK} {d : RCl PzK} {vs : List V} {H : Hp} {Q : VK} {E : XK} (h : sp_has_its_rule K c d vs H Q E) : vs.length = 4 := by
  obtain ⟨_, _, _, _, _, _, _, _, _, _, _, rfl, _⟩ := h; rfl
def rd_has_its_rule (K : PySem.W.Frag) (c : RCl RK) (d : RCl PzK) : TS :=
  (tSeq (tIfS (tOr (tNot (tB (tCall (sp_is_whole K) [] E0 (tCons (tVar 2) tNil)))) (tTest (tOp (cCmp fun i j => decide (i < j)) (tVar 2) (tC (.int 0))))) (tRet (tC (.bl false))) tNext)
    (tSeq (tIfS (tTest (tOp (cEq K) (tVar 1) (tC (.str (tx [99, 108, 117, 101]))))) (tRet (tOp (cEq K) (tVar 2) (tC (.int 0)))) tNext)
    (tSeq (tAsg (tMethK d d.ok "rules" (sp_rules K c d) (tVar 0) tNil) (gName 4))
    (tSeq (tIfS (tTest (tOp (cCmp fun i j => decide (j ≤ i)) (tVar 2) (tCB kLen (tCons (tVar 4) tNil)))) (tRet (tC (.bl false))) tNext)
    (tRet (tAndV (tCall (sp_goes_by K c) [] E0 (tCons (tVar 1) (tCons (tOp cIx (tVar 4) (tVar 2)) tNil))) (tOp (cIn K false) (tVar 3) (tMethK c c.ok "spots" (sp_spots K c) (tOp cIx (tVar 4) (tVar 2)) tNil))))))))
theorem RR.ws_cons (r : RR) : ∃ t, r.ws = nmC r.k :: t := ⟨_, rfl⟩
theorem rk_has_its_rule {K : PySem.W.Frag} {c : RCl RK} {d : RCl PzK} {vs : List V} {H : Hp} {Q : VK} {E : XK} (h : sp_has_its_rule K c d vs H Q E) : rd_has_its_rule K c d { nx := fun _ H' => Q .non H', rt := Q } (start ["puzzle", "kind", "number", "cell", "rules"] vs) H := by
  obtain ⟨t, P, L, G, h, w, g, r, z, rows, cl, rfl, x, q⟩ := h
  obtain ⟨dx, p, rs, h1, h2, h3⟩ := x.ex
  have hN := x.R.F.m
  show rd_has_its_rule K c d _ [some (.ref P), some (.str (tx (tkC t))), some (.int r), some (.int z), none] H
  unfold rd_has_its_rule
  rw [w_seq, w_if]
  walk_at "w"
  refine ⟨r, rfl, ⟨true, rfl, iteF ?_⟩⟩
  walk_at "w"
  unfold hitB at q
  by_cases hr : r < 0
  · rw [if_pos hr] at q
    rw [decide_eq_true hr]
    exact iteT (q _ (Same.refl _))
  rw [if_neg hr] at q
  rw [decide_eq_false hr]
  refine iteF ?_
  rw [w_if]
  walk_at "w"
  rw [tx_dec, tk_clue]
  by_cases ht : t = .clue
  · rw [if_pos ht] at q
    rw [decide_eq_true ht]
    exact iteT (q _ (Same.refl _))
  rw [if_neg ht] at q
  rw [decide_eq_false ht]
  refine iteF ?_
  refine methE (k := .Puzzle) rfl x.ok h1 (by rfl) ?_
  walk_at "w"
  refine ⟨P, L, G, h, w, g, rows, cl, rfl, x, fun l p2 rs2 hl hp2 X => ?_⟩
  have s1 : Same H (upd H l (.lst (rs2.map V.ref))) := (Same.refl H).laid hl
  generalize upd H l (.lst (rs2.map V.ref)) = H1 at *
  have hlen := X.len
  walk_at "w"
  rw [w_if]
  walk_at "w"
  rw [w_len X.top, List.length_map, hlen]
  walk_at "w"
  by_cases hge : (rows.length : Int) ≤ r
  · rw [decide_eq_true hge]
    have e : rows[r.toNat]? = none := List.getElem?_eq_none (by omega)
    rw [e] at q
    exact iteT (q _ s1)
  rw [decide_eq_false hge]
  have hlt : r.toNat < rows.length := by omega
  have er : rows[r.toNat]? = some rows[r.toNat] := List.getElem?_eq_getElem hlt
  rw [er] at q
  have ea : rs2[r.toNat]? = some rs2[r.toNat] := List.getElem?_eq_getElem (by omega)
  have X1 := X.at_ _ _ _ ea er
  obtain ⟨ws, ews⟩ := RR.ws_cons rows[r.toNat]
  rw [ews] at X1
  have eix : atI (rs2.map V.ref) r = some (V.ref rs2[r.toNat]) := atI_refs (by omega) ea
  refine iteF ?_
  refine ixL X.top eix ?_
  walk_at "w"
  refine ⟨t, _, _, p2, ws, _, _, _, rfl, ht, X1, ?_⟩
  dsimp only at q
  cases hg : goesB t rows[r.toNat].k with
  | false =>
    rw [hg, Bool.false_and] at q
    exact ⟨false, rfl, iteF (q _ s1)⟩
  | true =>
    rw [hg, Bool.true_and] at q
    refine ⟨true, rfl, iteT ?_⟩
    unfold tMethK
    walk_at "w"
    obtain ⟨dx1, W1, C1, g1, g2, g3⟩ := X1.ex
    refine ixL X.top eix ?_
    refine ⟨_, rows[r.toNat].k, dx1, _, rfl, X1.ok, g1, by rfl, ?_⟩
    refine ⟨_, p2, _, _, _, _, rfl, X1, fun S hS => ?_⟩
    have s2 : Same H1 (upd H1 S (.lst (rows[r.toNat].cs.map V.int))) := (Same.refl H1).laid hS
    have eS : (upd H1 S (.lst (rows[r.toNat].cs.map V.int))) S = some (.lst (rows[r.toNat].cs.map V.int)) := upd_same
    dsimp only
    rw [w_in eS]
    exact q _ (s1.trans s2)
structure IsTh (H : Hp) (T M : Addr) (t : TK) (r z s : Int) (ms : List Int) : Prop where
  T : H T = some (.tup [.str (tx (tkC t)), .int r, .int z, .int s, .ref M])
  M : H M = some (.lst (ms.map V.int))
  n : ms.length ≤ 100
theorem IsTh.same {H H' : Hp} {T M : Addr} {t : TK} {r z s : Int} {ms : List Int} (x : IsTh H T M t r z s ms) (s' : Same H H') : IsTh H' T M t r z s ms := ⟨s' _ _ x.T, s' _ _ x.M, x.n⟩
def formB (h w g : Int) (rows : List RR) (t : TK) (r z s : Int) : Bool := (decide (0 ≤ z) && decide (z < h * w)) && ((decide (1 ≤ s) && decide (s ≤ g)) && hitB t rows r z)
def sp_is_formed (K : PySem.W.Frag) (c : RCl RK) (d : RCl PzK) : Sp := fun vs H Q _ => ∃ (t : TK) (P L G T M : Addr) (h w g r z s : Int) (rows : List RR) (cl ms : List Int), vs = [.ref P, .ref T] ∧ IsPz H c d P L G h w g rows cl ∧ IsTh H T M t r z s ms ∧ ∀ H', Same H H' → Q (.bl (formB h w g rows t r z s)) H'
theorem sl_is_formed {K : PySem.W.Frag} {c : RCl RK} {d : RCl PzK} {vs : List V} {H : Hp} {Q : VK} {E : XK} (h : sp_is_formed K c d vs H Q E) : vs.length = 2 := by
  obtain ⟨_, _, _, _, _, _, _, _, _, _, _, _, _, _, _, rfl, _⟩ := h; rfl
def rd_is_formed_t4 (K : PySem.W.Frag) (c : RCl RK) (d : RCl PzK) : TS :=
  (tRet (tAndV (tCB kIsi (tCons (tOp cIx (tVar 1) (tC (.int 4))) (tCons (tC (.ty "list")) tNil))) (tCB kAll (tCons (tComp [none, none] (iList K (tOp cIx (tVar 1) (tC (.int 4)))) (gName 1) tTrue (tCall (sp_is_whole K) [] E0 (tCons (tVar 1) tNil))) tNil))))
def rd_is_formed (K : PySem.W.Frag) (c : RCl RK) (d : RCl PzK) : TS :=
  (tSeq (tIfS (tOr (tNot (tB (tCB kIsi (tCons (tVar 1) (tCons (tC (.ty "tuple")) tNil))))) (tOr (tTest (tOp (cNe K) (tCB kLen (tCons (tVar 1) tNil)) (tC (.int 5)))) (tB (tInG gt_KINDS true (tOp cIx (tVar 1) (tC (.int 0))))))) (tRet (tC (.bl false))) tNext)
    (tSeq (tAsg (tMethK d d.ok "place" (sp_place K c d) (tVar 0) tNil) (gName 2))
    (tSeq (tIfS (tOr (tNot (tB (tCall (sp_is_cell K) [] E0 (tCons (tVar 2) (tCons (tOp cIx (tVar 1) (tC (.int 2))) tNil))))) (tNot (tB (tCall (sp_is_sign K) [] E0 (tCons (tVar 2) (tCons (tOp cIx (tVar 1) (tC (.int 3))) tNil)))))) (tRet (tC (.bl false))) tNext)
    (tSeq (tIfS (tNot (tB (tCall (sp_has_its_rule K c d) [] E0 (tCons (tVar 0) (tCons (tOp cIx (tVar 1) (tC (.int 0))) (tCons (tOp cIx (tVar 1) (tC (.int 1))) (tCons (tOp cIx (tVar 1) (tC (.int 2))) tNil))))))) (tRet (tC (.bl false))) tNext)
    (rd_is_formed_t4 K c d)))))
theorem rk_is_formed_t4 {K : PySem.W.Frag} {c : RCl RK} {d : RCl PzK} {H : Hp} {Q : VK} {P T M : Addr} {t : TK} {r z s : Int} {ms : List Int} {v2 : Option V} (x : IsTh H T M t r z s ms) (q : ∀ H', Same H H' → Q (.bl true) H') :
    rd_is_formed_t4 K c d { nx := fun _ H' => Q .non H', rt := Q } [some (.ref P), some (.ref T), v2] H := by
  have hn := x.n
  unfold rd_is_formed_t4
  walk_at "w"
  refine ixT x.T (v := V.ref M) rfl ?_
  walk_at "w"
  refine w_isiL x.M ?_
  walk_at "w"
  refine ixT x.T (v := V.ref M) rfl ?_
  walk_at "w"
  refine ⟨⟨_, SqL.of x.M⟩, ?_⟩
  refine compV_list (xs := ms.map V.int) (fun _ => true) (fun _ => .bl true) (by rw [List.length_map]; omega) (SqL.of x.M) ?_ ?_ ?_
  · intro i y H1 R hy s1 k1
    exact k1 _ (Same.refl _)
  · intro i y H1 Q1 hy hb s1 k1
    obtain ⟨v, hv, rfl⟩ := map_int_get hy
    show tCall _ _ _ _ [none, some (.int v)] H1 Q1
    walk_at "w"
    exact ⟨v, rfl, k1 _ (Same.refl _)⟩
  · intro l H1 hl s1 el
    have eb : ((List.range (ms.map V.int).length).filter fun _ => true).map (fun _ => V.bl true) = (List.replicate (ms.map V.int).length true).map V.bl := by
      rw [filter_tt, List.map_const', List.length_range, List.map_replicate]
    rw [eb] at el
    refine w_all el ?_
    have ea : (List.replicate (ms.map V.int).length true).all id = true := by
      rw [List.all_eq_true]
      intro b hb
      exact (List.mem_replicate.mp hb).2
    rw [ea]
    exact q _ s1
theorem rk_is_formed {K : PySem.W.Frag} {c : RCl RK} {d : RCl PzK} {vs : List V} {H : Hp} {Q : VK} {E : XK} (h : sp_is_formed K c d vs H Q E) : rd_is_formed K c d { nx := fun _ H' => Q .non H', rt := Q } (start ["puzzle", "thought", "floor"] vs) H := by
  obtain ⟨t, P, L, G, T, M, h, w, g, r, z, s, rows, cl, ms, rfl, x, y, q⟩ := h
  obtain ⟨dx, p, rs, h1, h2, h3⟩ := x.ex
  show rd_is_formed K c d _ [some (.ref P), some (.ref T), none] H
  unfold rd_is_formed
  rw [w_seq, w_if]
  walk_at "w"
  refine w_isiT y.T ?_
  walk_at "w"
  rw [w_lenT y.T, show (([.str (tx (tkC t)), .int r, .int z, .int s, .ref M] : List V).length : Int) = 5 from rfl]
  walk_at "w"
  refine ixT y.T (v := V.str (tx (tkC t))) rfl ?_
  walk_at "w"
  rw [in_kinds]
  walk_at "w"
  refine methE (k := .Puzzle) rfl x.ok h1 (by rfl) ?_
  walk_at "w"
  refine ⟨P, L, G, h, w, g, rows, cl, rfl, x, fun p1 hp1 => ?_⟩
  walk_at "w"
  rw [w_if]
  walk_at "w"
  refine ixT y.T (v := V.int z) rfl ?_
  walk_at "w"
  refine ⟨p1, h, w, g, z, rfl, hp1, x.R.F, ?_⟩
  unfold formB at q
  cases hb : (decide (0 ≤ z) && decide (z < h * w)) with
  | false =>
    rw [hb, Bool.false_and] at q
    exact ⟨false, rfl, iteT (q _ (Same.refl _))⟩
  | true =>
    rw [hb, Bool.true_and] at q
    refine ⟨true, rfl, iteF ?_⟩
    refine ixT y.T (v := V.int s) rfl ?_
    walk_at "w"
    refine ⟨p1, h, w, g, s, rfl, hp1, ?_⟩
    cases hb2 : (decide (1 ≤ s) && decide (s ≤ g)) with
    | false =>
      rw [hb2, Bool.false_and] at q
      exact ⟨false, rfl, iteT (q _ (Same.refl _))⟩
    | true =>
      rw [hb2, Bool.true_and] at q
      refine ⟨true, rfl, iteF ?_⟩
      rw [w_if]
      walk_at "w"
      refine ixT y.T (v := V.str (tx (tkC t))) rfl ?_
      walk_at "w"
      refine ixT y.T (v := V.int r) rfl ?_
      walk_at "w"
      refine ixT y.T (v := V.int z) rfl ?_
      walk_at "w"
      refine ⟨t, P, L, G, h, w, g, r, z, rows, cl, rfl, x, fun H1 s1 => ?_⟩
      cases hb3 : hitB t rows r z with
      | false =>
        rw [hb3] at q
        exact ⟨false, rfl, iteT (q _ s1)⟩
      | true =>
        rw [hb3] at q
        refine ⟨true, rfl, iteF ?_⟩
        exact rk_is_formed_t4 (y.same s1) fun H' s2 => q H' (s1.trans s2)
abbrev nsV (cs : List Nat) : List V := (cs.map fun (n : Nat) => (n : Int)).map V.int
theorem cut_head (xs : List V) {k : Int} (h : 0 ≤ k) : cutV xs none (some k) = xs.take k.toNat := by
  unfold cutV
  have e : k = ((k.toNat : Nat) : Int) := by omega
  have h1 : HT.sIx xs.length 0 none = 0 := rfl
  have h2 : HT.sIx xs.length xs.length (some k) = min k.toNat xs.length := by
    conv => lhs; rw [e]
    exact HT.sIx_nat ..
  rw [h1, h2]
  show (xs.drop 0).take _ = _
  rw [List.drop_zero]
  by_cases hk : k.toNat ≤ xs.length
  · rw [Nat.min_eq_left hk]; rfl
  · rw [Nat.min_eq_right (by omega), List.take_of_length_le (by omega), List.take_of_length_le (by omega)]
theorem ns_take (cs : List Nat) (k : Nat) : (nsV cs).take k = nsV (cs.take k) := by
  unfold nsV
  rw [List.map_take, List.map_take]
theorem RowOk_all {k : RK} {h w g : Int} {m : Nat} (hk : allK k = true) (k0 : k ≠ .Rule) (hn : numK k = false) (hs : sgnK k = true) (m0 : 1 ≤ (m : Int)) (m1 : (m : Int) ≤ g) : RR.Ok ⟨k, 0, m, [], rngL 0 (h * w)⟩ h w g := by
  refine ⟨k0, Nat.zero_le _, fun _ => rfl, fun _ => ⟨m0, m1⟩, fun e => ?_, ⟨fun e => ?_, fun _ => ⟨rfl, rfl⟩⟩, fun x hx => (by cases hx), Nat.zero_le _⟩
  · rw [show sgnK k = false from e] at hs; cases hs
  · rw [show allK k = false from e] at hk; cases hk
def tNeverE : TE := fun _ _ _ => False
theorem pe_neverE {X : Cx} {e : Expr} : PE X e tNeverE := fun _ _ _ _ _ _ h => h.elim
theorem RR.cin22 {r : RR} {h w g : Int} (O : r.Ok h w g) (F : FlOk h w g) : CellsIn r.cs (h * w).toNat := by
  obtain ⟨h0, h1, w0, w1, m16, g0, g1⟩ := id F
  have mpos : 0 ≤ h * w := Int.mul_nonneg (by omega) (by omega)
  cases hk : allK r.k with
  | false =>
    obtain ⟨c1, c2, c3, c4, e⟩ := O.cl.told hk
    rw [e]
    refine ⟨by rw [List.length_map]; omega, fun c hc => ?_⟩
    obtain ⟨n, hn, rfl⟩ := List.mem_map.mp hc
    have := c3 n hn
    omega
  | true =>
    obtain ⟨_, e⟩ := O.cl.all hk
    rw [e]
    refine ⟨by rw [rngL_len]; omega, fun c hc => ?_⟩
    have := rng_mem hc
    omega
structure Asks (H : Hp) (c : RCl RK) (d : RCl PzK) (P L G A T M : Addr) (h w g : Int) (rows : List RR) (cl masks : List Int) (t : TK) (r z s : Int) (ms : List Int) : Prop where
  P : IsPz H c d P L G h w g rows cl
  T : IsTh H T M t r z s ms
  A : H A = some (.lst (masks.map V.int))
  n : masks.length = (h * w).toNat
theorem Asks.same {H H' : Hp} {c : RCl RK} {d : RCl PzK} {P L G A T M : Addr} {h w g : Int} {rows : List RR} {cl masks : List Int} {t : TK} {r z s : Int} {ms : List Int} (x : Asks H c d P L G A T M h w g rows cl masks t r z s ms) (s' : Same H H') : Asks H' c d P L G A T M h w g rows cl masks t r z s ms := ⟨x.P.same s', x.T.same s', s' _ _ x.A, x.n⟩
theorem form_cell {h w g : Int} {rows : List RR} {t : TK} {r z s : Int} (f : formB h w g rows t r z s = true) : 0 ≤ z ∧ z < h * w ∧ 1 ≤ s ∧ s ≤ g ∧ hitB t rows r z = true := by
  unfold formB at f
  simp only [Bool.and_eq_true, decide_eq_true_eq] at f
  exact ⟨f.1.1, f.1.2, f.2.1.1, f.2.1.2, f.2.2⟩
theorem hit_row {t : TK} {rows : List RR} {r z : Int} (ht : t ≠ .clue) (f : hitB t rows r z = true) : 0 ≤ r ∧ ∃ x, rows[r.toNat]? = some x ∧ goesB t x.k = true ∧ z ∈ x.cs := by
  unfold hitB at f
  by_cases hr : r < 0
  · rw [if_pos hr] at f; cases f
  rw [if_neg hr, if_neg ht] at f
  cases e : rows[r.toNat]? with
  | none => rw [e] at f; cases f
  | some x =>
    rw [e] at f
    simp only [Bool.and_eq_true, decide_eq_true_eq] at f
    exact ⟨by omega, x, rfl, f.1, f.2⟩
theorem w_indexI {K : PySem.W.Frag} {H : Hp} {Q : VK} {q : Addr} {xs : List Int} {x : Int} (hq : H q = some (.lst (xs.map V.int))) (hm : x ∈ xs) (hn : xs.length ≤ 900) (h : Q (.int (xs.findIdx (· == x) : Nat)) H) : kIndex K (.ref q) [.int x] H Q := by
  have hlt : xs.findIdx (· == x) < xs.length := List.findIdx_lt_length_of_exists ⟨x, hm, by simp⟩
  have ev : ∀ a b : Int, PyData.eqv (.int a) (.int b) = decide (a = b) := fun a b => by
    rw [PyData.eqv]
    by_cases h : a = b
    · subst h; simp
    · simp [h]
  refine ⟨xs.map PyData.int, .int x, xs.findIdx (· == x), .lst (SqL.of hq) (.ints xs), .int x, lay_ints xs, rfl, ?_, by omega, ⟨PyData.int xs[xs.findIdx (· == x)], ?_, ?_⟩, fun m e hm2 he => ?_, h⟩
  · rw [depth_ints]; omega
  · rw [List.getElem?_map, List.getElem?_eq_getElem hlt]; rfl
  · have := List.findIdx_getElem (w := hlt)
    rw [ev, decide_eq_true_eq]
    simpa using this
  · have hml : m < xs.length := by omega
    rw [List.getElem?_map, List.getElem?_eq_getElem hml] at he
    cases he
    have := List.not_of_lt_findIdx hm2
    rw [ev, decide_eq_false_iff_not]
    simpa using this
def ixI2 (xs : List Int) (x : Int) : Nat := xs.findIdx (· == x)
theorem sg_tab : ((List.range 64).all fun m => decide (Builtin.Int.intBits (m : Int) ≤ 6) && decide (sgL (m : Int) = (([0, 1, 2, 3, 4, 5] : List Nat).filter fun (i : Nat) => stB (m : Int) (1 + (i : Int))).map fun (i : Nat) => 1 + (i : Int))) = true := by decide +kernel
theorem sg_six {m : Int} (m0 : 0 ≤ m) (m1 : m < 64) : Builtin.Int.intBits m ≤ 6 ∧ sgL m = (([0, 1, 2, 3, 4, 5] : List Nat).filter fun (i : Nat) => stB m (1 + (i : Int))).map fun (i : Nat) => 1 + (i : Int) := by
  have t := List.all_eq_true.mp sg_tab m.toNat (List.mem_range.mpr (by omega))
  have e1 : ((m.toNat : Nat) : Int) = m := by omega
  rw [e1, Bool.and_eq_true, decide_eq_true_eq, decide_eq_true_eq] at t
  exact t
theorem mk_in {masks : List Int} {i : Int} (mm : ∀ m ∈ masks, 0 ≤ m ∧ m < 64) (i0 : 0 ≤ i) (i1 : i < masks.length) : 0 ≤ masks.getD i.toNat 0 ∧ masks.getD i.toNat 0 < 64 := by
  have hlt : i.toNat < masks.length := by omega
  rw [List.getD, List.getElem?_eq_getElem hlt]
  exact mm _ (List.getElem_mem hlt)
theorem tk_place24 (t : TK) : decide (tkC t = [112, 108, 97, 99, 101]) = decide (t = .place) := by cases t <;> decide
theorem tk_step (t : TK) : decide (tkC t = [115, 116, 101, 112]) = decide (t = .step) := by cases t <;> decide
theorem cut_mid (xs : List V) {a b : Nat} (hab : a ≤ b) : cutV xs (some (a : Int)) (some (b : Int)) = (xs.drop a).take (b - a) := by
  have h1 : HT.sIx xs.length 0 (some (a : Int)) = min a xs.length := by rw [HT.sIx_nat]
  have h2 : HT.sIx xs.length xs.length (some (b : Int)) = min b xs.length := by rw [HT.sIx_nat]
  unfold cutV
  rw [h1, h2]
  by_cases ha : a ≤ xs.length
  · rw [Nat.min_eq_left ha]
    by_cases hb : b ≤ xs.length
    · rw [Nat.min_eq_left hb]
    · rw [Nat.min_eq_right (by omega), List.take_of_length_le (by simp), List.take_of_length_le (by simp; omega)]
  · rw [Nat.min_eq_right (by omega), Nat.min_eq_right (by omega), List.drop_length, List.drop_eq_nil_of_le (by omega)]
    simp
theorem compBl_list {K : PySem.W.Frag} {k : Nat} {a : Addr} {te : TE} {fin : Addr → Hp → Prop} {σ0 : St} {H1 : Hp} {xs : List Int} (f : Int → Bool) (hn : xs.length ≤ 900) (hq : SqL K H1 a (xs.map V.int))
    (he : ∀ x H Q, x ∈ xs → Same H1 H → (∀ H', Same H H' → Q (.bl (f x)) H') → te (σ0.set k (some (.int x))) H Q)
    (hd : ∀ l H, H1 l = none → Same H1 H → H l = some (.lst ((xs.map f).map V.bl)) → fin l H) :
    CompR (Itl K a) (gName k) tTrue te fin σ0 H1 := by
  refine compV_list (xs := xs.map V.int) (fun _ => true) (fun i => .bl (f (xs.getD i 0))) (by rw [List.length_map]; exact hn) hq ?_ ?_ ?_
  · intro i x H R hx s1 k1
    exact k1 _ (Same.refl _)
  · intro i x H Q hx hb s1 h
    obtain ⟨z, hz, rfl⟩ := map_int_get hx
    have h2 := h
    simp only [getD_of hz] at h2
    exact he z H Q (List.mem_of_getElem? hz) s1 h2
  · intro l H hl s1 el
    refine hd l H hl s1 ?_
    rw [el, filter_tt, List.length_map, List.map_map]
    congr 2
    exact map_range_get xs fun x => V.bl (f x)
def ahdL (cs : List Int) (z : Int) : List Int := if 0 < ixI2 cs z then [cs.getD (ixI2 cs z - 1) 0] else []
def behL (cs : List Int) (z : Int) : List Int := if ixI2 cs z + 1 < cs.length then [cs.getD (ixI2 cs z + 1) 0] else []
theorem ix_lt {cs : List Int} {z : Int} (h : z ∈ cs) : ixI2 cs z < cs.length := List.findIdx_lt_length_of_exists ⟨z, h, by simp⟩
theorem ahd_mem {cs : List Int} {z o : Int} (h : z ∈ cs) (ho : o ∈ ahdL cs z) : o ∈ cs := by
  have := ix_lt h
  unfold ahdL at ho
  split at ho
  · rw [List.mem_singleton.mp ho, List.getD, List.getElem?_eq_getElem (by omega)]
    exact List.getElem_mem _
  · cases ho
theorem beh_mem {cs : List Int} {z o : Int} (ho : o ∈ behL cs z) : o ∈ cs := by
  unfold behL at ho
  split at ho
  · rename_i h
    rw [List.mem_singleton.mp ho, List.getD, List.getElem?_eq_getElem h]
    exact List.getElem_mem _
  · cases ho
theorem take_one (cs : List Int) (k : Nat) : (cs.drop k).take 1 = if k < cs.length then [cs.getD k 0] else [] := by
  by_cases h : k < cs.length
  · rw [if_pos h, List.drop_eq_getElem_cons h, List.getD, List.getElem?_eq_getElem h]
    rfl
  · rw [if_neg h, List.drop_eq_nil_of_le (by omega)]
    rfl
def sp_ahead_of (K : PySem.W.Frag) (c : RCl RK) : Sp := fun vs H Q _ => ∃ (k : RK) (r p : Addr) (ws : List (List Nat)) (cs : List Int) (n m z : Int), vs = [.ref r, .int z] ∧ IsRule H c k r p ws cs n m ∧ cs.length ≤ 63 ∧ z ∈ cs ∧ ∀ l H', Same H H' → H l = none → H' l = some (.lst ((ahdL cs z).map V.int)) → Q (.ref l) H'
theorem sl_ahead_of {K : PySem.W.Frag} {c : RCl RK} {vs : List V} {H : Hp} {Q : VK} {E : XK} (h : sp_ahead_of K c vs H Q E) : vs.length = 2 := by
  obtain ⟨_, _, _, _, _, _, _, _, rfl, _⟩ := h; rfl
def rd_ahead_of (K : PySem.W.Frag) (c : RCl RK) : TS :=
  (tSeq (tAsg (tMethK c c.ok "spots" (sp_spots K c) (tVar 0) tNil) (gName 2))
    (tSeq (tAsg (tBM K "list" (kIndex K) (tVar 2) (tCons (tVar 1) tNil)) (gName 3))
    (tRet (tIf (tTest (tOp (cCmp fun i j => decide (j < i)) (tVar 3) (tC (.int 0)))) (tSl cSl2 (tVar 2) (tPart (tOp cSub (tVar 3) (tC (.int 1)))) (tPart (tVar 3))) (tLst tNil)))))
theorem rk_ahead_of {K : PySem.W.Frag} {c : RCl RK} {vs : List V} {H : Hp} {Q : VK} {E : XK} (h : sp_ahead_of K c vs H Q E) : rd_ahead_of K c { nx := fun _ H' => Q .non H', rt := Q } (start ["rule", "cell", "spots", "place"] vs) H := by
  obtain ⟨k, r, p, ws, cs, n, m, z, rfl, x, hn, hz, q⟩ := h
  obtain ⟨dx, W, C, h1, h2, h3⟩ := x.ex
  have hlt := ix_lt hz
  show rd_ahead_of K c _ [some (.ref r), some (.int z), none, none] H
  unfold rd_ahead_of
  rw [w_seq, w_asg]
  refine methE (k := k) rfl x.ok h1 (by rfl) ?_
  walk_at "w"
  refine ⟨r, p, ws, cs, n, m, rfl, x, fun S hS => ?_⟩
  have s1 : Same H (upd H S (.lst (cs.map V.int))) := (Same.refl H).laid hS
  have eS : (upd H S (.lst (cs.map V.int))) S = some (.lst (cs.map V.int)) := upd_same
  generalize upd H S (.lst (cs.map V.int)) = H1 at *
  walk_at "w"
  refine ⟨tyV_list eS, ?_⟩
  refine w_indexI eS hz (by omega) ?_
  have ei : (cs.findIdx (· == z)) = ixI2 cs z := rfl
  rw [ei]
  unfold ahdL at q
  generalize ixI2 cs z = j at *
  walk_at "w"
  by_cases hj : 0 < j
  · rw [if_pos hj] at q
    rw [decide_eq_true (show (0 : Int) < (j : Int) by omega)]
    refine iteT ?_
    refine w_slL eS fun l hl => ?_
    have ej : (j : Int) - 1 = ((j - 1 : Nat) : Int) := by omega
    rw [ej, cut_mid _ (by omega), show j - (j - 1) = 1 by omega, ← List.map_drop, ← List.map_take, take_one, if_pos (by omega)]
    exact q l _ (s1.laid hl) (s1.free hl) upd_same
  · rw [if_neg hj] at q
    rw [decide_eq_false (show ¬ (0 : Int) < (j : Int) by omega)]
    refine iteF ?_
    refine ⟨len_le (by decide), fun l hl => ?_⟩
    exact q l _ (s1.laid hl) (s1.free hl) upd_same
def sp_behind (K : PySem.W.Frag) (c : RCl RK) : Sp := fun vs H Q _ => ∃ (k : RK) (r p : Addr) (ws : List (List Nat)) (cs : List Int) (n m z : Int), vs = [.ref r, .int z] ∧ IsRule H c k r p ws cs n m ∧ cs.length ≤ 63 ∧ z ∈ cs ∧ ∀ l H', Same H H' → H l = none → H' l = some (.lst ((behL cs z).map V.int)) → Q (.ref l) H'
theorem sl_behind {K : PySem.W.Frag} {c : RCl RK} {vs : List V} {H : Hp} {Q : VK} {E : XK} (h : sp_behind K c vs H Q E) : vs.length = 2 := by
  obtain ⟨_, _, _, _, _, _, _, _, rfl, _⟩ := h; rfl
def rd_behind (K : PySem.W.Frag) (c : RCl RK) : TS :=
  (tSeq (tAsg (tMethK c c.ok "spots" (sp_spots K c) (tVar 0) tNil) (gName 2))
    (tSeq (tAsg (tBM K "list" (kIndex K) (tVar 2) (tCons (tVar 1) tNil)) (gName 3))
    (tRet (tSl cSl2 (tVar 2) (tPart (tOp cAdd (tVar 3) (tC (.int 1)))) (tPart (tOp cAdd (tVar 3) (tC (.int 2))))))))
theorem rk_behind {K : PySem.W.Frag} {c : RCl RK} {vs : List V} {H : Hp} {Q : VK} {E : XK} (h : sp_behind K c vs H Q E) : rd_behind K c { nx := fun _ H' => Q .non H', rt := Q } (start ["rule", "cell", "spots", "place"] vs) H := by
  obtain ⟨k, r, p, ws, cs, n, m, z, rfl, x, hn, hz, q⟩ := h
  obtain ⟨dx, W, C, h1, h2, h3⟩ := x.ex
  show rd_behind K c _ [some (.ref r), some (.int z), none, none] H
  unfold rd_behind
  rw [w_seq, w_asg]
  refine methE (k := k) rfl x.ok h1 (by rfl) ?_
  walk_at "w"
  refine ⟨r, p, ws, cs, n, m, rfl, x, fun S hS => ?_⟩
  have s1 : Same H (upd H S (.lst (cs.map V.int))) := (Same.refl H).laid hS
  have eS : (upd H S (.lst (cs.map V.int))) S = some (.lst (cs.map V.int)) := upd_same
  generalize upd H S (.lst (cs.map V.int)) = H1 at *
  walk_at "w"
  refine ⟨tyV_list eS, ?_⟩
  refine w_indexI eS hz (by omega) ?_
  have ei : (cs.findIdx (· == z)) = ixI2 cs z := rfl
  rw [ei]
  unfold behL at q
  generalize ixI2 cs z = j at *
  walk_at "w"
  refine w_slL eS fun l hl => ?_
  have ej : (j : Int) + 1 = ((j + 1 : Nat) : Int) := by omega
  have ek : (j : Int) + 2 = ((j + 2 : Nat) : Int) := by omega
  rw [ej, ek, cut_mid _ (by omega), show j + 2 - (j + 1) = 1 by omega, ← List.map_drop, ← List.map_take, take_one]
  exact q l _ (s1.laid hl) (s1.free hl) upd_same
def nogB (s m : Int) : Bool := (sgL m).all fun x => decide (s ≤ x)
def nolB (s m : Int) : Bool := (sgL m).all fun x => decide (x ≤ s)
theorem sgl35 {m : Int} (m0 : 0 ≤ m) (m1 : m < 64) : (sgL m).length ≤ 6 := by
  rw [(sg_six m0 m1).2, List.length_map]
  exact List.length_filter_le _ _
def sp_is_no_greater (K : PySem.W.Frag) : Sp := fun vs H Q _ => ∃ s m : Int, vs = [.int s, .int m] ∧ 0 ≤ m ∧ m < 64 ∧ ∀ H', Same H H' → Q (.bl (nogB s m)) H'
theorem sl_is_no_greater {K : PySem.W.Frag} {vs : List V} {H : Hp} {Q : VK} {E : XK} (h : sp_is_no_greater K vs H Q E) : vs.length = 2 := by
  obtain ⟨_, _, rfl, _⟩ := h; rfl
def rd_is_no_greater (K : PySem.W.Frag) : TS :=
  (tRet (tCB kAll (tCons (tComp [none, none, some 0] (iList K (tCall (sp_signs_in K) [] E0 (tCons (tVar 1) tNil))) (gName 1) tTrue (tOp (cCmp fun i j => decide (i ≤ j)) (tVar 2) (tVar 1))) tNil)))
theorem rk_is_no_greater {K : PySem.W.Frag} {vs : List V} {H : Hp} {Q : VK} {E : XK} (h : sp_is_no_greater K vs H Q E) : rd_is_no_greater K { nx := fun _ H' => Q .non H', rt := Q } (start ["sign", "mask"] vs) H := by
  obtain ⟨s, m, rfl, m0, m1, q⟩ := h
  have sb := (sg_six m0 m1).1
  have sl := sgl35 m0 m1
  show rd_is_no_greater K _ [some (.int s), some (.int m)] H
  unfold rd_is_no_greater
  walk_at "w"
  refine ⟨m, rfl, by omega, fun l H1 s1 hl el => ?_⟩
  refine ⟨l, rfl, ⟨_, SqL.of el⟩, ?_⟩
  refine compBl_list (xs := sgL m) (fun x => decide (s ≤ x)) (by omega) (SqL.of el) ?_ ?_
  · intro x H2 Q2 hx s2 k2
    show tOp _ _ _ [none, some (.int x), some (.int s)] H2 Q2
    walk_at "w"
    exact k2 _ (Same.refl _)
  · intro l2 H2 hl2 s2 el2
    walk_at "w"
    refine w_all el2 ?_
    rw [List.all_map]
    exact q _ (s1.trans s2)
def sp_is_no_less (K : PySem.W.Frag) : Sp := fun vs H Q _ => ∃ s m : Int, vs = [.int s, .int m] ∧ 0 ≤ m ∧ m < 64 ∧ ∀ H', Same H H' → Q (.bl (nolB s m)) H'
theorem sl_is_no_less {K : PySem.W.Frag} {vs : List V} {H : Hp} {Q : VK} {E : XK} (h : sp_is_no_less K vs H Q E) : vs.length = 2 := by
  obtain ⟨_, _, rfl, _⟩ := h; rfl
def rd_is_no_less (K : PySem.W.Frag) : TS :=
  (tRet (tCB kAll (tCons (tComp [none, none, some 0] (iList K (tCall (sp_signs_in K) [] E0 (tCons (tVar 1) tNil))) (gName 1) tTrue (tOp (cCmp fun i j => decide (j ≤ i)) (tVar 2) (tVar 1))) tNil)))
theorem rk_is_no_less {K : PySem.W.Frag} {vs : List V} {H : Hp} {Q : VK} {E : XK} (h : sp_is_no_less K vs H Q E) : rd_is_no_less K { nx := fun _ H' => Q .non H', rt := Q } (start ["sign", "mask"] vs) H := by
  obtain ⟨s, m, rfl, m0, m1, q⟩ := h
  have sb := (sg_six m0 m1).1
  have sl := sgl35 m0 m1
  show rd_is_no_less K _ [some (.int s), some (.int m)] H
  unfold rd_is_no_less
  walk_at "w"
  refine ⟨m, rfl, by omega, fun l H1 s1 hl el => ?_⟩
  refine ⟨l, rfl, ⟨_, SqL.of el⟩, ?_⟩
  refine compBl_list (xs := sgL m) (fun x => decide (x ≤ s)) (by omega) (SqL.of el) ?_ ?_
  · intro x H2 Q2 hx s2 k2
    show tOp _ _ _ [none, some (.int x), some (.int s)] H2 Q2
    walk_at "w"
    exact k2 _ (Same.refl _)
  · intro l2 H2 hl2 s2 el2
    walk_at "w"
    refine w_all el2 ?_
    rw [List.all_map]
    exact q _ (s1.trans s2)
def stpB (cs masks : List Int) (z s : Int) : Bool := ((ahdL cs z).any fun o => nogB s (masks.getD o.toNat 0)) || ((behL cs z).any fun o => nolB s (masks.getD o.toNat 0))
def stepB (cs masks : List Int) (z s : Int) (ms : List Int) : Bool := decide (ms = []) && stpB cs masks z s
def sp_step_strikes (K : PySem.W.Frag) (c : RCl RK) : Sp := fun vs H Q _ => ∃ (k : RK) (r p A M : Addr) (ws : List (List Nat)) (cs masks ms : List Int) (n m z s : Int), vs = [.ref r, .ref A, .int z, .int s, .ref M] ∧ IsRule H c k r p ws cs n m ∧ CellsIn cs masks.length ∧ z ∈ cs ∧ (∀ m ∈ masks, 0 ≤ m ∧ m < 64) ∧ H A = some (.lst (masks.map V.int)) ∧ H M = some (.lst (ms.map V.int)) ∧ ∀ H', Same H H' → Q (.bl (stepB cs masks z s ms)) H'
theorem sl_step_strikes {K : PySem.W.Frag} {c : RCl RK} {vs : List V} {H : Hp} {Q : VK} {E : XK} (h : sp_step_strikes K c vs H Q E) : vs.length = 5 := by
  obtain ⟨_, _, _, _, _, _, _, _, _, _, _, _, _, rfl, _⟩ := h; rfl
def rd_step_strikes_t1 (K : PySem.W.Frag) (c : RCl RK) : TS :=
  (tSeq (tIfS (tB (tCB kAny (tCons (tComp [none, none, some 1, some 3] (iList K (tCall (sp_ahead_of K c) [] E0 (tCons (tVar 0) (tCons (tVar 2) tNil)))) (gName 1) tTrue (tCall (sp_is_no_greater K) [] E0 (tCons (tVar 3) (tCons (tOp cIx (tVar 2) (tVar 1)) tNil)))) tNil))) (tRet (tC (.bl true))) tNext)
    (tRet (tCB kAny (tCons (tComp [none, none, some 1, some 3] (iList K (tCall (sp_behind K c) [] E0 (tCons (tVar 0) (tCons (tVar 2) tNil)))) (gName 1) tTrue (tCall (sp_is_no_less K) [] E0 (tCons (tVar 3) (tCons (tOp cIx (tVar 2) (tVar 1)) tNil)))) tNil))))
def rd_step_strikes (K : PySem.W.Frag) (c : RCl RK) : TS :=
  (tSeq (tIfS (tTest (tOp (cNe K) (tVar 4) (tLst tNil))) (tRet (tC (.bl false))) tNext)
    (rd_step_strikes_t1 K c))
theorem rk_step_strikes_t1 {K : PySem.W.Frag} {c : RCl RK} {H : Hp} {Q : VK} {k : RK} {r p A M : Addr} {ws : List (List Nat)} {cs masks : List Int} {n m z s : Int} (x : IsRule H c k r p ws cs n m) (hC : CellsIn cs masks.length) (hz : z ∈ cs) (mm : ∀ m ∈ masks, 0 ≤ m ∧ m < 64) (hA : H A = some (.lst (masks.map V.int)))
    (q : ∀ H', Same H H' → Q (.bl (stpB cs masks z s)) H') :
    rd_step_strikes_t1 K c { nx := fun _ H' => Q .non H', rt := Q } [some (.ref r), some (.ref A), some (.int z), some (.int s), some (.ref M)] H := by
  have la : (ahdL cs z).length ≤ 1 := by unfold ahdL; split <;> simp
  have lb : (behL cs z).length ≤ 1 := by unfold behL; split <;> simp
  unfold rd_step_strikes_t1
  rw [w_seq, w_if]
  walk_at "w"
  refine ⟨k, r, p, ws, cs, n, m, z, rfl, x, hC.1, hz, fun l H1 s1 hl el => ?_⟩
  refine ⟨l, rfl, ⟨_, SqL.of el⟩, ?_⟩
  refine compBl_list (xs := ahdL cs z) (fun o => nogB s (masks.getD o.toNat 0)) (by omega) (SqL.of el) ?_ ?_
  · intro o H2 Q2 ho s2 k2
    have ci := hC.2 o (ahd_mem hz ho)
    have mi := mk_in mm ci.1 ci.2
    show tCall _ _ _ _ [none, some (.int o), some (.ref A), some (.int s)] H2 Q2
    walk_at "w"
    refine ixI ((s1.trans s2) _ _ hA) ci.1 ci.2 ?_
    exact ⟨s, _, rfl, mi.1, mi.2, k2⟩
  · intro l2 H2 hl2 s2 el2
    walk_at "w"
    refine w_any el2 ?_
    have s12 := s1.trans s2
    rw [List.any_map]
    unfold stpB at q
    have ea : (ahdL cs z).any (id ∘ fun o => nogB s (masks.getD o.toNat 0)) = (ahdL cs z).any fun o => nogB s (masks.getD o.toNat 0) := rfl
    rw [ea]
    cases hb : (ahdL cs z).any fun o => nogB s (masks.getD o.toNat 0) with
    | true =>
      rw [hb, Bool.true_or] at q
      refine ⟨true, rfl, iteT ?_⟩
      walk_at "w"
      exact q _ s12
    | false =>
      rw [hb, Bool.false_or] at q
      refine ⟨false, rfl, iteF ?_⟩
      walk_at "w"
      refine ⟨k, r, p, ws, cs, n, m, z, rfl, x.same s12, hC.1, hz, fun l3 H3 s3 hl3 el3 => ?_⟩
      refine ⟨l3, rfl, ⟨_, SqL.of el3⟩, ?_⟩
      refine compBl_list (xs := behL cs z) (fun o => nolB s (masks.getD o.toNat 0)) (by omega) (SqL.of el3) ?_ ?_
      · intro o H4 Q4 ho s4 k4
        have ci := hC.2 o (beh_mem ho)
        have mi := mk_in mm ci.1 ci.2
        show tCall _ _ _ _ [none, some (.int o), some (.ref A), some (.int s)] H4 Q4
        walk_at "w"
        refine ixI (((s12.trans s3).trans s4) _ _ hA) ci.1 ci.2 ?_
        exact ⟨s, _, rfl, mi.1, mi.2, k4⟩
      · intro l4 H4 hl4 s4 el4
        walk_at "w"
        refine w_any el4 ?_
        rw [List.any_map]
        exact q _ ((s12.trans s3).trans s4)
theorem rk_step_strikes {K : PySem.W.Frag} {c : RCl RK} {vs : List V} {H : Hp} {Q : VK} {E : XK} (h : sp_step_strikes K c vs H Q E) : rd_step_strikes K c { nx := fun _ H' => Q .non H', rt := Q } (start ["rule", "masks", "cell", "sign", "more"] vs) H := by
  obtain ⟨k, r, p, A, M, ws, cs, masks, ms, n, m, z, s, rfl, x, hC, hz, mm, hA, hM, q⟩ := h
  show rd_step_strikes K c _ [some (.ref r), some (.ref A), some (.int z), some (.int s), some (.ref M)] H
  unfold rd_step_strikes
  rw [w_seq, w_if]
  walk_at "w"
  refine ⟨len_le (by decide), fun Z hZ => ?_⟩
  have s1 : Same H (upd H Z (.lst [])) := (Same.refl H).laid hZ
  have eZ : (upd H Z (.lst [])) Z = some (.lst (([] : List Int).map V.int)) := upd_same
  generalize upd H Z (.lst []) = H1 at *
  refine w_neL (s1 _ _ hM) eZ ?_
  unfold stepB at q
  cases hb : decide (ms = []) with
  | false =>
    rw [hb, Bool.false_and] at q
    refine ⟨true, rfl, ?_⟩
    walk_at "w"
    exact q _ s1
  | true =>
    rw [hb, Bool.true_and] at q
    refine ⟨false, rfl, ?_⟩
    walk_at "w"
    exact rk_step_strikes_t1 (x.same s1) hC hz mm (s1 _ _ hA) fun H' s2 => q H' (s1.trans s2)
def strB35 (rows : List RR) (masks : List Int) (r z s : Int) (ms : List Int) : Bool := match rows[r.toNat]? with
    | none => false
    | some x => stepB x.cs masks z s ms
def sp_strikes_by_line35 (K : PySem.W.Frag) (c : RCl RK) (d : RCl PzK) : Sp := fun vs H Q _ => ∃ (P L G A T M : Addr) (h w g : Int) (rows : List RR) (cl masks : List Int) (r z s : Int) (ms : List Int), vs = [.ref P, .ref A, .ref T] ∧ Asks H c d P L G A T M h w g rows cl masks .step r z s ms ∧ (∀ m ∈ masks, 0 ≤ m ∧ m < 64) ∧ formB h w g rows .step r z s = true ∧ ∀ H', Same H H' → Q (.bl (strB35 rows masks r z s ms)) H'
theorem sl_strikes_by_line35 {K : PySem.W.Frag} {c : RCl RK} {d : RCl PzK} {vs : List V} {H : Hp} {Q : VK} {E : XK} (h : sp_strikes_by_line35 K c d vs H Q E) : vs.length = 3 := by
  obtain ⟨_, _, _, _, _, _, _, _, _, _, _, _, _, _, _, _, rfl, _⟩ := h; rfl
def rd_strikes_by_line35 (K : PySem.W.Frag) (c : RCl RK) (d : RCl PzK) : TS :=
  (tSeq (tAsg (tOp cIx (tVar 2) (tC (.int 0))) (gName 3))
    (tSeq (tAsg (tOp cIx (tVar 2) (tC (.int 2))) (gName 4))
    (tSeq (tAsg (tOp cIx (tVar 2) (tC (.int 3))) (gName 5))
    (tSeq (tAsg (tOp cIx (tVar 2) (tC (.int 4))) (gName 6))
    (tSeq (tIfS (tTest (tOp (cEq K) (tVar 3) (tC (.str (tx [99, 108, 117, 101]))))) (tRet tNeverE) tNext)
    (tSeq (tAsg (tOp cIx (tMethK d d.ok "rules" (sp_rules K c d) (tVar 0) tNil) (tOp cIx (tVar 2) (tC (.int 1)))) (gName 7))
    (tSeq (tIfS (tTest (tOp (cEq K) (tVar 3) (tC (.str (tx [111, 110, 108, 121]))))) (tRet tNeverE) tNext)
    (tSeq (tIfS (tTest (tOp (cEq K) (tVar 3) (tC (.str (tx [112, 108, 97, 99, 101]))))) (tRet tNeverE) tNext)
    (tSeq (tIfS (tTest (tOp (cEq K) (tVar 3) (tC (.str (tx [115, 116, 101, 112]))))) (tRet (tCall (sp_step_strikes K c) [] E0 (tCons (tVar 7) (tCons (tVar 1) (tCons (tVar 4) (tCons (tVar 5) (tCons (tVar 6) tNil))))))) tNext)
    (tRet tNeverE))))))))))
theorem rk_strikes_by_line35 {K : PySem.W.Frag} {c : RCl RK} {d : RCl PzK} {vs : List V} {H : Hp} {Q : VK} {E : XK} (h : sp_strikes_by_line35 K c d vs H Q E) : rd_strikes_by_line35 K c d { nx := fun _ H' => Q .non H', rt := Q } (start ["puzzle", "masks", "thought", "kind", "cell", "sign", "more", "rule"] vs) H := by
  obtain ⟨P, L, G, A, T, M, h, w, g, rows, cl, masks, r, z, s, ms, rfl, X, mm, f, q⟩ := h
  obtain ⟨dx, p, rs, h1, h2, h3⟩ := X.P.ex
  obtain ⟨z0, z1, s0, s1', hit⟩ := form_cell f
  show rd_strikes_by_line35 K c d _ [some (.ref P), some (.ref A), some (.ref T), none, none, none, none, none] H
  unfold rd_strikes_by_line35
  walk_at "w"
  refine ixT X.T.T (v := V.str (tx (tkC .step))) rfl ?_
  walk_at "w"
  refine ixT X.T.T (v := V.int z) rfl ?_
  walk_at "w"
  refine ixT X.T.T (v := V.int s) rfl ?_
  walk_at "w"
  refine ixT X.T.T (v := V.ref M) rfl ?_
  walk_at "w"
  rw [w_if]
  walk_at "w"
  rw [tx_dec, tk_clue, decide_eq_false (show ¬ TK.step = TK.clue by decide)]
  obtain ⟨r0, y, ey, _, hz⟩ := hit_row (by decide) hit
  refine iteF ?_
  refine methE (k := .Puzzle) rfl X.P.ok h1 (by rfl) ?_
  walk_at "w"
  refine ⟨P, L, G, h, w, g, rows, cl, rfl, X.P, fun l p2 rs2 hl hp2 Y => ?_⟩
  have s2 : Same H (upd H l (.lst (rs2.map V.ref))) := (Same.refl H).laid hl
  generalize upd H l (.lst (rs2.map V.ref)) = H1 at *
  have hlt := (List.getElem?_eq_some_iff.mp ey).1
  have hlen := Y.len
  have ea : rs2[r.toNat]? = some rs2[r.toNat] := List.getElem?_eq_getElem (by omega)
  dsimp only
  refine ixT (s2 _ _ X.T.T) (v := V.int r) rfl ?_
  refine ixL Y.top (atI_refs r0 ea) ?_
  walk_at "w"
  rw [w_if]
  walk_at "w"
  rw [tx_dec, tk_only, decide_eq_false (show ¬ TK.step = TK.only by decide)]
  refine iteF ?_
  rw [w_if]
  walk_at "w"
  rw [tx_dec, tk_place24, decide_eq_false (show ¬ TK.step = TK.place by decide)]
  refine iteF ?_
  rw [w_if]
  walk_at "w"
  rw [tx_dec, tk_step, decide_eq_true rfl]
  refine iteT ?_
  walk_at "w"
  have O := X.P.R.ok y (List.mem_of_getElem? ey)
  have hin : CellsIn y.cs masks.length := by rw [X.n]; exact RR.cin22 O X.P.R.F
  refine ⟨_, _, p2, A, M, _, y.cs, masks, ms, _, _, z, s, rfl, Y.at_ _ _ _ ea ey, hin, hz, mm, s2 _ _ X.A, s2 _ _ X.T.M, fun H' s3 => ?_⟩
  have q1 := q H' (s2.trans s3)
  unfold strB35 at q1
  rw [ey] at q1
  exact q1
def sp_strikes35 (K : PySem.W.Frag) (c : RCl RK) (d : RCl PzK) : Sp := sp_strikes_by_line35 K c d
theorem sl_strikes35 {K : PySem.W.Frag} {c : RCl RK} {d : RCl PzK} {vs : List V} {H : Hp} {Q : VK} {E : XK} (h : sp_strikes35 K c d vs H Q E) : vs.length = 3 := sl_strikes_by_line35 h
def rd_strikes35 (K : PySem.W.Frag) (c : RCl RK) (d : RCl PzK) : TS :=
  (tSeq (tIfS (tB (tInG gt_LINE_KINDS false (tOp cIx (tVar 2) (tC (.int 0))))) (tRet (tCall (sp_strikes_by_line35 K c d) [] E0 (tCons (tVar 0) (tCons (tVar 1) (tCons (tVar 2) tNil))))) tNext)
    (tSeq (tIfS (tB (tInG gt_NUMBER_KINDS false (tOp cIx (tVar 2) (tC (.int 0))))) (tRet tNeverE) tNext)
    (tRet tNeverE)))
theorem rk_strikes35 {K : PySem.W.Frag} {c : RCl RK} {d : RCl PzK} {vs : List V} {H : Hp} {Q : VK} {E : XK} (h : sp_strikes35 K c d vs H Q E) : rd_strikes35 K c d { nx := fun _ H' => Q .non H', rt := Q } (start ["puzzle", "masks", "thought"] vs) H := by
  obtain ⟨P, L, G, A, T, M, h, w, g, rows, cl, masks, r, z, s, ms, rfl, X, mm, f, q⟩ := h
  show rd_strikes35 K c d _ [some (.ref P), some (.ref A), some (.ref T)] H
  unfold rd_strikes35
  rw [w_seq, w_if]
  walk_at "w"
  refine ixT X.T.T (v := V.str (tx (tkC .step))) rfl ?_
  walk_at "w"
  rw [in_line]
  rw [show lineK .step = true from rfl]
  walk_at "w"
  exact ⟨P, L, G, A, T, M, h, w, g, rows, cl, masks, r, z, s, ms, rfl, X, mm, f, q⟩
def alwB35 (h w g : Int) (rows : List RR) (masks : List Int) (r z s : Int) (ms : List Int) : Bool := formB h w g rows .step r z s && strB35 rows masks r z s ms
def sp_allowed35 (K : PySem.W.Frag) (c : RCl RK) (d : RCl PzK) : Sp := fun vs H Q _ => ∃ (P L G A T M : Addr) (h w g : Int) (rows : List RR) (cl masks : List Int) (r z s : Int) (ms : List Int), vs = [.ref P, .ref A, .ref T] ∧ Asks H c d P L G A T M h w g rows cl masks .step r z s ms ∧ (∀ m ∈ masks, 0 ≤ m ∧ m < 64) ∧ ∀ H', Same H H' → Q (.bl (alwB35 h w g rows masks r z s ms)) H'
theorem sl_allowed35 {K : PySem.W.Frag} {c : RCl RK} {d : RCl PzK} {vs : List V} {H : Hp} {Q : VK} {E : XK} (h : sp_allowed35 K c d vs H Q E) : vs.length = 3 := by
  obtain ⟨_, _, _, _, _, _, _, _, _, _, _, _, _, _, _, _, rfl, _⟩ := h; rfl
def rd_allowed35 (K : PySem.W.Frag) (c : RCl RK) (d : RCl PzK) : TS :=
  (tRet (tAndV (tCall (sp_is_formed K c d) [] E0 (tCons (tVar 0) (tCons (tVar 2) tNil))) (tCall (sp_strikes35 K c d) [] E0 (tCons (tVar 0) (tCons (tVar 1) (tCons (tVar 2) tNil))))))
theorem rk_allowed35 {K : PySem.W.Frag} {c : RCl RK} {d : RCl PzK} {vs : List V} {H : Hp} {Q : VK} {E : XK} (h : sp_allowed35 K c d vs H Q E) : rd_allowed35 K c d { nx := fun _ H' => Q .non H', rt := Q } (start ["puzzle", "masks", "thought"] vs) H := by
  obtain ⟨P, L, G, A, T, M, h, w, g, rows, cl, masks, r, z, s, ms, rfl, X, mm, q⟩ := h
  show rd_allowed35 K c d _ [some (.ref P), some (.ref A), some (.ref T)] H
  unfold rd_allowed35
  walk_at "w"
  refine ⟨.step, P, L, G, T, M, h, w, g, r, z, s, rows, cl, ms, rfl, X.P, X.T, fun H1 s1 => ?_⟩
  unfold alwB35 at q
  cases hb : formB h w g rows .step r z s with
  | false =>
    rw [hb, Bool.false_and] at q
    exact ⟨false, rfl, iteF (q _ s1)⟩
  | true =>
    rw [hb, Bool.true_and] at q
    refine ⟨true, rfl, iteT ?_⟩
    walk_at "w"
    exact ⟨P, L, G, A, T, M, h, w, g, rows, cl, masks, r, z, s, ms, rfl, X.same s1, mm, hb, fun H' s2 => q H' (s1.trans s2)⟩
end L2
set_option Elab.async false
set_option linter.all false
set_option maxRecDepth 100000
namespace L2
open PySem PySem.Spec PyProof.Rows
end L2
set_option Elab.async false
set_option linter.all false
set_option maxRecDepth 100000
namespace L2
open PySem PySem.Spec PyProof.Rows
local macro_rules | `(tactic| walk_at "w") => `(tactic| (first | simp only [w_seq, w_make, w_inG, w_lenset, w_revL, w_int2B, w_int2I, w_max, w_isN, w_notN, w_pow, if_true, if_false, Bool.false_eq_true, decide_true, decide_false, w_lrng1, w_lrng2, w_ifE, w_compR2, w_scompR2, w_forRD, w_forE, w_compE, w_scompE, w_intB, w_intI, w_bitlen, w_shr, w_isi_ii, w_isi_ib, w_isi_bb, w_isi_bi, w_isi_ss, w_isi_bs, w_isi_is, w_iteT, w_iteF, w_negE, w_bitI, w_str, Bool.not_true, Bool.not_false, w_next, w_asg, w_gname, w_var, w_c, w_op, w_ret, w_retN, w_drop, w_test, w_b, w_not, w_and, w_or, w_notV, w_andV, w_orV, w_nil, w_cons, w_cb, w_call, w_tup, w_lst, w_bm, w_bm0, w_true, w_dnew, w_dput, w_forL, w_forR1, w_forR2, w_compL, w_compR1, w_scompL, w_scompR1, w_add, w_sub, w_mul, w_div, w_mod, w_cmp, w_eqI, w_neI, w_eqB, w_neB, w_abs, w_min, w_sl, w_part, w_nopart, w_gsub, w_un, w_forS, w_compS, w_scompS, w_eqS, w_neS, w_lenS, w_addS, w_find,
  List.getElem?_cons_zero, List.getElem?_cons_succ, Option.some.injEq, exists_eq_left', exists_eq_left, List.set_cons_zero, List.set_cons_succ, bnd_some, V.int.injEq, V.bl.injEq, V.ref.injEq, V.str.injEq, List.append_nil, List.nil_append, List.cons_append] | dsimp only | skip))
def at34 (ns : List Int) (k : Int) : Int := if k < (ns.length : Int) then ns.getD k.toNat 0 else 0
def sp__law_at34 (K : PySem.W.Frag) : Sp := fun vs H Q _ => ∃ (a : Addr) (ns : List Int) (k : Int), vs = [.ref a, .int k] ∧ SqL K H a (ns.map V.int) ∧ ns.length ≤ 63 ∧ 0 ≤ k ∧ k ≤ 1000 ∧ Q (.int (at34 ns k)) H
theorem sl__law_at34 {K : PySem.W.Frag} {vs : List V} {H : Hp} {Q : VK} {E : XK} (h : sp__law_at34 K vs H Q E) : vs.length = 2 := by
  obtain ⟨_, _, _, rfl, _⟩ := h; rfl
def rd__law_at34 (K : PySem.W.Frag) : TS :=
  (tSeq (tIfS (tTest (tOp (cCmp fun i j => decide (i < j)) (tVar 1) (tCB (kLenS K) (tCons (tVar 0) tNil)))) (tRet (tOp (rIxL K) (tVar 0) (tVar 1))) tNext)
    (tRet (tC (.int 0))))
theorem rk__law_at34 {K : PySem.W.Frag} {vs : List V} {H : Hp} {Q : VK} {E : XK} (h : sp__law_at34 K vs H Q E) : rd__law_at34 K { nx := fun _ H' => Q .non H', rt := Q } (start ["_law_script", "_law_k"] vs) H := by
  obtain ⟨a, ns, k, rfl, hS, hn, k0, k1, q⟩ := h
  show rd__law_at34 K _ [some (.ref a), some (.int k)] H
  unfold rd__law_at34
  rw [w_seq, w_if]
  walk_at "w"
  refine ⟨a, _, rfl, .inl hS, ?_⟩
  walk_at "w"
  rw [List.length_map]
  unfold at34 at q
  by_cases hk : k < (ns.length : Int)
  · rw [if_pos hk] at q
    rw [if_pos (decide_eq_true hk)]
    exact ⟨a, _, k, _, rfl, rfl, hS, atI_ints k0 hk, q⟩
  · rw [if_neg hk] at q
    rw [if_neg (by simpa using hk)]
    walk_at "w"
    exact q
def tPr34 : List (Int × Int) → (St → Hp → (List V → Hp → Prop) → Prop)
  | [] => tNil
  | p :: r => tCons (tTup (tCons (tC (.int p.1)) (tCons (tC (.int p.2)) tNil))) (tPr34 r)
theorem pr34_run {σ : St} : ∀ (ps : List (Int × Int)) (H : Hp) (Q : List V → Hp → Prop), (∀ (as : List Addr) (H' : Hp), Same H H' → as.length = ps.length → (∀ (j : Nat) (a : Addr) (p : Int × Int), as[j]? = some a → ps[j]? = some p → H' a = some (.tup [.int p.1, .int p.2])) → Q (as.map V.ref) H') → tPr34 ps σ H Q
  | [], H, Q, h => h [] H (Same.refl H) rfl fun j a p e _ => by simp at e
  | p :: r, H, Q, h => by
    unfold tPr34
    walk_at "w"
    refine ⟨len_le (by show (2 : Nat) ≤ 1000; decide), fun t ht => ?_⟩
    have s1 : Same H (upd H t (.tup [V.int p.1, V.int p.2])) := (Same.refl H).laid ht
    have et : (upd H t (.tup [V.int p.1, V.int p.2])) t = some (.tup [V.int p.1, V.int p.2]) := upd_same
    generalize upd H t (.tup [V.int p.1, V.int p.2]) = H1 at *
    refine pr34_run r H1 _ fun as H2 s2 hl ha => ?_
    refine h (t :: as) H2 (s1.trans s2) (by simp [hl]) fun j a q e1 e2 => ?_
    match j, e1, e2 with
    | 0, e1, e2 =>
      simp at e1 e2
      subst e1 e2
      exact s2 _ _ et
    | j + 1, e1, e2 => exact ha j a q (by simpa using e1) (by simpa using e2)
theorem w_neSame {K : PySem.W.Frag} {H : Hp} {Q : VK} {p q : Addr} {D : PyData} (hp : DV K H (.ref p) D) (hq : DV K H (.ref q) D) (hs : SeqAt.shaped D = true) (he : PyData.eqv D D = true) (h : Q (.bl false) H) : cNe K (.ref p) (.ref q) H Q := by
  show rNeD K (.ref p) (.ref q) H Q
  refine ⟨D, D, hp, hq, hs, hs, ?_⟩
  rw [he]
  exact h
theorem eqv_list_ints (xs : List Int) : PyData.eqv (.list (xs.map PyData.int)) (.list (xs.map PyData.int)) = true := by
  rw [PyData.eqv, eqv_ints]
  simp
theorem eqv_int (n : Int) : PyData.eqv (.int n) (.int n) = true := by
  rw [PyData.eqv]
  simp
def two34 (at_ : Int) (x o : RR) : List RR := if at_ = 0 then [x, o] else [o, x]
theorem two_at {at_ : Int} {x o : RR} (a : at_ = 0 ∨ at_ = 1) : (two34 at_ x o)[at_.toNat]? = some x := by
  rcases a with rfl | rfl <;> rfl
theorem hit_two {t : TK} {x o : RR} {at_ r z : Int} (ht : t ≠ .clue) (gx : goesB t x.k = true) (go : goesB t o.k = false) (a : at_ = 0 ∨ at_ = 1) : hitB t (two34 at_ x o) r z = (decide (r = at_) && decide (z ∈ x.cs)) := by
  unfold hitB
  by_cases hr : r < 0
  · rw [if_pos hr, decide_eq_false (by omega)]; rfl
  rw [if_neg hr, if_neg ht]
  obtain ⟨n, rfl⟩ := Int.eq_ofNat_of_zero_le (show 0 ≤ r by omega)
  rw [Int.toNat_natCast]
  rcases a with rfl | rfl
  · match n with
    | 0 => show (goesB t x.k && decide (z ∈ x.cs)) = _; rw [gx]; simp
    | 1 => show (goesB t o.k && decide (z ∈ o.cs)) = _; rw [go]; simp
    | n + 2 => rw [decide_eq_false (by omega)]; rfl
  · match n with
    | 0 => show (goesB t o.k && decide (z ∈ o.cs)) = _; rw [go]; simp
    | 1 => show (goesB t x.k && decide (z ∈ x.cs)) = _; rw [gx]; simp
    | n + 2 => rw [decide_eq_false (by omega)]; rfl
theorem and_no {a b : Prop} [Decidable a] [Decidable b] (h : ¬ (a ∧ b)) : (decide a && decide b) = false := by
  rw [← Bool.decide_and]; exact decide_eq_false h
theorem cat_len34 : ∀ (rs : List (List Nat)), (∀ r ∈ rs, r.length ≤ 2) → (catL 32 rs).length ≤ 3 * rs.length
  | [], _ => by simp [catL]
  | [x], h => by have := h x List.mem_cons_self; simp [catL]; omega
  | x :: y :: r, h => by
    rw [cat_cons (by simp)]
    have h1 := h x List.mem_cons_self
    have h2 := cat_len34 (y :: r) fun z hz => h z (List.mem_cons_of_mem _ hz)
    simp only [List.length_append, List.length_cons] at *
    omega
theorem cells_len34 {cs : List Nat} (h : cs.length ≤ 16) : (catL 32 (cs.map numC)).length ≤ 48 := by
  have := cat_len34 (cs.map numC) fun r hr => by obtain ⟨x, _, rfl⟩ := List.mem_map.mp hr; exact num_len
  rw [List.length_map] at this
  omega
theorem RowOk_list {k : RK} {h w g : Int} {n m : Nat} {ns : List Nat} (F : FlOk h w g) (ne : ns ≠ []) (lt : ∀ c ∈ ns, (c : Int) < h * w) (nd : ns.Nodup) (len : ns.length ≤ 16) (hk : allK k = false) (k0 : k ≠ .Rule) (n0 : n ≤ 99) (nz : numK k = false → n = 0) (m0 : sgnK k = true → 1 ≤ (m : Int) ∧ (m : Int) ≤ g) (mz : sgnK k = false → m = 0) :
    RR.Ok ⟨k, n, m, ns, ns.map fun (n : Nat) => (n : Int)⟩ h w g := by
  have m16 := F.m
  refine ⟨k0, n0, nz, m0, mz, ⟨fun _ => ⟨ne, len, lt, nd, rfl⟩, fun e => ?_⟩, fun x hx => ?_, len⟩
  · rw [show allK k = false from hk] at e; cases e
  · have := lt x hx
    omega
theorem nat0 {h w g : Int} (F : FlOk h w g) : ∀ c ∈ [0], ((c : Nat) : Int) < h * w := fun c hc => by
  obtain ⟨h0, h1, w0, w1, m16, g0, g1⟩ := F
  have mpos : 1 ≤ h * w := Int.le_trans (by omega) (Int.mul_le_mul h0 w0 (by omega) (by omega))
  rw [List.mem_singleton.mp hc]; show (0 : Int) < h * w; omega
theorem strL {Q : VK} {H : Hp} {a b : List Nat} (h1 : a.length ≤ 400) (h2 : b.length ≤ 400) (q : Q (.str (tx (a ++ b))) H) : cAdd (.str (tx a)) (.str (tx b)) H Q := by
  rw [w_addS, tx_app]
  exact ⟨by rw [tx_len, tx_len]; exact len_le (by omega), q⟩
def dTh (t : TK) (r z s : Int) (ms : List Int) : PyData := .tuple [.str (tx (tkC t)), .int r, .int z, .int s, .list (ms.map PyData.int)]
theorem th_eqv (t : TK) (r z s : Int) (ms : List Int) : PyData.eqv (dTh t r z s ms) (dTh t r z s ms) = true := by
  unfold dTh
  rw [PyData.eqv, PyData.eqvAll, PyData.eqvAll, PyData.eqvAll, PyData.eqvAll, PyData.eqvAll, PyData.eqvAll, eqv_list_ints, eqv_int, eqv_int, eqv_int, PyData.eqv]
  simp
theorem shaped_th (t : TK) (r z s : Int) (ms : List Int) : SeqAt.shaped (dTh t r z s ms) = true := by
  have a1 : PyData.strOk (tx (tkC t)) = true := tx_ok (by cases t <;> decide)
  unfold dTh
  simp [SeqAt.shaped, PyData.canLay0, PyData.canLayAll0, a1, lay_ints, PyData.depth, PyData.depthAll, depth_ints]
theorem th_dv {K : PySem.W.Frag} {H : Hp} {T M : Addr} {t : TK} {r z s : Int} {ms : List Int} (x : IsTh H T M t r z s ms) : DV K H (.ref T) (dTh t r z s ms) :=
  .tup (SqT.of x.T) (.cons (.str _) (.cons (.int _) (.cons (.int _) (.cons (.int _) (.cons (.lst (SqL.of x.M) (.ints ms)) .nil)))))
theorem w_neTh {K : PySem.W.Frag} {H : Hp} {Q : VK} {T M T2 M2 : Addr} {t : TK} {r z s : Int} {ms : List Int} (x : IsTh H T M t r z s ms) (y : IsTh H T2 M2 t r z s ms) (q : Q (.bl false) H) : cNe K (.ref T) (.ref T2) H Q :=
  w_neSame (th_dv x) (th_dv y) (shaped_th t r z s ms) (th_eqv t r z s ms) q
def sp__law_order35 (K : PySem.W.Frag) : Sp := fun vs H Q _ => ∃ (num many : Int), vs = [.int num, .int many] ∧ 0 ≤ many ∧ many ≤ 16 ∧
  ∀ (l : Addr) (H' : Hp) (cs : List Nat), Same H H' → H l = none → H' l = some (.lst (nsV cs)) → cs.Nodup → (∀ c ∈ cs, (c : Int) < many) → (cs.length : Int) = many → Q (.ref l) H'
theorem sl__law_order35 {K : PySem.W.Frag} {vs : List V} {H : Hp} {Q : VK} {E : XK} (h : sp__law_order35 K vs H Q E) : vs.length = 2 := by
  obtain ⟨_, _, rfl, _⟩ := h; rfl
def rd__law_order35 (K : PySem.W.Frag) : TS :=
  (tSeq (tAsg (tListRng1 (tCons (tVar 1) tNil)) (gName 2))
    (tSeq (tAsg (tLst tNil) (gName 3))
    (tSeq (tFor (iRng1 (tCons (tVar 1) tNil)) (gName 4)
    (tDrop (tBM K "list" kAppend (tVar 3) (tCons (tBM K "list" kPopAt (tVar 2) (tCons (tOp cMod (tOp cDiv (tVar 0) (tOp cAdd (tVar 4) (tC (.int 2)))) (tCB kLen (tCons (tVar 2) tNil))) tNil)) tNil))))
    (tRet (tVar 3)))))
theorem rk__law_order35 {K : PySem.W.Frag} {vs : List V} {H : Hp} {Q : VK} {E : XK} (h : sp__law_order35 K vs H Q E) : rd__law_order35 K { nx := fun _ H' => Q .non H', rt := Q } (start ["_law_number", "_law_many", "_law_left", "_law_found", "_law_k"] vs) H := by
  obtain ⟨num, many, rfl, c0, m1, q⟩ := h
  show rd__law_order35 K _ [some (.int num), some (.int many), none, none, none] H
  unfold rd__law_order35
  walk_at "w"
  refine ⟨many, rfl, by omega, by omega, fun L hL => ?_⟩
  have s1 : Same H (upd H L (.lst ((rngL 0 many).map V.int))) := (Same.refl H).laid hL
  have eL : (upd H L (.lst ((rngL 0 many).map V.int))) L = some (.lst ((rngL 0 many).map V.int)) := upd_same
  generalize upd H L (.lst ((rngL 0 many).map V.int)) = H1 at *
  walk_at "w"
  refine ⟨len_le (by decide), fun R hR => ?_⟩
  have nRL : R ≠ L := fun e => by rw [e, eL] at hR; cases hR
  refine ⟨many, rfl, by omega, by omega, ?_⟩
  refine for_range (fun i σ H' => ∃ (kv : Option V) (fs ls : List Int), σ = [some (.int num), some (.int many), some (.ref L), some (.ref R), kv] ∧ Same H H' ∧ H' L = some (.lst (ls.map V.int)) ∧ H' R = some (.lst (fs.map V.int)) ∧ (fs ++ ls).Perm (rngL 0 many) ∧ fs.length = i)
    ⟨none, [], rngL 0 many, rfl, s1.laid hR, by rw [upd_ne nRL.symm]; exact eL, by rw [upd_same]; rfl, List.Perm.refl _, rfl⟩ ?_ ?_
  · rintro i σ H2 hi ⟨kv, fs, ls, rfl, s2, e1, e2, hp, hl⟩
    have hlen := hp.length_eq
    rw [List.length_append, rngL_len] at hlen
    walk_at "w"
    refine ⟨tyV_list e2, tyV_list e1, ⟨by omega, by omega⟩, ?_⟩
    rw [w_len e1, List.length_map]
    have hpos : 0 < (ls.length : Int) := by omega
    generalize num / (0 + (i : Int) + 2) = y at *
    have j0 := Int.emod_nonneg y (Int.ne_of_gt hpos)
    have j1 := Int.emod_lt_of_pos y hpos
    refine ⟨hpos, ?_⟩
    generalize y % (ls.length : Int) = j at *
    have hj : j.toNat < ls.length := by omega
    refine w_popAt e1 j0 (by rw [List.length_map]; omega) (y := V.int ls[j.toNat]) (by rw [List.getElem?_map, List.getElem?_eq_getElem hj]; rfl) ?_
    have e2' : (upd H2 L (.lst ((ls.map V.int).eraseIdx j.toNat))) R = some (.lst (fs.map V.int)) := by rw [upd_ne nRL]; exact e2
    walk_at "w"
    rw [w_append e2']
    refine ⟨by rw [List.length_map]; exact small1000 (by omega), _, fs ++ [ls[j.toNat]], ls.eraseIdx j.toNat, rfl, (s2.own hL).own (s1.free hR), ?_, ?_, ?_, by simp [hl]⟩
    · rw [upd_ne nRL.symm, upd_same, erase_map]
    · rw [upd_same]; simp
    · have p1 := perm_erase ls j.toNat hj
      have p2 := List.Perm.append_left fs p1
      refine List.Perm.trans ?_ hp
      rw [List.append_assoc]
      exact p2
  · rintro σ H2 ⟨kv, fs, ls, rfl, s2, e1, e2, hp, hl⟩
    walk_at "w"
    have hnd : (fs ++ ls).Nodup := hp.nodup_iff.mpr (rng_nodup many)
    have hm : ∀ x ∈ fs, 0 ≤ x ∧ x < many := fun x hx => rng_mem (hp.mem_iff.mp (List.mem_append.mpr (.inl hx)))
    have ef : (fs.map Int.toNat).map (fun (n : Nat) => (n : Int)) = fs := by
      rw [List.map_map]
      conv => rhs; rw [← List.map_id fs]
      exact List.map_congr_left fun x hx => by have := hm x hx; show ((x.toNat : Nat) : Int) = x; omega
    refine q R H2 (fs.map Int.toNat) s2 (s1.free hR) (by unfold nsV; rw [ef]; exact e2) ?_ ?_ ?_
    · have h1 := (List.nodup_append.mp hnd).1
      rw [← ef] at h1
      exact nodup_of_map _ h1
    · intro c hc
      obtain ⟨x, hx, rfl⟩ := List.mem_map.mp hc
      have := hm x hx
      omega
    · rw [List.length_map, hl]; omega
def fl35 : List (Int × Int) := [(1, 1), (1, 2), (2, 2), (5, 1), (3, 2), (3, 3), (4, 4), (2, 6), (3, 4), (5, 3), (1, 6), (4, 2)]
theorem fl35_ok : ∀ p ∈ fl35, 1 ≤ p.1 ∧ p.1 ≤ 6 ∧ 1 ≤ p.2 ∧ p.2 ≤ 6 ∧ p.1 * p.2 ≤ 16 := by decide
def sp__law_floor35 (K : PySem.W.Frag) : Sp := fun vs H Q _ => ∃ (n : Int), vs = [.int n] ∧ ∀ (p : Addr) (H' : Hp) (h w g : Int), Same H H' → IsFl H' p h w g → FlOk h w g → Q (.ref p) H'
theorem sl__law_floor35 {K : PySem.W.Frag} {vs : List V} {H : Hp} {Q : VK} {E : XK} (h : sp__law_floor35 K vs H Q E) : vs.length = 1 := by
  obtain ⟨_, rfl, _⟩ := h; rfl
def rd__law_floor35 (K : PySem.W.Frag) : TS :=
  (tSeq (tAsg (tLst (tCons (tTup (tCons (tC (.int 1)) (tCons (tC (.int 1)) tNil))) (tCons (tTup (tCons (tC (.int 1)) (tCons (tC (.int 2)) tNil))) (tCons (tTup (tCons (tC (.int 2)) (tCons (tC (.int 2)) tNil))) (tCons (tTup (tCons (tC (.int 5)) (tCons (tC (.int 1)) tNil))) (tCons (tTup (tCons (tC (.int 3)) (tCons (tC (.int 2)) tNil))) (tCons (tTup (tCons (tC (.int 3)) (tCons (tC (.int 3)) tNil))) (tCons (tTup (tCons (tC (.int 4)) (tCons (tC (.int 4)) tNil))) (tCons (tTup (tCons (tC (.int 2)) (tCons (tC (.int 6)) tNil))) (tCons (tTup (tCons (tC (.int 3)) (tCons (tC (.int 4)) tNil))) (tCons (tTup (tCons (tC (.int 5)) (tCons (tC (.int 3)) tNil))) (tCons (tTup (tCons (tC (.int 1)) (tCons (tC (.int 6)) tNil))) (tCons (tTup (tCons (tC (.int 4)) (tCons (tC (.int 2)) tNil))) tNil))))))))))))) (gName 1))
    (tSeq (tAsg (tOp cIx (tVar 1) (tOp cMod (tVar 0) (tC (.int 12)))) (gTup K 2 (gCons (gName 2) (gCons (gName 3) gNil))))
    (tRet (tTup (tCons (tVar 2) (tCons (tVar 3) (tCons (tOp cAdd (tC (.int 1)) (tOp cMod (tOp cDiv (tVar 0) (tC (.int 12))) (tC (.int 6)))) tNil)))))))
theorem rk__law_floor35 {K : PySem.W.Frag} {vs : List V} {H : Hp} {Q : VK} {E : XK} (h : sp__law_floor35 K vs H Q E) : rd__law_floor35 K { nx := fun _ H' => Q .non H', rt := Q } (start ["_law_cell", "_law_some", "_law_high", "_law_wide"] vs) H := by
  obtain ⟨n, rfl, q⟩ := h
  show rd__law_floor35 K _ [some (.int n), none, none, none] H
  unfold rd__law_floor35
  rw [w_seq, w_asg, w_lst]
  refine pr34_run fl35 H _ fun as H1 s1 hl ha => ?_
  have hl12 : as.length = 12 := hl
  refine ⟨by rw [List.length_map]; exact len_le (by omega), fun U hU => ?_⟩
  have s2 : Same H1 (upd H1 U (.lst (as.map V.ref))) := (Same.refl H1).laid hU
  have eU : (upd H1 U (.lst (as.map V.ref))) U = some (.lst (as.map V.ref)) := upd_same
  generalize upd H1 U (.lst (as.map V.ref)) = H2 at *
  walk_at "w"
  refine ⟨by decide, ?_⟩
  have j0 := Int.emod_nonneg n (show (12 : Int) ≠ 0 by decide)
  have j1 := Int.emod_lt_of_pos n (show (0 : Int) < 12 by decide)
  have ej : n % 12 = (((n % 12).toNat : Nat) : Int) := by omega
  have hj : (n % 12).toNat < fl35.length := by show _ < 12; omega
  rw [ej]
  generalize (n % 12).toNat = j at *
  have ea : as[j]? = some (as[j]'(by omega)) := List.getElem?_eq_getElem (by omega)
  have ep : fl35[j]? = some fl35[j] := List.getElem?_eq_getElem hj
  have et := ha j _ _ ea ep
  have ok := fl35_ok _ (List.getElem_mem hj)
  generalize fl35[j] = pr at *
  refine ixL eU (v := V.ref (as[j]'(by omega))) (atI_nat (by rw [List.getElem?_map, ea]; rfl)) ?_
  refine w_gtup (s2 _ _ et) rfl ?_
  rw [w_gcons2]
  walk_at "w"
  refine ⟨⟨by decide, by decide⟩, by decide, len_le (by show (3 : Nat) ≤ 1000; decide), fun p hp => ?_⟩
  have g0 := Int.emod_nonneg (n / 12) (show (6 : Int) ≠ 0 by decide)
  have g1 := Int.emod_lt_of_pos (n / 12) (show (0 : Int) < 6 by decide)
  exact q p _ pr.1 pr.2 _ ((s1.trans s2).trans ((Same.refl H2).laid hp)) upd_same ⟨ok.1, ok.2.1, ok.2.2.1, ok.2.2.2.1, ok.2.2.2.2, by omega, by omega⟩
def pw35 : List Int := [1, 2, 4, 8, 16, 32]
def pg35 : List Int := [2, 4, 8, 16, 32, 64]
theorem pw35_tab : ((List.range 64).all fun k => (List.range 6).all fun j => decide (decide (0 < (k : Int) % pw35.getD j 0) = !nogB (1 + (j : Int)) (k : Int)) && (decide (decide (0 < (k : Int) / pg35.getD j 0) = !nolB (1 + (j : Int)) (k : Int)) && (decide (0 < pw35.getD j 0 ∧ pw35.getD j 0 < 1000) && decide (0 < pg35.getD j 0 ∧ pg35.getD j 0 < 1000)))) = true := by decide +kernel
theorem pw35_at {k m : Int} (k0 : 0 ≤ k) (k1 : k < 64) (m0 : 1 ≤ m) (m6 : m ≤ 6) : decide (0 < k % pw35.getD (m - 1).toNat 0) = !nogB m k ∧ decide (0 < k / pg35.getD (m - 1).toNat 0) = !nolB m k ∧ (0 < pw35.getD (m - 1).toNat 0 ∧ pw35.getD (m - 1).toNat 0 < 1000) ∧ 0 < pg35.getD (m - 1).toNat 0 ∧ pg35.getD (m - 1).toNat 0 < 1000 := by
  have t := List.all_eq_true.mp (List.all_eq_true.mp pw35_tab k.toNat (List.mem_range.mpr (by omega))) (m - 1).toNat (List.mem_range.mpr (by omega))
  have e1 : ((k.toNat : Nat) : Int) = k := by omega
  have e2 : 1 + (((m - 1).toNat : Nat) : Int) = m := by omega
  rw [e1, e2, Bool.and_eq_true, Bool.and_eq_true, Bool.and_eq_true] at t
  exact ⟨of_decide_eq_true t.1, of_decide_eq_true t.2.1, of_decide_eq_true t.2.2.1, of_decide_eq_true t.2.2.2⟩
def sp__law_less (K : PySem.W.Frag) : Sp := fun vs H Q _ => ∃ k m : Int, vs = [.int k, .int m] ∧ 0 ≤ k ∧ k < 64 ∧ 1 ≤ m ∧ m ≤ 6 ∧ ∀ H', Same H H' → Q (.bl (!nogB m k)) H'
theorem sl__law_less {K : PySem.W.Frag} {vs : List V} {H : Hp} {Q : VK} {E : XK} (h : sp__law_less K vs H Q E) : vs.length = 2 := by
  obtain ⟨_, _, rfl, _⟩ := h; rfl
def rd__law_less (K : PySem.W.Frag) : TS :=
  (tRet (tOp (cCmp fun i j => decide (j < i)) (tOp cMod (tVar 0) (tOp cIx (tLst (tCons (tC (.int 1)) (tCons (tC (.int 2)) (tCons (tC (.int 4)) (tCons (tC (.int 8)) (tCons (tC (.int 16)) (tCons (tC (.int 32)) tNil))))))) (tOp cSub (tVar 1) (tC (.int 1))))) (tC (.int 0))))
theorem rk__law_less {K : PySem.W.Frag} {vs : List V} {H : Hp} {Q : VK} {E : XK} (h : sp__law_less K vs H Q E) : rd__law_less K { nx := fun _ H' => Q .non H', rt := Q } (start ["_law_mask", "_law_sign"] vs) H := by
  obtain ⟨k, m, rfl, k0, k1, m0, m6, q⟩ := h
  have P := pw35_at k0 k1 m0 m6
  show rd__law_less K _ [some (.int k), some (.int m)] H
  unfold rd__law_less
  walk_at "w"
  refine ⟨len_le (by show (6 : Nat) ≤ 1000; decide), fun U hU => ?_⟩
  have s1 : Same H (upd H U (.lst [V.int 1, V.int 2, V.int 4, V.int 8, V.int 16, V.int 32])) := (Same.refl H).laid hU
  have eU : (upd H U (.lst [V.int 1, V.int 2, V.int 4, V.int 8, V.int 16, V.int 32])) U = some (.lst (pw35.map V.int)) := upd_same
  generalize upd H U (.lst [V.int 1, V.int 2, V.int 4, V.int 8, V.int 16, V.int 32]) = H1 at *
  refine ixI eU (by omega) (by show m - 1 < 6; omega) ?_
  walk_at "w"
  refine ⟨P.2.2.1.1, ?_⟩
  rw [P.1]
  exact q _ s1
def sp__law_greater (K : PySem.W.Frag) : Sp := fun vs H Q _ => ∃ k m : Int, vs = [.int k, .int m] ∧ 0 ≤ k ∧ k < 64 ∧ 1 ≤ m ∧ m ≤ 6 ∧ ∀ H', Same H H' → Q (.bl (!nolB m k)) H'
theorem sl__law_greater {K : PySem.W.Frag} {vs : List V} {H : Hp} {Q : VK} {E : XK} (h : sp__law_greater K vs H Q E) : vs.length = 2 := by
  obtain ⟨_, _, rfl, _⟩ := h; rfl
def rd__law_greater (K : PySem.W.Frag) : TS :=
  (tRet (tOp (cCmp fun i j => decide (j < i)) (tOp cDiv (tVar 0) (tOp cIx (tLst (tCons (tC (.int 2)) (tCons (tC (.int 4)) (tCons (tC (.int 8)) (tCons (tC (.int 16)) (tCons (tC (.int 32)) (tCons (tC (.int 64)) tNil))))))) (tOp cSub (tVar 1) (tC (.int 1))))) (tC (.int 0))))
theorem rk__law_greater {K : PySem.W.Frag} {vs : List V} {H : Hp} {Q : VK} {E : XK} (h : sp__law_greater K vs H Q E) : rd__law_greater K { nx := fun _ H' => Q .non H', rt := Q } (start ["_law_mask", "_law_sign"] vs) H := by
  obtain ⟨k, m, rfl, k0, k1, m0, m6, q⟩ := h
  have P := pw35_at k0 k1 m0 m6
  show rd__law_greater K _ [some (.int k), some (.int m)] H
  unfold rd__law_greater
  walk_at "w"
  refine ⟨len_le (by show (6 : Nat) ≤ 1000; decide), fun U hU => ?_⟩
  have s1 : Same H (upd H U (.lst [V.int 2, V.int 4, V.int 8, V.int 16, V.int 32, V.int 64])) := (Same.refl H).laid hU
  have eU : (upd H U (.lst [V.int 2, V.int 4, V.int 8, V.int 16, V.int 32, V.int 64])) U = some (.lst (pg35.map V.int)) := upd_same
  generalize upd H U (.lst [V.int 2, V.int 4, V.int 8, V.int 16, V.int 32, V.int 64]) = H1 at *
  refine ixI eU (by omega) (by show m - 1 < 6; omega) ?_
  walk_at "w"
  refine ⟨⟨P.2.2.2.1, by have := P.2.2.2.2; omega⟩, ?_⟩
  rw [P.2.1]
  exact q _ s1
def sp__law_masks35 (K : PySem.W.Frag) : Sp := fun vs H Q _ => ∃ (a p : Addr) (ns : List Int) (h w g : Int), vs = [.ref a, .ref p] ∧ SqL K H a (ns.map V.int) ∧ ns.length ≤ 63 ∧ IsFl H p h w g ∧ FlOk h w g ∧
  ∀ (l : Addr) (H' : Hp) (ms : List Int), Same H H' → H' l = some (.lst (ms.map V.int)) → ms.length = (h * w).toNat → (∀ m ∈ ms, 0 ≤ m ∧ m < 64) → Q (.ref l) H'
theorem sl__law_masks35 {K : PySem.W.Frag} {vs : List V} {H : Hp} {Q : VK} {E : XK} (h : sp__law_masks35 K vs H Q E) : vs.length = 2 := by
  obtain ⟨_, _, _, _, _, _, rfl, _⟩ := h; rfl
def rd__law_masks35 (K : PySem.W.Frag) : TS :=
  (tSeq (tAsg (tLst tNil) (gName 2))
    (tSeq (tFor (iRng1 (tCons (tOp cMul (tOp cIx (tVar 1) (tC (.int 0))) (tOp cIx (tVar 1) (tC (.int 1)))) tNil)) (gName 3)
    (tSeq (tAsg (tOp cMod (tOp cMul (tOp cAdd (tCall (sp__law_at34 K) [] E0 (tCons (tVar 0) (tCons (tOp cAdd (tC (.int 5)) (tVar 3)) tNil))) (tOp cMul (tOp cMul (tC (.int 19)) (tVar 3)) (tVar 3))) (tC (.int 16807))) (tC (.int 65521))) (gName 4))
    (tSeq (tAsg (tOp cMod (tOp cDiv (tVar 4) (tC (.int 7))) (tOp cIx (tLst (tCons (tC (.int 1)) (tCons (tC (.int 2)) (tCons (tC (.int 4)) (tCons (tC (.int 8)) (tCons (tC (.int 16)) (tCons (tC (.int 32)) (tCons (tC (.int 64)) tNil)))))))) (tOp cIx (tVar 1) (tC (.int 2))))) (gName 5))
    (tSeq (tIfS (tTest (tOp (cEq K) (tOp cMod (tVar 4) (tC (.int 7))) (tC (.int 3)))) (tAsg (tC (.int 0)) (gName 5)) tNext)
    (tDrop (tBM K "list" kAppend (tVar 2) (tCons (tVar 5) tNil)))))))
    (tRet (tVar 2))))
def pv35 : List Int := [1, 2, 4, 8, 16, 32, 64]
theorem pv35_at {g : Int} (g0 : 1 ≤ g) (g1 : g ≤ 6) : 0 < pv35.getD g.toNat 0 ∧ pv35.getD g.toNat 0 ≤ 64 := by
  have : g = 1 ∨ g = 2 ∨ g = 3 ∨ g = 4 ∨ g = 5 ∨ g = 6 := by omega
  rcases this with rfl | rfl | rfl | rfl | rfl | rfl <;> decide
theorem rk__law_masks35 {K : PySem.W.Frag} {vs : List V} {H : Hp} {Q : VK} {E : XK} (h : sp__law_masks35 K vs H Q E) : rd__law_masks35 K { nx := fun _ H' => Q .non H', rt := Q } (start ["_law_script", "_law_floor_here", "_law_masks_here", "_law_k", "_law_cell", "_law_mask"] vs) H := by
  obtain ⟨a, p, ns, h, w, g, rfl, hS, hn, hp, F, q⟩ := h
  obtain ⟨h0, h1, w0, w1, m16, g0, g1⟩ := id F
  have mpos : 0 ≤ h * w := Int.mul_nonneg (by omega) (by omega)
  have P := pv35_at g0 g1
  show rd__law_masks35 K _ [some (.ref a), some (.ref p), none, none, none, none] H
  unfold rd__law_masks35
  walk_at "w"
  refine ⟨len_le (by decide), fun L hL => ?_⟩
  have sL : Same H (upd H L (.lst [])) := (Same.refl H).laid hL
  refine ixT (sL _ _ hp) (v := V.int h) rfl ?_
  walk_at "w"
  refine ixT (sL _ _ hp) (v := V.int w) rfl ?_
  walk_at "w"
  refine ⟨mul_small h0 h1, h * w, rfl, by omega, by omega, ?_⟩
  refine for_range (fun i σ H' => ∃ (kv cv mv : Option V) (ms : List Int), σ = [some (.ref a), some (.ref p), some (.ref L), kv, cv, mv] ∧ Same H H' ∧ H' L = some (.lst (ms.map V.int)) ∧ ms.length = i ∧ ∀ m ∈ ms, 0 ≤ m ∧ m < 64)
    ⟨none, none, none, [], rfl, sL, by rw [upd_same]; rfl, rfl, fun m hm => by cases hm⟩ ?_ ?_
  · rintro i σ H1 hi ⟨kv, cv, mv, ms, rfl, s1, eL, hl, hm⟩
    rw [Int.zero_add]
    walk_at "w"
    refine ⟨a, ns, _, rfl, s1.seq hS, hn, by omega, by omega, ?_⟩
    walk_at "w"
    refine ⟨.inl ⟨by decide, by decide⟩, .inr ⟨by omega, by omega⟩, .inr ⟨by decide, by decide⟩, by decide, ?_⟩
    generalize (at34 ns (5 + (i : Int)) + 19 * (i : Int) * (i : Int)) * 16807 % 65521 = y at *
    refine ⟨⟨by decide, by decide⟩, ?_⟩
    refine ⟨len_le (by show (7 : Nat) ≤ 1000; decide), fun U hU => ?_⟩
    have s2 : Same H1 (upd H1 U (.lst [V.int 1, V.int 2, V.int 4, V.int 8, V.int 16, V.int 32, V.int 64])) := (Same.refl H1).laid hU
    have eU : (upd H1 U (.lst [V.int 1, V.int 2, V.int 4, V.int 8, V.int 16, V.int 32, V.int 64])) U = some (.lst (pv35.map V.int)) := upd_same
    generalize upd H1 U (.lst [V.int 1, V.int 2, V.int 4, V.int 8, V.int 16, V.int 32, V.int 64]) = H2 at *
    have s12 := s1.trans s2
    refine ixT (s12 _ _ hp) (v := V.int g) rfl ?_
    refine ixI eU (by omega) (by show g < 7; omega) ?_
    generalize pv35.getD g.toNat 0 = pv at *
    walk_at "w"
    refine ⟨P.1, ?_⟩
    have b0 := Int.emod_nonneg (y / 7) (show pv ≠ 0 by omega)
    have b1 := Int.emod_lt_of_pos (y / 7) P.1
    have fin : ∀ x : Int, 0 ≤ x → x < 64 → ∃ (kv cv mv : Option V) (ms' : List Int), [some (V.ref a), some (.ref p), some (.ref L), some (.int (i : Int)), some (.int y), some (.int x)] = [some (V.ref a), some (.ref p), some (.ref L), kv, cv, mv] ∧ Same H (upd H2 L (.lst (ms.map V.int ++ [V.int x]))) ∧ (upd H2 L (.lst (ms.map V.int ++ [V.int x]))) L = some (.lst (ms'.map V.int)) ∧ ms'.length = i + 1 ∧ ∀ m ∈ ms', 0 ≤ m ∧ m < 64 := fun x x0 x1 => ⟨_, _, _, ms ++ [x], rfl, s12.own hL, by rw [upd_same]; simp, by simp [hl], fun m hm' => by
      rcases List.mem_append.mp hm' with hm' | hm'
      · exact hm m hm'
      · rw [List.mem_singleton.mp hm']; exact ⟨x0, x1⟩⟩
    have hlen : (ms.map V.int).length < sizeLine := by rw [List.length_map]; exact small1000 (by omega)
    rw [w_if]
    walk_at "w"
    refine ⟨by decide, ?_⟩
    cases decide (y % 7 = 3) with
    | false =>
      walk_at "w"
      refine ⟨tyV_list (s2 _ _ eL), ?_⟩
      rw [w_append (s2 _ _ eL)]
      exact ⟨hlen, fin _ b0 (by omega)⟩
    | true =>
      walk_at "w"
      refine ⟨tyV_list (s2 _ _ eL), ?_⟩
      rw [w_append (s2 _ _ eL)]
      exact ⟨hlen, fin _ (by decide) (by decide)⟩
  · rintro σ H1 ⟨kv, cv, mv, ms, rfl, s1, eL, hl, hm⟩
    walk_at "w"
    exact q L H1 ms s1 eL hl hm
def sp__law_clues35 (K : PySem.W.Frag) : Sp := fun vs H Q _ => ∃ (a p : Addr) (ns : List Int) (h w g : Int), vs = [.ref a, .ref p] ∧ SqL K H a (ns.map V.int) ∧ ns.length ≤ 63 ∧ IsFl H p h w g ∧ FlOk h w g ∧
  ∀ (l : Addr) (H' : Hp) (cl : List Int), Same H H' → H' l = some (.lst (cl.map V.int)) → CluesOk h w g cl → Q (.ref l) H'
theorem sl__law_clues35 {K : PySem.W.Frag} {vs : List V} {H : Hp} {Q : VK} {E : XK} (h : sp__law_clues35 K vs H Q E) : vs.length = 2 := by
  obtain ⟨_, _, _, _, _, _, rfl, _⟩ := h; rfl
def rd__law_clues35 (K : PySem.W.Frag) : TS :=
  (tSeq (tAsg (tLst tNil) (gName 2))
    (tSeq (tFor (iRng1 (tCons (tOp cMul (tOp cIx (tVar 1) (tC (.int 0))) (tOp cIx (tVar 1) (tC (.int 1)))) tNil)) (gName 3)
    (tSeq (tAsg (tOp cMod (tOp cMul (tOp cAdd (tCall (sp__law_at34 K) [] E0 (tCons (tVar 0) (tCons (tOp cAdd (tC (.int 5)) (tVar 3)) tNil))) (tOp cMul (tC (.int 211)) (tVar 3))) (tC (.int 69621))) (tC (.int 50021))) (gName 4))
    (tDrop (tBM K "list" kAppend (tVar 2) (tCons (tOp cIx (tLst (tCons (tC (.int 0)) (tCons (tC (.int 0)) (tCons (tOp cAdd (tC (.int 1)) (tOp cMod (tOp cDiv (tVar 4) (tC (.int 3))) (tOp cIx (tVar 1) (tC (.int 2))))) tNil)))) (tOp cMod (tVar 4) (tC (.int 3)))) tNil)))))
    (tRet (tVar 2))))
theorem rk__law_clues35 {K : PySem.W.Frag} {vs : List V} {H : Hp} {Q : VK} {E : XK} (h : sp__law_clues35 K vs H Q E) : rd__law_clues35 K { nx := fun _ H' => Q .non H', rt := Q } (start ["_law_script", "_law_floor_here", "_law_clues_here", "_law_k", "_law_cell"] vs) H := by
  obtain ⟨a, p, ns, h, w, g, rfl, hS, hn, hp, F, q⟩ := h
  obtain ⟨h0, h1, w0, w1, m16, g0, g1⟩ := id F
  have mpos : 0 ≤ h * w := Int.mul_nonneg (by omega) (by omega)
  show rd__law_clues35 K _ [some (.ref a), some (.ref p), none, none, none] H
  unfold rd__law_clues35
  walk_at "w"
  refine ⟨len_le (by decide), fun L hL => ?_⟩
  have sL : Same H (upd H L (.lst [])) := (Same.refl H).laid hL
  refine ixT (sL _ _ hp) (v := V.int h) rfl ?_
  walk_at "w"
  refine ixT (sL _ _ hp) (v := V.int w) rfl ?_
  walk_at "w"
  refine ⟨mul_small h0 h1, h * w, rfl, by omega, by omega, ?_⟩
  refine for_range (fun i σ H' => ∃ (kv cv : Option V) (ms : List Int), σ = [some (.ref a), some (.ref p), some (.ref L), kv, cv] ∧ Same H H' ∧ H' L = some (.lst (ms.map V.int)) ∧ ms.length = i ∧ ∀ m ∈ ms, 0 ≤ m ∧ m ≤ g)
    ⟨none, none, [], rfl, sL, by rw [upd_same]; rfl, rfl, fun m hm => by cases hm⟩ ?_ ?_
  · rintro i σ H1 hi ⟨kv, cv, ms, rfl, s1, eL, hl, hm⟩
    rw [Int.zero_add]
    walk_at "w"
    refine ⟨a, ns, _, rfl, s1.seq hS, hn, by omega, by omega, ?_⟩
    walk_at "w"
    refine ⟨.inl ⟨by decide, by decide⟩, .inr ⟨by decide, by decide⟩, by decide, ?_⟩
    generalize (at34 ns (5 + (i : Int)) + 211 * (i : Int)) * 69621 % 50021 = y at *
    refine ⟨tyV_list eL, ⟨by decide, by decide⟩, ?_⟩
    refine ixT (s1 _ _ hp) (v := V.int g) rfl ?_
    walk_at "w"
    refine ⟨by omega, len_le (by show (3 : Nat) ≤ 1000; decide), fun U hU => ?_⟩
    have b0 := Int.emod_nonneg (y / 3) (show g ≠ 0 by omega)
    have b1 := Int.emod_lt_of_pos (y / 3) (show 0 < g by omega)
    generalize y / 3 % g = o at *
    have s2 : Same H1 (upd H1 U (.lst [V.int 0, V.int 0, V.int (1 + o)])) := (Same.refl H1).laid hU
    have eU : (upd H1 U (.lst [V.int 0, V.int 0, V.int (1 + o)])) U = some (.lst [V.int 0, V.int 0, V.int (1 + o)]) := upd_same
    generalize upd H1 U (.lst [V.int 0, V.int 0, V.int (1 + o)]) = H2 at *
    refine ⟨by decide, ?_⟩
    obtain ⟨x, ex, x0, x1⟩ : ∃ x : Int, atI [V.int 0, V.int 0, V.int (1 + o)] (y % 3) = some (V.int x) ∧ 0 ≤ x ∧ x ≤ g := by
      have : y % 3 = 0 ∨ y % 3 = 1 ∨ y % 3 = 2 := by omega
      rcases this with e | e | e <;> rw [e]
      · exact ⟨0, rfl, by omega, by omega⟩
      · exact ⟨0, rfl, by omega, by omega⟩
      · exact ⟨1 + o, rfl, by omega, by omega⟩
    refine ixL eU ex ?_
    rw [w_append (s2 _ _ eL)]
    refine ⟨by rw [List.length_map]; exact small1000 (by omega), _, _, ms ++ [x], rfl, (s1.trans s2).own hL, by rw [upd_same]; simp, by simp [hl], fun m hm' => ?_⟩
    rcases List.mem_append.mp hm' with hm' | hm'
    · exact hm m hm'
    · rw [List.mem_singleton.mp hm']; exact ⟨x0, x1⟩
  · rintro σ H1 ⟨kv, cv, ms, rfl, s1, eL, hl, hm⟩
    walk_at "w"
    exact q L H1 ms s1 eL ⟨hl, hm⟩
abbrev nZ (cs : List Nat) : List Int := cs.map fun (n : Nat) => (n : Int)
def sp__law_thought35 (K : PySem.W.Frag) : Sp := fun vs H Q _ => ∃ (a p C : Addr) (ns : List Int) (cs : List Nat) (k h w g : Int), vs = [.ref a, .ref p, .ref C, .int k] ∧ SqL K H a (ns.map V.int) ∧ ns.length ≤ 63 ∧ IsFl H p h w g ∧ FlOk h w g ∧ H C = some (.lst ((nZ cs).map V.int)) ∧ cs ≠ [] ∧ cs.length ≤ 16 ∧ 0 ≤ k ∧ k ≤ 6 ∧
  ∀ (T M : Addr) (H' : Hp) (r z s : Int) (ms : List Int), Same H H' → IsTh H' T M .step r z s ms → Q (.ref T) H'
theorem sl__law_thought35 {K : PySem.W.Frag} {vs : List V} {H : Hp} {Q : VK} {E : XK} (h : sp__law_thought35 K vs H Q E) : vs.length = 4 := by
  obtain ⟨_, _, _, _, _, _, _, _, _, rfl, _⟩ := h; rfl
def rd__law_thought35_t7 (K : PySem.W.Frag) : TS :=
  (tRet (tTup (tCons (tC (.str (tx [115, 116, 101, 112]))) (tCons (tOp cIx (tLst (tCons (tC (.int 0)) (tCons (tC (.int 1)) (tCons (tC (.int 0)) (tCons (tC (.int 1)) (tCons (tC (.int 2)) (tCons (tUn (rU fun i => .int (-i)) (tC (.int 1))) tNil))))))) (tOp cMod (tOp cDiv (tVar 4) (tC (.int 1056))) (tC (.int 6)))) (tCons (tVar 7) (tCons (tVar 6) (tCons (tVar 5) tNil)))))))
def rd__law_thought35_t5 (K : PySem.W.Frag) : TS :=
  (tSeq (tAsg (tOp cIx (tVar 2) (tOp cMod (tOp cDiv (tVar 4) (tC (.int 66))) (tCB kLen (tCons (tVar 2) tNil)))) (gName 7))
    (tSeq (tIfS (tTest (tOp (cCmp fun i j => decide (i < j)) (tOp cMod (tVar 4) (tC (.int 13))) (tC (.int 3)))) (tAsg (tOp cIx (tLst (tCons (tUn (rU fun i => .int (-i)) (tC (.int 1))) (tCons (tOp cMul (tOp cIx (tVar 1) (tC (.int 0))) (tOp cIx (tVar 1) (tC (.int 1)))) (tCons (tOp cMod (tOp cDiv (tVar 4) (tC (.int 13))) (tOp cMul (tOp cIx (tVar 1) (tC (.int 0))) (tOp cIx (tVar 1) (tC (.int 1))))) tNil)))) (tOp cMod (tVar 4) (tC (.int 13)))) (gName 7)) tNext)
    (rd__law_thought35_t7 K)))
def rd__law_thought35_t3 (K : PySem.W.Frag) : TS :=
  (tSeq (tAsg (tOp cAdd (tC (.int 1)) (tOp cMod (tOp cDiv (tVar 4) (tC (.int 11))) (tOp cIx (tVar 1) (tC (.int 2))))) (gName 6))
    (tSeq (tIfS (tTest (tOp (cEq K) (tOp cMod (tVar 4) (tC (.int 10))) (tC (.int 3)))) (tAsg (tOp cIx (tLst (tCons (tC (.int 0)) (tCons (tOp cAdd (tOp cAdd (tOp cIx (tVar 1) (tC (.int 2))) (tC (.int 1))) (tOp cMod (tOp cDiv (tVar 4) (tC (.int 10))) (tC (.int 3)))) tNil))) (tOp cMod (tOp cDiv (tVar 4) (tC (.int 40))) (tC (.int 2)))) (gName 6)) tNext)
    (rd__law_thought35_t5 K)))
def rd__law_thought35 (K : PySem.W.Frag) : TS :=
  (tSeq (tAsg (tOp cMod (tOp cMul (tOp cAdd (tCall (sp__law_at34 K) [] E0 (tCons (tVar 0) (tCons (tOp cAdd (tC (.int 21)) (tVar 3)) tNil))) (tOp cMul (tOp cMul (tC (.int 31)) (tVar 3)) (tVar 3))) (tC (.int 48271))) (tC (.int 1000003))) (gName 4))
    (tSeq (tAsg (tLst tNil) (gName 5))
    (tSeq (tIfS (tTest (tOp (cEq K) (tOp cMod (tVar 4) (tC (.int 9))) (tC (.int 2)))) (tAsg (tLst (tCons (tOp cMod (tOp cDiv (tVar 4) (tC (.int 9))) (tC (.int 16))) tNil)) (gName 5)) tNext)
    (rd__law_thought35_t3 K))))
theorem rk__law_thought35_t7 {K : PySem.W.Frag} {H : Hp} {Q : VK} {a p C M : Addr} {k y s z : Int} {ms : List Int} (eM : H M = some (.lst (ms.map V.int))) (hm : ms.length ≤ 1)
    (q : ∀ (T M : Addr) (H' : Hp) (r z s : Int) (ms : List Int), Same H H' → IsTh H' T M .step r z s ms → Q (.ref T) H') :
    rd__law_thought35_t7 K { nx := fun _ H' => Q .non H', rt := Q } [some (.ref a), some (.ref p), some (.ref C), some (.int k), some (.int y), some (.ref M), some (.int s), some (.int z)] H := by
  unfold rd__law_thought35_t7
  walk_at "w"
  refine ⟨len_le (by show (6 : Nat) ≤ 1000; decide), fun U hU => ?_⟩
  have s1 : Same H (upd H U (.lst [V.int 0, V.int 1, V.int 0, V.int 1, V.int 2, V.int (-1)])) := (Same.refl H).laid hU
  have eU : (upd H U (.lst [V.int 0, V.int 1, V.int 0, V.int 1, V.int 2, V.int (-1)])) U = some (.lst (([0, 1, 0, 1, 2, -1] : List Int).map V.int)) := upd_same
  generalize upd H U (.lst [V.int 0, V.int 1, V.int 0, V.int 1, V.int 2, V.int (-1)]) = H1 at *
  refine ⟨⟨by decide, by decide⟩, by decide, ?_⟩
  refine ixI eU (Int.emod_nonneg _ (by decide)) (Int.emod_lt_of_pos _ (by decide)) ?_
  generalize ([0, 1, 0, 1, 2, -1] : List Int).getD (y / 1056 % 6).toNat 0 = r at *
  walk_at "w"
  refine ⟨len_le (by show (5 : Nat) ≤ 1000; decide), fun T hT => ?_⟩
  have s2 : Same H1 (upd H1 T (.tup [V.str (tx [115, 116, 101, 112]), V.int r, V.int z, V.int s, V.ref M])) := (Same.refl H1).laid hT
  exact q T M _ r z s ms (s1.trans s2) ⟨upd_same, (s1.trans s2) _ _ eM, by omega⟩
theorem rk__law_thought35_t5 {K : PySem.W.Frag} {H : Hp} {Q : VK} {a p C M : Addr} {k y s h w g : Int} {cs : List Nat} {ms : List Int} (hp : IsFl H p h w g) (F : FlOk h w g) (hC : H C = some (.lst ((nZ cs).map V.int))) (c0 : cs ≠ []) (c1 : cs.length ≤ 16) (eM : H M = some (.lst (ms.map V.int))) (hm : ms.length ≤ 1)
    (q : ∀ (T M : Addr) (H' : Hp) (r z s : Int) (ms : List Int), Same H H' → IsTh H' T M .step r z s ms → Q (.ref T) H') :
    rd__law_thought35_t5 K { nx := fun _ H' => Q .non H', rt := Q } [some (.ref a), some (.ref p), some (.ref C), some (.int k), some (.int y), some (.ref M), some (.int s), none] H := by
  obtain ⟨h0, h1, w0, w1, m16, g0, g1⟩ := id F
  have mpos : 1 ≤ h * w := Int.le_trans (by omega) (Int.mul_le_mul h0 w0 (by omega) (by omega))
  have cpos : 0 < cs.length := List.length_pos_iff.mpr c0
  unfold rd__law_thought35_t5
  walk_at "w"
  refine ⟨⟨by decide, by decide⟩, ?_⟩
  rw [w_len hC, List.length_map, List.length_map]
  refine ⟨by omega, ?_⟩
  have b0 := Int.emod_nonneg (y / 66) (show (cs.length : Int) ≠ 0 by omega)
  have b1 := Int.emod_lt_of_pos (y / 66) (show 0 < (cs.length : Int) by omega)
  refine ixI hC b0 (by rw [List.length_map]; exact b1) ?_
  generalize (nZ cs).getD (y / 66 % (cs.length : Int)).toNat 0 = z at *
  walk_at "w"
  rw [w_if]
  walk_at "w"
  refine ⟨by decide, ?_⟩
  by_cases hq : y % 13 < 3
  · rw [decide_eq_true hq]
    refine iteT ?_
    walk_at "w"
    refine ixT hp (v := V.int h) rfl ?_
    walk_at "w"
    refine ixT hp (v := V.int w) rfl ?_
    walk_at "w"
    refine ⟨mul_small h0 h1, ⟨by decide, by decide⟩, ?_⟩
    refine ixT hp (v := V.int h) rfl ?_
    walk_at "w"
    refine ixT hp (v := V.int w) rfl ?_
    walk_at "w"
    refine ⟨mul_small h0 h1, by omega, len_le (by show (3 : Nat) ≤ 1000; decide), fun U hU => ?_⟩
    generalize y / 13 % (h * w) = o at *
    have s1 : Same H (upd H U (.lst [V.int (-1), V.int (h * w), V.int o])) := (Same.refl H).laid hU
    have eU : (upd H U (.lst [V.int (-1), V.int (h * w), V.int o])) U = some (.lst (([-1, h * w, o] : List Int).map V.int)) := upd_same
    generalize upd H U (.lst [V.int (-1), V.int (h * w), V.int o]) = H1 at *
    refine ⟨by decide, ?_⟩
    refine ixI eU (Int.emod_nonneg _ (by decide)) hq ?_
    walk_at "w"
    exact rk__law_thought35_t7 (s1 _ _ eM) hm fun T M H' r z s ms s2 => q T M H' r z s ms (s1.trans s2)
  · rw [decide_eq_false hq]
    refine iteF ?_
    walk_at "w"
    exact rk__law_thought35_t7 eM hm q
theorem rk__law_thought35_t3 {K : PySem.W.Frag} {H : Hp} {Q : VK} {a p C M : Addr} {k y h w g : Int} {cs : List Nat} {ms : List Int} (hp : IsFl H p h w g) (F : FlOk h w g) (hC : H C = some (.lst ((nZ cs).map V.int))) (c0 : cs ≠ []) (c1 : cs.length ≤ 16) (eM : H M = some (.lst (ms.map V.int))) (hm : ms.length ≤ 1)
    (q : ∀ (T M : Addr) (H' : Hp) (r z s : Int) (ms : List Int), Same H H' → IsTh H' T M .step r z s ms → Q (.ref T) H') :
    rd__law_thought35_t3 K { nx := fun _ H' => Q .non H', rt := Q } [some (.ref a), some (.ref p), some (.ref C), some (.int k), some (.int y), some (.ref M), none, none] H := by
  obtain ⟨h0, h1, w0, w1, m16, g0, g1⟩ := id F
  unfold rd__law_thought35_t3
  walk_at "w"
  refine ⟨⟨by decide, by decide⟩, ?_⟩
  refine ixT hp (v := V.int g) rfl ?_
  walk_at "w"
  refine ⟨by omega, ?_⟩
  rw [w_if]
  walk_at "w"
  refine ⟨by decide, ?_⟩
  cases decide (y % 10 = 3) with
  | false =>
    refine iteF ?_
    walk_at "w"
    exact rk__law_thought35_t5 hp F hC c0 c1 eM hm q
  | true =>
    refine iteT ?_
    walk_at "w"
    refine ixT hp (v := V.int g) rfl ?_
    walk_at "w"
    refine ⟨⟨by decide, by decide⟩, by decide, len_le (by show (2 : Nat) ≤ 1000; decide), fun U hU => ?_⟩
    generalize g + 1 + y / 10 % 3 = o at *
    have s1 : Same H (upd H U (.lst [V.int 0, V.int o])) := (Same.refl H).laid hU
    have eU : (upd H U (.lst [V.int 0, V.int o])) U = some (.lst (([0, o] : List Int).map V.int)) := upd_same
    generalize upd H U (.lst [V.int 0, V.int o]) = H1 at *
    refine ⟨⟨by decide, by decide⟩, by decide, ?_⟩
    refine ixI eU (Int.emod_nonneg _ (by decide)) (Int.emod_lt_of_pos _ (by decide)) ?_
    walk_at "w"
    exact rk__law_thought35_t5 (s1 _ _ hp) F (s1 _ _ hC) c0 c1 (s1 _ _ eM) hm fun T M H' r z s ms s2 => q T M H' r z s ms (s1.trans s2)
theorem rk__law_thought35 {K : PySem.W.Frag} {vs : List V} {H : Hp} {Q : VK} {E : XK} (h : sp__law_thought35 K vs H Q E) : rd__law_thought35 K { nx := fun _ H' => Q .non H', rt := Q } (start ["_law_script", "_law_floor_here", "_law_cells", "_law_k", "_law_cell", "_law_more", "_law_sign", "_law_spot"] vs) H := by
  obtain ⟨a, p, C, ns, cs, k, h, w, g, rfl, hS, hn, hp, F, hC, c0, c1, k0, k6, q⟩ := h
  show rd__law_thought35 K _ [some (.ref a), some (.ref p), some (.ref C), some (.int k), none, none, none, none] H
  unfold rd__law_thought35
  walk_at "w"
  refine ⟨a, ns, _, rfl, hS, hn, by omega, by omega, ?_⟩
  walk_at "w"
  refine ⟨.inl ⟨by decide, by decide⟩, .inr ⟨by omega, by omega⟩, .inr ⟨by decide, by decide⟩, by decide, ?_⟩
  generalize (at34 ns (21 + k) + 31 * k * k) * 48271 % 1000003 = y at *
  refine ⟨len_le (by decide), fun M hM => ?_⟩
  have s1 : Same H (upd H M (.lst [])) := (Same.refl H).laid hM
  have eM : (upd H M (.lst [])) M = some (.lst (([] : List Int).map V.int)) := upd_same
  generalize upd H M (.lst []) = H1 at *
  rw [w_if]
  walk_at "w"
  refine ⟨by decide, ?_⟩
  cases decide (y % 9 = 2) with
  | false =>
    refine iteF ?_
    walk_at "w"
    exact rk__law_thought35_t3 (s1 _ _ hp) F (s1 _ _ hC) c0 c1 eM (by show (0 : Nat) ≤ 1; decide) fun T M H' r z s ms s2 => q T M H' r z s ms (s1.trans s2)
  | true =>
    refine iteT ?_
    walk_at "w"
    refine ⟨⟨by decide, by decide⟩, by decide, len_le (by show (1 : Nat) ≤ 1000; decide), fun M2 hM2 => ?_⟩
    generalize y / 9 % 16 = o at *
    have s2 : Same H1 (upd H1 M2 (.lst [V.int o])) := (Same.refl H1).laid hM2
    have eM2 : (upd H1 M2 (.lst [V.int o])) M2 = some (.lst (([o] : List Int).map V.int)) := upd_same
    generalize upd H1 M2 (.lst [V.int o]) = H2 at *
    have s12 := s1.trans s2
    exact rk__law_thought35_t3 (s12 _ _ hp) F (s12 _ _ hC) c0 c1 eM2 (by show (1 : Nat) ≤ 1; decide) fun T M H' r z s ms s3 => q T M H' r z s ms (s12.trans s3)
def dueP (g : Int) (cs : List Nat) (masks : List Int) (at_ r z s : Int) (ms : List Int) : Bool :=
  if r ≠ at_ ∨ ms ≠ [] ∨ z ∉ nZ cs ∨ ¬ (1 ≤ s ∧ s ≤ g) then false else stpB (nZ cs) masks z s
structure Due35 (H : Hp) (T M C A p : Addr) (h w g : Int) (cs : List Nat) (masks : List Int) (r z s : Int) (ms : List Int) : Prop where
  T : IsTh H T M .step r z s ms
  fl : IsFl H p h w g
  g6 : g ≤ 6
  C : H C = some (.lst ((nZ cs).map V.int))
  cl : cs.length ≤ 16
  ci : ∀ c ∈ cs, c < masks.length
  A : H A = some (.lst (masks.map V.int))
  mm : ∀ m ∈ masks, 0 ≤ m ∧ m < 64
theorem Due35.same {H H' : Hp} {T M C A p : Addr} {h w g : Int} {cs : List Nat} {masks : List Int} {r z s : Int} {ms : List Int} (X : Due35 H T M C A p h w g cs masks r z s ms) (s1 : Same H H') : Due35 H' T M C A p h w g cs masks r z s ms := ⟨X.T.same s1, s1 _ _ X.fl, X.g6, s1 _ _ X.C, X.cl, X.ci, s1 _ _ X.A, X.mm⟩
theorem cell_in {cs : List Nat} {masks : List Int} {i : Nat} (ci : ∀ c ∈ cs, c < masks.length) (hi : i < cs.length) : 0 ≤ (nZ cs).getD i 0 ∧ (nZ cs).getD i 0 < (masks.length : Int) := by
  rw [List.getD, List.getElem?_map, List.getElem?_eq_getElem hi]
  have := ci _ (List.getElem_mem hi)
  show 0 ≤ ((cs[i] : Nat) : Int) ∧ ((cs[i] : Nat) : Int) < _
  omega
def sp__law_due35 (K : PySem.W.Frag) : Sp := fun vs H Q _ => ∃ (T M C A p : Addr) (h w g at_ : Int) (cs : List Nat) (masks : List Int) (r z s : Int) (ms : List Int), vs = [.ref p, .ref C, .ref A, .ref T, .int at_] ∧ Due35 H T M C A p h w g cs masks r z s ms ∧ ∀ H', Same H H' → Q (.bl (dueP g cs masks at_ r z s ms)) H'
theorem sl__law_due35 {K : PySem.W.Frag} {vs : List V} {H : Hp} {Q : VK} {E : XK} (h : sp__law_due35 K vs H Q E) : vs.length = 5 := by
  obtain ⟨_, _, _, _, _, _, _, _, _, _, _, _, _, _, _, rfl, _⟩ := h; rfl
def rd__law_due35_t3 (K : PySem.W.Frag) : TS :=
  (tRet (tAndV (tOp (cCmp fun i j => decide (i < j)) (tOp cAdd (tVar 5) (tC (.int 1))) (tCB kLen (tCons (tVar 1) tNil))) (tNotV (tCall (sp__law_greater K) [] E0 (tCons (tOp cIx (tVar 2) (tOp cIx (tVar 1) (tOp cAdd (tVar 5) (tC (.int 1))))) (tCons (tOp cIx (tVar 3) (tC (.int 3))) tNil))))))
def rd__law_due35_t1 (K : PySem.W.Frag) : TS :=
  (tSeq (tAsg (tBM K "list" (kIndex K) (tVar 1) (tCons (tOp cIx (tVar 3) (tC (.int 2))) tNil)) (gName 5))
    (tSeq (tIfS (tAnd (tTest (tOp (cCmp fun i j => decide (j < i)) (tVar 5) (tC (.int 0)))) (tNot (tB (tCall (sp__law_less K) [] E0 (tCons (tOp cIx (tVar 2) (tOp cIx (tVar 1) (tOp cSub (tVar 5) (tC (.int 1))))) (tCons (tOp cIx (tVar 3) (tC (.int 3))) tNil)))))) (tRet (tC (.bl true))) tNext)
    (rd__law_due35_t3 K)))
def rd__law_due35 (K : PySem.W.Frag) : TS :=
  (tSeq (tIfS (tOr (tTest (tOp (cNe K) (tOp cIx (tVar 3) (tC (.int 1))) (tVar 4))) (tOr (tTest (tOp (cNe K) (tOp cIx (tVar 3) (tC (.int 4))) (tLst tNil))) (tOr (tTest (tOp (cIn K true) (tOp cIx (tVar 3) (tC (.int 2))) (tVar 1))) (tNot (tTest (tChain (cCmp fun i j => decide (i ≤ j)) (cCmp fun i j => decide (i ≤ j)) (tC (.int 1)) (tOp cIx (tVar 3) (tC (.int 3))) (tOp cIx (tVar 0) (tC (.int 2))))))))) (tRet (tC (.bl false))) tNext)
    (rd__law_due35_t1 K))
theorem rk__law_due35_t3 {K : PySem.W.Frag} {H : Hp} {Q : VK} {T M C A p : Addr} {h w g at_ : Int} {cs : List Nat} {masks : List Int} {r z s : Int} {ms : List Int} (X : Due35 H T M C A p h w g cs masks r z s ms) (s0 : 1 ≤ s) (s1 : s ≤ g)
    (q : ∀ H', Same H H' → Q (.bl ((behL (nZ cs) z).any fun o => nolB s (masks.getD o.toNat 0))) H') :
    rd__law_due35_t3 K { nx := fun _ H' => Q .non H', rt := Q } [some (.ref p), some (.ref C), some (.ref A), some (.ref T), some (.int at_), some (.int (ixI2 (nZ cs) z : Nat))] H := by
  have g6 := X.g6
  have cl := X.cl
  unfold rd__law_due35_t3
  walk_at "w"
  rw [w_len X.C, List.length_map, List.length_map]
  unfold behL at q
  rw [List.length_map] at q
  generalize ixI2 (nZ cs) z = j at *
  walk_at "w"
  by_cases hj : j + 1 < cs.length
  · rw [if_pos hj] at q
    rw [decide_eq_true (show (j : Int) + 1 < (cs.length : Int) by omega)]
    walk_at "w"
    refine ixI X.C (by omega) (by rw [List.length_map]; omega) ?_
    have ci := cell_in X.ci hj
    rw [show ((j : Int) + 1).toNat = j + 1 by omega]
    walk_at "w"
    refine ixI X.A ci.1 ci.2 ?_
    have mi := mk_in X.mm ci.1 ci.2
    walk_at "w"
    refine ixT X.T.T (v := V.int s) rfl ?_
    walk_at "w"
    refine ⟨_, s, rfl, mi.1, mi.2, s0, by omega, fun H1 s1 => ?_⟩
    have q1 := q _ s1
    simp only [List.any_cons, List.any_nil, Bool.or_false] at q1
    refine ⟨_, rfl, ?_⟩
    walk_at "w"
    rw [Bool.not_not]
    exact q1
  · rw [if_neg hj] at q
    rw [decide_eq_false (show ¬ (j : Int) + 1 < (cs.length : Int) by omega)]
    walk_at "w"
    exact q _ (Same.refl _)
theorem rk__law_due35_t1 {K : PySem.W.Frag} {H : Hp} {Q : VK} {T M C A p : Addr} {h w g at_ : Int} {cs : List Nat} {masks : List Int} {r z s : Int} {ms : List Int} (X : Due35 H T M C A p h w g cs masks r z s ms) (hz : z ∈ nZ cs) (s0 : 1 ≤ s) (s1 : s ≤ g)
    (q : ∀ H', Same H H' → Q (.bl (stpB (nZ cs) masks z s)) H') :
    rd__law_due35_t1 K { nx := fun _ H' => Q .non H', rt := Q } [some (.ref p), some (.ref C), some (.ref A), some (.ref T), some (.int at_), none] H := by
  have g6 := X.g6
  have cl := X.cl
  have hlt := ix_lt hz
  rw [List.length_map] at hlt
  unfold rd__law_due35_t1
  walk_at "w"
  refine ⟨tyV_list X.C, ?_⟩
  refine ixT X.T.T (v := V.int z) rfl ?_
  walk_at "w"
  refine w_indexI X.C hz (by rw [List.length_map]; omega) ?_
  have ei : ((nZ cs).findIdx (· == z)) = ixI2 (nZ cs) z := rfl
  rw [ei]
  walk_at "w"
  rw [w_if]
  walk_at "w"
  have fin : ∀ {H' : Hp}, Same H H' → ((ahdL (nZ cs) z).any fun o => nogB s (masks.getD o.toNat 0)) = false → rd__law_due35_t3 K { nx := fun _ H' => Q .non H', rt := Q } [some (.ref p), some (.ref C), some (.ref A), some (.ref T), some (.int at_), some (.int (ixI2 (nZ cs) z : Nat))] H' := fun {H'} s2 e => by
    refine rk__law_due35_t3 (X.same s2) s0 s1 fun H3 s3 => ?_
    have q1 := q _ (s2.trans s3)
    unfold stpB at q1
    rw [e, Bool.false_or] at q1
    exact q1
  by_cases hj : 0 < ixI2 (nZ cs) z
  · have ea : ahdL (nZ cs) z = [(nZ cs).getD (ixI2 (nZ cs) z - 1) 0] := if_pos hj
    rw [decide_eq_true (show (0 : Int) < ((ixI2 (nZ cs) z : Nat) : Int) by omega)]
    walk_at "w"
    have ci := cell_in X.ci (show ixI2 (nZ cs) z - 1 < cs.length by omega)
    refine ixI X.C (by omega) (by rw [List.length_map]; omega) ?_
    rw [show (((ixI2 (nZ cs) z : Nat) : Int) - 1).toNat = ixI2 (nZ cs) z - 1 by omega]
    walk_at "w"
    refine ixI X.A ci.1 ci.2 ?_
    have mi := mk_in X.mm ci.1 ci.2
    walk_at "w"
    refine ixT X.T.T (v := V.int s) rfl ?_
    walk_at "w"
    refine ⟨_, s, rfl, mi.1, mi.2, s0, by omega, fun H1 s2 => ?_⟩
    cases hb : nogB s (masks.getD ((nZ cs).getD (ixI2 (nZ cs) z - 1) 0).toNat 0) with
    | true =>
      have q1 := q _ s2
      unfold stpB at q1
      rw [ea, List.any_cons, hb, Bool.true_or, Bool.true_or] at q1
      refine ⟨false, rfl, ?_⟩
      walk_at "w"
      exact q1
    | false =>
      refine ⟨true, rfl, ?_⟩
      walk_at "w"
      exact fin s2 (by rw [ea, List.any_cons, hb]; rfl)
  · rw [decide_eq_false (show ¬ (0 : Int) < ((ixI2 (nZ cs) z : Nat) : Int) by omega)]
    walk_at "w"
    exact fin (Same.refl H) (by unfold ahdL; rw [if_neg hj]; rfl)
theorem rk__law_due35 {K : PySem.W.Frag} {vs : List V} {H : Hp} {Q : VK} {E : XK} (h : sp__law_due35 K vs H Q E) : rd__law_due35 K { nx := fun _ H' => Q .non H', rt := Q } (start ["_law_floor_here", "_law_cells", "_law_masks_here", "_law_thought_here", "_law_at", "_law_place"] vs) H := by
  obtain ⟨T, M, C, A, p, h, w, g, at_, cs, masks, r, z, s, ms, rfl, X, q⟩ := h
  show rd__law_due35 K _ [some (.ref p), some (.ref C), some (.ref A), some (.ref T), some (.int at_), none] H
  unfold rd__law_due35
  walk_at "w"
  rw [w_if]
  walk_at "w"
  refine ixT X.T.T (v := V.int r) rfl ?_
  walk_at "w"
  unfold dueP at q
  by_cases c1 : r = at_
  · rw [decide_eq_true c1]
    walk_at "w"
    refine ixT X.T.T (v := V.ref M) rfl ?_
    walk_at "w"
    refine ⟨len_le (by decide), fun Z hZ => ?_⟩
    have s1 : Same H (upd H Z (.lst [])) := (Same.refl H).laid hZ
    have eZ : (upd H Z (.lst [])) Z = some (.lst (([] : List Int).map V.int)) := upd_same
    generalize upd H Z (.lst []) = H1 at *
    have X1 := X.same s1
    refine w_neL X1.T.M eZ ?_
    by_cases c2 : ms = []
    · rw [decide_eq_true c2]
      refine ⟨false, rfl, ?_⟩
      walk_at "w"
      refine ixT X1.T.T (v := V.int z) rfl ?_
      walk_at "w"
      rw [w_nin X1.C]
      by_cases c3 : z ∈ nZ cs
      · rw [decide_eq_true c3]
        refine ⟨false, rfl, ?_⟩
        unfold tChain
        walk_at "w"
        refine ixT X1.T.T (v := V.int s) rfl ?_
        walk_at "w"
        by_cases c4 : 1 ≤ s
        · rw [decide_eq_true c4]
          walk_at "w"
          refine ixT X1.fl (v := V.int g) rfl ?_
          walk_at "w"
          by_cases c5 : s ≤ g
          · rw [decide_eq_true c5]
            rw [if_neg (by rintro (x | x | x | x); exact x c1; exact x c2; exact x c3; exact x ⟨c4, c5⟩)] at q
            walk_at "w"
            exact rk__law_due35_t1 X1 c3 c4 c5 fun H' s2 => q H' (s1.trans s2)
          · rw [decide_eq_false c5]
            rw [if_pos (.inr (.inr (.inr fun x => c5 x.2)))] at q
            walk_at "w"
            exact q _ s1
        · rw [decide_eq_false c4]
          rw [if_pos (.inr (.inr (.inr fun x => c4 x.1)))] at q
          walk_at "w"
          exact q _ s1
      · rw [if_pos (.inr (.inr (.inl c3)))] at q
        rw [decide_eq_false c3]
        refine ⟨true, rfl, ?_⟩
        walk_at "w"
        exact q _ s1
    · rw [if_pos (.inr (.inl c2))] at q
      rw [decide_eq_false c2]
      refine ⟨true, rfl, ?_⟩
      walk_at "w"
      exact q _ s1
  · rw [if_pos (.inl c1)] at q
    rw [decide_eq_false c1]
    walk_at "w"
    exact q _ (Same.refl _)
theorem dueP_eq {h w g at_ : Int} {x o : RR} {cs : List Nat} {masks : List Int} {r z s : Int} {ms : List Int} (a : at_ = 0 ∨ at_ = 1) (kx : x.k = .Rising) (ec : x.cs = nZ cs) (hc : ∀ c ∈ cs, (c : Int) < h * w) (go : goesB .step o.k = false) : dueP g cs masks at_ r z s ms = alwB35 h w g (two34 at_ x o) masks r z s ms := by
  unfold alwB35 formB
  rw [hit_two (by decide) (by rw [kx]; rfl) go a, ec]
  unfold dueP
  by_cases c1 : r = at_
  · have es : strB35 (two34 at_ x o) masks r z s ms = stepB (nZ cs) masks z s ms := by
      unfold strB35
      rw [c1, two_at a, ← ec]
    rw [es]
    unfold stepB
    by_cases c3 : z ∈ nZ cs
    · have hz : 0 ≤ z ∧ z < h * w := by
        obtain ⟨c, hc', rfl⟩ := List.mem_map.mp c3
        exact ⟨by omega, hc c hc'⟩
      rw [decide_eq_true c1, decide_eq_true c3, decide_eq_true hz.1, decide_eq_true hz.2]
      by_cases c2 : ms = []
      · by_cases c4 : 1 ≤ s ∧ s ≤ g
        · rw [if_neg (by rintro (e | e | e | e); exact e c1; exact e c2; exact e c3; exact e c4)]
          rw [decide_eq_true c2, decide_eq_true c4.1, decide_eq_true c4.2]
          simp only [Bool.true_and, Bool.and_true]
        · rw [if_pos (.inr (.inr (.inr c4))), and_no c4]; simp
      · rw [if_pos (.inr (.inl c2)), decide_eq_false c2]; simp
    · rw [if_pos (.inr (.inr (.inl c3))), decide_eq_false c3]; simp
  · rw [if_pos (.inl c1), decide_eq_false c1]; simp
def oth35 : List V := [V.str (tx [117, 110, 108, 105, 107, 101, 32, 48]), V.str (tx [106, 111, 105, 110, 101, 100, 32, 49]), V.str (tx [99, 111, 117, 110, 116, 32, 49, 32, 49, 32, 48]), V.str (tx [115, 101, 101, 110, 32, 49, 32, 48])]
theorem oth35_at {h w g : Int} (F : FlOk h w g) {j : Int} (j0 : 0 ≤ j) (j1 : j < 4) : ∃ o : RR, atI oth35 j = some (V.str o.txt) ∧ o.Ok h w g ∧ goesB .step o.k = false ∧ o.k ≠ .Rule := by
  have : j = 0 ∨ j = 1 ∨ j = 2 ∨ j = 3 := by omega
  have g0 := F.g0
  rcases this with rfl | rfl | rfl | rfl
  · exact ⟨⟨.Unlike, 0, 0, [0], [0].map fun (n : Nat) => (n : Int)⟩, rfl, RowOk_list F (by simp) (nat0 F) (by simp) (by simp) rfl (by decide) (by decide) (fun _ => rfl) (fun e => by cases e) (fun _ => rfl), rfl, by decide⟩
  · exact ⟨⟨.Joined, 0, 1, [], rngL 0 (h * w)⟩, rfl, RowOk_all rfl (by decide) rfl rfl (by decide) g0, rfl, fun e => by cases e⟩
  · exact ⟨⟨.Count, 1, 1, [0], [0].map fun (n : Nat) => (n : Int)⟩, rfl, RowOk_list F (by simp) (nat0 F) (by simp) (by simp) rfl (by decide) (by decide) (fun e => by cases e) (fun _ => ⟨by decide, g0⟩) (fun e => by cases e), rfl, by decide⟩
  · exact ⟨⟨.Seen, 1, 0, [0], [0].map fun (n : Nat) => (n : Int)⟩, rfl, RowOk_list F (by simp) (nat0 F) (by simp) (by simp) rfl (by decide) (by decide) (fun e => by cases e) (fun e => by cases e) (fun _ => rfl), rfl, by decide⟩
theorem row_ris {cs : List Nat} (ne : cs ≠ []) : nmC .Rising ++ [32] ++ catL 32 (cs.map numC) = catL 32 (rowW .Rising 0 0 cs) := by
  show _ = catL 32 (nmC .Rising :: cs.map numC)
  rw [cat_cons (by simpa using ne)]
  simp
def sp_law (K : PySem.W.Frag) (c : RCl RK) (d : RCl PzK) : Sp := fun vs H Q _ => ∃ (a : Addr) (ns : List Int), vs = [.ref a] ∧ SqL K H a (ns.map V.int) ∧ ns.length ≤ 63 ∧ (∀ k, k ≠ .Rule → c.ok k = true) ∧ d.ok .Puzzle = true ∧ ∀ H', Q (.bl true) H'
def sp_law0 (K : PySem.W.Frag) : Sp := fun vs H Q _ => ∃ (a : Addr) (ns : List Int), vs = [.ref a] ∧ SqL K H a (ns.map V.int) ∧ ns.length ≤ 63 ∧ ∀ H', Q (.bl true) H'
theorem sl_law {K : PySem.W.Frag} {c : RCl RK} {d : RCl PzK} {vs : List V} {H : Hp} {Q : VK} {E : XK} (h : sp_law K c d vs H Q E) : vs.length = 1 := by
  obtain ⟨_, _, rfl, _⟩ := h; rfl
def tl35 (K : PySem.W.Frag) (c : RCl RK) (d : RCl PzK) : TS :=
  (tSeq (tAsg (tCall (sp__law_thought35 K) [] E0 (tCons (tVar 0) (tCons (tVar 2) (tCons (tVar 4) (tCons (tVar 11) tNil))))) (gName 12))
    (tSeq (tAsg (tTup (tCons (tOp cIx (tVar 12) (tC (.int 0))) (tCons (tOp cIx (tVar 12) (tC (.int 1))) (tCons (tOp cIx (tVar 12) (tC (.int 2))) (tCons (tOp cIx (tVar 12) (tC (.int 3))) (tCons (tCB kList (tCons (tOp cIx (tVar 12) (tC (.int 4))) tNil)) tNil)))))) (gName 13))
    (tSeq (tAsg (tCall (sp_allowed35 K c d) [] E0 (tCons (tVar 8) (tCons (tVar 10) (tCons (tVar 13) tNil)))) (gName 14))
    (tSeq (tIfS (tOr (tNot (tB (tCB kIsi (tCons (tVar 14) (tCons (tC (.ty "bool")) tNil))))) (tTest (tOp (cNe K) (tVar 14) (tCall (sp__law_due35 K) [] E0 (tCons (tVar 2) (tCons (tVar 4) (tCons (tVar 9) (tCons (tVar 12) (tCons (tVar 7) tNil))))))))) (tRet (tC (.bl false))) tNext)
    (tIfS (tOr (tTest (tOp (cNe K) (tVar 10) (tVar 9))) (tTest (tOp (cNe K) (tVar 13) (tVar 12)))) (tRet (tC (.bl false))) tNext)))))
def rd_law_t7 (K : PySem.W.Frag) (c : RCl RK) (d : RCl PzK) : TS :=
  (tSeq (tAsg (tMake (d.A .Puzzle) (sp_Puzzle___init__ K c d) [] E0 (tCons (tVar 2) (tCons (tOp cIx (tLst (tCons (tLst (tCons (tVar 5) (tCons (tVar 6) tNil))) (tCons (tLst (tCons (tVar 6) (tCons (tVar 5) tNil))) tNil))) (tVar 7)) (tCons (tCall (sp__law_clues35 K) [] E0 (tCons (tVar 0) (tCons (tVar 2) tNil))) tNil)))) (gName 8))
    (tSeq (tAsg (tCall (sp__law_masks35 K) [] E0 (tCons (tVar 0) (tCons (tVar 2) tNil))) (gName 9))
    (tSeq (tAsg (tCB kList (tCons (tVar 9) tNil)) (gName 10))
    (tSeq (tFor (iRng1 (tCons (tC (.int 6)) tNil)) (gName 11)
    (tl35 K c d))
    (tRet (tC (.bl true)))))))
def rd_law_t4 (K : PySem.W.Frag) (c : RCl RK) (d : RCl PzK) : TS :=
  (tSeq (tAsg (tOp cAdd (tC (.str (tx [114, 105, 115, 105, 110, 103, 32]))) (tBM K "str" kJoin2 (tC (.str (tx [32]))) (tCons (tComp [none, none] (iList K (tVar 4)) (gName 1) tTrue (tCB kStr (tCons (tVar 1) tNil))) tNil))) (gName 5))
    (tSeq (tAsg (tOp cIx (tLst (tCons (tC (.str (tx [117, 110, 108, 105, 107, 101, 32, 48]))) (tCons (tC (.str (tx [106, 111, 105, 110, 101, 100, 32, 49]))) (tCons (tC (.str (tx [99, 111, 117, 110, 116, 32, 49, 32, 49, 32, 48]))) (tCons (tC (.str (tx [115, 101, 101, 110, 32, 49, 32, 48]))) tNil))))) (tOp cMod (tCall (sp__law_at34 K) [] E0 (tCons (tVar 0) (tCons (tC (.int 2)) tNil))) (tC (.int 4)))) (gName 6))
    (tSeq (tAsg (tOp cMod (tCall (sp__law_at34 K) [] E0 (tCons (tVar 0) (tCons (tC (.int 3)) tNil))) (tC (.int 2))) (gName 7))
    (rd_law_t7 K c d))))
def rd_law (K : PySem.W.Frag) (c : RCl RK) (d : RCl PzK) : TS :=
  (tSeq (tAsg (tOp cMod (tOp cMul (tCall (sp__law_at34 K) [] E0 (tCons (tVar 0) (tCons (tC (.int 0)) tNil))) (tC (.int 30011))) (tC (.int 65537))) (gName 1))
    (tSeq (tAsg (tCall (sp__law_floor35 K) [] E0 (tCons (tVar 1) tNil)) (gName 2))
    (tSeq (tAsg (tOp cMul (tOp cIx (tVar 2) (tC (.int 0))) (tOp cIx (tVar 2) (tC (.int 1)))) (gName 3))
    (tSeq (tAsg (tSl cSl2 (tCall (sp__law_order35 K) [] E0 (tCons (tOp cMod (tOp cMul (tCall (sp__law_at34 K) [] E0 (tCons (tVar 0) (tCons (tC (.int 1)) tNil))) (tC (.int 48271))) (tC (.int 1000003))) (tCons (tVar 3) tNil))) tNoPart (tPart (tOp cAdd (tC (.int 1)) (tOp cMod (tOp cDiv (tVar 1) (tC (.int 72))) (tVar 3))))) (gName 4))
    (rd_law_t4 K c d)))))
structure L35 (K : PySem.W.Frag) (H : Hp) (c : RCl RK) (d : RCl PzK) (a p P L G C A B : Addr) (ns : List Int) (h w g at_ : Int) (cs : List Nat) (x o : RR) (cl masks : List Int) : Prop where
  S : SqL K H a (ns.map V.int)
  n : ns.length ≤ 63
  fl : IsFl H p h w g
  P : IsPz H c d P L G h w g (two34 at_ x o) cl
  a2 : at_ = 0 ∨ at_ = 1
  kx : x.k = .Rising
  xc : x.cs = nZ cs
  go : goesB .step o.k = false
  C : H C = some (.lst ((nZ cs).map V.int))
  c0 : cs ≠ []
  cn : cs.length ≤ 16
  ci : ∀ c ∈ cs, (c : Int) < h * w
  A : H A = some (.lst (masks.map V.int))
  B : H B = some (.lst (masks.map V.int))
  ml : masks.length = (h * w).toNat
  mm : ∀ m ∈ masks, 0 ≤ m ∧ m < 64
theorem L35.same {K : PySem.W.Frag} {H H' : Hp} {c : RCl RK} {d : RCl PzK} {a p P L G C A B : Addr} {ns : List Int} {h w g at_ : Int} {cs : List Nat} {x o : RR} {cl masks : List Int} (X : L35 K H c d a p P L G C A B ns h w g at_ cs x o cl masks) (s : Same H H') : L35 K H' c d a p P L G C A B ns h w g at_ cs x o cl masks :=
  ⟨s.seq X.S, X.n, s _ _ X.fl, X.P.same s, X.a2, X.kx, X.xc, X.go, s _ _ X.C, X.c0, X.cn, X.ci, s _ _ X.A, s _ _ X.B, X.ml, X.mm⟩
theorem rk_tl35 {K : PySem.W.Frag} {c : RCl RK} {d : RCl PzK} {H : Hp} {D : Ends} {a p P L G C A B : Addr} {ns : List Int} {h w g at_ : Int} {cs : List Nat} {x o : RR} {cl masks : List Int} {i : Nat} {v1 v3 v5 v6 v12 v13 v14 : Option V} (X : L35 K H c d a p P L G C A B ns h w g at_ cs x o cl masks) (hi : i < 6)
    (q : ∀ (v12 v13 v14 : Option V) (H' : Hp), Same H H' → D.nx [some (.ref a), v1, some (.ref p), v3, some (.ref C), v5, v6, some (.int at_), some (.ref P), some (.ref A), some (.ref B), some (.int (i : Int)), v12, v13, v14] H') :
    tl35 K c d D [some (.ref a), v1, some (.ref p), v3, some (.ref C), v5, v6, some (.int at_), some (.ref P), some (.ref A), some (.ref B), some (.int (i : Int)), v12, v13, v14] H := by
  have hg := X.P.R.F.g1
  have ml := X.ml
  unfold tl35
  walk_at "w"
  refine ⟨a, p, C, ns, cs, (i : Int), h, w, g, rfl, X.S, X.n, X.fl, X.P.R.F, X.C, X.c0, X.cn, by omega, by omega, fun T M H1 r z s ms s1 Th => ?_⟩
  walk_at "w"
  refine ixT Th.T (v := V.str (tx (tkC .step))) rfl ?_
  walk_at "w"
  refine ixT Th.T (v := V.int r) rfl ?_
  walk_at "w"
  refine ixT Th.T (v := V.int z) rfl ?_
  walk_at "w"
  refine ixT Th.T (v := V.int s) rfl ?_
  walk_at "w"
  refine ixT Th.T (v := V.ref M) rfl ?_
  refine w_list Th.M fun N hN => ?_
  have s2 : Same H1 (upd H1 N (.lst (ms.map V.int))) := (Same.refl H1).laid hN
  have eN : (upd H1 N (.lst (ms.map V.int))) N = some (.lst (ms.map V.int)) := upd_same
  generalize upd H1 N (.lst (ms.map V.int)) = H2 at *
  walk_at "w"
  refine ⟨len_le (by show (5 : Nat) ≤ 1000; decide), fun T2 hT2 => ?_⟩
  have s3 : Same H2 (upd H2 T2 (.tup [V.str (tx (tkC .step)), V.int r, V.int z, V.int s, V.ref N])) := (Same.refl H2).laid hT2
  have Th2 : IsTh (upd H2 T2 (.tup [V.str (tx (tkC .step)), V.int r, V.int z, V.int s, V.ref N])) T2 N .step r z s ms := ⟨upd_same, s3 _ _ eN, Th.n⟩
  generalize upd H2 T2 (.tup [V.str (tx (tkC .step)), V.int r, V.int z, V.int s, V.ref N]) = H3 at *
  have s13 := (s1.trans s2).trans s3
  have X3 := X.same s13
  have Th3 := Th.same (s2.trans s3)
  walk_at "w"
  refine ⟨P, L, G, B, T2, N, h, w, g, _, cl, masks, r, z, s, ms, rfl, ⟨X3.P, Th2, X3.B, X3.ml⟩, X3.mm, fun H4 s4 => ?_⟩
  have X4 := X3.same s4
  walk_at "w"
  rw [w_if]
  walk_at "w"
  refine ⟨T, M, C, A, p, h, w, g, at_, cs, masks, r, z, s, ms, rfl, ⟨Th3.same s4, X4.fl, hg, X4.C, X4.cn, fun c hc => by have := X.ci c hc; omega, X4.A, X4.mm⟩, fun H6 s6 => ?_⟩
  rw [dueP_eq X.a2 X.kx X.xc X.ci X.go (h := h) (w := w) (o := o)]
  have X6 := X4.same s6
  have s46 := s4.trans s6
  walk_at "w"
  rw [w_if]
  walk_at "w"
  refine w_neL X6.B X6.A ?_
  walk_at "w"
  refine w_neTh (Th2.same s46) (Th3.same s46) ?_
  walk_at "w"
  exact q _ _ _ H6 (s13.trans s46)
theorem rk_law_t7 {K : PySem.W.Frag} {c : RCl RK} {d : RCl PzK} {H : Hp} {Q : VK} {a p C : Addr} {y : Int} {ns : List Int} {h w g at_ : Int} {cs : List Nat} {x o : RR} (hS : SqL K H a (ns.map V.int)) (hn : ns.length ≤ 63) (hp : IsFl H p h w g) (a2 : at_ = 0 ∨ at_ = 1) (kx : x.k = .Rising) (xc : x.cs = nZ cs) (go : goesB .step o.k = false) (hC : H C = some (.lst ((nZ cs).map V.int))) (c0 : cs ≠ []) (cn : cs.length ≤ 16) (ci : ∀ c ∈ cs, (c : Int) < h * w) (ok : d.ok .Puzzle = true) (R : RowsOk c h w g (two34 at_ x o)) (k : ∀ H', Q (.bl true) H') :
    rd_law_t7 K c d { nx := fun _ H' => Q .non H', rt := Q } [some (.ref a), some (.int y), some (.ref p), some (.int (h * w)), some (.ref C), some (.str x.txt), some (.str o.txt), some (.int at_), none, none, none, none, none, none, none] H := by
  unfold rd_law_t7
  walk_at "w"
  refine ⟨len_le (by show (2 : Nat) ≤ 1000; decide), fun U1 h1 => ?_⟩
  have s1 : Same H (upd H U1 (.lst [V.str x.txt, V.str o.txt])) := (Same.refl H).laid h1
  have e1 : (upd H U1 (.lst [V.str x.txt, V.str o.txt])) U1 = some (.lst [V.str x.txt, V.str o.txt]) := upd_same
  generalize upd H U1 (.lst [V.str x.txt, V.str o.txt]) = H1 at *
  refine ⟨len_le (by show (2 : Nat) ≤ 1000; decide), fun U2 h2 => ?_⟩
  have s2 : Same H1 (upd H1 U2 (.lst [V.str o.txt, V.str x.txt])) := (Same.refl H1).laid h2
  have e2 : (upd H1 U2 (.lst [V.str o.txt, V.str x.txt])) U2 = some (.lst [V.str o.txt, V.str x.txt]) := upd_same
  generalize upd H1 U2 (.lst [V.str o.txt, V.str x.txt]) = H2 at *
  refine ⟨len_le (by show (2 : Nat) ≤ 1000; decide), fun U3 h3 => ?_⟩
  have s3 : Same H2 (upd H2 U3 (.lst [V.ref U1, V.ref U2])) := (Same.refl H2).laid h3
  have e3 : (upd H2 U3 (.lst [V.ref U1, V.ref U2])) U3 = some (.lst [V.ref U1, V.ref U2]) := upd_same
  generalize upd H2 U3 (.lst [V.ref U1, V.ref U2]) = H3 at *
  have s13 := (s1.trans s2).trans s3
  obtain ⟨U, eU, eT⟩ : ∃ U : Addr, atI [V.ref U1, V.ref U2] at_ = some (V.ref U) ∧ H3 U = some (.lst (((two34 at_ x o).map RR.txt).map V.str)) := by
    rcases a2 with rfl | rfl
    · exact ⟨U1, rfl, s3 _ _ (s2 _ _ e1)⟩
    · exact ⟨U2, rfl, s3 _ _ e2⟩
  refine ixL e3 eU ?_
  walk_at "w"
  refine ⟨a, p, ns, h, w, g, rfl, s13.seq hS, hn, s13 _ _ hp, R.F, fun Cl H4 cl s4 eC hcl => ?_⟩
  have s14 := s13.trans s4
  walk_at "w"
  refine mk_puz ok (s14 _ _ hp) (s4 _ _ eT) eC R hcl fun P L G H5 s5 hP hL2 hG X => ?_
  have s15 := s14.trans s5
  walk_at "w"
  refine ⟨a, p, ns, h, w, g, rfl, s15.seq hS, hn, s15 _ _ hp, R.F, fun A H6 masks s6 eA hml hmm => ?_⟩
  walk_at "w"
  refine w_list eA fun B hB => ?_
  have s7 : Same H6 (upd H6 B (.lst (masks.map V.int))) := (Same.refl H6).laid hB
  have eB : (upd H6 B (.lst (masks.map V.int))) B = some (.lst (masks.map V.int)) := upd_same
  generalize upd H6 B (.lst (masks.map V.int)) = H7 at *
  have s67 := s6.trans s7
  have s17 := s15.trans s67
  have Y : L35 K H7 c d a p P L G C A B ns h w g at_ cs x o cl masks := ⟨s17.seq hS, hn, s17 _ _ hp, X.same s67, a2, kx, xc, go, s17 _ _ hC, c0, cn, ci, s7 _ _ eA, eB, hml, hmm⟩
  walk_at "w"
  refine ⟨6, rfl, by decide, by decide, ?_⟩
  refine for_range (fun i σ H' => ∃ v11 v12 v13 v14 : Option V, σ = [some (.ref a), some (.int y), some (.ref p), some (.int (h * w)), some (.ref C), some (.str x.txt), some (.str o.txt), some (.int at_), some (.ref P), some (.ref A), some (.ref B), v11, v12, v13, v14] ∧ Same H7 H') ⟨_, _, _, _, rfl, Same.refl H7⟩ ?_ ?_
  · rintro i σ H8 hi ⟨v11, v12, v13, v14, rfl, s8⟩
    rw [Int.zero_add]
    walk_at "w"
    exact rk_tl35 (Y.same s8) hi fun u12 u13 u14 H' s9 => ⟨_, _, _, _, rfl, s8.trans s9⟩
  · rintro σ H8 ⟨v11, v12, v13, v14, rfl, s8⟩
    walk_at "w"
    exact k _
theorem rk_law_t4 {K : PySem.W.Frag} {c : RCl RK} {d : RCl PzK} {H : Hp} {Q : VK} {a p C : Addr} {y : Int} {ns : List Int} {h w g : Int} {cs : List Nat} (hS : SqL K H a (ns.map V.int)) (hn : ns.length ≤ 63) (hp : IsFl H p h w g) (F : FlOk h w g) (hC : H C = some (.lst ((nZ cs).map V.int))) (c0 : cs ≠ []) (cn : cs.length ≤ 16) (nd : cs.Nodup) (ci : ∀ c ∈ cs, (c : Int) < h * w) (hk : ∀ k, k ≠ .Rule → c.ok k = true) (ok : d.ok .Puzzle = true) (k : ∀ H', Q (.bl true) H') :
    rd_law_t4 K c d { nx := fun _ H' => Q .non H', rt := Q } [some (.ref a), some (.int y), some (.ref p), some (.int (h * w)), some (.ref C), none, none, none, none, none, none, none, none, none, none] H := by
  obtain ⟨h0, h1, w0, w1, m16, g0, g1⟩ := id F
  have hc100 : ∀ c ∈ cs, c < 100 := fun c hc => by have := ci c hc; omega
  have hcl := cells_len34 cn
  unfold rd_law_t4
  walk_at "w"
  refine ⟨w_tyS, ⟨_, SqL.of hC⟩, ?_⟩
  refine strs_comp hC (by omega) hc100 fun l H1 hl s1 el => ?_
  walk_at "w"
  refine w_joinL el (joinOk_small (by simp; omega) (fun t ht => by
    obtain ⟨z, hz, rfl⟩ := List.mem_map.mp ht
    obtain ⟨x, _, rfl⟩ := List.mem_map.mp hz
    rw [tx_len]; exact Nat.le_trans num_len (by decide)) (by rw [tx_len]; decide)) ?_
  rw [Txt_join, join_tx]
  refine strL (a := nmC .Rising ++ [32]) (b := catL 32 (cs.map numC)) (by decide) (by omega) ?_
  rw [row_ris c0]
  walk_at "w"
  refine ⟨len_le (by show (4 : Nat) ≤ 1000; decide), fun U hU => ?_⟩
  have s2 : Same H1 (upd H1 U (.lst oth35)) := (Same.refl H1).laid hU
  have eU : (upd H1 U (.lst oth35)) U = some (.lst oth35) := upd_same
  generalize hHz : upd H1 U (.lst oth35) = H2 at *
  have hHz' : upd H1 U (.lst [V.str (tx [117, 110, 108, 105, 107, 101, 32, 48]), V.str (tx [106, 111, 105, 110, 101, 100, 32, 49]), V.str (tx [99, 111, 117, 110, 116, 32, 49, 32, 49, 32, 48]), V.str (tx [115, 101, 101, 110, 32, 49, 32, 48])]) = H2 := hHz
  rw [hHz']
  have s12 := s1.trans s2
  refine ⟨a, ns, 2, rfl, s12.seq hS, hn, by decide, by decide, ?_⟩
  walk_at "w"
  refine ⟨by decide, ?_⟩
  obtain ⟨o, eo, oo, go, ko⟩ := oth35_at F (Int.emod_nonneg (at34 ns 2) (show (4 : Int) ≠ 0 by decide)) (Int.emod_lt_of_pos (at34 ns 2) (show (0 : Int) < 4 by decide))
  refine ixL eU eo ?_
  walk_at "w"
  refine ⟨a, ns, 3, rfl, s12.seq hS, hn, by decide, by decide, ?_⟩
  walk_at "w"
  refine ⟨by decide, ?_⟩
  have a2 : at34 ns 3 % 2 = 0 ∨ at34 ns 3 % 2 = 1 := by omega
  generalize at34 ns 3 % 2 = at_ at *
  have xo : RR.Ok ⟨.Rising, 0, 0, cs, nZ cs⟩ h w g := RowOk_list F c0 ci nd cn rfl (by decide) (by decide) (fun _ => rfl) (fun e => by cases e) (fun _ => rfl)
  have mem : ∀ r ∈ two34 at_ ⟨.Rising, 0, 0, cs, nZ cs⟩ o, r.Ok h w g ∧ r.k ≠ .Rule := fun r hr => by
    unfold two34 at hr
    split at hr
    · rcases List.mem_cons.mp hr with rfl | hr
      · exact ⟨xo, fun e => by cases e⟩
      · rw [List.mem_singleton.mp hr]; exact ⟨oo, ko⟩
    · rcases List.mem_cons.mp hr with rfl | hr
      · exact ⟨oo, ko⟩
      · rw [List.mem_singleton.mp hr]; exact ⟨xo, fun e => by cases e⟩
  have RO : RowsOk c h w g (two34 at_ ⟨.Rising, 0, 0, cs, nZ cs⟩ o) := ⟨F, by unfold two34; split <;> simp, fun r hr => (mem r hr).1, fun r hr => hk _ (mem r hr).2⟩
  exact rk_law_t7 (x := ⟨.Rising, 0, 0, cs, nZ cs⟩) (s12.seq hS) hn (s12 _ _ hp) a2 rfl rfl go (s12 _ _ hC) c0 cn ci ok RO k
theorem rk_law {K : PySem.W.Frag} {c : RCl RK} {d : RCl PzK} {vs : List V} {H : Hp} {Q : VK} {E : XK} (h : sp_law K c d vs H Q E) : rd_law K c d { nx := fun _ H' => Q .non H', rt := Q } (start ["_law_script", "_law_cell", "_law_floor_here", "_law_many", "_law_cells", "_law_line", "_law_other", "_law_at", "_law_puzzle", "_law_masks_here", "_law_heard", "_law_k", "_law_thought_here", "_law_handed", "_law_found"] vs) H := by
  obtain ⟨a, ns, rfl, hS, hn, hk, ok, k⟩ := h
  show rd_law K c d _ [some (.ref a), none, none, none, none, none, none, none, none, none, none, none, none, none, none] H
  unfold rd_law
  walk_at "w"
  refine ⟨a, ns, 0, rfl, hS, hn, by decide, by decide, ?_⟩
  walk_at "w"
  refine ⟨.inr ⟨by decide, by decide⟩, by decide, ?_⟩
  generalize at34 ns 0 * 30011 % 65537 = y at *
  refine ⟨_, rfl, fun p H1 h w g s1 hp F => ?_⟩
  obtain ⟨h0, h1, w0, w1, m16, g0, g1⟩ := id F
  have mpos : 1 ≤ h * w := Int.le_trans (by omega) (Int.mul_le_mul h0 w0 (by omega) (by omega))
  walk_at "w"
  refine ixT hp (v := V.int h) rfl ?_
  walk_at "w"
  refine ixT hp (v := V.int w) rfl ?_
  walk_at "w"
  refine ⟨mul_small h0 h1, ?_⟩
  refine ⟨a, ns, 1, rfl, s1.seq hS, hn, by decide, by decide, ?_⟩
  walk_at "w"
  refine ⟨.inr ⟨by decide, by decide⟩, by decide, ?_⟩
  refine ⟨_, _, rfl, by omega, m16, fun O H2 cs s2 hO eO nd ci cl => ?_⟩
  walk_at "w"
  refine ⟨⟨by decide, by decide⟩, by omega, ?_⟩
  have b0 := Int.emod_nonneg (y / 72) (show h * w ≠ 0 by omega)
  have b1 := Int.emod_lt_of_pos (y / 72) (show 0 < h * w by omega)
  generalize y / 72 % (h * w) = b at *
  refine w_slL eO fun C hC => ?_
  rw [cut_head _ (by omega), ns_take]
  have s3 : Same H2 (upd H2 C (.lst (nsV (cs.take (1 + b).toNat)))) := (Same.refl H2).laid hC
  have eC : (upd H2 C (.lst (nsV (cs.take (1 + b).toNat)))) C = some (.lst ((nZ (cs.take (1 + b).toNat)).map V.int)) := upd_same
  generalize upd H2 C (.lst (nsV (cs.take (1 + b).toNat))) = H3 at *
  have t0 : cs.take (1 + b).toNat ≠ [] := fun e => by
    have := congrArg List.length e
    rw [List.length_take, List.length_nil] at this
    omega
  have t1 : (cs.take (1 + b).toNat).length ≤ 16 := by rw [List.length_take]; omega
  have t2 : (cs.take (1 + b).toNat).Nodup := nd.sublist (List.take_sublist _ _)
  have t3 : ∀ c ∈ cs.take (1 + b).toNat, (c : Int) < h * w := fun c hc => ci c (List.mem_of_mem_take hc)
  generalize cs.take (1 + b).toNat = ts at *
  have s13 := (s1.trans s2).trans s3
  have s23 := s2.trans s3
  walk_at "w"
  exact rk_law_t4 (s13.seq hS) hn (s23 _ _ hp) F eC t0 t1 t2 t3 hk ok k
end L2
set_option Elab.async false
set_option linter.all false
set_option maxRecDepth 100000
namespace L2
open PySem PySem.Spec PyProof.Rows
end L2
set_option Elab.async false
set_option linter.all false
set_option maxRecDepth 100000
namespace L2
open PySem PySem.Spec PyProof.Rows
end L2
set_option Elab.async false
set_option linter.all false
set_option maxRecDepth 100000
namespace L2
open PySem PySem.Spec PyProof.Rows
section
variable {X : Cx} {e : Expr} {es rs : List Expr} {te : TE} {t : TA}
theorem pa_consT {k} {p : Pos} (ha : PE X (.Tuple rs k p) te) (hr : PA X es t) : PA X (.Tuple rs k p :: es) (tCons te t) := pa_cons ha hr
theorem pa_consC {c : Const} {k} {p : Pos} (ha : PE X (.Constant c k p) te) (hr : PA X es t) : PA X (.Constant c k p :: es) (tCons te t) := pa_cons ha hr
end
end L2
set_option Elab.async false
set_option linter.all false
set_option maxRecDepth 100000
namespace L2
open PySem PySem.Spec PyProof.Rows
def top (i : Nat) : Stmt := PySem.Challenge.pw_cluemaker_k35_thoughts_of_steps.main.body.getD i (.Pass ⟨0, 0, 0, 0⟩)
def mtop (i j : Nat) : Stmt := match top i with
  | .ClassDef _ _ _ body _ _ _ _ _ _ _ => body.getD j (.Pass ⟨0, 0, 0, 0⟩)
  | s => s
abbrev s_is_whole : Stmt := top 10
theorem sc_is_whole : FnScope ["value"] ["value"] (defScope s_is_whole) := ⟨rfl, rfl, rfl, by decide +kernel, rfl, by decide +kernel, by decide +kernel⟩
set_option maxHeartbeats 4000000 in
theorem fn_is_whole {P : Program} {w : World} {K : PySem.W.Frag} {mg : Str → Option Value} {base : Heap} (B : Bt2 mg)  {f : Addr} {fd : FuncData} (F : Fun K "is_whole" "is_whole" s_is_whole f fd) : FnOk P w K mg base CX0 1 f fd ["value"] (sp_is_whole K) := by
  refine F.ok sc_is_whole (fun vs H Q E h => sl_is_whole h) (fun cdv A outer s H vs Q E hr h => ?_)
  have hu := hr.units
  have nd := sc_is_whole.nd
  refine ⟨rd_is_whole K, ?_, rk_is_whole h⟩
  exact (pss_one (ps_ret (pe_and (pe_callB call_kIsi rfl B.isinstance_ bt_isinstance (pa_cons (pv 0) (pa_cons (pe_bltn (v := .ty "int") rfl B.int_ bt_int rfl) pa_nil))) (pe_one (pe_not (pe_callB call_kIsi rfl B.isinstance_ bt_isinstance (pa_cons (pv 0) (pa_cons (pe_bltn (v := .ty "bool") rfl B.bool_ bt_bool rfl) pa_nil))))))))
theorem ok_is_whole {P : Program} {w : World} {K : PySem.W.Frag} {mg : Str → Option Value} {base : Heap} (B : Bt2 mg)  {f : Addr} {fd : FuncData} (F : Fun K "is_whole" "is_whole" s_is_whole f fd) (hm : mg "is_whole" = some (.ref f)) : Cal P w K mg base 1 "is_whole" ["value"] (sp_is_whole K) :=
  ⟨f, fd, fn_is_whole B  F, hm, F.kp, F.binds (ps := ["value"]) fun _ _ _ _ _ _ us hl => match us, hl with | [_], _ => rfl⟩
abbrev s_many_cells : Stmt := top 13
theorem sc_many_cells : FnScope ["floor"] ["floor"] (defScope s_many_cells) := ⟨rfl, rfl, rfl, by decide +kernel, rfl, by decide +kernel, by decide +kernel⟩
set_option maxHeartbeats 4000000 in
theorem fn_many_cells {P : Program} {w : World} {K : PySem.W.Frag} {mg : Str → Option Value} {base : Heap} (B : Bt2 mg)  {f : Addr} {fd : FuncData} (F : Fun K "many_cells" "many_cells" s_many_cells f fd) : FnOk P w K mg base CX0 1 f fd ["floor"] (sp_many_cells K) := by
  refine F.ok sc_many_cells (fun vs H Q E h => sl_many_cells h) (fun cdv A outer s H vs Q E hr h => ?_)
  have hu := hr.units
  have nd := sc_many_cells.nd
  refine ⟨rd_many_cells K, ?_, rk_many_cells h⟩
  exact (pss_one (ps_ret (pe_op op_cMul (pe_ix (ix_c hu) (pv 0) pe_int (fun _ _ => rfl)) (pe_ix (ix_c hu) (pv 0) pe_int (fun _ _ => rfl)))))
theorem ok_many_cells {P : Program} {w : World} {K : PySem.W.Frag} {mg : Str → Option Value} {base : Heap} (B : Bt2 mg)  {f : Addr} {fd : FuncData} (F : Fun K "many_cells" "many_cells" s_many_cells f fd) (hm : mg "many_cells" = some (.ref f)) : Cal P w K mg base 1 "many_cells" ["floor"] (sp_many_cells K) :=
  ⟨f, fd, fn_many_cells B  F, hm, F.kp, F.binds (ps := ["floor"]) fun _ _ _ _ _ _ us hl => match us, hl with | [_], _ => rfl⟩
abbrev s_stands : Stmt := top 22
theorem sc_stands : FnScope ["mask", "sign"] ["mask", "sign"] (defScope s_stands) := ⟨rfl, rfl, rfl, by decide +kernel, rfl, by decide +kernel, by decide +kernel⟩
set_option maxHeartbeats 4000000 in
theorem fn_stands {P : Program} {w : World} {K : PySem.W.Frag} {mg : Str → Option Value} {base : Heap} (B : Bt2 mg)  {f : Addr} {fd : FuncData} (F : Fun K "stands" "stands" s_stands f fd) : FnOk P w K mg base CX0 1 f fd ["mask", "sign"] (sp_stands K) := by
  refine F.ok sc_stands (fun vs H Q E h => sl_stands h) (fun cdv A outer s H vs Q E hr h => ?_)
  have hu := hr.units
  have nd := sc_stands.nd
  refine ⟨rd_stands K, ?_, rk_stands h⟩
  exact (pss_one (ps_ret (pe_and (pe_cmpR op_cLe pe_int (pv 1) (nomark _)) (pe_and (pe_cmpR op_cLe (pv 1) (pe_bm0 PySem.F.plainAttrs_int PySem.F.slot_int_bit_length PySem.F.type_int_bit_length mt_kBitLen (pv 0)) (nomark _)) (pe_one (pe_cmpR (op_cEq hu) (pe_op op_cMod (pe_op op_cShr (pv 0) (pe_op op_cSub (pv 1) pe_int)) pe_int) pe_int (nomark _)))))))
theorem ok_stands {P : Program} {w : World} {K : PySem.W.Frag} {mg : Str → Option Value} {base : Heap} (B : Bt2 mg)  {f : Addr} {fd : FuncData} (F : Fun K "stands" "stands" s_stands f fd) (hm : mg "stands" = some (.ref f)) : Cal P w K mg base 1 "stands" ["mask", "sign"] (sp_stands K) :=
  ⟨f, fd, fn_stands B  F, hm, F.kp, F.binds (ps := ["mask", "sign"]) fun _ _ _ _ _ _ us hl => match us, hl with | [_, _], _ => rfl⟩
abbrev s_Rule___init__ : Stmt := mtop 75 0
theorem sc_Rule___init__ : FnScope ["self", "floor", "words", "cells", "amount", "mark"] ["self", "floor", "words", "cells", "amount", "mark"] (defScope s_Rule___init__) := ⟨rfl, rfl, rfl, by decide +kernel, rfl, by decide +kernel, by decide +kernel⟩
set_option maxHeartbeats 4000000 in
theorem fn_Rule___init__ {P : Program} {w : World} {K : PySem.W.Frag} {mg : Str → Option Value} {base : Heap} (B : Bt2 mg) {c : RCl RK}  (FK_c_amount : FldK K c "amount") (FK_c_cells : FldK K c "cells") (FK_c_floor : FldK K c "floor") (FK_c_mark : FldK K c "mark") (FK_c_words : FldK K c "words") {f : Addr} {fd : FuncData} (F : Fun K "__init__" "Rule.__init__" s_Rule___init__ f fd) : FnOk P w K mg base CX0 1 f fd ["self", "floor", "words", "cells", "amount", "mark"] (sp_Rule___init__ K c) := by
  refine F.ok sc_Rule___init__ (fun vs H Q E h => sl_Rule___init__ h) (fun cdv A outer s H vs Q E hr h => ?_)
  have hu := hr.units
  have nd := sc_Rule___init__.nd
  refine ⟨rd_Rule___init__ K c, ?_, rk_Rule___init__ h⟩
  exact (pss_cons (ps_fldK (pv 0) (pv 1) FK_c_floor)
      (pss_cons (ps_fldK (pv 0) (pe_callTy call_kTuple rfl B.tuple_ bt_tuple (pa_cons (pv 2) pa_nil)) FK_c_words)
      (pss_cons (ps_fldK (pv 0) (pe_callTy call_kTuple rfl B.tuple_ bt_tuple (pa_cons (pv 3) pa_nil)) FK_c_cells)
      (pss_cons (ps_fldK (pv 0) (pv 4) FK_c_amount)
      (pss_one (ps_fldK (pv 0) (pv 5) FK_c_mark))))))
abbrev s_Rule_name : Stmt := mtop 75 1
theorem sc_Rule_name : FnScope ["self"] ["self"] (defScope s_Rule_name) := ⟨rfl, rfl, rfl, by decide +kernel, rfl, by decide +kernel, by decide +kernel⟩
set_option maxHeartbeats 4000000 in
theorem fn_Rule_name {P : Program} {w : World} {K : PySem.W.Frag} {mg : Str → Option Value} {base : Heap} (B : Bt2 mg) {c : RCl RK}  (FK_c_words : FldK K c "words") {f : Addr} {fd : FuncData} (F : Fun K "name" "Rule.name" s_Rule_name f fd) : FnOk P w K mg base CX0 1 f fd ["self"] (sp_Rule_name K c) := by
  refine F.ok sc_Rule_name (fun vs H Q E h => sl_Rule_name h) (fun cdv A outer s H vs Q E hr h => ?_)
  have hu := hr.units
  have nd := sc_Rule_name.nd
  refine ⟨rd_Rule_name K c, ?_, rk_Rule_name h⟩
  exact (pss_one (ps_ret (pe_ix (ix_c hu) (pe_fldK (pv 0) FK_c_words) pe_int (fun _ _ => rfl))))
abbrev s_Rule_spots : Stmt := mtop 75 2
theorem sc_Rule_spots : FnScope ["self"] ["self"] (defScope s_Rule_spots) := ⟨rfl, rfl, rfl, by decide +kernel, rfl, by decide +kernel, by decide +kernel⟩
set_option maxHeartbeats 4000000 in
theorem fn_Rule_spots {P : Program} {w : World} {K : PySem.W.Frag} {mg : Str → Option Value} {base : Heap} (B : Bt2 mg) {c : RCl RK}  (FK_c_cells : FldK K c "cells") {f : Addr} {fd : FuncData} (F : Fun K "spots" "Rule.spots" s_Rule_spots f fd) : FnOk P w K mg base CX0 1 f fd ["self"] (sp_Rule_spots K c) := by
  refine F.ok sc_Rule_spots (fun vs H Q E h => sl_Rule_spots h) (fun cdv A outer s H vs Q E hr h => ?_)
  have hu := hr.units
  have nd := sc_Rule_spots.nd
  refine ⟨rd_Rule_spots K c, ?_, rk_Rule_spots h⟩
  exact (pss_one (ps_ret (pe_callTy call_kList rfl B.list_ bt_list (pa_cons (pe_fldK (pv 0) FK_c_cells) pa_nil))))
abbrev s_number_in : Stmt := top 91
theorem sc_number_in : FnScope ["word"] ["word"] (defScope s_number_in) := ⟨rfl, rfl, rfl, by decide +kernel, rfl, by decide +kernel, by decide +kernel⟩
set_option maxHeartbeats 4000000 in
theorem fn_number_in {P : Program} {w : World} {K : PySem.W.Frag} {mg : Str → Option Value} {base : Heap} (B : Bt2 mg)  {t_FIGURES : Tok} (C_FIGURES : mg "FIGURES" = some (.str (tx [48, 49, 50, 51, 52, 53, 54, 55, 56, 57]) t_FIGURES)) {t_MOST_FIGURES : Tok} (C_MOST_FIGURES : mg "MOST_FIGURES" = some (.int 9 t_MOST_FIGURES)) {f : Addr} {fd : FuncData} (F : Fun K "number_in" "number_in" s_number_in f fd) : FnOk P w K mg base CX0 1 f fd ["word"] (sp_number_in K) := by
  refine F.ok sc_number_in (fun vs H Q E h => sl_number_in h) (fun cdv A outer s H vs Q E hr h => ?_)
  have hu := hr.units
  have nd := sc_number_in.nd
  refine ⟨rd_number_in K, ?_, rk_number_in h⟩
  exact (pss_cons (ps_if (PW.pt (pw_or (pt_cmpR (op_cEq hu) (pv 0) pe_str (nomark _)) (pw_or (pt_cmpR op_cGt (pe_callB call_kLen rfl B.len_ bt_len (pa_cons (pv 0) pa_nil)) (pe_glob rfl C_MOST_FIGURES ⟨t_MOST_FIGURES, rfl⟩) (nomark _)) (pw_or1 (PW.pt (pw_and (pt_cmpR (op_cEq hu) (pe_ix (ix_c hu) (pv 0) pe_int (fun _ _ => rfl)) pe_str (nomark _)) (pw_and1 (pt_cmpR (op_cNe hu) (pv 0) pe_str (nomark _))))))))) (pss_one (ps_ret pe_non)) pss_nil)
      (pss_cons (ps_if (pt_not (pt_val (pe_callB (call_kAll rfl) rfl B.all_ bt_all (pa_cons (pe_comp (ix := [none, none]) [".0", "figure"] (blk_ok2 rfl (by decide +kernel) rfl rfl rfl) rfl (pi_str (pv 0)) (fun cl s H fp => (pg_name (i := 1) (show ([".0", "figure"] : List Str).Nodup by decide +kernel) rfl (Or.inl rfl))) (fun cl s H fp => pts_nil) (fun cl s H fp => (pe_cmpR (op_cIn hu) (pv 1) (pe_glob rfl C_FIGURES ⟨t_FIGURES, rfl⟩) (by with_unfolding_all rfl)))) pa_nil)))) (pss_one (ps_ret pe_non)) pss_nil)
      (pss_one (ps_ret (pe_callTy call_kInt2 rfl B.int_ bt_int (pa_cons (pv 0) pa_nil))))))
theorem ok_number_in {P : Program} {w : World} {K : PySem.W.Frag} {mg : Str → Option Value} {base : Heap} (B : Bt2 mg)  {t_FIGURES : Tok} (C_FIGURES : mg "FIGURES" = some (.str (tx [48, 49, 50, 51, 52, 53, 54, 55, 56, 57]) t_FIGURES)) {t_MOST_FIGURES : Tok} (C_MOST_FIGURES : mg "MOST_FIGURES" = some (.int 9 t_MOST_FIGURES)) {f : Addr} {fd : FuncData} (F : Fun K "number_in" "number_in" s_number_in f fd) (hm : mg "number_in" = some (.ref f)) : Cal P w K mg base 1 "number_in" ["word"] (sp_number_in K) :=
  ⟨f, fd, fn_number_in B  C_FIGURES C_MOST_FIGURES F, hm, F.kp, F.binds (ps := ["word"]) fun _ _ _ _ _ _ us hl => match us, hl with | [_], _ => rfl⟩
abbrev s_Puzzle_place : Stmt := mtop 104 1
theorem sc_Puzzle_place : FnScope ["self"] ["self"] (defScope s_Puzzle_place) := ⟨rfl, rfl, rfl, by decide +kernel, rfl, by decide +kernel, by decide +kernel⟩
set_option maxHeartbeats 4000000 in
theorem fn_Puzzle_place {P : Program} {w : World} {K : PySem.W.Frag} {mg : Str → Option Value} {base : Heap} (B : Bt2 mg) {c : RCl RK} {d : RCl PzK}  (FK_d_floor : FldK K d "floor") {f : Addr} {fd : FuncData} (F : Fun K "place" "Puzzle.place" s_Puzzle_place f fd) : FnOk P w K mg base CX0 1 f fd ["self"] (sp_Puzzle_place K c d) := by
  refine F.ok sc_Puzzle_place (fun vs H Q E h => sl_Puzzle_place h) (fun cdv A outer s H vs Q E hr h => ?_)
  have hu := hr.units
  have nd := sc_Puzzle_place.nd
  refine ⟨rd_Puzzle_place K c d, ?_, rk_Puzzle_place h⟩
  exact (pss_one (ps_ret (pe_fldK (pv 0) FK_d_floor)))
abbrev s_Puzzle_clues : Stmt := mtop 104 3
theorem sc_Puzzle_clues : FnScope ["self"] ["self"] (defScope s_Puzzle_clues) := ⟨rfl, rfl, rfl, by decide +kernel, rfl, by decide +kernel, by decide +kernel⟩
set_option maxHeartbeats 4000000 in
theorem fn_Puzzle_clues {P : Program} {w : World} {K : PySem.W.Frag} {mg : Str → Option Value} {base : Heap} (B : Bt2 mg) {c : RCl RK} {d : RCl PzK}  (FK_d_given : FldK K d "given") {f : Addr} {fd : FuncData} (F : Fun K "clues" "Puzzle.clues" s_Puzzle_clues f fd) : FnOk P w K mg base CX0 1 f fd ["self"] (sp_Puzzle_clues K c d) := by
  refine F.ok sc_Puzzle_clues (fun vs H Q E h => sl_Puzzle_clues h) (fun cdv A outer s H vs Q E hr h => ?_)
  have hu := hr.units
  have nd := sc_Puzzle_clues.nd
  refine ⟨rd_Puzzle_clues K c d, ?_, rk_Puzzle_clues h⟩
  exact (pss_one (ps_ret (pe_callTy call_kList rfl B.list_ bt_list (pa_cons (pe_fldK (pv 0) FK_d_given) pa_nil))))
abbrev s_Puzzle_rules : Stmt := mtop 104 4
theorem sc_Puzzle_rules : FnScope ["self"] ["self"] (defScope s_Puzzle_rules) := ⟨rfl, rfl, rfl, by decide +kernel, rfl, by decide +kernel, by decide +kernel⟩
set_option maxHeartbeats 4000000 in
theorem fn_Puzzle_rules {P : Program} {w : World} {K : PySem.W.Frag} {mg : Str → Option Value} {base : Heap} (B : Bt2 mg) {c : RCl RK} {d : RCl PzK}  (FK_d_laws : FldK K d "laws") {f : Addr} {fd : FuncData} (F : Fun K "rules" "Puzzle.rules" s_Puzzle_rules f fd) : FnOk P w K mg base CX0 1 f fd ["self"] (sp_Puzzle_rules K c d) := by
  refine F.ok sc_Puzzle_rules (fun vs H Q E h => sl_Puzzle_rules h) (fun cdv A outer s H vs Q E hr h => ?_)
  have hu := hr.units
  have nd := sc_Puzzle_rules.nd
  refine ⟨rd_Puzzle_rules K c d, ?_, rk_Puzzle_rules h⟩
  exact (pss_one (ps_ret (pe_callTy call_kList rfl B.list_ bt_list (pa_cons (pe_fldK (pv 0) FK_d_laws) pa_nil))))
abbrev s__law_cell_at : Stmt := top 106
theorem sc__law_cell_at : FnScope ["_law_script", "_law_k"] ["_law_script", "_law_k"] (defScope s__law_cell_at) := ⟨rfl, rfl, rfl, by decide +kernel, rfl, by decide +kernel, by decide +kernel⟩
set_option maxHeartbeats 4000000 in
theorem fn__law_cell_at {P : Program} {w : World} {K : PySem.W.Frag} {mg : Str → Option Value} {base : Heap} (B : Bt2 mg)  {f : Addr} {fd : FuncData} (F : Fun K "_law_cell_at" "_law_cell_at" s__law_cell_at f fd) : FnOk P w K mg base CX0 1 f fd ["_law_script", "_law_k"] (sp__law_at34 K) := by
  refine F.ok sc__law_cell_at (fun vs H Q E h => sl__law_at34 h) (fun cdv A outer s H vs Q E hr h => ?_)
  have hu := hr.units
  have nd := sc__law_cell_at.nd
  refine ⟨rd__law_at34 K, ?_, rk__law_at34 h⟩
  exact (pss_cons (ps_if (pt_cmpR op_cLt (pv 1) (pe_callB call_len_seq rfl B.len_ bt_len (pa_cons (pv 0) pa_nil)) (nomark _)) (pss_one (ps_ret (pe_ix ix_list (pv 0) (pv 1) (fun _ _ => rfl)))) pss_nil)
      (pss_one (ps_ret pe_int)))
theorem ok__law_cell_at {P : Program} {w : World} {K : PySem.W.Frag} {mg : Str → Option Value} {base : Heap} (B : Bt2 mg)  {f : Addr} {fd : FuncData} (F : Fun K "_law_cell_at" "_law_cell_at" s__law_cell_at f fd) (hm : mg "_law_cell_at" = some (.ref f)) : Cal P w K mg base 1 "_law_cell_at" ["_law_script", "_law_k"] (sp__law_at34 K) :=
  ⟨f, fd, fn__law_cell_at B  F, hm, F.kp, F.binds (ps := ["_law_script", "_law_k"]) fun _ _ _ _ _ _ us hl => match us, hl with | [_, _], _ => rfl⟩
abbrev s__law_order : Stmt := top 107
theorem sc__law_order : FnScope ["_law_number", "_law_many", "_law_left", "_law_found", "_law_k"] ["_law_number", "_law_many"] (defScope s__law_order) := ⟨rfl, rfl, rfl, by decide +kernel, rfl, by decide +kernel, by decide +kernel⟩
set_option maxHeartbeats 4000000 in
theorem fn__law_order {P : Program} {w : World} {K : PySem.W.Frag} {mg : Str → Option Value} {base : Heap} (B : Bt2 mg)  {f : Addr} {fd : FuncData} (F : Fun K "_law_order" "_law_order" s__law_order f fd) : FnOk P w K mg base CX0 1 f fd ["_law_number", "_law_many"] (sp__law_order35 K) := by
  refine F.ok sc__law_order (fun vs H Q E h => sl__law_order35 h) (fun cdv A outer s H vs Q E hr h => ?_)
  have hu := hr.units
  have nd := sc__law_order.nd
  refine ⟨rd__law_order35 K, ?_, rk__law_order35 h⟩
  exact (pss_cons (ps_set (i := 2) nd rfl (Or.inl rfl) (pe_listrng1 rfl rfl rfl B.list_ B.range_ (pa_cons (pv 1) pa_nil)))
      (pss_cons (ps_set (i := 3) nd rfl (Or.inl rfl) (pe_lst pa_nil))
      (pss_cons (ps_for PassesOwn.never rfl (pi_range1 rfl B.range_ (pa_cons (pv 1) pa_nil)) (pg_name (i := 4) nd rfl (Or.inl rfl))
      (pss_one (ps_expr (pe_bm PySem.F.plainAttrs_list PySem.F.slot_list_append PySem.F.type_list_append mt_kAppend (pv 3) (pa_cons (pe_bm PySem.F.plainAttrs_list PySem.F.slot_list_pop PySem.F.type_list_pop mt_kPopAt (pv 2) (pa_cons (pe_op op_cMod (pe_op op_cDiv (pv 0) (pe_op op_cAdd (pv 4) pe_int)) (pe_callB call_kLen rfl B.len_ bt_len (pa_cons (pv 2) pa_nil))) pa_nil)) pa_nil)))))
      (pss_one (ps_ret (pv 3))))))
theorem ok__law_order {P : Program} {w : World} {K : PySem.W.Frag} {mg : Str → Option Value} {base : Heap} (B : Bt2 mg)  {f : Addr} {fd : FuncData} (F : Fun K "_law_order" "_law_order" s__law_order f fd) (hm : mg "_law_order" = some (.ref f)) : Cal P w K mg base 1 "_law_order" ["_law_number", "_law_many"] (sp__law_order35 K) :=
  ⟨f, fd, fn__law_order B  F, hm, F.kp, F.binds (ps := ["_law_number", "_law_many"]) fun _ _ _ _ _ _ us hl => match us, hl with | [_, _], _ => rfl⟩
abbrev s__law_floor : Stmt := top 108
theorem sc__law_floor : FnScope ["_law_cell", "_law_some", "_law_high", "_law_wide"] ["_law_cell"] (defScope s__law_floor) := ⟨rfl, rfl, rfl, by decide +kernel, rfl, by decide +kernel, by decide +kernel⟩
set_option maxHeartbeats 4000000 in
theorem fn__law_floor {P : Program} {w : World} {K : PySem.W.Frag} {mg : Str → Option Value} {base : Heap} (B : Bt2 mg)  {f : Addr} {fd : FuncData} (F : Fun K "_law_floor" "_law_floor" s__law_floor f fd) : FnOk P w K mg base CX0 1 f fd ["_law_cell"] (sp__law_floor35 K) := by
  refine F.ok sc__law_floor (fun vs H Q E h => sl__law_floor35 h) (fun cdv A outer s H vs Q E hr h => ?_)
  have hu := hr.units
  have nd := sc__law_floor.nd
  refine ⟨rd__law_floor35 K, ?_, rk__law_floor35 h⟩
  refine pss_cons ?s0 ?r0
  case s0 =>
    refine ps_asg (te := ?te) (g := gName 1) ?h1 ?h2 ?h4 ?h5 ?h6
    case h2 => exact pg_name (i := 1) nd rfl (Or.inl rfl)
    case h4 => rfl
    case h5 => rfl
    case h6 => rfl
    case h1 =>
      refine pe_lst ?_
      refine pa_consT ?_ ?_
      · exact pe_tup (pa_consC pe_int (pa_consC pe_int pa_nil))
      refine pa_consT ?_ ?_
      · exact pe_tup (pa_consC pe_int (pa_consC pe_int pa_nil))
      refine pa_consT ?_ ?_
      · exact pe_tup (pa_consC pe_int (pa_consC pe_int pa_nil))
      refine pa_consT ?_ ?_
      · exact pe_tup (pa_consC pe_int (pa_consC pe_int pa_nil))
      refine pa_consT ?_ ?_
      · exact pe_tup (pa_consC pe_int (pa_consC pe_int pa_nil))
      refine pa_consT ?_ ?_
      · exact pe_tup (pa_consC pe_int (pa_consC pe_int pa_nil))
      refine pa_consT ?_ ?_
      · exact pe_tup (pa_consC pe_int (pa_consC pe_int pa_nil))
      refine pa_consT ?_ ?_
      · exact pe_tup (pa_consC pe_int (pa_consC pe_int pa_nil))
      refine pa_consT ?_ ?_
      · exact pe_tup (pa_consC pe_int (pa_consC pe_int pa_nil))
      refine pa_consT ?_ ?_
      · exact pe_tup (pa_consC pe_int (pa_consC pe_int pa_nil))
      refine pa_consT ?_ ?_
      · exact pe_tup (pa_consC pe_int (pa_consC pe_int pa_nil))
      refine pa_consT ?_ ?_
      · exact pe_tup (pa_consC pe_int (pa_consC pe_int pa_nil))
      exact pa_nil
  case r0 =>
    exact (pss_cons (ps_asg (pe_ix (ix_c hu) (pv 1) (pe_op op_cMod (pv 0) pe_int) (fun _ _ => rfl)) (pg_tup rfl (pgs_cons (pg_name (i := 2) nd rfl (Or.inl rfl)) (pgs_cons (pg_name (i := 3) nd rfl (Or.inl rfl)) pgs_nil))))
      (pss_one (ps_ret (pe_tup (pa_cons (pv 2) (pa_cons (pv 3) (pa_cons (pe_op op_cAdd pe_int (pe_op op_cMod (pe_op op_cDiv (pv 0) pe_int) pe_int)) pa_nil)))))))
theorem ok__law_floor {P : Program} {w : World} {K : PySem.W.Frag} {mg : Str → Option Value} {base : Heap} (B : Bt2 mg)  {f : Addr} {fd : FuncData} (F : Fun K "_law_floor" "_law_floor" s__law_floor f fd) (hm : mg "_law_floor" = some (.ref f)) : Cal P w K mg base 1 "_law_floor" ["_law_cell"] (sp__law_floor35 K) :=
  ⟨f, fd, fn__law_floor B  F, hm, F.kp, F.binds (ps := ["_law_cell"]) fun _ _ _ _ _ _ us hl => match us, hl with | [_], _ => rfl⟩
abbrev s__law_less : Stmt := top 110
theorem sc__law_less : FnScope ["_law_mask", "_law_sign"] ["_law_mask", "_law_sign"] (defScope s__law_less) := ⟨rfl, rfl, rfl, by decide +kernel, rfl, by decide +kernel, by decide +kernel⟩
set_option maxHeartbeats 4000000 in
theorem fn__law_less {P : Program} {w : World} {K : PySem.W.Frag} {mg : Str → Option Value} {base : Heap} (B : Bt2 mg)  {f : Addr} {fd : FuncData} (F : Fun K "_law_less" "_law_less" s__law_less f fd) : FnOk P w K mg base CX0 1 f fd ["_law_mask", "_law_sign"] (sp__law_less K) := by
  refine F.ok sc__law_less (fun vs H Q E h => sl__law_less h) (fun cdv A outer s H vs Q E hr h => ?_)
  have hu := hr.units
  have nd := sc__law_less.nd
  refine ⟨rd__law_less K, ?_, rk__law_less h⟩
  exact (pss_one (ps_ret (pe_cmpR op_cGt (pe_op op_cMod (pv 0) (pe_ix (ix_c hu) (pe_lst (pa_cons pe_int (pa_cons pe_int (pa_cons pe_int (pa_cons pe_int (pa_cons pe_int (pa_cons pe_int pa_nil))))))) (pe_op op_cSub (pv 1) pe_int) (fun _ _ => rfl))) pe_int (nomark _))))
theorem ok__law_less {P : Program} {w : World} {K : PySem.W.Frag} {mg : Str → Option Value} {base : Heap} (B : Bt2 mg)  {f : Addr} {fd : FuncData} (F : Fun K "_law_less" "_law_less" s__law_less f fd) (hm : mg "_law_less" = some (.ref f)) : Cal P w K mg base 1 "_law_less" ["_law_mask", "_law_sign"] (sp__law_less K) :=
  ⟨f, fd, fn__law_less B  F, hm, F.kp, F.binds (ps := ["_law_mask", "_law_sign"]) fun _ _ _ _ _ _ us hl => match us, hl with | [_, _], _ => rfl⟩
abbrev s__law_greater : Stmt := top 111
theorem sc__law_greater : FnScope ["_law_mask", "_law_sign"] ["_law_mask", "_law_sign"] (defScope s__law_greater) := ⟨rfl, rfl, rfl, by decide +kernel, rfl, by decide +kernel, by decide +kernel⟩
set_option maxHeartbeats 4000000 in
theorem fn__law_greater {P : Program} {w : World} {K : PySem.W.Frag} {mg : Str → Option Value} {base : Heap} (B : Bt2 mg)  {f : Addr} {fd : FuncData} (F : Fun K "_law_greater" "_law_greater" s__law_greater f fd) : FnOk P w K mg base CX0 1 f fd ["_law_mask", "_law_sign"] (sp__law_greater K) := by
  refine F.ok sc__law_greater (fun vs H Q E h => sl__law_greater h) (fun cdv A outer s H vs Q E hr h => ?_)
  have hu := hr.units
  have nd := sc__law_greater.nd
  refine ⟨rd__law_greater K, ?_, rk__law_greater h⟩
  exact (pss_one (ps_ret (pe_cmpR op_cGt (pe_op op_cDiv (pv 0) (pe_ix (ix_c hu) (pe_lst (pa_cons pe_int (pa_cons pe_int (pa_cons pe_int (pa_cons pe_int (pa_cons pe_int (pa_cons pe_int pa_nil))))))) (pe_op op_cSub (pv 1) pe_int) (fun _ _ => rfl))) pe_int (nomark _))))
theorem ok__law_greater {P : Program} {w : World} {K : PySem.W.Frag} {mg : Str → Option Value} {base : Heap} (B : Bt2 mg)  {f : Addr} {fd : FuncData} (F : Fun K "_law_greater" "_law_greater" s__law_greater f fd) (hm : mg "_law_greater" = some (.ref f)) : Cal P w K mg base 1 "_law_greater" ["_law_mask", "_law_sign"] (sp__law_greater K) :=
  ⟨f, fd, fn__law_greater B  F, hm, F.kp, F.binds (ps := ["_law_mask", "_law_sign"]) fun _ _ _ _ _ _ us hl => match us, hl with | [_, _], _ => rfl⟩
abbrev s_is_from_one_to : Stmt := top 11
theorem sc_is_from_one_to : FnScope ["value", "most"] ["value", "most"] (defScope s_is_from_one_to) := ⟨rfl, rfl, rfl, by decide +kernel, rfl, by decide +kernel, by decide +kernel⟩
set_option maxHeartbeats 4000000 in
theorem fn_is_from_one_to {P : Program} {w : World} {K : PySem.W.Frag} {mg : Str → Option Value} {base : Heap} (B : Bt2 mg) (C_is_whole : Cal P w K mg base 1 "is_whole" ["value"] (sp_is_whole K)) {f : Addr} {fd : FuncData} (F : Fun K "is_from_one_to" "is_from_one_to" s_is_from_one_to f fd) : FnOk P w K mg base CX0 2 f fd ["value", "most"] (sp_is_from_one_to K) := by
  refine F.ok sc_is_from_one_to (fun vs H Q E h => sl_is_from_one_to h) (fun cdv A outer s H vs Q E hr h => ?_)
  have hu := hr.units
  have nd := sc_is_from_one_to.nd
  refine ⟨rd_is_from_one_to K, ?_, rk_is_from_one_to h⟩
  exact (pss_one (ps_ret (pe_and (pe_cal C_is_whole hr (by decide) rfl (pa_cons (pv 0) pa_nil)) (pe_and (pe_cmpR op_cLe pe_int (pv 0) (nomark _)) (pe_one (pe_cmpR op_cLe (pv 0) (pv 1) (nomark _)))))))
theorem ok_is_from_one_to {P : Program} {w : World} {K : PySem.W.Frag} {mg : Str → Option Value} {base : Heap} (B : Bt2 mg) (C_is_whole : Cal P w K mg base 1 "is_whole" ["value"] (sp_is_whole K)) {f : Addr} {fd : FuncData} (F : Fun K "is_from_one_to" "is_from_one_to" s_is_from_one_to f fd) (hm : mg "is_from_one_to" = some (.ref f)) : Cal P w K mg base 2 "is_from_one_to" ["value", "most"] (sp_is_from_one_to K) :=
  ⟨f, fd, fn_is_from_one_to B C_is_whole F, hm, F.kp, F.binds (ps := ["value", "most"]) fun _ _ _ _ _ _ us hl => match us, hl with | [_, _], _ => rfl⟩
abbrev s_signs_in : Stmt := top 25
theorem sc_signs_in : FnScope ["mask"] ["mask"] (defScope s_signs_in) := ⟨rfl, rfl, rfl, by decide +kernel, rfl, by decide +kernel, by decide +kernel⟩
set_option maxHeartbeats 4000000 in
theorem fn_signs_in {P : Program} {w : World} {K : PySem.W.Frag} {mg : Str → Option Value} {base : Heap} (B : Bt2 mg) (C_stands : Cal P w K mg base 1 "stands" ["mask", "sign"] (sp_stands K)) {f : Addr} {fd : FuncData} (F : Fun K "signs_in" "signs_in" s_signs_in f fd) : FnOk P w K mg base CX0 2 f fd ["mask"] (sp_signs_in K) := by
  refine F.ok sc_signs_in (fun vs H Q E h => sl_signs_in h) (fun cdv A outer s H vs Q E hr h => ?_)
  have hu := hr.units
  have nd := sc_signs_in.nd
  refine ⟨rd_signs_in K, ?_, rk_signs_in h⟩
  exact (pss_one (ps_ret (pe_comp (ix := [none, none, some 0]) [".0", "sign", "mask"] (blk_ok2 rfl (by decide +kernel) rfl rfl rfl) rfl (pi_range2 rfl B.range_ (pa_cons pe_int (pa_cons (pe_op op_cAdd (pe_bm0 PySem.F.plainAttrs_int PySem.F.slot_int_bit_length PySem.F.type_int_bit_length mt_kBitLen (pv 0)) pe_int) pa_nil))) (fun cl s H fp => (pg_name (i := 1) (show ([".0", "sign", "mask"] : List Str).Nodup by decide +kernel) rfl (Or.inl rfl))) (fun cl s H fp => (pts_one (pt_val (pe_cal C_stands hr (by decide) rfl (pa_cons (pv 2) (pa_cons (pv 1) pa_nil)))))) (fun cl s H fp => (pv 1)))))
theorem ok_signs_in {P : Program} {w : World} {K : PySem.W.Frag} {mg : Str → Option Value} {base : Heap} (B : Bt2 mg) (C_stands : Cal P w K mg base 1 "stands" ["mask", "sign"] (sp_stands K)) {f : Addr} {fd : FuncData} (F : Fun K "signs_in" "signs_in" s_signs_in f fd) (hm : mg "signs_in" = some (.ref f)) : Cal P w K mg base 2 "signs_in" ["mask"] (sp_signs_in K) :=
  ⟨f, fd, fn_signs_in B C_stands F, hm, F.kp, F.binds (ps := ["mask"]) fun _ _ _ _ _ _ us hl => match us, hl with | [_], _ => rfl⟩
abbrev s_is_cell : Stmt := top 31
theorem sc_is_cell : FnScope ["floor", "value"] ["floor", "value"] (defScope s_is_cell) := ⟨rfl, rfl, rfl, by decide +kernel, rfl, by decide +kernel, by decide +kernel⟩
set_option maxHeartbeats 4000000 in
theorem fn_is_cell {P : Program} {w : World} {K : PySem.W.Frag} {mg : Str → Option Value} {base : Heap} (B : Bt2 mg) (C_is_whole : Cal P w K mg base 1 "is_whole" ["value"] (sp_is_whole K)) (C_many_cells : Cal P w K mg base 1 "many_cells" ["floor"] (sp_many_cells K)) {f : Addr} {fd : FuncData} (F : Fun K "is_cell" "is_cell" s_is_cell f fd) : FnOk P w K mg base CX0 2 f fd ["floor", "value"] (sp_is_cell K) := by
  refine F.ok sc_is_cell (fun vs H Q E h => sl_is_cell h) (fun cdv A outer s H vs Q E hr h => ?_)
  have hu := hr.units
  have nd := sc_is_cell.nd
  refine ⟨rd_is_cell K, ?_, rk_is_cell h⟩
  exact (pss_one (ps_ret (pe_and (pe_cal C_is_whole hr (by decide) rfl (pa_cons (pv 1) pa_nil)) (pe_and (pe_cmpR op_cLe pe_int (pv 1) (nomark _)) (pe_one (pe_cmpR op_cLt (pv 1) (pe_cal C_many_cells hr (by decide) rfl (pa_cons (pv 0) pa_nil)) (nomark _)))))))
theorem ok_is_cell {P : Program} {w : World} {K : PySem.W.Frag} {mg : Str → Option Value} {base : Heap} (B : Bt2 mg) (C_is_whole : Cal P w K mg base 1 "is_whole" ["value"] (sp_is_whole K)) (C_many_cells : Cal P w K mg base 1 "many_cells" ["floor"] (sp_many_cells K)) {f : Addr} {fd : FuncData} (F : Fun K "is_cell" "is_cell" s_is_cell f fd) (hm : mg "is_cell" = some (.ref f)) : Cal P w K mg base 2 "is_cell" ["floor", "value"] (sp_is_cell K) :=
  ⟨f, fd, fn_is_cell B C_is_whole C_many_cells F, hm, F.kp, F.binds (ps := ["floor", "value"]) fun _ _ _ _ _ _ us hl => match us, hl with | [_, _], _ => rfl⟩
abbrev s_goes_by : Stmt := top 33
theorem sc_goes_by : FnScope ["kind", "rule"] ["kind", "rule"] (defScope s_goes_by) := ⟨rfl, rfl, rfl, by decide +kernel, rfl, by decide +kernel, by decide +kernel⟩
set_option maxHeartbeats 4000000 in
theorem fn_goes_by {P : Program} {w : World} {K : PySem.W.Frag} {mg : Str → Option Value} {base : Heap} (B : Bt2 mg) {c : RCl RK}  (M_name : MCal P w K mg base c c.ok 1 "name" ["self"] (sp_name K c)) (D_RULES_OF_KIND : GDict w K mg "RULES_OF_KIND" gd_RULES_OF_KIND) {f : Addr} {fd : FuncData} (F : Fun K "goes_by" "goes_by" s_goes_by f fd) : FnOk P w K mg base CX0 2 f fd ["kind", "rule"] (sp_goes_by K c) := by
  refine F.ok sc_goes_by (fun vs H Q E h => sl_goes_by h) (fun cdv A outer s H vs Q E hr h => ?_)
  have hu := hr.units
  have nd := sc_goes_by.nd
  refine ⟨rd_goes_by K c, ?_, rk_goes_by h⟩
  exact (pss_one (ps_ret (pe_or (pe_cmpR (op_cEq hu) (pv 0) pe_str (nomark _)) (pe_one (pe_cmpR op_inS (pe_methK0 M_name hr (by decide) (pv 1)) (pe_ixG D_RULES_OF_KIND (pv 0) rfl (fun _ _ => rfl)) (by with_unfolding_all rfl))))))
theorem ok_goes_by {P : Program} {w : World} {K : PySem.W.Frag} {mg : Str → Option Value} {base : Heap} (B : Bt2 mg) {c : RCl RK}  (M_name : MCal P w K mg base c c.ok 1 "name" ["self"] (sp_name K c)) (D_RULES_OF_KIND : GDict w K mg "RULES_OF_KIND" gd_RULES_OF_KIND) {f : Addr} {fd : FuncData} (F : Fun K "goes_by" "goes_by" s_goes_by f fd) (hm : mg "goes_by" = some (.ref f)) : Cal P w K mg base 2 "goes_by" ["kind", "rule"] (sp_goes_by K c) :=
  ⟨f, fd, fn_goes_by B  M_name D_RULES_OF_KIND F, hm, F.kp, F.binds (ps := ["kind", "rule"]) fun _ _ _ _ _ _ us hl => match us, hl with | [_, _], _ => rfl⟩
abbrev s_ahead_of : Stmt := top 45
theorem sc_ahead_of : FnScope ["rule", "cell", "spots", "place"] ["rule", "cell"] (defScope s_ahead_of) := ⟨rfl, rfl, rfl, by decide +kernel, rfl, by decide +kernel, by decide +kernel⟩
set_option maxHeartbeats 4000000 in
theorem fn_ahead_of {P : Program} {w : World} {K : PySem.W.Frag} {mg : Str → Option Value} {base : Heap} (B : Bt2 mg) {c : RCl RK}  (M_spots : MCal P w K mg base c c.ok 1 "spots" ["self"] (sp_spots K c)) {f : Addr} {fd : FuncData} (F : Fun K "ahead_of" "ahead_of" s_ahead_of f fd) : FnOk P w K mg base CX0 2 f fd ["rule", "cell"] (sp_ahead_of K c) := by
  refine F.ok sc_ahead_of (fun vs H Q E h => sl_ahead_of h) (fun cdv A outer s H vs Q E hr h => ?_)
  have hu := hr.units
  have nd := sc_ahead_of.nd
  refine ⟨rd_ahead_of K c, ?_, rk_ahead_of h⟩
  exact (pss_cons (ps_set (i := 2) nd rfl (Or.inl rfl) (pe_methK0 M_spots hr (by decide) (pv 0)))
      (pss_cons (ps_set (i := 3) nd rfl (Or.inl rfl) (pe_bm PySem.F.plainAttrs_list PySem.F.slot_list_index PySem.F.type_list_index (mt_kIndex hu) (pv 2) (pa_cons (pv 1) pa_nil)))
      (pss_one (ps_ret (pe_ifExp (pt_cmpR op_cGt (pv 3) pe_int (nomark _)) (pe_slice sl_c2 (pv 2) (po_some (pe_op op_cSub (pv 3) pe_int)) (po_some (pv 3))) (pe_lst pa_nil))))))
theorem ok_ahead_of {P : Program} {w : World} {K : PySem.W.Frag} {mg : Str → Option Value} {base : Heap} (B : Bt2 mg) {c : RCl RK}  (M_spots : MCal P w K mg base c c.ok 1 "spots" ["self"] (sp_spots K c)) {f : Addr} {fd : FuncData} (F : Fun K "ahead_of" "ahead_of" s_ahead_of f fd) (hm : mg "ahead_of" = some (.ref f)) : Cal P w K mg base 2 "ahead_of" ["rule", "cell"] (sp_ahead_of K c) :=
  ⟨f, fd, fn_ahead_of B  M_spots F, hm, F.kp, F.binds (ps := ["rule", "cell"]) fun _ _ _ _ _ _ us hl => match us, hl with | [_, _], _ => rfl⟩
abbrev s_behind : Stmt := top 46
theorem sc_behind : FnScope ["rule", "cell", "spots", "place"] ["rule", "cell"] (defScope s_behind) := ⟨rfl, rfl, rfl, by decide +kernel, rfl, by decide +kernel, by decide +kernel⟩
set_option maxHeartbeats 4000000 in
theorem fn_behind {P : Program} {w : World} {K : PySem.W.Frag} {mg : Str → Option Value} {base : Heap} (B : Bt2 mg) {c : RCl RK}  (M_spots : MCal P w K mg base c c.ok 1 "spots" ["self"] (sp_spots K c)) {f : Addr} {fd : FuncData} (F : Fun K "behind" "behind" s_behind f fd) : FnOk P w K mg base CX0 2 f fd ["rule", "cell"] (sp_behind K c) := by
  refine F.ok sc_behind (fun vs H Q E h => sl_behind h) (fun cdv A outer s H vs Q E hr h => ?_)
  have hu := hr.units
  have nd := sc_behind.nd
  refine ⟨rd_behind K c, ?_, rk_behind h⟩
  exact (pss_cons (ps_set (i := 2) nd rfl (Or.inl rfl) (pe_methK0 M_spots hr (by decide) (pv 0)))
      (pss_cons (ps_set (i := 3) nd rfl (Or.inl rfl) (pe_bm PySem.F.plainAttrs_list PySem.F.slot_list_index PySem.F.type_list_index (mt_kIndex hu) (pv 2) (pa_cons (pv 1) pa_nil)))
      (pss_one (ps_ret (pe_slice sl_c2 (pv 2) (po_some (pe_op op_cAdd (pv 3) pe_int)) (po_some (pe_op op_cAdd (pv 3) pe_int)))))))
theorem ok_behind {P : Program} {w : World} {K : PySem.W.Frag} {mg : Str → Option Value} {base : Heap} (B : Bt2 mg) {c : RCl RK}  (M_spots : MCal P w K mg base c c.ok 1 "spots" ["self"] (sp_spots K c)) {f : Addr} {fd : FuncData} (F : Fun K "behind" "behind" s_behind f fd) (hm : mg "behind" = some (.ref f)) : Cal P w K mg base 2 "behind" ["rule", "cell"] (sp_behind K c) :=
  ⟨f, fd, fn_behind B  M_spots F, hm, F.kp, F.binds (ps := ["rule", "cell"]) fun _ _ _ _ _ _ us hl => match us, hl with | [_, _], _ => rfl⟩
abbrev s_number_within : Stmt := top 92
theorem sc_number_within : FnScope ["word", "least", "most", "number"] ["word", "least", "most"] (defScope s_number_within) := ⟨rfl, rfl, rfl, by decide +kernel, rfl, by decide +kernel, by decide +kernel⟩
set_option maxHeartbeats 4000000 in
theorem fn_number_within {P : Program} {w : World} {K : PySem.W.Frag} {mg : Str → Option Value} {base : Heap} (B : Bt2 mg) (C_number_in : Cal P w K mg base 1 "number_in" ["word"] (sp_number_in K)) {f : Addr} {fd : FuncData} (F : Fun K "number_within" "number_within" s_number_within f fd) : FnOk P w K mg base CX0 2 f fd ["word", "least", "most"] (sp_number_within K) := by
  refine F.ok sc_number_within (fun vs H Q E h => sl_number_within h) (fun cdv A outer s H vs Q E hr h => ?_)
  have hu := hr.units
  have nd := sc_number_within.nd
  refine ⟨rd_number_within K, ?_, rk_number_within h⟩
  exact (pss_cons (ps_set (i := 3) nd rfl (Or.inl rfl) (pe_cal C_number_in hr (by decide) rfl (pa_cons (pv 0) pa_nil)))
      (pss_cons (ps_if (PW.pt (pw_or (pt_cmpR op_isN (pv 3) pe_non (nomark _)) (pw_or (pt_cmpR op_cLt (pv 3) (pv 1) (nomark _)) (pw_or1 (pt_cmpR op_cGt (pv 3) (pv 2) (nomark _)))))) (pss_one ps_never) pss_nil)
      (pss_one (ps_ret (pv 3)))))
theorem ok_number_within {P : Program} {w : World} {K : PySem.W.Frag} {mg : Str → Option Value} {base : Heap} (B : Bt2 mg) (C_number_in : Cal P w K mg base 1 "number_in" ["word"] (sp_number_in K)) {f : Addr} {fd : FuncData} (F : Fun K "number_within" "number_within" s_number_within f fd) (hm : mg "number_within" = some (.ref f)) : Cal P w K mg base 2 "number_within" ["word", "least", "most"] (sp_number_within K) :=
  ⟨f, fd, fn_number_within B C_number_in F, hm, F.kp, F.binds (ps := ["word", "least", "most"]) fun _ _ _ _ _ _ us hl => match us, hl with | [_, _, _], _ => rfl⟩
abbrev s_is_filling : Stmt := top 102
theorem sc_is_filling : FnScope ["floor", "filling", "least"] ["floor", "filling", "least"] (defScope s_is_filling) := ⟨rfl, rfl, rfl, by decide +kernel, rfl, by decide +kernel, by decide +kernel⟩
set_option maxHeartbeats 4000000 in
theorem fn_is_filling {P : Program} {w : World} {K : PySem.W.Frag} {mg : Str → Option Value} {base : Heap} (B : Bt2 mg) (C_is_whole : Cal P w K mg base 1 "is_whole" ["value"] (sp_is_whole K)) (C_many_cells : Cal P w K mg base 1 "many_cells" ["floor"] (sp_many_cells K)) {f : Addr} {fd : FuncData} (F : Fun K "is_filling" "is_filling" s_is_filling f fd) : FnOk P w K mg base CX0 2 f fd ["floor", "filling", "least"] (sp_is_filling K) := by
  refine F.ok sc_is_filling (fun vs H Q E h => sl_is_filling h) (fun cdv A outer s H vs Q E hr h => ?_)
  have hu := hr.units
  have nd := sc_is_filling.nd
  refine ⟨rd_is_filling K, ?_, rk_is_filling h⟩
  exact (pss_cons (ps_if (PW.pt (pw_or (pt_not (pt_val (pe_callB call_kIsi rfl B.isinstance_ bt_isinstance (pa_cons (pv 1) (pa_cons (pe_bltn (v := .ty "list") rfl B.list_ bt_list rfl) pa_nil))))) (pw_or1 (pt_cmpR (op_cNe hu) (pe_callB call_kLen rfl B.len_ bt_len (pa_cons (pv 1) pa_nil)) (pe_cal C_many_cells hr (by decide) rfl (pa_cons (pv 0) pa_nil)) (nomark _))))) (pss_one (ps_ret pe_bl)) pss_nil)
      (pss_one (ps_ret (pe_callB (call_kAll rfl) rfl B.all_ bt_all (pa_cons (pe_comp (ix := [none, none, some 0, some 2]) [".0", "sign", "floor", "least"] (blk_ok2 rfl (by decide +kernel) rfl rfl rfl) rfl (pi_list (pv 1)) (fun cl s H fp => (pg_name (i := 1) (show ([".0", "sign", "floor", "least"] : List Str).Nodup by decide +kernel) rfl (Or.inl rfl))) (fun cl s H fp => pts_nil) (fun cl s H fp => (pe_and (pe_cal C_is_whole hr (by decide) rfl (pa_cons (pv 1) pa_nil)) (pe_and (pe_cmpR op_cLe (pv 3) (pv 1) (nomark _)) (pe_one (pe_cmpR op_cLe (pv 1) (pe_ix (ix_c hu) (pv 2) pe_int (fun _ _ => rfl)) (nomark _))))))) pa_nil)))))
theorem ok_is_filling {P : Program} {w : World} {K : PySem.W.Frag} {mg : Str → Option Value} {base : Heap} (B : Bt2 mg) (C_is_whole : Cal P w K mg base 1 "is_whole" ["value"] (sp_is_whole K)) (C_many_cells : Cal P w K mg base 1 "many_cells" ["floor"] (sp_many_cells K)) {f : Addr} {fd : FuncData} (F : Fun K "is_filling" "is_filling" s_is_filling f fd) (hm : mg "is_filling" = some (.ref f)) : Cal P w K mg base 2 "is_filling" ["floor", "filling", "least"] (sp_is_filling K) :=
  ⟨f, fd, fn_is_filling B C_is_whole C_many_cells F, hm, F.kp, F.binds (ps := ["floor", "filling", "least"]) fun _ _ _ _ _ _ us hl => match us, hl with | [_, _, _], _ => rfl⟩
abbrev s__law_masks : Stmt := top 109
theorem sc__law_masks : FnScope ["_law_script", "_law_floor_here", "_law_masks_here", "_law_k", "_law_cell", "_law_mask"] ["_law_script", "_law_floor_here"] (defScope s__law_masks) := ⟨rfl, rfl, rfl, by decide +kernel, rfl, by decide +kernel, by decide +kernel⟩
set_option maxHeartbeats 4000000 in
theorem fn__law_masks {P : Program} {w : World} {K : PySem.W.Frag} {mg : Str → Option Value} {base : Heap} (B : Bt2 mg) (C__law_cell_at : Cal P w K mg base 1 "_law_cell_at" ["_law_script", "_law_k"] (sp__law_at34 K)) {f : Addr} {fd : FuncData} (F : Fun K "_law_masks" "_law_masks" s__law_masks f fd) : FnOk P w K mg base CX0 2 f fd ["_law_script", "_law_floor_here"] (sp__law_masks35 K) := by
  refine F.ok sc__law_masks (fun vs H Q E h => sl__law_masks35 h) (fun cdv A outer s H vs Q E hr h => ?_)
  have hu := hr.units
  have nd := sc__law_masks.nd
  refine ⟨rd__law_masks35 K, ?_, rk__law_masks35 h⟩
  exact (pss_cons (ps_set (i := 2) nd rfl (Or.inl rfl) (pe_lst pa_nil))
      (pss_cons (ps_for PassesOwn.never rfl (pi_range1 rfl B.range_ (pa_cons (pe_op op_cMul (pe_ix (ix_c hu) (pv 1) pe_int (fun _ _ => rfl)) (pe_ix (ix_c hu) (pv 1) pe_int (fun _ _ => rfl))) pa_nil)) (pg_name (i := 3) nd rfl (Or.inl rfl))
      (pss_cons (ps_set (i := 4) nd rfl (Or.inl rfl) (pe_op op_cMod (pe_op op_cMul (pe_op op_cAdd (pe_cal C__law_cell_at hr (by decide) rfl (pa_cons (pv 0) (pa_cons (pe_op op_cAdd pe_int (pv 3)) pa_nil))) (pe_op op_cMul (pe_op op_cMul pe_int (pv 3)) (pv 3))) pe_int) pe_int))
      (pss_cons (ps_set (i := 5) nd rfl (Or.inl rfl) (pe_op op_cMod (pe_op op_cDiv (pv 4) pe_int) (pe_ix (ix_c hu) (pe_lst (pa_cons pe_int (pa_cons pe_int (pa_cons pe_int (pa_cons pe_int (pa_cons pe_int (pa_cons pe_int (pa_cons pe_int pa_nil)))))))) (pe_ix (ix_c hu) (pv 1) pe_int (fun _ _ => rfl)) (fun _ _ => rfl))))
      (pss_cons (ps_if (pt_cmpR (op_cEq hu) (pe_op op_cMod (pv 4) pe_int) pe_int (nomark _)) (pss_one (ps_set (i := 5) nd rfl (Or.inl rfl) pe_int)) pss_nil)
      (pss_one (ps_expr (pe_bm PySem.F.plainAttrs_list PySem.F.slot_list_append PySem.F.type_list_append mt_kAppend (pv 2) (pa_cons (pv 5) pa_nil))))))))
      (pss_one (ps_ret (pv 2)))))
theorem ok__law_masks {P : Program} {w : World} {K : PySem.W.Frag} {mg : Str → Option Value} {base : Heap} (B : Bt2 mg) (C__law_cell_at : Cal P w K mg base 1 "_law_cell_at" ["_law_script", "_law_k"] (sp__law_at34 K)) {f : Addr} {fd : FuncData} (F : Fun K "_law_masks" "_law_masks" s__law_masks f fd) (hm : mg "_law_masks" = some (.ref f)) : Cal P w K mg base 2 "_law_masks" ["_law_script", "_law_floor_here"] (sp__law_masks35 K) :=
  ⟨f, fd, fn__law_masks B C__law_cell_at F, hm, F.kp, F.binds (ps := ["_law_script", "_law_floor_here"]) fun _ _ _ _ _ _ us hl => match us, hl with | [_, _], _ => rfl⟩
abbrev s__law_due : Stmt := top 112
theorem sc__law_due : FnScope ["_law_floor_here", "_law_cells", "_law_masks_here", "_law_thought_here", "_law_at", "_law_place"] ["_law_floor_here", "_law_cells", "_law_masks_here", "_law_thought_here", "_law_at"] (defScope s__law_due) := ⟨rfl, rfl, rfl, by decide +kernel, rfl, by decide +kernel, by decide +kernel⟩
set_option maxHeartbeats 4000000 in
theorem fn__law_due {P : Program} {w : World} {K : PySem.W.Frag} {mg : Str → Option Value} {base : Heap} (B : Bt2 mg) (C__law_greater : Cal P w K mg base 1 "_law_greater" ["_law_mask", "_law_sign"] (sp__law_greater K)) (C__law_less : Cal P w K mg base 1 "_law_less" ["_law_mask", "_law_sign"] (sp__law_less K)) {f : Addr} {fd : FuncData} (F : Fun K "_law_due" "_law_due" s__law_due f fd) : FnOk P w K mg base CX0 2 f fd ["_law_floor_here", "_law_cells", "_law_masks_here", "_law_thought_here", "_law_at"] (sp__law_due35 K) := by
  refine F.ok sc__law_due (fun vs H Q E h => sl__law_due35 h) (fun cdv A outer s H vs Q E hr h => ?_)
  have hu := hr.units
  have nd := sc__law_due.nd
  refine ⟨rd__law_due35 K, ?_, rk__law_due35 h⟩
  exact (pss_cons (ps_if (PW.pt (pw_or (pt_cmpR (op_cNe hu) (pe_ix (ix_c hu) (pv 3) pe_int (fun _ _ => rfl)) (pv 4) (nomark _)) (pw_or (pt_cmpR (op_cNe hu) (pe_ix (ix_c hu) (pv 3) pe_int (fun _ _ => rfl)) (pe_lst pa_nil) (nomark _)) (pw_or (pt_cmpR (op_cNotIn hu) (pe_ix (ix_c hu) (pv 3) pe_int (fun _ _ => rfl)) (pv 1) (by with_unfolding_all rfl)) (pw_or1 (pt_not (pt_chain op_cLe op_cLe pe_int (pe_ix (ix_c hu) (pv 3) pe_int (fun _ _ => rfl)) (pe_ix (ix_c hu) (pv 0) pe_int (fun _ _ => rfl))))))))) (pss_one (ps_ret pe_bl)) pss_nil)
      (pss_cons (ps_set (i := 5) nd rfl (Or.inl rfl) (pe_bm PySem.F.plainAttrs_list PySem.F.slot_list_index PySem.F.type_list_index (mt_kIndex hu) (pv 1) (pa_cons (pe_ix (ix_c hu) (pv 3) pe_int (fun _ _ => rfl)) pa_nil)))
      (pss_cons (ps_if (PW.pt (pw_and (pt_cmpR op_cGt (pv 5) pe_int (nomark _)) (pw_and1 (pt_not (pt_val (pe_cal C__law_less hr (by decide) rfl (pa_cons (pe_ix (ix_c hu) (pv 2) (pe_ix (ix_c hu) (pv 1) (pe_op op_cSub (pv 5) pe_int) (fun _ _ => rfl)) (fun _ _ => rfl)) (pa_cons (pe_ix (ix_c hu) (pv 3) pe_int (fun _ _ => rfl)) pa_nil)))))))) (pss_one (ps_ret pe_bl)) pss_nil)
      (pss_one (ps_ret (pe_and (pe_cmpR op_cLt (pe_op op_cAdd (pv 5) pe_int) (pe_callB call_kLen rfl B.len_ bt_len (pa_cons (pv 1) pa_nil)) (nomark _)) (pe_one (pe_not (pe_cal C__law_greater hr (by decide) rfl (pa_cons (pe_ix (ix_c hu) (pv 2) (pe_ix (ix_c hu) (pv 1) (pe_op op_cAdd (pv 5) pe_int) (fun _ _ => rfl)) (fun _ _ => rfl)) (pa_cons (pe_ix (ix_c hu) (pv 3) pe_int (fun _ _ => rfl)) pa_nil)))))))))))
theorem ok__law_due {P : Program} {w : World} {K : PySem.W.Frag} {mg : Str → Option Value} {base : Heap} (B : Bt2 mg) (C__law_greater : Cal P w K mg base 1 "_law_greater" ["_law_mask", "_law_sign"] (sp__law_greater K)) (C__law_less : Cal P w K mg base 1 "_law_less" ["_law_mask", "_law_sign"] (sp__law_less K)) {f : Addr} {fd : FuncData} (F : Fun K "_law_due" "_law_due" s__law_due f fd) (hm : mg "_law_due" = some (.ref f)) : Cal P w K mg base 2 "_law_due" ["_law_floor_here", "_law_cells", "_law_masks_here", "_law_thought_here", "_law_at"] (sp__law_due35 K) :=
  ⟨f, fd, fn__law_due B C__law_greater C__law_less F, hm, F.kp, F.binds (ps := ["_law_floor_here", "_law_cells", "_law_masks_here", "_law_thought_here", "_law_at"]) fun _ _ _ _ _ _ us hl => match us, hl with | [_, _, _, _, _], _ => rfl⟩
abbrev s__law_clues : Stmt := top 113
theorem sc__law_clues : FnScope ["_law_script", "_law_floor_here", "_law_clues_here", "_law_k", "_law_cell"] ["_law_script", "_law_floor_here"] (defScope s__law_clues) := ⟨rfl, rfl, rfl, by decide +kernel, rfl, by decide +kernel, by decide +kernel⟩
set_option maxHeartbeats 4000000 in
theorem fn__law_clues {P : Program} {w : World} {K : PySem.W.Frag} {mg : Str → Option Value} {base : Heap} (B : Bt2 mg) (C__law_cell_at : Cal P w K mg base 1 "_law_cell_at" ["_law_script", "_law_k"] (sp__law_at34 K)) {f : Addr} {fd : FuncData} (F : Fun K "_law_clues" "_law_clues" s__law_clues f fd) : FnOk P w K mg base CX0 2 f fd ["_law_script", "_law_floor_here"] (sp__law_clues35 K) := by
  refine F.ok sc__law_clues (fun vs H Q E h => sl__law_clues35 h) (fun cdv A outer s H vs Q E hr h => ?_)
  have hu := hr.units
  have nd := sc__law_clues.nd
  refine ⟨rd__law_clues35 K, ?_, rk__law_clues35 h⟩
  exact (pss_cons (ps_set (i := 2) nd rfl (Or.inl rfl) (pe_lst pa_nil))
      (pss_cons (ps_for PassesOwn.never rfl (pi_range1 rfl B.range_ (pa_cons (pe_op op_cMul (pe_ix (ix_c hu) (pv 1) pe_int (fun _ _ => rfl)) (pe_ix (ix_c hu) (pv 1) pe_int (fun _ _ => rfl))) pa_nil)) (pg_name (i := 3) nd rfl (Or.inl rfl))
      (pss_cons (ps_set (i := 4) nd rfl (Or.inl rfl) (pe_op op_cMod (pe_op op_cMul (pe_op op_cAdd (pe_cal C__law_cell_at hr (by decide) rfl (pa_cons (pv 0) (pa_cons (pe_op op_cAdd pe_int (pv 3)) pa_nil))) (pe_op op_cMul pe_int (pv 3))) pe_int) pe_int))
      (pss_one (ps_expr (pe_bm PySem.F.plainAttrs_list PySem.F.slot_list_append PySem.F.type_list_append mt_kAppend (pv 2) (pa_cons (pe_ix (ix_c hu) (pe_lst (pa_cons pe_int (pa_cons pe_int (pa_cons (pe_op op_cAdd pe_int (pe_op op_cMod (pe_op op_cDiv (pv 4) pe_int) (pe_ix (ix_c hu) (pv 1) pe_int (fun _ _ => rfl)))) pa_nil)))) (pe_op op_cMod (pv 4) pe_int) (fun _ _ => rfl)) pa_nil))))))
      (pss_one (ps_ret (pv 2)))))
theorem ok__law_clues {P : Program} {w : World} {K : PySem.W.Frag} {mg : Str → Option Value} {base : Heap} (B : Bt2 mg) (C__law_cell_at : Cal P w K mg base 1 "_law_cell_at" ["_law_script", "_law_k"] (sp__law_at34 K)) {f : Addr} {fd : FuncData} (F : Fun K "_law_clues" "_law_clues" s__law_clues f fd) (hm : mg "_law_clues" = some (.ref f)) : Cal P w K mg base 2 "_law_clues" ["_law_script", "_law_floor_here"] (sp__law_clues35 K) :=
  ⟨f, fd, fn__law_clues B C__law_cell_at F, hm, F.kp, F.binds (ps := ["_law_script", "_law_floor_here"]) fun _ _ _ _ _ _ us hl => match us, hl with | [_, _], _ => rfl⟩
abbrev s__law_thought : Stmt := top 114
theorem sc__law_thought : FnScope ["_law_script", "_law_floor_here", "_law_cells", "_law_k", "_law_cell", "_law_more", "_law_sign", "_law_spot"] ["_law_script", "_law_floor_here", "_law_cells", "_law_k"] (defScope s__law_thought) := ⟨rfl, rfl, rfl, by decide +kernel, rfl, by decide +kernel, by decide +kernel⟩
set_option maxHeartbeats 4000000 in
theorem fn__law_thought {P : Program} {w : World} {K : PySem.W.Frag} {mg : Str → Option Value} {base : Heap} (B : Bt2 mg) (C__law_cell_at : Cal P w K mg base 1 "_law_cell_at" ["_law_script", "_law_k"] (sp__law_at34 K)) {f : Addr} {fd : FuncData} (F : Fun K "_law_thought" "_law_thought" s__law_thought f fd) : FnOk P w K mg base CX0 2 f fd ["_law_script", "_law_floor_here", "_law_cells", "_law_k"] (sp__law_thought35 K) := by
  refine F.ok sc__law_thought (fun vs H Q E h => sl__law_thought35 h) (fun cdv A outer s H vs Q E hr h => ?_)
  have hu := hr.units
  have nd := sc__law_thought.nd
  refine ⟨rd__law_thought35 K, ?_, rk__law_thought35 h⟩
  exact (pss_cons (ps_set (i := 4) nd rfl (Or.inl rfl) (pe_op op_cMod (pe_op op_cMul (pe_op op_cAdd (pe_cal C__law_cell_at hr (by decide) rfl (pa_cons (pv 0) (pa_cons (pe_op op_cAdd pe_int (pv 3)) pa_nil))) (pe_op op_cMul (pe_op op_cMul pe_int (pv 3)) (pv 3))) pe_int) pe_int))
      (pss_cons (ps_set (i := 5) nd rfl (Or.inl rfl) (pe_lst pa_nil))
      (pss_cons (ps_if (pt_cmpR (op_cEq hu) (pe_op op_cMod (pv 4) pe_int) pe_int (nomark _)) (pss_one (ps_set (i := 5) nd rfl (Or.inl rfl) (pe_lst (pa_cons (pe_op op_cMod (pe_op op_cDiv (pv 4) pe_int) pe_int) pa_nil)))) pss_nil)
      (pss_cons (ps_set (i := 6) nd rfl (Or.inl rfl) (pe_op op_cAdd pe_int (pe_op op_cMod (pe_op op_cDiv (pv 4) pe_int) (pe_ix (ix_c hu) (pv 1) pe_int (fun _ _ => rfl)))))
      (pss_cons (ps_if (pt_cmpR (op_cEq hu) (pe_op op_cMod (pv 4) pe_int) pe_int (nomark _)) (pss_one (ps_set (i := 6) nd rfl (Or.inl rfl) (pe_ix (ix_c hu) (pe_lst (pa_cons pe_int (pa_cons (pe_op op_cAdd (pe_op op_cAdd (pe_ix (ix_c hu) (pv 1) pe_int (fun _ _ => rfl)) pe_int) (pe_op op_cMod (pe_op op_cDiv (pv 4) pe_int) pe_int)) pa_nil))) (pe_op op_cMod (pe_op op_cDiv (pv 4) pe_int) pe_int) (fun _ _ => rfl)))) pss_nil)
      (pss_cons (ps_set (i := 7) nd rfl (Or.inl rfl) (pe_ix (ix_c hu) (pv 2) (pe_op op_cMod (pe_op op_cDiv (pv 4) pe_int) (pe_callB call_kLen rfl B.len_ bt_len (pa_cons (pv 2) pa_nil))) (fun _ _ => rfl)))
      (pss_cons (ps_if (pt_cmpR op_cLt (pe_op op_cMod (pv 4) pe_int) pe_int (nomark _)) (pss_one (ps_set (i := 7) nd rfl (Or.inl rfl) (pe_ix (ix_c hu) (pe_lst (pa_cons (pe_un un_neg pe_int) (pa_cons (pe_op op_cMul (pe_ix (ix_c hu) (pv 1) pe_int (fun _ _ => rfl)) (pe_ix (ix_c hu) (pv 1) pe_int (fun _ _ => rfl))) (pa_cons (pe_op op_cMod (pe_op op_cDiv (pv 4) pe_int) (pe_op op_cMul (pe_ix (ix_c hu) (pv 1) pe_int (fun _ _ => rfl)) (pe_ix (ix_c hu) (pv 1) pe_int (fun _ _ => rfl)))) pa_nil)))) (pe_op op_cMod (pv 4) pe_int) (fun _ _ => rfl)))) pss_nil)
      (pss_one (ps_ret (pe_tup (pa_cons pe_str (pa_cons (pe_ix (ix_c hu) (pe_lst (pa_cons pe_int (pa_cons pe_int (pa_cons pe_int (pa_cons pe_int (pa_cons pe_int (pa_cons (pe_un un_neg pe_int) pa_nil))))))) (pe_op op_cMod (pe_op op_cDiv (pv 4) pe_int) pe_int) (fun _ _ => rfl)) (pa_cons (pv 7) (pa_cons (pv 6) (pa_cons (pv 5) pa_nil)))))))))))))))
theorem ok__law_thought {P : Program} {w : World} {K : PySem.W.Frag} {mg : Str → Option Value} {base : Heap} (B : Bt2 mg) (C__law_cell_at : Cal P w K mg base 1 "_law_cell_at" ["_law_script", "_law_k"] (sp__law_at34 K)) {f : Addr} {fd : FuncData} (F : Fun K "_law_thought" "_law_thought" s__law_thought f fd) (hm : mg "_law_thought" = some (.ref f)) : Cal P w K mg base 2 "_law_thought" ["_law_script", "_law_floor_here", "_law_cells", "_law_k"] (sp__law_thought35 K) :=
  ⟨f, fd, fn__law_thought B C__law_cell_at F, hm, F.kp, F.binds (ps := ["_law_script", "_law_floor_here", "_law_cells", "_law_k"]) fun _ _ _ _ _ _ us hl => match us, hl with | [_, _, _, _], _ => rfl⟩
abbrev s_floor_of : Stmt := top 12
theorem sc_floor_of : FnScope ["high", "wide", "signs"] ["high", "wide", "signs"] (defScope s_floor_of) := ⟨rfl, rfl, rfl, by decide +kernel, rfl, by decide +kernel, by decide +kernel⟩
set_option maxHeartbeats 4000000 in
theorem fn_floor_of {P : Program} {w : World} {K : PySem.W.Frag} {mg : Str → Option Value} {base : Heap} (B : Bt2 mg) (C_is_from_one_to : Cal P w K mg base 2 "is_from_one_to" ["value", "most"] (sp_is_from_one_to K)) {t_MOST_CELLS : Tok} (C_MOST_CELLS : mg "MOST_CELLS" = some (.int 16 t_MOST_CELLS)) {t_MOST_SIDE : Tok} (C_MOST_SIDE : mg "MOST_SIDE" = some (.int 6 t_MOST_SIDE)) {t_MOST_SIGNS : Tok} (C_MOST_SIGNS : mg "MOST_SIGNS" = some (.int 6 t_MOST_SIGNS)) {f : Addr} {fd : FuncData} (F : Fun K "floor_of" "floor_of" s_floor_of f fd) : FnOk P w K mg base CX0 3 f fd ["high", "wide", "signs"] (sp_floor_of K) := by
  refine F.ok sc_floor_of (fun vs H Q E h => sl_floor_of h) (fun cdv A outer s H vs Q E hr h => ?_)
  have hu := hr.units
  have nd := sc_floor_of.nd
  refine ⟨rd_floor_of K, ?_, rk_floor_of h⟩
  exact (pss_cons (ps_if (pt_not (pt_val (pe_cal C_is_from_one_to hr (by decide) rfl (pa_cons (pv 0) (pa_cons (pe_glob rfl C_MOST_SIDE ⟨t_MOST_SIDE, rfl⟩) pa_nil))))) (pss_one ps_never) pss_nil)
      (pss_cons (ps_if (pt_not (pt_val (pe_cal C_is_from_one_to hr (by decide) rfl (pa_cons (pv 1) (pa_cons (pe_glob rfl C_MOST_SIDE ⟨t_MOST_SIDE, rfl⟩) pa_nil))))) (pss_one ps_never) pss_nil)
      (pss_cons (ps_if (pt_cmpR op_cGt (pe_op op_cMul (pv 0) (pv 1)) (pe_glob rfl C_MOST_CELLS ⟨t_MOST_CELLS, rfl⟩) (nomark _)) (pss_one ps_never) pss_nil)
      (pss_cons (ps_if (pt_not (pt_val (pe_cal C_is_from_one_to hr (by decide) rfl (pa_cons (pv 2) (pa_cons (pe_glob rfl C_MOST_SIGNS ⟨t_MOST_SIGNS, rfl⟩) pa_nil))))) (pss_one ps_never) pss_nil)
      (pss_one (ps_ret (pe_tup (pa_cons (pv 0) (pa_cons (pv 1) (pa_cons (pv 2) pa_nil))))))))))
theorem ok_floor_of {P : Program} {w : World} {K : PySem.W.Frag} {mg : Str → Option Value} {base : Heap} (B : Bt2 mg) (C_is_from_one_to : Cal P w K mg base 2 "is_from_one_to" ["value", "most"] (sp_is_from_one_to K)) {t_MOST_CELLS : Tok} (C_MOST_CELLS : mg "MOST_CELLS" = some (.int 16 t_MOST_CELLS)) {t_MOST_SIDE : Tok} (C_MOST_SIDE : mg "MOST_SIDE" = some (.int 6 t_MOST_SIDE)) {t_MOST_SIGNS : Tok} (C_MOST_SIGNS : mg "MOST_SIGNS" = some (.int 6 t_MOST_SIGNS)) {f : Addr} {fd : FuncData} (F : Fun K "floor_of" "floor_of" s_floor_of f fd) (hm : mg "floor_of" = some (.ref f)) : Cal P w K mg base 3 "floor_of" ["high", "wide", "signs"] (sp_floor_of K) :=
  ⟨f, fd, fn_floor_of B C_is_from_one_to C_MOST_CELLS C_MOST_SIDE C_MOST_SIGNS F, hm, F.kp, F.binds (ps := ["high", "wide", "signs"]) fun _ _ _ _ _ _ us hl => match us, hl with | [_, _, _], _ => rfl⟩
abbrev s_is_sign : Stmt := top 32
theorem sc_is_sign : FnScope ["floor", "value"] ["floor", "value"] (defScope s_is_sign) := ⟨rfl, rfl, rfl, by decide +kernel, rfl, by decide +kernel, by decide +kernel⟩
set_option maxHeartbeats 4000000 in
theorem fn_is_sign {P : Program} {w : World} {K : PySem.W.Frag} {mg : Str → Option Value} {base : Heap} (B : Bt2 mg) (C_is_from_one_to : Cal P w K mg base 2 "is_from_one_to" ["value", "most"] (sp_is_from_one_to K)) {f : Addr} {fd : FuncData} (F : Fun K "is_sign" "is_sign" s_is_sign f fd) : FnOk P w K mg base CX0 3 f fd ["floor", "value"] (sp_is_sign K) := by
  refine F.ok sc_is_sign (fun vs H Q E h => sl_is_sign h) (fun cdv A outer s H vs Q E hr h => ?_)
  have hu := hr.units
  have nd := sc_is_sign.nd
  refine ⟨rd_is_sign K, ?_, rk_is_sign h⟩
  exact (pss_one (ps_ret (pe_cal C_is_from_one_to hr (by decide) rfl (pa_cons (pv 1) (pa_cons (pe_ix (ix_c hu) (pv 0) pe_int (fun _ _ => rfl)) pa_nil)))))
theorem ok_is_sign {P : Program} {w : World} {K : PySem.W.Frag} {mg : Str → Option Value} {base : Heap} (B : Bt2 mg) (C_is_from_one_to : Cal P w K mg base 2 "is_from_one_to" ["value", "most"] (sp_is_from_one_to K)) {f : Addr} {fd : FuncData} (F : Fun K "is_sign" "is_sign" s_is_sign f fd) (hm : mg "is_sign" = some (.ref f)) : Cal P w K mg base 3 "is_sign" ["floor", "value"] (sp_is_sign K) :=
  ⟨f, fd, fn_is_sign B C_is_from_one_to F, hm, F.kp, F.binds (ps := ["floor", "value"]) fun _ _ _ _ _ _ us hl => match us, hl with | [_, _], _ => rfl⟩
abbrev s_has_its_rule : Stmt := top 34
theorem sc_has_its_rule : FnScope ["puzzle", "kind", "number", "cell", "rules"] ["puzzle", "kind", "number", "cell"] (defScope s_has_its_rule) := ⟨rfl, rfl, rfl, by decide +kernel, rfl, by decide +kernel, by decide +kernel⟩
set_option maxHeartbeats 4000000 in
theorem fn_has_its_rule {P : Program} {w : World} {K : PySem.W.Frag} {mg : Str → Option Value} {base : Heap} (B : Bt2 mg) {c : RCl RK} {d : RCl PzK} (C_goes_by : Cal P w K mg base 2 "goes_by" ["kind", "rule"] (sp_goes_by K c)) (C_is_whole : Cal P w K mg base 1 "is_whole" ["value"] (sp_is_whole K)) (M_rules : MCal P w K mg base d d.ok 1 "rules" ["self"] (sp_rules K c d)) (M_spots : MCal P w K mg base c c.ok 1 "spots" ["self"] (sp_spots K c)) {f : Addr} {fd : FuncData} (F : Fun K "has_its_rule" "has_its_rule" s_has_its_rule f fd) : FnOk P w K mg base CX0 3 f fd ["puzzle", "kind", "number", "cell"] (sp_has_its_rule K c d) := by
  refine F.ok sc_has_its_rule (fun vs H Q E h => sl_has_its_rule h) (fun cdv A outer s H vs Q E hr h => ?_)
  have hu := hr.units
  have nd := sc_has_its_rule.nd
  refine ⟨rd_has_its_rule K c d, ?_, rk_has_its_rule h⟩
  exact (pss_cons (ps_if (PW.pt (pw_or (pt_not (pt_val (pe_cal C_is_whole hr (by decide) rfl (pa_cons (pv 2) pa_nil)))) (pw_or1 (pt_cmpR op_cLt (pv 2) pe_int (nomark _))))) (pss_one (ps_ret pe_bl)) pss_nil)
      (pss_cons (ps_if (pt_cmpR (op_cEq hu) (pv 1) pe_str (nomark _)) (pss_one (ps_ret (pe_cmpR (op_cEq hu) (pv 2) pe_int (nomark _)))) pss_nil)
      (pss_cons (ps_set (i := 4) nd rfl (Or.inl rfl) (pe_methK0 M_rules hr (by decide) (pv 0)))
      (pss_cons (ps_if (pt_cmpR op_cGe (pv 2) (pe_callB call_kLen rfl B.len_ bt_len (pa_cons (pv 4) pa_nil)) (nomark _)) (pss_one (ps_ret pe_bl)) pss_nil)
      (pss_one (ps_ret (pe_and (pe_cal C_goes_by hr (by decide) rfl (pa_cons (pv 1) (pa_cons (pe_ix (ix_c hu) (pv 4) (pv 2) (fun _ _ => rfl)) pa_nil))) (pe_one (pe_cmpR (op_cIn hu) (pv 3) (pe_methK0 M_spots hr (by decide) (pe_ix (ix_c hu) (pv 4) (pv 2) (fun _ _ => rfl))) (by with_unfolding_all rfl))))))))))
theorem ok_has_its_rule {P : Program} {w : World} {K : PySem.W.Frag} {mg : Str → Option Value} {base : Heap} (B : Bt2 mg) {c : RCl RK} {d : RCl PzK} (C_goes_by : Cal P w K mg base 2 "goes_by" ["kind", "rule"] (sp_goes_by K c)) (C_is_whole : Cal P w K mg base 1 "is_whole" ["value"] (sp_is_whole K)) (M_rules : MCal P w K mg base d d.ok 1 "rules" ["self"] (sp_rules K c d)) (M_spots : MCal P w K mg base c c.ok 1 "spots" ["self"] (sp_spots K c)) {f : Addr} {fd : FuncData} (F : Fun K "has_its_rule" "has_its_rule" s_has_its_rule f fd) (hm : mg "has_its_rule" = some (.ref f)) : Cal P w K mg base 3 "has_its_rule" ["puzzle", "kind", "number", "cell"] (sp_has_its_rule K c d) :=
  ⟨f, fd, fn_has_its_rule B C_goes_by C_is_whole M_rules M_spots F, hm, F.kp, F.binds (ps := ["puzzle", "kind", "number", "cell"]) fun _ _ _ _ _ _ us hl => match us, hl with | [_, _, _, _], _ => rfl⟩
abbrev s_is_no_greater : Stmt := top 47
theorem sc_is_no_greater : FnScope ["sign", "mask"] ["sign", "mask"] (defScope s_is_no_greater) := ⟨rfl, rfl, rfl, by decide +kernel, rfl, by decide +kernel, by decide +kernel⟩
set_option maxHeartbeats 4000000 in
theorem fn_is_no_greater {P : Program} {w : World} {K : PySem.W.Frag} {mg : Str → Option Value} {base : Heap} (B : Bt2 mg) (C_signs_in : Cal P w K mg base 2 "signs_in" ["mask"] (sp_signs_in K)) {f : Addr} {fd : FuncData} (F : Fun K "is_no_greater" "is_no_greater" s_is_no_greater f fd) : FnOk P w K mg base CX0 3 f fd ["sign", "mask"] (sp_is_no_greater K) := by
  refine F.ok sc_is_no_greater (fun vs H Q E h => sl_is_no_greater h) (fun cdv A outer s H vs Q E hr h => ?_)
  have hu := hr.units
  have nd := sc_is_no_greater.nd
  refine ⟨rd_is_no_greater K, ?_, rk_is_no_greater h⟩
  exact (pss_one (ps_ret (pe_callB (call_kAll rfl) rfl B.all_ bt_all (pa_cons (pe_comp (ix := [none, none, some 0]) [".0", "other", "sign"] (blk_ok2 rfl (by decide +kernel) rfl rfl rfl) rfl (pi_list (pe_cal C_signs_in hr (by decide) rfl (pa_cons (pv 1) pa_nil))) (fun cl s H fp => (pg_name (i := 1) (show ([".0", "other", "sign"] : List Str).Nodup by decide +kernel) rfl (Or.inl rfl))) (fun cl s H fp => pts_nil) (fun cl s H fp => (pe_cmpR op_cLe (pv 2) (pv 1) (nomark _)))) pa_nil))))
theorem ok_is_no_greater {P : Program} {w : World} {K : PySem.W.Frag} {mg : Str → Option Value} {base : Heap} (B : Bt2 mg) (C_signs_in : Cal P w K mg base 2 "signs_in" ["mask"] (sp_signs_in K)) {f : Addr} {fd : FuncData} (F : Fun K "is_no_greater" "is_no_greater" s_is_no_greater f fd) (hm : mg "is_no_greater" = some (.ref f)) : Cal P w K mg base 3 "is_no_greater" ["sign", "mask"] (sp_is_no_greater K) :=
  ⟨f, fd, fn_is_no_greater B C_signs_in F, hm, F.kp, F.binds (ps := ["sign", "mask"]) fun _ _ _ _ _ _ us hl => match us, hl with | [_, _], _ => rfl⟩
abbrev s_is_no_less : Stmt := top 48
theorem sc_is_no_less : FnScope ["sign", "mask"] ["sign", "mask"] (defScope s_is_no_less) := ⟨rfl, rfl, rfl, by decide +kernel, rfl, by decide +kernel, by decide +kernel⟩
set_option maxHeartbeats 4000000 in
theorem fn_is_no_less {P : Program} {w : World} {K : PySem.W.Frag} {mg : Str → Option Value} {base : Heap} (B : Bt2 mg) (C_signs_in : Cal P w K mg base 2 "signs_in" ["mask"] (sp_signs_in K)) {f : Addr} {fd : FuncData} (F : Fun K "is_no_less" "is_no_less" s_is_no_less f fd) : FnOk P w K mg base CX0 3 f fd ["sign", "mask"] (sp_is_no_less K) := by
  refine F.ok sc_is_no_less (fun vs H Q E h => sl_is_no_less h) (fun cdv A outer s H vs Q E hr h => ?_)
  have hu := hr.units
  have nd := sc_is_no_less.nd
  refine ⟨rd_is_no_less K, ?_, rk_is_no_less h⟩
  exact (pss_one (ps_ret (pe_callB (call_kAll rfl) rfl B.all_ bt_all (pa_cons (pe_comp (ix := [none, none, some 0]) [".0", "other", "sign"] (blk_ok2 rfl (by decide +kernel) rfl rfl rfl) rfl (pi_list (pe_cal C_signs_in hr (by decide) rfl (pa_cons (pv 1) pa_nil))) (fun cl s H fp => (pg_name (i := 1) (show ([".0", "other", "sign"] : List Str).Nodup by decide +kernel) rfl (Or.inl rfl))) (fun cl s H fp => pts_nil) (fun cl s H fp => (pe_cmpR op_cGe (pv 2) (pv 1) (nomark _)))) pa_nil))))
theorem ok_is_no_less {P : Program} {w : World} {K : PySem.W.Frag} {mg : Str → Option Value} {base : Heap} (B : Bt2 mg) (C_signs_in : Cal P w K mg base 2 "signs_in" ["mask"] (sp_signs_in K)) {f : Addr} {fd : FuncData} (F : Fun K "is_no_less" "is_no_less" s_is_no_less f fd) (hm : mg "is_no_less" = some (.ref f)) : Cal P w K mg base 3 "is_no_less" ["sign", "mask"] (sp_is_no_less K) :=
  ⟨f, fd, fn_is_no_less B C_signs_in F, hm, F.kp, F.binds (ps := ["sign", "mask"]) fun _ _ _ _ _ _ us hl => match us, hl with | [_, _], _ => rfl⟩
abbrev s_first_within : Stmt := top 93
theorem sc_first_within : FnScope ["words", "least", "most"] ["words", "least", "most"] (defScope s_first_within) := ⟨rfl, rfl, rfl, by decide +kernel, rfl, by decide +kernel, by decide +kernel⟩
set_option maxHeartbeats 4000000 in
theorem fn_first_within {P : Program} {w : World} {K : PySem.W.Frag} {mg : Str → Option Value} {base : Heap} (B : Bt2 mg) (C_number_within : Cal P w K mg base 2 "number_within" ["word", "least", "most"] (sp_number_within K)) {f : Addr} {fd : FuncData} (F : Fun K "first_within" "first_within" s_first_within f fd) : FnOk P w K mg base CX0 3 f fd ["words", "least", "most"] (sp_first_within K) := by
  refine F.ok sc_first_within (fun vs H Q E h => sl_first_within h) (fun cdv A outer s H vs Q E hr h => ?_)
  have hu := hr.units
  have nd := sc_first_within.nd
  refine ⟨rd_first_within K, ?_, rk_first_within h⟩
  exact (pss_cons (ps_if (pt_cmpR (op_cEq hu) (pv 0) (pe_lst pa_nil) (nomark _)) (pss_one ps_never) pss_nil)
      (pss_one (ps_ret (pe_cal C_number_within hr (by decide) rfl (pa_cons (pe_ix (ix_c hu) (pv 0) pe_int (fun _ _ => rfl)) (pa_cons (pv 1) (pa_cons (pv 2) pa_nil)))))))
theorem ok_first_within {P : Program} {w : World} {K : PySem.W.Frag} {mg : Str → Option Value} {base : Heap} (B : Bt2 mg) (C_number_within : Cal P w K mg base 2 "number_within" ["word", "least", "most"] (sp_number_within K)) {f : Addr} {fd : FuncData} (F : Fun K "first_within" "first_within" s_first_within f fd) (hm : mg "first_within" = some (.ref f)) : Cal P w K mg base 3 "first_within" ["words", "least", "most"] (sp_first_within K) :=
  ⟨f, fd, fn_first_within B C_number_within F, hm, F.kp, F.binds (ps := ["words", "least", "most"]) fun _ _ _ _ _ _ us hl => match us, hl with | [_, _, _], _ => rfl⟩
abbrev s_told_cells : Stmt := top 94
theorem sc_told_cells : FnScope ["floor", "words", "cells"] ["floor", "words"] (defScope s_told_cells) := ⟨rfl, rfl, rfl, by decide +kernel, rfl, by decide +kernel, by decide +kernel⟩
set_option maxHeartbeats 4000000 in
theorem fn_told_cells {P : Program} {w : World} {K : PySem.W.Frag} {mg : Str → Option Value} {base : Heap} (B : Bt2 mg) (C_many_cells : Cal P w K mg base 1 "many_cells" ["floor"] (sp_many_cells K)) (C_number_within : Cal P w K mg base 2 "number_within" ["word", "least", "most"] (sp_number_within K)) {f : Addr} {fd : FuncData} (F : Fun K "told_cells" "told_cells" s_told_cells f fd) : FnOk P w K mg base CX0 3 f fd ["floor", "words"] (sp_told_cells K) := by
  refine F.ok sc_told_cells (fun vs H Q E h => sl_told_cells h) (fun cdv A outer s H vs Q E hr h => ?_)
  have hu := hr.units
  have nd := sc_told_cells.nd
  refine ⟨rd_told_cells K, ?_, rk_told_cells h⟩
  exact (pss_cons (ps_comp (k := 2) nd rfl (Or.inl rfl) rfl (ix := [none, none, some 0]) [".0", "word", "floor"] (blk_ok2 rfl (by decide +kernel) rfl rfl rfl) rfl (pi_list (pv 1)) (fun cl s H fp => (pg_name (i := 1) (show ([".0", "word", "floor"] : List Str).Nodup by decide +kernel) rfl (Or.inl rfl))) (fun cl s H fp => pts_nil) (fun cl s H fp => (pe_cal C_number_within hr (by decide) rfl (pa_cons (pv 1) (pa_cons pe_int (pa_cons (pe_op op_cSub (pe_cal C_many_cells hr (by decide) rfl (pa_cons (pv 2) pa_nil)) pe_int) pa_nil))))))
      (pss_cons (ps_if (pt_cmpR (op_cEq hu) (pv 2) (pe_lst pa_nil) (nomark _)) (pss_one ps_never) pss_nil)
      (pss_cons (ps_if (pt_cmpR (op_cNe hu) (pe_lenset rfl rfl rfl B.len_ B.set_ (pv 2)) (pe_callB call_kLen rfl B.len_ bt_len (pa_cons (pv 2) pa_nil)) (nomark _)) (pss_one ps_never) pss_nil)
      (pss_one (ps_ret (pv 2))))))
theorem ok_told_cells {P : Program} {w : World} {K : PySem.W.Frag} {mg : Str → Option Value} {base : Heap} (B : Bt2 mg) (C_many_cells : Cal P w K mg base 1 "many_cells" ["floor"] (sp_many_cells K)) (C_number_within : Cal P w K mg base 2 "number_within" ["word", "least", "most"] (sp_number_within K)) {f : Addr} {fd : FuncData} (F : Fun K "told_cells" "told_cells" s_told_cells f fd) (hm : mg "told_cells" = some (.ref f)) : Cal P w K mg base 3 "told_cells" ["floor", "words"] (sp_told_cells K) :=
  ⟨f, fd, fn_told_cells B C_many_cells C_number_within F, hm, F.kp, F.binds (ps := ["floor", "words"]) fun _ _ _ _ _ _ us hl => match us, hl with | [_, _], _ => rfl⟩
abbrev s_rule_by : Stmt := top 96
theorem sc_rule_by : FnScope ["floor", "words", "cells", "amount", "mark", "name"] ["floor", "words", "cells", "amount", "mark"] (defScope s_rule_by) := ⟨rfl, rfl, rfl, by decide +kernel, rfl, by decide +kernel, by decide +kernel⟩
set_option maxHeartbeats 4000000 in
theorem fn_rule_by {P : Program} {w : World} {K : PySem.W.Frag} {mg : Str → Option Value} {base : Heap} (B : Bt2 mg) {c : RCl RK}  (K_Count : KCal P w K mg base 1 "Count" (c.A .Count) ["self", "floor", "words", "cells", "amount", "mark"] (sp_Rule___init__ K c)) (K_Joined : KCal P w K mg base 1 "Joined" (c.A .Joined) ["self", "floor", "words", "cells", "amount", "mark"] (sp_Rule___init__ K c)) (K_NoSquare : KCal P w K mg base 1 "NoSquare" (c.A .NoSquare) ["self", "floor", "words", "cells", "amount", "mark"] (sp_Rule___init__ K c)) (K_Ring : KCal P w K mg base 1 "Ring" (c.A .Ring) ["self", "floor", "words", "cells", "amount", "mark"] (sp_Rule___init__ K c)) (K_Rising : KCal P w K mg base 1 "Rising" (c.A .Rising) ["self", "floor", "words", "cells", "amount", "mark"] (sp_Rule___init__ K c)) (K_Seen : KCal P w K mg base 1 "Seen" (c.A .Seen) ["self", "floor", "words", "cells", "amount", "mark"] (sp_Rule___init__ K c)) (K_Sum : KCal P w K mg base 1 "Sum" (c.A .Sum) ["self", "floor", "words", "cells", "amount", "mark"] (sp_Rule___init__ K c)) (K_Unlike : KCal P w K mg base 1 "Unlike" (c.A .Unlike) ["self", "floor", "words", "cells", "amount", "mark"] (sp_Rule___init__ K c)) {f : Addr} {fd : FuncData} (F : Fun K "rule_by" "rule_by" s_rule_by f fd) : FnOk P w K mg base CX0 3 f fd ["floor", "words", "cells", "amount", "mark"] (sp_rule_by K c) := by
  refine F.ok sc_rule_by (fun vs H Q E h => sl_rule_by h) (fun cdv A outer s H vs Q E hr h => ?_)
  have hu := hr.units
  have nd := sc_rule_by.nd
  refine ⟨rd_rule_by K c, ?_, rk_rule_by h⟩
  exact (pss_cons (ps_set (i := 5) nd rfl (Or.inl rfl) (pe_ix (ix_c hu) (pv 1) pe_int (fun _ _ => rfl)))
      (pss_cons (ps_if (pt_cmpR (op_cEq hu) (pv 5) pe_str (nomark _)) (pss_one (ps_ret (pe_mk K_Unlike hr (by decide) rfl (pa_cons (pv 0) (pa_cons (pv 1) (pa_cons (pv 2) (pa_cons (pv 3) (pa_cons (pv 4) pa_nil)))))))) pss_nil)
      (pss_cons (ps_if (pt_cmpR (op_cEq hu) (pv 5) pe_str (nomark _)) (pss_one (ps_ret (pe_mk K_Sum hr (by decide) rfl (pa_cons (pv 0) (pa_cons (pv 1) (pa_cons (pv 2) (pa_cons (pv 3) (pa_cons (pv 4) pa_nil)))))))) pss_nil)
      (pss_cons (ps_if (pt_cmpR (op_cEq hu) (pv 5) pe_str (nomark _)) (pss_one (ps_ret (pe_mk K_Rising hr (by decide) rfl (pa_cons (pv 0) (pa_cons (pv 1) (pa_cons (pv 2) (pa_cons (pv 3) (pa_cons (pv 4) pa_nil)))))))) pss_nil)
      (pss_cons (ps_if (pt_cmpR (op_cEq hu) (pv 5) pe_str (nomark _)) (pss_one (ps_ret (pe_mk K_Seen hr (by decide) rfl (pa_cons (pv 0) (pa_cons (pv 1) (pa_cons (pv 2) (pa_cons (pv 3) (pa_cons (pv 4) pa_nil)))))))) pss_nil)
      (pss_cons (ps_if (pt_cmpR (op_cEq hu) (pv 5) pe_str (nomark _)) (pss_one (ps_ret (pe_mk K_Count hr (by decide) rfl (pa_cons (pv 0) (pa_cons (pv 1) (pa_cons (pv 2) (pa_cons (pv 3) (pa_cons (pv 4) pa_nil)))))))) pss_nil)
      (pss_cons (ps_if (pt_cmpR (op_cEq hu) (pv 5) pe_str (nomark _)) (pss_one (ps_ret (pe_mk K_Joined hr (by decide) rfl (pa_cons (pv 0) (pa_cons (pv 1) (pa_cons (pv 2) (pa_cons (pv 3) (pa_cons (pv 4) pa_nil)))))))) pss_nil)
      (pss_cons (ps_if (pt_cmpR (op_cEq hu) (pv 5) pe_str (nomark _)) (pss_one (ps_ret (pe_mk K_NoSquare hr (by decide) rfl (pa_cons (pv 0) (pa_cons (pv 1) (pa_cons (pv 2) (pa_cons (pv 3) (pa_cons (pv 4) pa_nil)))))))) pss_nil)
      (pss_cons (ps_if (pt_cmpR (op_cEq hu) (pv 5) pe_str (nomark _)) (pss_one (ps_ret (pe_mk K_Ring hr (by decide) rfl (pa_cons (pv 0) (pa_cons (pv 1) (pa_cons (pv 2) (pa_cons (pv 3) (pa_cons (pv 4) pa_nil)))))))) pss_nil)
      (pss_one ps_never))))))))))
theorem ok_rule_by {P : Program} {w : World} {K : PySem.W.Frag} {mg : Str → Option Value} {base : Heap} (B : Bt2 mg) {c : RCl RK}  (K_Count : KCal P w K mg base 1 "Count" (c.A .Count) ["self", "floor", "words", "cells", "amount", "mark"] (sp_Rule___init__ K c)) (K_Joined : KCal P w K mg base 1 "Joined" (c.A .Joined) ["self", "floor", "words", "cells", "amount", "mark"] (sp_Rule___init__ K c)) (K_NoSquare : KCal P w K mg base 1 "NoSquare" (c.A .NoSquare) ["self", "floor", "words", "cells", "amount", "mark"] (sp_Rule___init__ K c)) (K_Ring : KCal P w K mg base 1 "Ring" (c.A .Ring) ["self", "floor", "words", "cells", "amount", "mark"] (sp_Rule___init__ K c)) (K_Rising : KCal P w K mg base 1 "Rising" (c.A .Rising) ["self", "floor", "words", "cells", "amount", "mark"] (sp_Rule___init__ K c)) (K_Seen : KCal P w K mg base 1 "Seen" (c.A .Seen) ["self", "floor", "words", "cells", "amount", "mark"] (sp_Rule___init__ K c)) (K_Sum : KCal P w K mg base 1 "Sum" (c.A .Sum) ["self", "floor", "words", "cells", "amount", "mark"] (sp_Rule___init__ K c)) (K_Unlike : KCal P w K mg base 1 "Unlike" (c.A .Unlike) ["self", "floor", "words", "cells", "amount", "mark"] (sp_Rule___init__ K c)) {f : Addr} {fd : FuncData} (F : Fun K "rule_by" "rule_by" s_rule_by f fd) (hm : mg "rule_by" = some (.ref f)) : Cal P w K mg base 3 "rule_by" ["floor", "words", "cells", "amount", "mark"] (sp_rule_by K c) :=
  ⟨f, fd, fn_rule_by B  K_Count K_Joined K_NoSquare K_Ring K_Rising K_Seen K_Sum K_Unlike F, hm, F.kp, F.binds (ps := ["floor", "words", "cells", "amount", "mark"]) fun _ _ _ _ _ _ us hl => match us, hl with | [_, _, _, _, _], _ => rfl⟩
abbrev s_checked_clues : Stmt := top 103
theorem sc_checked_clues : FnScope ["floor", "clues"] ["floor", "clues"] (defScope s_checked_clues) := ⟨rfl, rfl, rfl, by decide +kernel, rfl, by decide +kernel, by decide +kernel⟩
set_option maxHeartbeats 4000000 in
theorem fn_checked_clues {P : Program} {w : World} {K : PySem.W.Frag} {mg : Str → Option Value} {base : Heap} (B : Bt2 mg) (C_is_filling : Cal P w K mg base 2 "is_filling" ["floor", "filling", "least"] (sp_is_filling K)) {f : Addr} {fd : FuncData} (F : Fun K "checked_clues" "checked_clues" s_checked_clues f fd) : FnOk P w K mg base CX0 3 f fd ["floor", "clues"] (sp_checked_clues K) := by
  refine F.ok sc_checked_clues (fun vs H Q E h => sl_checked_clues h) (fun cdv A outer s H vs Q E hr h => ?_)
  have hu := hr.units
  have nd := sc_checked_clues.nd
  refine ⟨rd_checked_clues K, ?_, rk_checked_clues h⟩
  exact (pss_cons (ps_if (pt_not (pt_val (pe_cal C_is_filling hr (by decide) rfl (pa_cons (pv 0) (pa_cons (pv 1) (pa_cons pe_int pa_nil)))))) (pss_one ps_never) pss_nil)
      (pss_one (ps_ret (pe_callTy call_kList rfl B.list_ bt_list (pa_cons (pv 1) pa_nil)))))
theorem ok_checked_clues {P : Program} {w : World} {K : PySem.W.Frag} {mg : Str → Option Value} {base : Heap} (B : Bt2 mg) (C_is_filling : Cal P w K mg base 2 "is_filling" ["floor", "filling", "least"] (sp_is_filling K)) {f : Addr} {fd : FuncData} (F : Fun K "checked_clues" "checked_clues" s_checked_clues f fd) (hm : mg "checked_clues" = some (.ref f)) : Cal P w K mg base 3 "checked_clues" ["floor", "clues"] (sp_checked_clues K) :=
  ⟨f, fd, fn_checked_clues B C_is_filling F, hm, F.kp, F.binds (ps := ["floor", "clues"]) fun _ _ _ _ _ _ us hl => match us, hl with | [_, _], _ => rfl⟩
abbrev s_is_formed : Stmt := top 35
theorem sc_is_formed : FnScope ["puzzle", "thought", "floor"] ["puzzle", "thought"] (defScope s_is_formed) := ⟨rfl, rfl, rfl, by decide +kernel, rfl, by decide +kernel, by decide +kernel⟩
set_option maxHeartbeats 4000000 in
theorem fn_is_formed {P : Program} {w : World} {K : PySem.W.Frag} {mg : Str → Option Value} {base : Heap} (B : Bt2 mg) {c : RCl RK} {d : RCl PzK} (C_has_its_rule : Cal P w K mg base 3 "has_its_rule" ["puzzle", "kind", "number", "cell"] (sp_has_its_rule K c d)) (C_is_cell : Cal P w K mg base 2 "is_cell" ["floor", "value"] (sp_is_cell K)) (C_is_sign : Cal P w K mg base 3 "is_sign" ["floor", "value"] (sp_is_sign K)) (C_is_whole : Cal P w K mg base 1 "is_whole" ["value"] (sp_is_whole K)) (M_place : MCal P w K mg base d d.ok 1 "place" ["self"] (sp_place K c d)) (G_KINDS : GTup K mg "KINDS" gt_KINDS) {f : Addr} {fd : FuncData} (F : Fun K "is_formed" "is_formed" s_is_formed f fd) : FnOk P w K mg base CX0 4 f fd ["puzzle", "thought"] (sp_is_formed K c d) := by
  refine F.ok sc_is_formed (fun vs H Q E h => sl_is_formed h) (fun cdv A outer s H vs Q E hr h => ?_)
  have hu := hr.units
  have nd := sc_is_formed.nd
  refine ⟨rd_is_formed K c d, ?_, rk_is_formed h⟩
  exact (pss_cons (ps_if (PW.pt (pw_or (pt_not (pt_val (pe_callB call_kIsi rfl B.isinstance_ bt_isinstance (pa_cons (pv 1) (pa_cons (pe_bltn (v := .ty "tuple") rfl B.tuple_ bt_tuple rfl) pa_nil))))) (pw_or (pt_cmpR (op_cNe hu) (pe_callB call_kLen rfl B.len_ bt_len (pa_cons (pv 1) pa_nil)) pe_int (nomark _)) (pw_or1 (pt_ninG G_KINDS (pe_ix (ix_c hu) (pv 1) pe_int (fun _ _ => rfl)) rfl))))) (pss_one (ps_ret pe_bl)) pss_nil)
      (pss_cons (ps_set (i := 2) nd rfl (Or.inl rfl) (pe_methK0 M_place hr (by decide) (pv 0)))
      (pss_cons (ps_if (PW.pt (pw_or (pt_not (pt_val (pe_cal C_is_cell hr (by decide) rfl (pa_cons (pv 2) (pa_cons (pe_ix (ix_c hu) (pv 1) pe_int (fun _ _ => rfl)) pa_nil))))) (pw_or1 (pt_not (pt_val (pe_cal C_is_sign hr (by decide) rfl (pa_cons (pv 2) (pa_cons (pe_ix (ix_c hu) (pv 1) pe_int (fun _ _ => rfl)) pa_nil)))))))) (pss_one (ps_ret pe_bl)) pss_nil)
      (pss_cons (ps_if (pt_not (pt_val (pe_cal C_has_its_rule hr (by decide) rfl (pa_cons (pv 0) (pa_cons (pe_ix (ix_c hu) (pv 1) pe_int (fun _ _ => rfl)) (pa_cons (pe_ix (ix_c hu) (pv 1) pe_int (fun _ _ => rfl)) (pa_cons (pe_ix (ix_c hu) (pv 1) pe_int (fun _ _ => rfl)) pa_nil))))))) (pss_one (ps_ret pe_bl)) pss_nil)
      (pss_one (ps_ret (pe_and (pe_callB call_kIsi rfl B.isinstance_ bt_isinstance (pa_cons (pe_ix (ix_c hu) (pv 1) pe_int (fun _ _ => rfl)) (pa_cons (pe_bltn (v := .ty "list") rfl B.list_ bt_list rfl) pa_nil))) (pe_one (pe_callB (call_kAll rfl) rfl B.all_ bt_all (pa_cons (pe_comp (ix := [none, none]) [".0", "part"] (blk_ok2 rfl (by decide +kernel) rfl rfl rfl) rfl (pi_list (pe_ix (ix_c hu) (pv 1) pe_int (fun _ _ => rfl))) (fun cl s H fp => (pg_name (i := 1) (show ([".0", "part"] : List Str).Nodup by decide +kernel) rfl (Or.inl rfl))) (fun cl s H fp => pts_nil) (fun cl s H fp => (pe_cal C_is_whole hr (by decide) rfl (pa_cons (pv 1) pa_nil)))) pa_nil))))))))))
theorem ok_is_formed {P : Program} {w : World} {K : PySem.W.Frag} {mg : Str → Option Value} {base : Heap} (B : Bt2 mg) {c : RCl RK} {d : RCl PzK} (C_has_its_rule : Cal P w K mg base 3 "has_its_rule" ["puzzle", "kind", "number", "cell"] (sp_has_its_rule K c d)) (C_is_cell : Cal P w K mg base 2 "is_cell" ["floor", "value"] (sp_is_cell K)) (C_is_sign : Cal P w K mg base 3 "is_sign" ["floor", "value"] (sp_is_sign K)) (C_is_whole : Cal P w K mg base 1 "is_whole" ["value"] (sp_is_whole K)) (M_place : MCal P w K mg base d d.ok 1 "place" ["self"] (sp_place K c d)) (G_KINDS : GTup K mg "KINDS" gt_KINDS) {f : Addr} {fd : FuncData} (F : Fun K "is_formed" "is_formed" s_is_formed f fd) (hm : mg "is_formed" = some (.ref f)) : Cal P w K mg base 4 "is_formed" ["puzzle", "thought"] (sp_is_formed K c d) :=
  ⟨f, fd, fn_is_formed B C_has_its_rule C_is_cell C_is_sign C_is_whole M_place G_KINDS F, hm, F.kp, F.binds (ps := ["puzzle", "thought"]) fun _ _ _ _ _ _ us hl => match us, hl with | [_, _], _ => rfl⟩
abbrev s_step_strikes : Stmt := top 49
theorem sc_step_strikes : FnScope ["rule", "masks", "cell", "sign", "more"] ["rule", "masks", "cell", "sign", "more"] (defScope s_step_strikes) := ⟨rfl, rfl, rfl, by decide +kernel, rfl, by decide +kernel, by decide +kernel⟩
set_option maxHeartbeats 4000000 in
theorem fn_step_strikes {P : Program} {w : World} {K : PySem.W.Frag} {mg : Str → Option Value} {base : Heap} (B : Bt2 mg) {c : RCl RK} (C_ahead_of : Cal P w K mg base 2 "ahead_of" ["rule", "cell"] (sp_ahead_of K c)) (C_behind : Cal P w K mg base 2 "behind" ["rule", "cell"] (sp_behind K c)) (C_is_no_greater : Cal P w K mg base 3 "is_no_greater" ["sign", "mask"] (sp_is_no_greater K)) (C_is_no_less : Cal P w K mg base 3 "is_no_less" ["sign", "mask"] (sp_is_no_less K)) {f : Addr} {fd : FuncData} (F : Fun K "step_strikes" "step_strikes" s_step_strikes f fd) : FnOk P w K mg base CX0 4 f fd ["rule", "masks", "cell", "sign", "more"] (sp_step_strikes K c) := by
  refine F.ok sc_step_strikes (fun vs H Q E h => sl_step_strikes h) (fun cdv A outer s H vs Q E hr h => ?_)
  have hu := hr.units
  have nd := sc_step_strikes.nd
  refine ⟨rd_step_strikes K c, ?_, rk_step_strikes h⟩
  exact (pss_cons (ps_if (pt_cmpR (op_cNe hu) (pv 4) (pe_lst pa_nil) (nomark _)) (pss_one (ps_ret pe_bl)) pss_nil)
      (pss_cons (ps_if (pt_val (pe_callB (call_kAny rfl) rfl B.any_ bt_any (pa_cons (pe_comp (ix := [none, none, some 1, some 3]) [".0", "other", "masks", "sign"] (blk_ok2 rfl (by decide +kernel) rfl rfl rfl) rfl (pi_list (pe_cal C_ahead_of hr (by decide) rfl (pa_cons (pv 0) (pa_cons (pv 2) pa_nil)))) (fun cl s H fp => (pg_name (i := 1) (show ([".0", "other", "masks", "sign"] : List Str).Nodup by decide +kernel) rfl (Or.inl rfl))) (fun cl s H fp => pts_nil) (fun cl s H fp => (pe_cal C_is_no_greater hr (by decide) rfl (pa_cons (pv 3) (pa_cons (pe_ix (ix_c hu) (pv 2) (pv 1) (fun _ _ => rfl)) pa_nil))))) pa_nil))) (pss_one (ps_ret pe_bl)) pss_nil)
      (pss_one (ps_ret (pe_callB (call_kAny rfl) rfl B.any_ bt_any (pa_cons (pe_comp (ix := [none, none, some 1, some 3]) [".0", "other", "masks", "sign"] (blk_ok2 rfl (by decide +kernel) rfl rfl rfl) rfl (pi_list (pe_cal C_behind hr (by decide) rfl (pa_cons (pv 0) (pa_cons (pv 2) pa_nil)))) (fun cl s H fp => (pg_name (i := 1) (show ([".0", "other", "masks", "sign"] : List Str).Nodup by decide +kernel) rfl (Or.inl rfl))) (fun cl s H fp => pts_nil) (fun cl s H fp => (pe_cal C_is_no_less hr (by decide) rfl (pa_cons (pv 3) (pa_cons (pe_ix (ix_c hu) (pv 2) (pv 1) (fun _ _ => rfl)) pa_nil))))) pa_nil))))))
theorem ok_step_strikes {P : Program} {w : World} {K : PySem.W.Frag} {mg : Str → Option Value} {base : Heap} (B : Bt2 mg) {c : RCl RK} (C_ahead_of : Cal P w K mg base 2 "ahead_of" ["rule", "cell"] (sp_ahead_of K c)) (C_behind : Cal P w K mg base 2 "behind" ["rule", "cell"] (sp_behind K c)) (C_is_no_greater : Cal P w K mg base 3 "is_no_greater" ["sign", "mask"] (sp_is_no_greater K)) (C_is_no_less : Cal P w K mg base 3 "is_no_less" ["sign", "mask"] (sp_is_no_less K)) {f : Addr} {fd : FuncData} (F : Fun K "step_strikes" "step_strikes" s_step_strikes f fd) (hm : mg "step_strikes" = some (.ref f)) : Cal P w K mg base 4 "step_strikes" ["rule", "masks", "cell", "sign", "more"] (sp_step_strikes K c) :=
  ⟨f, fd, fn_step_strikes B C_ahead_of C_behind C_is_no_greater C_is_no_less F, hm, F.kp, F.binds (ps := ["rule", "masks", "cell", "sign", "more"]) fun _ _ _ _ _ _ us hl => match us, hl with | [_, _, _, _, _], _ => rfl⟩
abbrev s_cells_of : Stmt := top 95
theorem sc_cells_of : FnScope ["floor", "name", "words"] ["floor", "name", "words"] (defScope s_cells_of) := ⟨rfl, rfl, rfl, by decide +kernel, rfl, by decide +kernel, by decide +kernel⟩
set_option maxHeartbeats 4000000 in
theorem fn_cells_of {P : Program} {w : World} {K : PySem.W.Frag} {mg : Str → Option Value} {base : Heap} (B : Bt2 mg) (C_many_cells : Cal P w K mg base 1 "many_cells" ["floor"] (sp_many_cells K)) (C_told_cells : Cal P w K mg base 3 "told_cells" ["floor", "words"] (sp_told_cells K)) (G_OF_ALL_CELLS : GTup K mg "OF_ALL_CELLS" gt_OF_ALL_CELLS) {f : Addr} {fd : FuncData} (F : Fun K "cells_of" "cells_of" s_cells_of f fd) : FnOk P w K mg base CX0 4 f fd ["floor", "name", "words"] (sp_cells_of K) := by
  refine F.ok sc_cells_of (fun vs H Q E h => sl_cells_of h) (fun cdv A outer s H vs Q E hr h => ?_)
  have hu := hr.units
  have nd := sc_cells_of.nd
  refine ⟨rd_cells_of K, ?_, rk_cells_of h⟩
  exact (pss_cons (ps_if (pt_ninG G_OF_ALL_CELLS (pv 1) rfl) (pss_one (ps_ret (pe_cal C_told_cells hr (by decide) rfl (pa_cons (pv 0) (pa_cons (pv 2) pa_nil))))) pss_nil)
      (pss_cons (ps_if (pt_cmpR (op_cNe hu) (pv 2) (pe_lst pa_nil) (nomark _)) (pss_one ps_never) pss_nil)
      (pss_one (ps_ret (pe_listrng1 rfl rfl rfl B.list_ B.range_ (pa_cons (pe_cal C_many_cells hr (by decide) rfl (pa_cons (pv 0) pa_nil)) pa_nil))))))
theorem ok_cells_of {P : Program} {w : World} {K : PySem.W.Frag} {mg : Str → Option Value} {base : Heap} (B : Bt2 mg) (C_many_cells : Cal P w K mg base 1 "many_cells" ["floor"] (sp_many_cells K)) (C_told_cells : Cal P w K mg base 3 "told_cells" ["floor", "words"] (sp_told_cells K)) (G_OF_ALL_CELLS : GTup K mg "OF_ALL_CELLS" gt_OF_ALL_CELLS) {f : Addr} {fd : FuncData} (F : Fun K "cells_of" "cells_of" s_cells_of f fd) (hm : mg "cells_of" = some (.ref f)) : Cal P w K mg base 4 "cells_of" ["floor", "name", "words"] (sp_cells_of K) :=
  ⟨f, fd, fn_cells_of B C_many_cells C_told_cells G_OF_ALL_CELLS F, hm, F.kp, F.binds (ps := ["floor", "name", "words"]) fun _ _ _ _ _ _ us hl => match us, hl with | [_, _, _], _ => rfl⟩
abbrev s_checked_floor : Stmt := top 100
theorem sc_checked_floor : FnScope ["floor"] ["floor"] (defScope s_checked_floor) := ⟨rfl, rfl, rfl, by decide +kernel, rfl, by decide +kernel, by decide +kernel⟩
set_option maxHeartbeats 4000000 in
theorem fn_checked_floor {P : Program} {w : World} {K : PySem.W.Frag} {mg : Str → Option Value} {base : Heap} (B : Bt2 mg) (C_floor_of : Cal P w K mg base 3 "floor_of" ["high", "wide", "signs"] (sp_floor_of K)) {f : Addr} {fd : FuncData} (F : Fun K "checked_floor" "checked_floor" s_checked_floor f fd) : FnOk P w K mg base CX0 4 f fd ["floor"] (sp_checked_floor K) := by
  refine F.ok sc_checked_floor (fun vs H Q E h => sl_checked_floor h) (fun cdv A outer s H vs Q E hr h => ?_)
  have hu := hr.units
  have nd := sc_checked_floor.nd
  refine ⟨rd_checked_floor K, ?_, rk_checked_floor h⟩
  exact (pss_cons (ps_if (PW.pt (pw_or (pt_not (pt_val (pe_callB call_kIsi rfl B.isinstance_ bt_isinstance (pa_cons (pv 0) (pa_cons (pe_bltn (v := .ty "tuple") rfl B.tuple_ bt_tuple rfl) pa_nil))))) (pw_or1 (pt_cmpR (op_cNe hu) (pe_callB call_kLen rfl B.len_ bt_len (pa_cons (pv 0) pa_nil)) pe_int (nomark _))))) (pss_one ps_never) pss_nil)
      (pss_one (ps_ret (pe_cal C_floor_of hr (by decide) rfl (pa_cons (pe_ix (ix_c hu) (pv 0) pe_int (fun _ _ => rfl)) (pa_cons (pe_ix (ix_c hu) (pv 0) pe_int (fun _ _ => rfl)) (pa_cons (pe_ix (ix_c hu) (pv 0) pe_int (fun _ _ => rfl)) pa_nil)))))))
theorem ok_checked_floor {P : Program} {w : World} {K : PySem.W.Frag} {mg : Str → Option Value} {base : Heap} (B : Bt2 mg) (C_floor_of : Cal P w K mg base 3 "floor_of" ["high", "wide", "signs"] (sp_floor_of K)) {f : Addr} {fd : FuncData} (F : Fun K "checked_floor" "checked_floor" s_checked_floor f fd) (hm : mg "checked_floor" = some (.ref f)) : Cal P w K mg base 4 "checked_floor" ["floor"] (sp_checked_floor K) :=
  ⟨f, fd, fn_checked_floor B C_floor_of F, hm, F.kp, F.binds (ps := ["floor"]) fun _ _ _ _ _ _ us hl => match us, hl with | [_], _ => rfl⟩
abbrev s_strikes_by_line : Stmt := top 52
theorem sc_strikes_by_line : FnScope ["puzzle", "masks", "thought", "kind", "cell", "sign", "more", "rule"] ["puzzle", "masks", "thought"] (defScope s_strikes_by_line) := ⟨rfl, rfl, rfl, by decide +kernel, rfl, by decide +kernel, by decide +kernel⟩
set_option maxHeartbeats 4000000 in
theorem fn_strikes_by_line {P : Program} {w : World} {K : PySem.W.Frag} {mg : Str → Option Value} {base : Heap} (B : Bt2 mg) {c : RCl RK} {d : RCl PzK} (C_step_strikes : Cal P w K mg base 4 "step_strikes" ["rule", "masks", "cell", "sign", "more"] (sp_step_strikes K c)) (M_clues : MCal P w K mg base d d.ok 1 "clues" ["self"] (sp_clues K c d)) (M_place : MCal P w K mg base d d.ok 1 "place" ["self"] (sp_place K c d)) (M_rules : MCal P w K mg base d d.ok 1 "rules" ["self"] (sp_rules K c d)) {f : Addr} {fd : FuncData} (F : Fun K "strikes_by_line" "strikes_by_line" s_strikes_by_line f fd) : FnOk P w K mg base CX0 5 f fd ["puzzle", "masks", "thought"] (sp_strikes_by_line35 K c d) := by
  refine F.ok sc_strikes_by_line (fun vs H Q E h => sl_strikes_by_line35 h) (fun cdv A outer s H vs Q E hr h => ?_)
  have hu := hr.units
  have nd := sc_strikes_by_line.nd
  refine ⟨rd_strikes_by_line35 K c d, ?_, rk_strikes_by_line35 h⟩
  exact (pss_cons (ps_set (i := 3) nd rfl (Or.inl rfl) (pe_ix (ix_c hu) (pv 2) pe_int (fun _ _ => rfl)))
      (pss_cons (ps_set (i := 4) nd rfl (Or.inl rfl) (pe_ix (ix_c hu) (pv 2) pe_int (fun _ _ => rfl)))
      (pss_cons (ps_set (i := 5) nd rfl (Or.inl rfl) (pe_ix (ix_c hu) (pv 2) pe_int (fun _ _ => rfl)))
      (pss_cons (ps_set (i := 6) nd rfl (Or.inl rfl) (pe_ix (ix_c hu) (pv 2) pe_int (fun _ _ => rfl)))
      (pss_cons (ps_if (pt_cmpR (op_cEq hu) (pv 3) pe_str (nomark _)) (pss_one (ps_ret pe_neverE)) pss_nil)
      (pss_cons (ps_set (i := 7) nd rfl (Or.inl rfl) (pe_ix (ix_c hu) (pe_methK0 M_rules hr (by decide) (pv 0)) (pe_ix (ix_c hu) (pv 2) pe_int (fun _ _ => rfl)) (fun _ _ => rfl)))
      (pss_cons (ps_if (pt_cmpR (op_cEq hu) (pv 3) pe_str (nomark _)) (pss_one (ps_ret pe_neverE)) pss_nil)
      (pss_cons (ps_if (pt_cmpR (op_cEq hu) (pv 3) pe_str (nomark _)) (pss_one (ps_ret pe_neverE)) pss_nil)
      (pss_cons (ps_if (pt_cmpR (op_cEq hu) (pv 3) pe_str (nomark _)) (pss_one (ps_ret (pe_cal C_step_strikes hr (by decide) rfl (pa_cons (pv 7) (pa_cons (pv 1) (pa_cons (pv 4) (pa_cons (pv 5) (pa_cons (pv 6) pa_nil)))))))) pss_nil)
      (pss_one (ps_ret pe_neverE)))))))))))
theorem ok_strikes_by_line {P : Program} {w : World} {K : PySem.W.Frag} {mg : Str → Option Value} {base : Heap} (B : Bt2 mg) {c : RCl RK} {d : RCl PzK} (C_step_strikes : Cal P w K mg base 4 "step_strikes" ["rule", "masks", "cell", "sign", "more"] (sp_step_strikes K c)) (M_clues : MCal P w K mg base d d.ok 1 "clues" ["self"] (sp_clues K c d)) (M_place : MCal P w K mg base d d.ok 1 "place" ["self"] (sp_place K c d)) (M_rules : MCal P w K mg base d d.ok 1 "rules" ["self"] (sp_rules K c d)) {f : Addr} {fd : FuncData} (F : Fun K "strikes_by_line" "strikes_by_line" s_strikes_by_line f fd) (hm : mg "strikes_by_line" = some (.ref f)) : Cal P w K mg base 5 "strikes_by_line" ["puzzle", "masks", "thought"] (sp_strikes_by_line35 K c d) :=
  ⟨f, fd, fn_strikes_by_line B C_step_strikes M_clues M_place M_rules F, hm, F.kp, F.binds (ps := ["puzzle", "masks", "thought"]) fun _ _ _ _ _ _ us hl => match us, hl with | [_, _, _], _ => rfl⟩
abbrev s_read_rule : Stmt := top 97
theorem sc_read_rule : FnScope ["floor", "line", "words", "name", "rest", "amount", "mark"] ["floor", "line"] (defScope s_read_rule) := ⟨rfl, rfl, rfl, by decide +kernel, rfl, by decide +kernel, by decide +kernel⟩
set_option maxHeartbeats 4000000 in
theorem fn_read_rule {P : Program} {w : World} {K : PySem.W.Frag} {mg : Str → Option Value} {base : Heap} (B : Bt2 mg) {c : RCl RK} (C_cells_of : Cal P w K mg base 4 "cells_of" ["floor", "name", "words"] (sp_cells_of K)) (C_first_within : Cal P w K mg base 3 "first_within" ["words", "least", "most"] (sp_first_within K)) (C_rule_by : Cal P w K mg base 3 "rule_by" ["floor", "words", "cells", "amount", "mark"] (sp_rule_by K c)) {t_MOST_NUMBER : Tok} (C_MOST_NUMBER : mg "MOST_NUMBER" = some (.int 99 t_MOST_NUMBER)) (G_WITH_NUMBER : GTup K mg "WITH_NUMBER" gt_WITH_NUMBER) (G_WITH_SIGN : GTup K mg "WITH_SIGN" gt_WITH_SIGN) {f : Addr} {fd : FuncData} (F : Fun K "read_rule" "read_rule" s_read_rule f fd) : FnOk P w K mg base CX0 5 f fd ["floor", "line"] (sp_read_rule K c) := by
  refine F.ok sc_read_rule (fun vs H Q E h => sl_read_rule h) (fun cdv A outer s H vs Q E hr h => ?_)
  have hu := hr.units
  have nd := sc_read_rule.nd
  refine ⟨rd_read_rule K c, ?_, rk_read_rule h⟩
  exact (pss_cons (ps_if (pt_not (pt_val (pe_callB call_kIsi rfl B.isinstance_ bt_isinstance (pa_cons (pv 1) (pa_cons (pe_bltn (v := .ty "str") rfl B.str_ bt_str rfl) pa_nil))))) (pss_one ps_never) pss_nil)
      (pss_cons (ps_set (i := 2) nd rfl (Or.inl rfl) (pe_bm PySem.F.plainAttrs_str PySem.F.slot_str_split PySem.F.type_str_split mt_kSplit (pv 1) (pa_cons pe_str pa_nil)))
      (pss_cons (ps_set (i := 3) nd rfl (Or.inl rfl) (pe_ix (ix_c hu) (pv 2) pe_int (fun _ _ => rfl)))
      (pss_cons (ps_set (i := 4) nd rfl (Or.inl rfl) (pe_slice sl_c2 (pv 2) (po_some pe_int) po_none))
      (pss_cons (ps_set (i := 5) nd rfl (Or.inl rfl) pe_int)
      (pss_cons (ps_set (i := 6) nd rfl (Or.inl rfl) pe_int)
      (pss_cons (ps_if (pt_inG G_WITH_NUMBER (pv 3) rfl) (pss_cons (ps_set (i := 5) nd rfl (Or.inl rfl) (pe_cal C_first_within hr (by decide) rfl (pa_cons (pv 4) (pa_cons pe_int (pa_cons (pe_glob rfl C_MOST_NUMBER ⟨t_MOST_NUMBER, rfl⟩) pa_nil)))))
      (pss_one (ps_set (i := 4) nd rfl (Or.inl rfl) (pe_slice sl_c2 (pv 4) (po_some pe_int) po_none)))) pss_nil)
      (pss_cons (ps_if (pt_inG G_WITH_SIGN (pv 3) rfl) (pss_cons (ps_set (i := 6) nd rfl (Or.inl rfl) (pe_cal C_first_within hr (by decide) rfl (pa_cons (pv 4) (pa_cons pe_int (pa_cons (pe_ix (ix_c hu) (pv 0) pe_int (fun _ _ => rfl)) pa_nil)))))
      (pss_one (ps_set (i := 4) nd rfl (Or.inl rfl) (pe_slice sl_c2 (pv 4) (po_some pe_int) po_none)))) pss_nil)
      (pss_one (ps_ret (pe_cal C_rule_by hr (by decide) rfl (pa_cons (pv 0) (pa_cons (pv 2) (pa_cons (pe_cal C_cells_of hr (by decide) rfl (pa_cons (pv 0) (pa_cons (pv 3) (pa_cons (pv 4) pa_nil)))) (pa_cons (pv 5) (pa_cons (pv 6) pa_nil))))))))))))))))
theorem ok_read_rule {P : Program} {w : World} {K : PySem.W.Frag} {mg : Str → Option Value} {base : Heap} (B : Bt2 mg) {c : RCl RK} (C_cells_of : Cal P w K mg base 4 "cells_of" ["floor", "name", "words"] (sp_cells_of K)) (C_first_within : Cal P w K mg base 3 "first_within" ["words", "least", "most"] (sp_first_within K)) (C_rule_by : Cal P w K mg base 3 "rule_by" ["floor", "words", "cells", "amount", "mark"] (sp_rule_by K c)) {t_MOST_NUMBER : Tok} (C_MOST_NUMBER : mg "MOST_NUMBER" = some (.int 99 t_MOST_NUMBER)) (G_WITH_NUMBER : GTup K mg "WITH_NUMBER" gt_WITH_NUMBER) (G_WITH_SIGN : GTup K mg "WITH_SIGN" gt_WITH_SIGN) {f : Addr} {fd : FuncData} (F : Fun K "read_rule" "read_rule" s_read_rule f fd) (hm : mg "read_rule" = some (.ref f)) : Cal P w K mg base 5 "read_rule" ["floor", "line"] (sp_read_rule K c) :=
  ⟨f, fd, fn_read_rule B C_cells_of C_first_within C_rule_by C_MOST_NUMBER G_WITH_NUMBER G_WITH_SIGN F, hm, F.kp, F.binds (ps := ["floor", "line"]) fun _ _ _ _ _ _ us hl => match us, hl with | [_, _], _ => rfl⟩
abbrev s_strikes : Stmt := top 71
theorem sc_strikes : FnScope ["puzzle", "masks", "thought"] ["puzzle", "masks", "thought"] (defScope s_strikes) := ⟨rfl, rfl, rfl, by decide +kernel, rfl, by decide +kernel, by decide +kernel⟩
set_option maxHeartbeats 4000000 in
theorem fn_strikes {P : Program} {w : World} {K : PySem.W.Frag} {mg : Str → Option Value} {base : Heap} (B : Bt2 mg) {c : RCl RK} {d : RCl PzK} (C_strikes_by_line : Cal P w K mg base 5 "strikes_by_line" ["puzzle", "masks", "thought"] (sp_strikes_by_line35 K c d)) (G_LINE_KINDS : GTup K mg "LINE_KINDS" gt_LINE_KINDS) (G_NUMBER_KINDS : GTup K mg "NUMBER_KINDS" gt_NUMBER_KINDS) {f : Addr} {fd : FuncData} (F : Fun K "strikes" "strikes" s_strikes f fd) : FnOk P w K mg base CX0 6 f fd ["puzzle", "masks", "thought"] (sp_strikes35 K c d) := by
  refine F.ok sc_strikes (fun vs H Q E h => sl_strikes35 h) (fun cdv A outer s H vs Q E hr h => ?_)
  have hu := hr.units
  have nd := sc_strikes.nd
  refine ⟨rd_strikes35 K c d, ?_, rk_strikes35 h⟩
  exact (pss_cons (ps_if (pt_inG G_LINE_KINDS (pe_ix (ix_c hu) (pv 2) pe_int (fun _ _ => rfl)) rfl) (pss_one (ps_ret (pe_cal C_strikes_by_line hr (by decide) rfl (pa_cons (pv 0) (pa_cons (pv 1) (pa_cons (pv 2) pa_nil)))))) pss_nil)
      (pss_cons (ps_if (pt_inG G_NUMBER_KINDS (pe_ix (ix_c hu) (pv 2) pe_int (fun _ _ => rfl)) rfl) (pss_one (ps_ret pe_neverE)) pss_nil)
      (pss_one (ps_ret pe_neverE))))
theorem ok_strikes {P : Program} {w : World} {K : PySem.W.Frag} {mg : Str → Option Value} {base : Heap} (B : Bt2 mg) {c : RCl RK} {d : RCl PzK} (C_strikes_by_line : Cal P w K mg base 5 "strikes_by_line" ["puzzle", "masks", "thought"] (sp_strikes_by_line35 K c d)) (G_LINE_KINDS : GTup K mg "LINE_KINDS" gt_LINE_KINDS) (G_NUMBER_KINDS : GTup K mg "NUMBER_KINDS" gt_NUMBER_KINDS) {f : Addr} {fd : FuncData} (F : Fun K "strikes" "strikes" s_strikes f fd) (hm : mg "strikes" = some (.ref f)) : Cal P w K mg base 6 "strikes" ["puzzle", "masks", "thought"] (sp_strikes35 K c d) :=
  ⟨f, fd, fn_strikes B C_strikes_by_line G_LINE_KINDS G_NUMBER_KINDS F, hm, F.kp, F.binds (ps := ["puzzle", "masks", "thought"]) fun _ _ _ _ _ _ us hl => match us, hl with | [_, _, _], _ => rfl⟩
abbrev s_read_rules : Stmt := top 101
theorem sc_read_rules : FnScope ["floor", "lines"] ["floor", "lines"] (defScope s_read_rules) := ⟨rfl, rfl, rfl, by decide +kernel, rfl, by decide +kernel, by decide +kernel⟩
set_option maxHeartbeats 4000000 in
theorem fn_read_rules {P : Program} {w : World} {K : PySem.W.Frag} {mg : Str → Option Value} {base : Heap} (B : Bt2 mg) {c : RCl RK} (C_read_rule : Cal P w K mg base 5 "read_rule" ["floor", "line"] (sp_read_rule K c)) {t_MOST_RULES : Tok} (C_MOST_RULES : mg "MOST_RULES" = some (.int 12 t_MOST_RULES)) {f : Addr} {fd : FuncData} (F : Fun K "read_rules" "read_rules" s_read_rules f fd) : FnOk P w K mg base CX0 6 f fd ["floor", "lines"] (sp_read_rules K c) := by
  refine F.ok sc_read_rules (fun vs H Q E h => sl_read_rules h) (fun cdv A outer s H vs Q E hr h => ?_)
  have hu := hr.units
  have nd := sc_read_rules.nd
  refine ⟨rd_read_rules K c, ?_, rk_read_rules h⟩
  exact (pss_cons (ps_if (pt_cmpR op_cGt (pe_callB call_kLen rfl B.len_ bt_len (pa_cons (pv 1) pa_nil)) (pe_glob rfl C_MOST_RULES ⟨t_MOST_RULES, rfl⟩) (nomark _)) (pss_one ps_never) pss_nil)
      (pss_one (ps_ret (pe_comp (ix := [none, none, some 0]) [".0", "line", "floor"] (blk_ok2 rfl (by decide +kernel) rfl rfl rfl) rfl (pi_list (pv 1)) (fun cl s H fp => (pg_name (i := 1) (show ([".0", "line", "floor"] : List Str).Nodup by decide +kernel) rfl (Or.inl rfl))) (fun cl s H fp => pts_nil) (fun cl s H fp => (pe_cal C_read_rule hr (by decide) rfl (pa_cons (pv 2) (pa_cons (pv 1) pa_nil))))))))
theorem ok_read_rules {P : Program} {w : World} {K : PySem.W.Frag} {mg : Str → Option Value} {base : Heap} (B : Bt2 mg) {c : RCl RK} (C_read_rule : Cal P w K mg base 5 "read_rule" ["floor", "line"] (sp_read_rule K c)) {t_MOST_RULES : Tok} (C_MOST_RULES : mg "MOST_RULES" = some (.int 12 t_MOST_RULES)) {f : Addr} {fd : FuncData} (F : Fun K "read_rules" "read_rules" s_read_rules f fd) (hm : mg "read_rules" = some (.ref f)) : Cal P w K mg base 6 "read_rules" ["floor", "lines"] (sp_read_rules K c) :=
  ⟨f, fd, fn_read_rules B C_read_rule C_MOST_RULES F, hm, F.kp, F.binds (ps := ["floor", "lines"]) fun _ _ _ _ _ _ us hl => match us, hl with | [_, _], _ => rfl⟩
abbrev s_allowed : Stmt := top 72
theorem sc_allowed : FnScope ["puzzle", "masks", "thought"] ["puzzle", "masks", "thought"] (defScope s_allowed) := ⟨rfl, rfl, rfl, by decide +kernel, rfl, by decide +kernel, by decide +kernel⟩
set_option maxHeartbeats 4000000 in
theorem fn_allowed {P : Program} {w : World} {K : PySem.W.Frag} {mg : Str → Option Value} {base : Heap} (B : Bt2 mg) {c : RCl RK} {d : RCl PzK} (C_is_formed : Cal P w K mg base 4 "is_formed" ["puzzle", "thought"] (sp_is_formed K c d)) (C_strikes : Cal P w K mg base 6 "strikes" ["puzzle", "masks", "thought"] (sp_strikes35 K c d)) {f : Addr} {fd : FuncData} (F : Fun K "allowed" "allowed" s_allowed f fd) : FnOk P w K mg base CX0 7 f fd ["puzzle", "masks", "thought"] (sp_allowed35 K c d) := by
  refine F.ok sc_allowed (fun vs H Q E h => sl_allowed35 h) (fun cdv A outer s H vs Q E hr h => ?_)
  have hu := hr.units
  have nd := sc_allowed.nd
  refine ⟨rd_allowed35 K c d, ?_, rk_allowed35 h⟩
  exact (pss_one (ps_ret (pe_and (pe_cal C_is_formed hr (by decide) rfl (pa_cons (pv 0) (pa_cons (pv 2) pa_nil))) (pe_one (pe_cal C_strikes hr (by decide) rfl (pa_cons (pv 0) (pa_cons (pv 1) (pa_cons (pv 2) pa_nil))))))))
theorem ok_allowed {P : Program} {w : World} {K : PySem.W.Frag} {mg : Str → Option Value} {base : Heap} (B : Bt2 mg) {c : RCl RK} {d : RCl PzK} (C_is_formed : Cal P w K mg base 4 "is_formed" ["puzzle", "thought"] (sp_is_formed K c d)) (C_strikes : Cal P w K mg base 6 "strikes" ["puzzle", "masks", "thought"] (sp_strikes35 K c d)) {f : Addr} {fd : FuncData} (F : Fun K "allowed" "allowed" s_allowed f fd) (hm : mg "allowed" = some (.ref f)) : Cal P w K mg base 7 "allowed" ["puzzle", "masks", "thought"] (sp_allowed35 K c d) :=
  ⟨f, fd, fn_allowed B C_is_formed C_strikes F, hm, F.kp, F.binds (ps := ["puzzle", "masks", "thought"]) fun _ _ _ _ _ _ us hl => match us, hl with | [_, _, _], _ => rfl⟩
abbrev s_Puzzle___init__ : Stmt := mtop 104 0
theorem sc_Puzzle___init__ : FnScope ["self", "floor", "lines", "clues"] ["self", "floor", "lines", "clues"] (defScope s_Puzzle___init__) := ⟨rfl, rfl, rfl, by decide +kernel, rfl, by decide +kernel, by decide +kernel⟩
set_option maxHeartbeats 4000000 in
theorem fn_Puzzle___init__ {P : Program} {w : World} {K : PySem.W.Frag} {mg : Str → Option Value} {base : Heap} (B : Bt2 mg) {c : RCl RK} {d : RCl PzK} (C_checked_clues : Cal P w K mg base 3 "checked_clues" ["floor", "clues"] (sp_checked_clues K)) (C_checked_floor : Cal P w K mg base 4 "checked_floor" ["floor"] (sp_checked_floor K)) (C_read_rules : Cal P w K mg base 6 "read_rules" ["floor", "lines"] (sp_read_rules K c)) (FK_d_floor : FldK K d "floor") (FK_d_given : FldK K d "given") (FK_d_laws : FldK K d "laws") {f : Addr} {fd : FuncData} (F : Fun K "__init__" "Puzzle.__init__" s_Puzzle___init__ f fd) : FnOk P w K mg base CX0 7 f fd ["self", "floor", "lines", "clues"] (sp_Puzzle___init__ K c d) := by
  refine F.ok sc_Puzzle___init__ (fun vs H Q E h => sl_Puzzle___init__ h) (fun cdv A outer s H vs Q E hr h => ?_)
  have hu := hr.units
  have nd := sc_Puzzle___init__.nd
  refine ⟨rd_Puzzle___init__ K c d, ?_, rk_Puzzle___init__ h⟩
  exact (pss_cons (ps_fldK (pv 0) (pe_cal C_checked_floor hr (by decide) rfl (pa_cons (pv 1) pa_nil)) FK_d_floor)
      (pss_cons (ps_fldK (pv 0) (pe_cal C_read_rules hr (by decide) rfl (pa_cons (pe_fldK (pv 0) FK_d_floor) (pa_cons (pv 2) pa_nil))) FK_d_laws)
      (pss_one (ps_fldK (pv 0) (pe_cal C_checked_clues hr (by decide) rfl (pa_cons (pe_fldK (pv 0) FK_d_floor) (pa_cons (pv 3) pa_nil))) FK_d_given))))
abbrev s_law : Stmt := top 115
theorem sc_law : FnScope ["_law_script", "_law_cell", "_law_floor_here", "_law_many", "_law_cells", "_law_line", "_law_other", "_law_at", "_law_puzzle", "_law_masks_here", "_law_heard", "_law_k", "_law_thought_here", "_law_handed", "_law_found"] ["_law_script"] (defScope s_law) := ⟨rfl, rfl, rfl, by decide +kernel, rfl, by decide +kernel, by decide +kernel⟩
set_option maxHeartbeats 4000000 in
theorem fn_law {P : Program} {w : World} {K : PySem.W.Frag} {mg : Str → Option Value} {base : Heap} (B : Bt2 mg) {c : RCl RK} {d : RCl PzK} (C__law_cell_at : Cal P w K mg base 1 "_law_cell_at" ["_law_script", "_law_k"] (sp__law_at34 K)) (C__law_clues : Cal P w K mg base 2 "_law_clues" ["_law_script", "_law_floor_here"] (sp__law_clues35 K)) (C__law_due : Cal P w K mg base 2 "_law_due" ["_law_floor_here", "_law_cells", "_law_masks_here", "_law_thought_here", "_law_at"] (sp__law_due35 K)) (C__law_floor : Cal P w K mg base 1 "_law_floor" ["_law_cell"] (sp__law_floor35 K)) (C__law_masks : Cal P w K mg base 2 "_law_masks" ["_law_script", "_law_floor_here"] (sp__law_masks35 K)) (C__law_order : Cal P w K mg base 1 "_law_order" ["_law_number", "_law_many"] (sp__law_order35 K)) (C__law_thought : Cal P w K mg base 2 "_law_thought" ["_law_script", "_law_floor_here", "_law_cells", "_law_k"] (sp__law_thought35 K)) (C_allowed : Cal P w K mg base 7 "allowed" ["puzzle", "masks", "thought"] (sp_allowed35 K c d)) (K_Puzzle : KCal P w K mg base 7 "Puzzle" (d.A .Puzzle) ["self", "floor", "lines", "clues"] (sp_Puzzle___init__ K c d)) {f : Addr} {fd : FuncData} (F : Fun K "law" "law" s_law f fd) : FnOk P w K mg base CX0 9 f fd ["_law_script"] (sp_law K c d) := by
  refine F.ok sc_law (fun vs H Q E h => sl_law h) (fun cdv A outer s H vs Q E hr h => ?_)
  have hu := hr.units
  have nd := sc_law.nd
  refine ⟨rd_law K c d, ?_, rk_law h⟩
  exact (pss_cons (ps_set (i := 1) nd rfl (Or.inl rfl) (pe_op op_cMod (pe_op op_cMul (pe_cal C__law_cell_at hr (by decide) rfl (pa_cons (pv 0) (pa_cons pe_int pa_nil))) pe_int) pe_int))
      (pss_cons (ps_set (i := 2) nd rfl (Or.inl rfl) (pe_cal C__law_floor hr (by decide) rfl (pa_cons (pv 1) pa_nil)))
      (pss_cons (ps_set (i := 3) nd rfl (Or.inl rfl) (pe_op op_cMul (pe_ix (ix_c hu) (pv 2) pe_int (fun _ _ => rfl)) (pe_ix (ix_c hu) (pv 2) pe_int (fun _ _ => rfl))))
      (pss_cons (ps_set (i := 4) nd rfl (Or.inl rfl) (pe_slice sl_c2 (pe_cal C__law_order hr (by decide) rfl (pa_cons (pe_op op_cMod (pe_op op_cMul (pe_cal C__law_cell_at hr (by decide) rfl (pa_cons (pv 0) (pa_cons pe_int pa_nil))) pe_int) pe_int) (pa_cons (pv 3) pa_nil))) po_none (po_some (pe_op op_cAdd pe_int (pe_op op_cMod (pe_op op_cDiv (pv 1) pe_int) (pv 3))))))
      (pss_cons (ps_set (i := 5) nd rfl (Or.inl rfl) (pe_op op_cAdd pe_str (pe_bm PySem.F.plainAttrs_str PySem.F.slot_str_join PySem.F.type_str_join mt_kJoin2 pe_str (pa_cons (pe_comp (ix := [none, none]) [".0", "_law_spot"] (blk_ok2 rfl (by decide +kernel) rfl rfl rfl) rfl (pi_list (pv 4)) (fun cl s H fp => (pg_name (i := 1) (show ([".0", "_law_spot"] : List Str).Nodup by decide +kernel) rfl (Or.inl rfl))) (fun cl s H fp => pts_nil) (fun cl s H fp => (pe_callTy call_kStr rfl B.str_ bt_str (pa_cons (pv 1) pa_nil)))) pa_nil))))
      (pss_cons (ps_set (i := 6) nd rfl (Or.inl rfl) (pe_ix (ix_c hu) (pe_lst (pa_cons pe_str (pa_cons pe_str (pa_cons pe_str (pa_cons pe_str pa_nil))))) (pe_op op_cMod (pe_cal C__law_cell_at hr (by decide) rfl (pa_cons (pv 0) (pa_cons pe_int pa_nil))) pe_int) (fun _ _ => rfl)))
      (pss_cons (ps_set (i := 7) nd rfl (Or.inl rfl) (pe_op op_cMod (pe_cal C__law_cell_at hr (by decide) rfl (pa_cons (pv 0) (pa_cons pe_int pa_nil))) pe_int))
      (pss_cons (ps_set (i := 8) nd rfl (Or.inl rfl) (pe_mk K_Puzzle hr (by decide) rfl (pa_cons (pv 2) (pa_cons (pe_ix (ix_c hu) (pe_lst (pa_cons (pe_lst (pa_cons (pv 5) (pa_cons (pv 6) pa_nil))) (pa_cons (pe_lst (pa_cons (pv 6) (pa_cons (pv 5) pa_nil))) pa_nil))) (pv 7) (fun _ _ => rfl)) (pa_cons (pe_cal C__law_clues hr (by decide) rfl (pa_cons (pv 0) (pa_cons (pv 2) pa_nil))) pa_nil)))))
      (pss_cons (ps_set (i := 9) nd rfl (Or.inl rfl) (pe_cal C__law_masks hr (by decide) rfl (pa_cons (pv 0) (pa_cons (pv 2) pa_nil))))
      (pss_cons (ps_set (i := 10) nd rfl (Or.inl rfl) (pe_callTy call_kList rfl B.list_ bt_list (pa_cons (pv 9) pa_nil)))
      (pss_cons (ps_for PassesOwn.never rfl (pi_range1 rfl B.range_ (pa_cons pe_int pa_nil)) (pg_name (i := 11) nd rfl (Or.inl rfl))
      (pss_cons (ps_set (i := 12) nd rfl (Or.inl rfl) (pe_cal C__law_thought hr (by decide) rfl (pa_cons (pv 0) (pa_cons (pv 2) (pa_cons (pv 4) (pa_cons (pv 11) pa_nil))))))
      (pss_cons (ps_set (i := 13) nd rfl (Or.inl rfl) (pe_tup (pa_cons (pe_ix (ix_c hu) (pv 12) pe_int (fun _ _ => rfl)) (pa_cons (pe_ix (ix_c hu) (pv 12) pe_int (fun _ _ => rfl)) (pa_cons (pe_ix (ix_c hu) (pv 12) pe_int (fun _ _ => rfl)) (pa_cons (pe_ix (ix_c hu) (pv 12) pe_int (fun _ _ => rfl)) (pa_cons (pe_callTy call_kList rfl B.list_ bt_list (pa_cons (pe_ix (ix_c hu) (pv 12) pe_int (fun _ _ => rfl)) pa_nil)) pa_nil)))))))
      (pss_cons (ps_set (i := 14) nd rfl (Or.inl rfl) (pe_cal C_allowed hr (by decide) rfl (pa_cons (pv 8) (pa_cons (pv 10) (pa_cons (pv 13) pa_nil)))))
      (pss_cons (ps_if (PW.pt (pw_or (pt_not (pt_val (pe_callB call_kIsi rfl B.isinstance_ bt_isinstance (pa_cons (pv 14) (pa_cons (pe_bltn (v := .ty "bool") rfl B.bool_ bt_bool rfl) pa_nil))))) (pw_or1 (pt_cmpR (op_cNe hu) (pv 14) (pe_cal C__law_due hr (by decide) rfl (pa_cons (pv 2) (pa_cons (pv 4) (pa_cons (pv 9) (pa_cons (pv 12) (pa_cons (pv 7) pa_nil)))))) (nomark _))))) (pss_one (ps_ret pe_bl)) pss_nil)
      (pss_one (ps_if (PW.pt (pw_or (pt_cmpR (op_cNe hu) (pv 10) (pv 9) (nomark _)) (pw_or1 (pt_cmpR (op_cNe hu) (pv 13) (pv 12) (nomark _))))) (pss_one (ps_ret pe_bl)) pss_nil)))))))
      (pss_one (ps_ret pe_bl)))))))))))))
def mkC (cA_Unlike cA_Sum cA_Rising cA_Seen cA_Count cA_Joined cA_NoSquare cA_Ring : Addr) : RCl RK := ⟨fun k => match k with | .Rule => cA_Unlike | .Unlike => cA_Unlike | .Sum => cA_Sum | .Rising => cA_Rising | .Seen => cA_Seen | .Count => cA_Count | .Joined => cA_Joined | .NoSquare => cA_NoSquare | .Ring => cA_Ring, fun k => match k with | .Rule => false | _ => true⟩
def mkD (cA_Puzzle : Addr) : RCl PzK := ⟨fun _ => cA_Puzzle, fun _ => true⟩
set_option maxHeartbeats 40000000 in
theorem all_mk {l : PySem.W.OpenLaw} {w : World} {K : PySem.W.Frag} {h : Heap} {mg : Str → Option Value} {fa : Addr} (X : K.In h) (G : h.Ns mainGlobals mg) (hfa : mg "law" = some (.ref fa))
    {f0 : Addr} {od0 an0 : Option Addr} {sl0 : Array (Option Value)} {oc0 kV0 dc0 pm0 cd0 ct0 : Value} {f1 : Addr} {od1 an1 : Option Addr} {sl1 : Array (Option Value)} {oc1 kV1 dc1 pm1 cd1 ct1 : Value} {f2 : Addr} {od2 an2 : Option Addr} {sl2 : Array (Option Value)} {oc2 kV2 dc2 pm2 cd2 ct2 : Value} {f3 : Addr} {od3 an3 : Option Addr} {sl3 : Array (Option Value)} {oc3 kV3 dc3 pm3 cd3 ct3 : Value} {f4 : Addr} {od4 an4 : Option Addr} {sl4 : Array (Option Value)} {oc4 kV4 dc4 pm4 cd4 ct4 : Value} {f5 : Addr} {od5 an5 : Option Addr} {sl5 : Array (Option Value)} {oc5 kV5 dc5 pm5 cd5 ct5 : Value} {f6 : Addr} {od6 an6 : Option Addr} {sl6 : Array (Option Value)} {oc6 kV6 dc6 pm6 cd6 ct6 : Value} {f7 : Addr} {od7 an7 : Option Addr} {sl7 : Array (Option Value)} {oc7 kV7 dc7 pm7 cd7 ct7 : Value} {f8 : Addr} {od8 an8 : Option Addr} {sl8 : Array (Option Value)} {oc8 kV8 dc8 pm8 cd8 ct8 : Value} {f9 : Addr} {od9 an9 : Option Addr} {sl9 : Array (Option Value)} {oc9 kV9 dc9 pm9 cd9 ct9 : Value} {f10 : Addr} {od10 an10 : Option Addr} {sl10 : Array (Option Value)} {oc10 kV10 dc10 pm10 cd10 ct10 : Value} {f11 : Addr} {od11 an11 : Option Addr} {sl11 : Array (Option Value)} {oc11 kV11 dc11 pm11 cd11 ct11 : Value} {f12 : Addr} {od12 an12 : Option Addr} {sl12 : Array (Option Value)} {oc12 kV12 dc12 pm12 cd12 ct12 : Value} {f13 : Addr} {od13 an13 : Option Addr} {sl13 : Array (Option Value)} {oc13 kV13 dc13 pm13 cd13 ct13 : Value} {f14 : Addr} {od14 an14 : Option Addr} {sl14 : Array (Option Value)} {oc14 kV14 dc14 pm14 cd14 ct14 : Value} {f15 : Addr} {od15 an15 : Option Addr} {sl15 : Array (Option Value)} {oc15 kV15 dc15 pm15 cd15 ct15 : Value} {f16 : Addr} {od16 an16 : Option Addr} {sl16 : Array (Option Value)} {oc16 kV16 dc16 pm16 cd16 ct16 : Value} {f17 : Addr} {od17 an17 : Option Addr} {sl17 : Array (Option Value)} {oc17 kV17 dc17 pm17 cd17 ct17 : Value} {f18 : Addr} {od18 an18 : Option Addr} {sl18 : Array (Option Value)} {oc18 kV18 dc18 pm18 cd18 ct18 : Value} {f19 : Addr} {od19 an19 : Option Addr} {sl19 : Array (Option Value)} {oc19 kV19 dc19 pm19 cd19 ct19 : Value} {f20 : Addr} {od20 an20 : Option Addr} {sl20 : Array (Option Value)} {oc20 kV20 dc20 pm20 cd20 ct20 : Value} {f21 : Addr} {od21 an21 : Option Addr} {sl21 : Array (Option Value)} {oc21 kV21 dc21 pm21 cd21 ct21 : Value} {f22 : Addr} {od22 an22 : Option Addr} {sl22 : Array (Option Value)} {oc22 kV22 dc22 pm22 cd22 ct22 : Value} {f23 : Addr} {od23 an23 : Option Addr} {sl23 : Array (Option Value)} {oc23 kV23 dc23 pm23 cd23 ct23 : Value} {f24 : Addr} {od24 an24 : Option Addr} {sl24 : Array (Option Value)} {oc24 kV24 dc24 pm24 cd24 ct24 : Value} {f25 : Addr} {od25 an25 : Option Addr} {sl25 : Array (Option Value)} {oc25 kV25 dc25 pm25 cd25 ct25 : Value} {f26 : Addr} {od26 an26 : Option Addr} {sl26 : Array (Option Value)} {oc26 kV26 dc26 pm26 cd26 ct26 : Value} {f27 : Addr} {od27 an27 : Option Addr} {sl27 : Array (Option Value)} {oc27 kV27 dc27 pm27 cd27 ct27 : Value} {f28 : Addr} {od28 an28 : Option Addr} {sl28 : Array (Option Value)} {oc28 kV28 dc28 pm28 cd28 ct28 : Value} {f29 : Addr} {od29 an29 : Option Addr} {sl29 : Array (Option Value)} {oc29 kV29 dc29 pm29 cd29 ct29 : Value} {f30 : Addr} {od30 an30 : Option Addr} {sl30 : Array (Option Value)} {oc30 kV30 dc30 pm30 cd30 ct30 : Value} {f31 : Addr} {od31 an31 : Option Addr} {sl31 : Array (Option Value)} {oc31 kV31 dc31 pm31 cd31 ct31 : Value} {f32 : Addr} {od32 an32 : Option Addr} {sl32 : Array (Option Value)} {oc32 kV32 dc32 pm32 cd32 ct32 : Value} {f33 : Addr} {od33 an33 : Option Addr} {sl33 : Array (Option Value)} {oc33 kV33 dc33 pm33 cd33 ct33 : Value} {f34 : Addr} {od34 an34 : Option Addr} {sl34 : Array (Option Value)} {oc34 kV34 dc34 pm34 cd34 ct34 : Value} {f35 : Addr} {od35 an35 : Option Addr} {sl35 : Array (Option Value)} {oc35 kV35 dc35 pm35 cd35 ct35 : Value} {f36 : Addr} {od36 an36 : Option Addr} {sl36 : Array (Option Value)} {oc36 kV36 dc36 pm36 cd36 ct36 : Value} {f37 : Addr} {od37 an37 : Option Addr} {sl37 : Array (Option Value)} {oc37 kV37 dc37 pm37 cd37 ct37 : Value} {f38 : Addr} {od38 an38 : Option Addr} {sl38 : Array (Option Value)} {oc38 kV38 dc38 pm38 cd38 ct38 : Value} {f39 : Addr} {od39 an39 : Option Addr} {sl39 : Array (Option Value)} {oc39 kV39 dc39 pm39 cd39 ct39 : Value} {f40 : Addr} {od40 an40 : Option Addr} {sl40 : Array (Option Value)} {oc40 kV40 dc40 pm40 cd40 ct40 : Value} {f41 : Addr} {od41 an41 : Option Addr} {sl41 : Array (Option Value)} {oc41 kV41 dc41 pm41 cd41 ct41 : Value} {f42 : Addr} {od42 an42 : Option Addr} {sl42 : Array (Option Value)} {oc42 kV42 dc42 pm42 cd42 ct42 : Value} {f43 : Addr} {od43 an43 : Option Addr} {sl43 : Array (Option Value)} {oc43 kV43 dc43 pm43 cd43 ct43 : Value} {f44 : Addr} {od44 an44 : Option Addr} {sl44 : Array (Option Value)} {oc44 kV44 dc44 pm44 cd44 ct44 : Value} {f45 : Addr} {od45 an45 : Option Addr} {sl45 : Array (Option Value)} {oc45 kV45 dc45 pm45 cd45 ct45 : Value} {f46 : Addr} {od46 an46 : Option Addr} {sl46 : Array (Option Value)} {oc46 kV46 dc46 pm46 cd46 ct46 : Value} {cA_Unlike cA_Sum cA_Rising cA_Seen cA_Count cA_Joined cA_NoSquare cA_Ring cA_Puzzle : Addr} {pt_KINDS : Addr} {od_KINDS : Option Addr} {nn_KINDS : Nat} {sl_KINDS : Array (Option Value)} {t0_KINDS t1_KINDS t2_KINDS t3_KINDS t4_KINDS t5_KINDS t6_KINDS t7_KINDS t8_KINDS t9_KINDS t10_KINDS : Tok} {pt_LINE_KINDS : Addr} {od_LINE_KINDS : Option Addr} {nn_LINE_KINDS : Nat} {sl_LINE_KINDS : Array (Option Value)} {t0_LINE_KINDS t1_LINE_KINDS t2_LINE_KINDS t3_LINE_KINDS t4_LINE_KINDS : Tok} {pt_NUMBER_KINDS : Addr} {od_NUMBER_KINDS : Option Addr} {nn_NUMBER_KINDS : Nat} {sl_NUMBER_KINDS : Array (Option Value)} {t0_NUMBER_KINDS t1_NUMBER_KINDS t2_NUMBER_KINDS : Tok} {pt_OF_ALL_CELLS : Addr} {od_OF_ALL_CELLS : Option Addr} {nn_OF_ALL_CELLS : Nat} {sl_OF_ALL_CELLS : Array (Option Value)} {t0_OF_ALL_CELLS t1_OF_ALL_CELLS t2_OF_ALL_CELLS : Tok} {pt_WITH_NUMBER : Addr} {od_WITH_NUMBER : Option Addr} {nn_WITH_NUMBER : Nat} {sl_WITH_NUMBER : Array (Option Value)} {t0_WITH_NUMBER t1_WITH_NUMBER t2_WITH_NUMBER : Tok} {pt_WITH_SIGN : Addr} {od_WITH_SIGN : Option Addr} {nn_WITH_SIGN : Nat} {sl_WITH_SIGN : Array (Option Value)} {t0_WITH_SIGN t1_WITH_SIGN t2_WITH_SIGN t3_WITH_SIGN : Tok} {pd_RULES_OF_KIND : Addr} {ep_RULES_OF_KIND : Nat} {dh0_RULES_OF_KIND : Int} {dt0_RULES_OF_KIND : Tok} {dq0_RULES_OF_KIND : Addr} {dod0_RULES_OF_KIND : Option Addr} {dn0_RULES_OF_KIND : Nat} {dsl0_RULES_OF_KIND : Array (Option Value)} {du0_0_RULES_OF_KIND : Tok} {dh1_RULES_OF_KIND : Int} {dt1_RULES_OF_KIND : Tok} {dq1_RULES_OF_KIND : Addr} {dod1_RULES_OF_KIND : Option Addr} {dn1_RULES_OF_KIND : Nat} {dsl1_RULES_OF_KIND : Array (Option Value)} {du1_0_RULES_OF_KIND : Tok} {dh2_RULES_OF_KIND : Int} {dt2_RULES_OF_KIND : Tok} {dq2_RULES_OF_KIND : Addr} {dod2_RULES_OF_KIND : Option Addr} {dn2_RULES_OF_KIND : Nat} {dsl2_RULES_OF_KIND : Array (Option Value)} {du2_0_RULES_OF_KIND : Tok} {dh3_RULES_OF_KIND : Int} {dt3_RULES_OF_KIND : Tok} {dq3_RULES_OF_KIND : Addr} {dod3_RULES_OF_KIND : Option Addr} {dn3_RULES_OF_KIND : Nat} {dsl3_RULES_OF_KIND : Array (Option Value)} {du3_0_RULES_OF_KIND : Tok} {dh4_RULES_OF_KIND : Int} {dt4_RULES_OF_KIND : Tok} {dq4_RULES_OF_KIND : Addr} {dod4_RULES_OF_KIND : Option Addr} {dn4_RULES_OF_KIND : Nat} {dsl4_RULES_OF_KIND : Array (Option Value)} {du4_0_RULES_OF_KIND : Tok} {dh5_RULES_OF_KIND : Int} {dt5_RULES_OF_KIND : Tok} {dq5_RULES_OF_KIND : Addr} {dod5_RULES_OF_KIND : Option Addr} {dn5_RULES_OF_KIND : Nat} {dsl5_RULES_OF_KIND : Array (Option Value)} {du5_0_RULES_OF_KIND : Tok} {dh6_RULES_OF_KIND : Int} {dt6_RULES_OF_KIND : Tok} {dq6_RULES_OF_KIND : Addr} {dod6_RULES_OF_KIND : Option Addr} {dn6_RULES_OF_KIND : Nat} {dsl6_RULES_OF_KIND : Array (Option Value)} {du6_0_RULES_OF_KIND du6_1_RULES_OF_KIND : Tok} {dh7_RULES_OF_KIND : Int} {dt7_RULES_OF_KIND : Tok} {dq7_RULES_OF_KIND : Addr} {dod7_RULES_OF_KIND : Option Addr} {dn7_RULES_OF_KIND : Nat} {dsl7_RULES_OF_KIND : Array (Option Value)} {du7_0_RULES_OF_KIND : Tok} {dh8_RULES_OF_KIND : Int} {dt8_RULES_OF_KIND : Tok} {dq8_RULES_OF_KIND : Addr} {dod8_RULES_OF_KIND : Option Addr} {dn8_RULES_OF_KIND : Nat} {dsl8_RULES_OF_KIND : Array (Option Value)} {du8_0_RULES_OF_KIND : Tok} {tk_FIGURES : Tok} {tk_MOST_CELLS : Tok} {tk_MOST_FIGURES : Tok} {tk_MOST_NUMBER : Tok} {tk_MOST_RULES : Tok} {tk_MOST_SIDE : Tok} {tk_MOST_SIGNS : Tok}
    (q_Unlike : PySem.W.nsIn K mainGlobals "Unlike" = some (some (.ref cA_Unlike))) (q_Sum : PySem.W.nsIn K mainGlobals "Sum" = some (some (.ref cA_Sum))) (q_Rising : PySem.W.nsIn K mainGlobals "Rising" = some (some (.ref cA_Rising))) (q_Seen : PySem.W.nsIn K mainGlobals "Seen" = some (some (.ref cA_Seen))) (q_Count : PySem.W.nsIn K mainGlobals "Count" = some (some (.ref cA_Count))) (q_Joined : PySem.W.nsIn K mainGlobals "Joined" = some (some (.ref cA_Joined))) (q_NoSquare : PySem.W.nsIn K mainGlobals "NoSquare" = some (some (.ref cA_NoSquare))) (q_Ring : PySem.W.nsIn K mainGlobals "Ring" = some (some (.ref cA_Ring))) (q_Puzzle : PySem.W.nsIn K mainGlobals "Puzzle" = some (some (.ref cA_Puzzle))) (a0 : PySem.W.nsIn K mainGlobals "is_whole" = some (some (.ref f0))) (a1 : PySem.W.nsIn K mainGlobals "many_cells" = some (some (.ref f1))) (a2 : PySem.W.nsIn K mainGlobals "stands" = some (some (.ref f2))) (mk2_Unlike : PySem.W.findIn K (.ref cA_Unlike) "__init__" = some (some (.ref f3))) (mk2_Sum : PySem.W.findIn K (.ref cA_Sum) "__init__" = some (some (.ref f3))) (mk2_Rising : PySem.W.findIn K (.ref cA_Rising) "__init__" = some (some (.ref f3))) (mk2_Seen : PySem.W.findIn K (.ref cA_Seen) "__init__" = some (some (.ref f3))) (mk2_Count : PySem.W.findIn K (.ref cA_Count) "__init__" = some (some (.ref f3))) (mk2_Joined : PySem.W.findIn K (.ref cA_Joined) "__init__" = some (some (.ref f3))) (mk2_NoSquare : PySem.W.findIn K (.ref cA_NoSquare) "__init__" = some (some (.ref f3))) (mk2_Ring : PySem.W.findIn K (.ref cA_Ring) "__init__" = some (some (.ref f3))) (a4_Unlike : PySem.W.findIn K (.ref cA_Unlike) "name" = some (some (.ref f4))) (a4_Sum : PySem.W.findIn K (.ref cA_Sum) "name" = some (some (.ref f4))) (a4_Rising : PySem.W.findIn K (.ref cA_Rising) "name" = some (some (.ref f4))) (a4_Seen : PySem.W.findIn K (.ref cA_Seen) "name" = some (some (.ref f4))) (a4_Count : PySem.W.findIn K (.ref cA_Count) "name" = some (some (.ref f4))) (a4_Joined : PySem.W.findIn K (.ref cA_Joined) "name" = some (some (.ref f4))) (a4_NoSquare : PySem.W.findIn K (.ref cA_NoSquare) "name" = some (some (.ref f4))) (a4_Ring : PySem.W.findIn K (.ref cA_Ring) "name" = some (some (.ref f4))) (a5_Unlike : PySem.W.findIn K (.ref cA_Unlike) "spots" = some (some (.ref f5))) (a5_Sum : PySem.W.findIn K (.ref cA_Sum) "spots" = some (some (.ref f5))) (a5_Rising : PySem.W.findIn K (.ref cA_Rising) "spots" = some (some (.ref f5))) (a5_Seen : PySem.W.findIn K (.ref cA_Seen) "spots" = some (some (.ref f5))) (a5_Count : PySem.W.findIn K (.ref cA_Count) "spots" = some (some (.ref f5))) (a5_Joined : PySem.W.findIn K (.ref cA_Joined) "spots" = some (some (.ref f5))) (a5_NoSquare : PySem.W.findIn K (.ref cA_NoSquare) "spots" = some (some (.ref f5))) (a5_Ring : PySem.W.findIn K (.ref cA_Ring) "spots" = some (some (.ref f5))) (a6 : PySem.W.nsIn K mainGlobals "number_in" = some (some (.ref f6))) (a7_Puzzle : PySem.W.findIn K (.ref cA_Puzzle) "place" = some (some (.ref f7))) (a8_Puzzle : PySem.W.findIn K (.ref cA_Puzzle) "clues" = some (some (.ref f8))) (a9_Puzzle : PySem.W.findIn K (.ref cA_Puzzle) "rules" = some (some (.ref f9))) (a10 : PySem.W.nsIn K mainGlobals "_law_cell_at" = some (some (.ref f10))) (a11 : PySem.W.nsIn K mainGlobals "_law_order" = some (some (.ref f11))) (a12 : PySem.W.nsIn K mainGlobals "_law_floor" = some (some (.ref f12))) (a13 : PySem.W.nsIn K mainGlobals "_law_less" = some (some (.ref f13))) (a14 : PySem.W.nsIn K mainGlobals "_law_greater" = some (some (.ref f14))) (a15 : PySem.W.nsIn K mainGlobals "is_from_one_to" = some (some (.ref f15))) (a16 : PySem.W.nsIn K mainGlobals "signs_in" = some (some (.ref f16))) (a17 : PySem.W.nsIn K mainGlobals "is_cell" = some (some (.ref f17))) (a18 : PySem.W.nsIn K mainGlobals "goes_by" = some (some (.ref f18))) (a19 : PySem.W.nsIn K mainGlobals "ahead_of" = some (some (.ref f19))) (a20 : PySem.W.nsIn K mainGlobals "behind" = some (some (.ref f20))) (a21 : PySem.W.nsIn K mainGlobals "number_within" = some (some (.ref f21))) (a22 : PySem.W.nsIn K mainGlobals "is_filling" = some (some (.ref f22))) (a23 : PySem.W.nsIn K mainGlobals "_law_masks" = some (some (.ref f23))) (a24 : PySem.W.nsIn K mainGlobals "_law_due" = some (some (.ref f24))) (a25 : PySem.W.nsIn K mainGlobals "_law_clues" = some (some (.ref f25))) (a26 : PySem.W.nsIn K mainGlobals "_law_thought" = some (some (.ref f26))) (a27 : PySem.W.nsIn K mainGlobals "floor_of" = some (some (.ref f27))) (a28 : PySem.W.nsIn K mainGlobals "is_sign" = some (some (.ref f28))) (a29 : PySem.W.nsIn K mainGlobals "has_its_rule" = some (some (.ref f29))) (a30 : PySem.W.nsIn K mainGlobals "is_no_greater" = some (some (.ref f30))) (a31 : PySem.W.nsIn K mainGlobals "is_no_less" = some (some (.ref f31))) (a32 : PySem.W.nsIn K mainGlobals "first_within" = some (some (.ref f32))) (a33 : PySem.W.nsIn K mainGlobals "told_cells" = some (some (.ref f33))) (a34 : PySem.W.nsIn K mainGlobals "rule_by" = some (some (.ref f34))) (a35 : PySem.W.nsIn K mainGlobals "checked_clues" = some (some (.ref f35))) (a36 : PySem.W.nsIn K mainGlobals "is_formed" = some (some (.ref f36))) (a37 : PySem.W.nsIn K mainGlobals "step_strikes" = some (some (.ref f37))) (a38 : PySem.W.nsIn K mainGlobals "cells_of" = some (some (.ref f38))) (a39 : PySem.W.nsIn K mainGlobals "checked_floor" = some (some (.ref f39))) (a40 : PySem.W.nsIn K mainGlobals "strikes_by_line" = some (some (.ref f40))) (a41 : PySem.W.nsIn K mainGlobals "read_rule" = some (some (.ref f41))) (a42 : PySem.W.nsIn K mainGlobals "strikes" = some (some (.ref f42))) (a43 : PySem.W.nsIn K mainGlobals "read_rules" = some (some (.ref f43))) (a44 : PySem.W.nsIn K mainGlobals "allowed" = some (some (.ref f44))) (mk2_Puzzle : PySem.W.findIn K (.ref cA_Puzzle) "__init__" = some (some (.ref f45))) (a46 : PySem.W.nsIn K mainGlobals "law" = some (some (.ref f46))) (l0 : K.lookup f0 = some ⟨oc0, od0, .func (PySem.W.fnOf "is_whole" "is_whole" (defArgs s_is_whole) (defBody s_is_whole) (defScope s_is_whole) .none kV0 dc0 pm0 an0 cd0 ct0), sl0⟩) (c0 : PySem.W.codeIn K cd0 "is_whole" = true) (k0 : PySem.W.keepIn K (.ref f0) = true) (l1 : K.lookup f1 = some ⟨oc1, od1, .func (PySem.W.fnOf "many_cells" "many_cells" (defArgs s_many_cells) (defBody s_many_cells) (defScope s_many_cells) .none kV1 dc1 pm1 an1 cd1 ct1), sl1⟩) (c1 : PySem.W.codeIn K cd1 "many_cells" = true) (k1 : PySem.W.keepIn K (.ref f1) = true) (l2 : K.lookup f2 = some ⟨oc2, od2, .func (PySem.W.fnOf "stands" "stands" (defArgs s_stands) (defBody s_stands) (defScope s_stands) .none kV2 dc2 pm2 an2 cd2 ct2), sl2⟩) (c2 : PySem.W.codeIn K cd2 "stands" = true) (k2 : PySem.W.keepIn K (.ref f2) = true) (l3 : K.lookup f3 = some ⟨oc3, od3, .func (PySem.W.fnOf "__init__" "Rule.__init__" (defArgs s_Rule___init__) (defBody s_Rule___init__) (defScope s_Rule___init__) .none kV3 dc3 pm3 an3 cd3 ct3), sl3⟩) (c3 : PySem.W.codeIn K cd3 "Rule.__init__" = true) (k3 : PySem.W.keepIn K (.ref f3) = true) (fn3 : PySem.W.isFn K (.ref f3) = true) (l4 : K.lookup f4 = some ⟨oc4, od4, .func (PySem.W.fnOf "name" "Rule.name" (defArgs s_Rule_name) (defBody s_Rule_name) (defScope s_Rule_name) .none kV4 dc4 pm4 an4 cd4 ct4), sl4⟩) (c4 : PySem.W.codeIn K cd4 "Rule.name" = true) (k4 : PySem.W.keepIn K (.ref f4) = true) (fn4 : PySem.W.isFn K (.ref f4) = true) (l5 : K.lookup f5 = some ⟨oc5, od5, .func (PySem.W.fnOf "spots" "Rule.spots" (defArgs s_Rule_spots) (defBody s_Rule_spots) (defScope s_Rule_spots) .none kV5 dc5 pm5 an5 cd5 ct5), sl5⟩) (c5 : PySem.W.codeIn K cd5 "Rule.spots" = true) (k5 : PySem.W.keepIn K (.ref f5) = true) (fn5 : PySem.W.isFn K (.ref f5) = true) (l6 : K.lookup f6 = some ⟨oc6, od6, .func (PySem.W.fnOf "number_in" "number_in" (defArgs s_number_in) (defBody s_number_in) (defScope s_number_in) .none kV6 dc6 pm6 an6 cd6 ct6), sl6⟩) (c6 : PySem.W.codeIn K cd6 "number_in" = true) (k6 : PySem.W.keepIn K (.ref f6) = true) (l7 : K.lookup f7 = some ⟨oc7, od7, .func (PySem.W.fnOf "place" "Puzzle.place" (defArgs s_Puzzle_place) (defBody s_Puzzle_place) (defScope s_Puzzle_place) .none kV7 dc7 pm7 an7 cd7 ct7), sl7⟩) (c7 : PySem.W.codeIn K cd7 "Puzzle.place" = true) (k7 : PySem.W.keepIn K (.ref f7) = true) (fn7 : PySem.W.isFn K (.ref f7) = true) (l8 : K.lookup f8 = some ⟨oc8, od8, .func (PySem.W.fnOf "clues" "Puzzle.clues" (defArgs s_Puzzle_clues) (defBody s_Puzzle_clues) (defScope s_Puzzle_clues) .none kV8 dc8 pm8 an8 cd8 ct8), sl8⟩) (c8 : PySem.W.codeIn K cd8 "Puzzle.clues" = true) (k8 : PySem.W.keepIn K (.ref f8) = true) (fn8 : PySem.W.isFn K (.ref f8) = true) (l9 : K.lookup f9 = some ⟨oc9, od9, .func (PySem.W.fnOf "rules" "Puzzle.rules" (defArgs s_Puzzle_rules) (defBody s_Puzzle_rules) (defScope s_Puzzle_rules) .none kV9 dc9 pm9 an9 cd9 ct9), sl9⟩) (c9 : PySem.W.codeIn K cd9 "Puzzle.rules" = true) (k9 : PySem.W.keepIn K (.ref f9) = true) (fn9 : PySem.W.isFn K (.ref f9) = true) (l10 : K.lookup f10 = some ⟨oc10, od10, .func (PySem.W.fnOf "_law_cell_at" "_law_cell_at" (defArgs s__law_cell_at) (defBody s__law_cell_at) (defScope s__law_cell_at) .none kV10 dc10 pm10 an10 cd10 ct10), sl10⟩) (c10 : PySem.W.codeIn K cd10 "_law_cell_at" = true) (k10 : PySem.W.keepIn K (.ref f10) = true) (l11 : K.lookup f11 = some ⟨oc11, od11, .func (PySem.W.fnOf "_law_order" "_law_order" (defArgs s__law_order) (defBody s__law_order) (defScope s__law_order) .none kV11 dc11 pm11 an11 cd11 ct11), sl11⟩) (c11 : PySem.W.codeIn K cd11 "_law_order" = true) (k11 : PySem.W.keepIn K (.ref f11) = true) (l12 : K.lookup f12 = some ⟨oc12, od12, .func (PySem.W.fnOf "_law_floor" "_law_floor" (defArgs s__law_floor) (defBody s__law_floor) (defScope s__law_floor) .none kV12 dc12 pm12 an12 cd12 ct12), sl12⟩) (c12 : PySem.W.codeIn K cd12 "_law_floor" = true) (k12 : PySem.W.keepIn K (.ref f12) = true) (l13 : K.lookup f13 = some ⟨oc13, od13, .func (PySem.W.fnOf "_law_less" "_law_less" (defArgs s__law_less) (defBody s__law_less) (defScope s__law_less) .none kV13 dc13 pm13 an13 cd13 ct13), sl13⟩) (c13 : PySem.W.codeIn K cd13 "_law_less" = true) (k13 : PySem.W.keepIn K (.ref f13) = true) (l14 : K.lookup f14 = some ⟨oc14, od14, .func (PySem.W.fnOf "_law_greater" "_law_greater" (defArgs s__law_greater) (defBody s__law_greater) (defScope s__law_greater) .none kV14 dc14 pm14 an14 cd14 ct14), sl14⟩) (c14 : PySem.W.codeIn K cd14 "_law_greater" = true) (k14 : PySem.W.keepIn K (.ref f14) = true) (l15 : K.lookup f15 = some ⟨oc15, od15, .func (PySem.W.fnOf "is_from_one_to" "is_from_one_to" (defArgs s_is_from_one_to) (defBody s_is_from_one_to) (defScope s_is_from_one_to) .none kV15 dc15 pm15 an15 cd15 ct15), sl15⟩) (c15 : PySem.W.codeIn K cd15 "is_from_one_to" = true) (k15 : PySem.W.keepIn K (.ref f15) = true) (l16 : K.lookup f16 = some ⟨oc16, od16, .func (PySem.W.fnOf "signs_in" "signs_in" (defArgs s_signs_in) (defBody s_signs_in) (defScope s_signs_in) .none kV16 dc16 pm16 an16 cd16 ct16), sl16⟩) (c16 : PySem.W.codeIn K cd16 "signs_in" = true) (k16 : PySem.W.keepIn K (.ref f16) = true) (l17 : K.lookup f17 = some ⟨oc17, od17, .func (PySem.W.fnOf "is_cell" "is_cell" (defArgs s_is_cell) (defBody s_is_cell) (defScope s_is_cell) .none kV17 dc17 pm17 an17 cd17 ct17), sl17⟩) (c17 : PySem.W.codeIn K cd17 "is_cell" = true) (k17 : PySem.W.keepIn K (.ref f17) = true) (l18 : K.lookup f18 = some ⟨oc18, od18, .func (PySem.W.fnOf "goes_by" "goes_by" (defArgs s_goes_by) (defBody s_goes_by) (defScope s_goes_by) .none kV18 dc18 pm18 an18 cd18 ct18), sl18⟩) (c18 : PySem.W.codeIn K cd18 "goes_by" = true) (k18 : PySem.W.keepIn K (.ref f18) = true) (l19 : K.lookup f19 = some ⟨oc19, od19, .func (PySem.W.fnOf "ahead_of" "ahead_of" (defArgs s_ahead_of) (defBody s_ahead_of) (defScope s_ahead_of) .none kV19 dc19 pm19 an19 cd19 ct19), sl19⟩) (c19 : PySem.W.codeIn K cd19 "ahead_of" = true) (k19 : PySem.W.keepIn K (.ref f19) = true) (l20 : K.lookup f20 = some ⟨oc20, od20, .func (PySem.W.fnOf "behind" "behind" (defArgs s_behind) (defBody s_behind) (defScope s_behind) .none kV20 dc20 pm20 an20 cd20 ct20), sl20⟩) (c20 : PySem.W.codeIn K cd20 "behind" = true) (k20 : PySem.W.keepIn K (.ref f20) = true) (l21 : K.lookup f21 = some ⟨oc21, od21, .func (PySem.W.fnOf "number_within" "number_within" (defArgs s_number_within) (defBody s_number_within) (defScope s_number_within) .none kV21 dc21 pm21 an21 cd21 ct21), sl21⟩) (c21 : PySem.W.codeIn K cd21 "number_within" = true) (k21 : PySem.W.keepIn K (.ref f21) = true) (l22 : K.lookup f22 = some ⟨oc22, od22, .func (PySem.W.fnOf "is_filling" "is_filling" (defArgs s_is_filling) (defBody s_is_filling) (defScope s_is_filling) .none kV22 dc22 pm22 an22 cd22 ct22), sl22⟩) (c22 : PySem.W.codeIn K cd22 "is_filling" = true) (k22 : PySem.W.keepIn K (.ref f22) = true) (l23 : K.lookup f23 = some ⟨oc23, od23, .func (PySem.W.fnOf "_law_masks" "_law_masks" (defArgs s__law_masks) (defBody s__law_masks) (defScope s__law_masks) .none kV23 dc23 pm23 an23 cd23 ct23), sl23⟩) (c23 : PySem.W.codeIn K cd23 "_law_masks" = true) (k23 : PySem.W.keepIn K (.ref f23) = true) (l24 : K.lookup f24 = some ⟨oc24, od24, .func (PySem.W.fnOf "_law_due" "_law_due" (defArgs s__law_due) (defBody s__law_due) (defScope s__law_due) .none kV24 dc24 pm24 an24 cd24 ct24), sl24⟩) (c24 : PySem.W.codeIn K cd24 "_law_due" = true) (k24 : PySem.W.keepIn K (.ref f24) = true) (l25 : K.lookup f25 = some ⟨oc25, od25, .func (PySem.W.fnOf "_law_clues" "_law_clues" (defArgs s__law_clues) (defBody s__law_clues) (defScope s__law_clues) .none kV25 dc25 pm25 an25 cd25 ct25), sl25⟩) (c25 : PySem.W.codeIn K cd25 "_law_clues" = true) (k25 : PySem.W.keepIn K (.ref f25) = true) (l26 : K.lookup f26 = some ⟨oc26, od26, .func (PySem.W.fnOf "_law_thought" "_law_thought" (defArgs s__law_thought) (defBody s__law_thought) (defScope s__law_thought) .none kV26 dc26 pm26 an26 cd26 ct26), sl26⟩) (c26 : PySem.W.codeIn K cd26 "_law_thought" = true) (k26 : PySem.W.keepIn K (.ref f26) = true) (l27 : K.lookup f27 = some ⟨oc27, od27, .func (PySem.W.fnOf "floor_of" "floor_of" (defArgs s_floor_of) (defBody s_floor_of) (defScope s_floor_of) .none kV27 dc27 pm27 an27 cd27 ct27), sl27⟩) (c27 : PySem.W.codeIn K cd27 "floor_of" = true) (k27 : PySem.W.keepIn K (.ref f27) = true) (l28 : K.lookup f28 = some ⟨oc28, od28, .func (PySem.W.fnOf "is_sign" "is_sign" (defArgs s_is_sign) (defBody s_is_sign) (defScope s_is_sign) .none kV28 dc28 pm28 an28 cd28 ct28), sl28⟩) (c28 : PySem.W.codeIn K cd28 "is_sign" = true) (k28 : PySem.W.keepIn K (.ref f28) = true) (l29 : K.lookup f29 = some ⟨oc29, od29, .func (PySem.W.fnOf "has_its_rule" "has_its_rule" (defArgs s_has_its_rule) (defBody s_has_its_rule) (defScope s_has_its_rule) .none kV29 dc29 pm29 an29 cd29 ct29), sl29⟩) (c29 : PySem.W.codeIn K cd29 "has_its_rule" = true) (k29 : PySem.W.keepIn K (.ref f29) = true) (l30 : K.lookup f30 = some ⟨oc30, od30, .func (PySem.W.fnOf "is_no_greater" "is_no_greater" (defArgs s_is_no_greater) (defBody s_is_no_greater) (defScope s_is_no_greater) .none kV30 dc30 pm30 an30 cd30 ct30), sl30⟩) (c30 : PySem.W.codeIn K cd30 "is_no_greater" = true) (k30 : PySem.W.keepIn K (.ref f30) = true) (l31 : K.lookup f31 = some ⟨oc31, od31, .func (PySem.W.fnOf "is_no_less" "is_no_less" (defArgs s_is_no_less) (defBody s_is_no_less) (defScope s_is_no_less) .none kV31 dc31 pm31 an31 cd31 ct31), sl31⟩) (c31 : PySem.W.codeIn K cd31 "is_no_less" = true) (k31 : PySem.W.keepIn K (.ref f31) = true) (l32 : K.lookup f32 = some ⟨oc32, od32, .func (PySem.W.fnOf "first_within" "first_within" (defArgs s_first_within) (defBody s_first_within) (defScope s_first_within) .none kV32 dc32 pm32 an32 cd32 ct32), sl32⟩) (c32 : PySem.W.codeIn K cd32 "first_within" = true) (k32 : PySem.W.keepIn K (.ref f32) = true) (l33 : K.lookup f33 = some ⟨oc33, od33, .func (PySem.W.fnOf "told_cells" "told_cells" (defArgs s_told_cells) (defBody s_told_cells) (defScope s_told_cells) .none kV33 dc33 pm33 an33 cd33 ct33), sl33⟩) (c33 : PySem.W.codeIn K cd33 "told_cells" = true) (k33 : PySem.W.keepIn K (.ref f33) = true) (l34 : K.lookup f34 = some ⟨oc34, od34, .func (PySem.W.fnOf "rule_by" "rule_by" (defArgs s_rule_by) (defBody s_rule_by) (defScope s_rule_by) .none kV34 dc34 pm34 an34 cd34 ct34), sl34⟩) (c34 : PySem.W.codeIn K cd34 "rule_by" = true) (k34 : PySem.W.keepIn K (.ref f34) = true) (l35 : K.lookup f35 = some ⟨oc35, od35, .func (PySem.W.fnOf "checked_clues" "checked_clues" (defArgs s_checked_clues) (defBody s_checked_clues) (defScope s_checked_clues) .none kV35 dc35 pm35 an35 cd35 ct35), sl35⟩) (c35 : PySem.W.codeIn K cd35 "checked_clues" = true) (k35 : PySem.W.keepIn K (.ref f35) = true) (l36 : K.lookup f36 = some ⟨oc36, od36, .func (PySem.W.fnOf "is_formed" "is_formed" (defArgs s_is_formed) (defBody s_is_formed) (defScope s_is_formed) .none kV36 dc36 pm36 an36 cd36 ct36), sl36⟩) (c36 : PySem.W.codeIn K cd36 "is_formed" = true) (k36 : PySem.W.keepIn K (.ref f36) = true) (l37 : K.lookup f37 = some ⟨oc37, od37, .func (PySem.W.fnOf "step_strikes" "step_strikes" (defArgs s_step_strikes) (defBody s_step_strikes) (defScope s_step_strikes) .none kV37 dc37 pm37 an37 cd37 ct37), sl37⟩) (c37 : PySem.W.codeIn K cd37 "step_strikes" = true) (k37 : PySem.W.keepIn K (.ref f37) = true) (l38 : K.lookup f38 = some ⟨oc38, od38, .func (PySem.W.fnOf "cells_of" "cells_of" (defArgs s_cells_of) (defBody s_cells_of) (defScope s_cells_of) .none kV38 dc38 pm38 an38 cd38 ct38), sl38⟩) (c38 : PySem.W.codeIn K cd38 "cells_of" = true) (k38 : PySem.W.keepIn K (.ref f38) = true) (l39 : K.lookup f39 = some ⟨oc39, od39, .func (PySem.W.fnOf "checked_floor" "checked_floor" (defArgs s_checked_floor) (defBody s_checked_floor) (defScope s_checked_floor) .none kV39 dc39 pm39 an39 cd39 ct39), sl39⟩) (c39 : PySem.W.codeIn K cd39 "checked_floor" = true) (k39 : PySem.W.keepIn K (.ref f39) = true) (l40 : K.lookup f40 = some ⟨oc40, od40, .func (PySem.W.fnOf "strikes_by_line" "strikes_by_line" (defArgs s_strikes_by_line) (defBody s_strikes_by_line) (defScope s_strikes_by_line) .none kV40 dc40 pm40 an40 cd40 ct40), sl40⟩) (c40 : PySem.W.codeIn K cd40 "strikes_by_line" = true) (k40 : PySem.W.keepIn K (.ref f40) = true) (l41 : K.lookup f41 = some ⟨oc41, od41, .func (PySem.W.fnOf "read_rule" "read_rule" (defArgs s_read_rule) (defBody s_read_rule) (defScope s_read_rule) .none kV41 dc41 pm41 an41 cd41 ct41), sl41⟩) (c41 : PySem.W.codeIn K cd41 "read_rule" = true) (k41 : PySem.W.keepIn K (.ref f41) = true) (l42 : K.lookup f42 = some ⟨oc42, od42, .func (PySem.W.fnOf "strikes" "strikes" (defArgs s_strikes) (defBody s_strikes) (defScope s_strikes) .none kV42 dc42 pm42 an42 cd42 ct42), sl42⟩) (c42 : PySem.W.codeIn K cd42 "strikes" = true) (k42 : PySem.W.keepIn K (.ref f42) = true) (l43 : K.lookup f43 = some ⟨oc43, od43, .func (PySem.W.fnOf "read_rules" "read_rules" (defArgs s_read_rules) (defBody s_read_rules) (defScope s_read_rules) .none kV43 dc43 pm43 an43 cd43 ct43), sl43⟩) (c43 : PySem.W.codeIn K cd43 "read_rules" = true) (k43 : PySem.W.keepIn K (.ref f43) = true) (l44 : K.lookup f44 = some ⟨oc44, od44, .func (PySem.W.fnOf "allowed" "allowed" (defArgs s_allowed) (defBody s_allowed) (defScope s_allowed) .none kV44 dc44 pm44 an44 cd44 ct44), sl44⟩) (c44 : PySem.W.codeIn K cd44 "allowed" = true) (k44 : PySem.W.keepIn K (.ref f44) = true) (l45 : K.lookup f45 = some ⟨oc45, od45, .func (PySem.W.fnOf "__init__" "Puzzle.__init__" (defArgs s_Puzzle___init__) (defBody s_Puzzle___init__) (defScope s_Puzzle___init__) .none kV45 dc45 pm45 an45 cd45 ct45), sl45⟩) (c45 : PySem.W.codeIn K cd45 "Puzzle.__init__" = true) (k45 : PySem.W.keepIn K (.ref f45) = true) (fn45 : PySem.W.isFn K (.ref f45) = true) (l46 : K.lookup f46 = some ⟨oc46, od46, .func (PySem.W.fnOf "law" "law" (defArgs s_law) (defBody s_law) (defScope s_law) .none kV46 dc46 pm46 an46 cd46 ct46), sl46⟩) (c46 : PySem.W.codeIn K cd46 "law" = true) (k46 : PySem.W.keepIn K (.ref f46) = true) (mk1_Unlike : PySem.W.makesIn K cA_Unlike = true) (mk4_Unlike : PySem.W.keepIn K (.ref cA_Unlike) = true) (cl1_Unlike : PySem.W.plainGet K cA_Unlike Str.empty = true) (cl2_Unlike : PySem.W.hasDictIn K cA_Unlike = true) (cl3_Unlike : PySem.W.plainOver K cA_Unlike = true) (cl4_Unlike : PySem.W.findIn K (.ref cA_Unlike) "__setattr__" = some (some (.builtin "object.__setattr__"))) (mk1_Sum : PySem.W.makesIn K cA_Sum = true) (mk4_Sum : PySem.W.keepIn K (.ref cA_Sum) = true) (cl1_Sum : PySem.W.plainGet K cA_Sum Str.empty = true) (cl2_Sum : PySem.W.hasDictIn K cA_Sum = true) (cl3_Sum : PySem.W.plainOver K cA_Sum = true) (cl4_Sum : PySem.W.findIn K (.ref cA_Sum) "__setattr__" = some (some (.builtin "object.__setattr__"))) (mk1_Rising : PySem.W.makesIn K cA_Rising = true) (mk4_Rising : PySem.W.keepIn K (.ref cA_Rising) = true) (cl1_Rising : PySem.W.plainGet K cA_Rising Str.empty = true) (cl2_Rising : PySem.W.hasDictIn K cA_Rising = true) (cl3_Rising : PySem.W.plainOver K cA_Rising = true) (cl4_Rising : PySem.W.findIn K (.ref cA_Rising) "__setattr__" = some (some (.builtin "object.__setattr__"))) (mk1_Seen : PySem.W.makesIn K cA_Seen = true) (mk4_Seen : PySem.W.keepIn K (.ref cA_Seen) = true) (cl1_Seen : PySem.W.plainGet K cA_Seen Str.empty = true) (cl2_Seen : PySem.W.hasDictIn K cA_Seen = true) (cl3_Seen : PySem.W.plainOver K cA_Seen = true) (cl4_Seen : PySem.W.findIn K (.ref cA_Seen) "__setattr__" = some (some (.builtin "object.__setattr__"))) (mk1_Count : PySem.W.makesIn K cA_Count = true) (mk4_Count : PySem.W.keepIn K (.ref cA_Count) = true) (cl1_Count : PySem.W.plainGet K cA_Count Str.empty = true) (cl2_Count : PySem.W.hasDictIn K cA_Count = true) (cl3_Count : PySem.W.plainOver K cA_Count = true) (cl4_Count : PySem.W.findIn K (.ref cA_Count) "__setattr__" = some (some (.builtin "object.__setattr__"))) (mk1_Joined : PySem.W.makesIn K cA_Joined = true) (mk4_Joined : PySem.W.keepIn K (.ref cA_Joined) = true) (cl1_Joined : PySem.W.plainGet K cA_Joined Str.empty = true) (cl2_Joined : PySem.W.hasDictIn K cA_Joined = true) (cl3_Joined : PySem.W.plainOver K cA_Joined = true) (cl4_Joined : PySem.W.findIn K (.ref cA_Joined) "__setattr__" = some (some (.builtin "object.__setattr__"))) (mk1_NoSquare : PySem.W.makesIn K cA_NoSquare = true) (mk4_NoSquare : PySem.W.keepIn K (.ref cA_NoSquare) = true) (cl1_NoSquare : PySem.W.plainGet K cA_NoSquare Str.empty = true) (cl2_NoSquare : PySem.W.hasDictIn K cA_NoSquare = true) (cl3_NoSquare : PySem.W.plainOver K cA_NoSquare = true) (cl4_NoSquare : PySem.W.findIn K (.ref cA_NoSquare) "__setattr__" = some (some (.builtin "object.__setattr__"))) (mk1_Ring : PySem.W.makesIn K cA_Ring = true) (mk4_Ring : PySem.W.keepIn K (.ref cA_Ring) = true) (cl1_Ring : PySem.W.plainGet K cA_Ring Str.empty = true) (cl2_Ring : PySem.W.hasDictIn K cA_Ring = true) (cl3_Ring : PySem.W.plainOver K cA_Ring = true) (cl4_Ring : PySem.W.findIn K (.ref cA_Ring) "__setattr__" = some (some (.builtin "object.__setattr__"))) (mk1_Puzzle : PySem.W.makesIn K cA_Puzzle = true) (mk4_Puzzle : PySem.W.keepIn K (.ref cA_Puzzle) = true) (cl1_Puzzle : PySem.W.plainGet K cA_Puzzle Str.empty = true) (cl2_Puzzle : PySem.W.hasDictIn K cA_Puzzle = true) (cl3_Puzzle : PySem.W.plainOver K cA_Puzzle = true) (cl4_Puzzle : PySem.W.findIn K (.ref cA_Puzzle) "__setattr__" = some (some (.builtin "object.__setattr__"))) (na_c_amount_Unlike : PySem.W.findIn K (.ref cA_Unlike) "amount" = some none) (na_c_amount_Sum : PySem.W.findIn K (.ref cA_Sum) "amount" = some none) (na_c_amount_Rising : PySem.W.findIn K (.ref cA_Rising) "amount" = some none) (na_c_amount_Seen : PySem.W.findIn K (.ref cA_Seen) "amount" = some none) (na_c_amount_Count : PySem.W.findIn K (.ref cA_Count) "amount" = some none) (na_c_amount_Joined : PySem.W.findIn K (.ref cA_Joined) "amount" = some none) (na_c_amount_NoSquare : PySem.W.findIn K (.ref cA_NoSquare) "amount" = some none) (na_c_amount_Ring : PySem.W.findIn K (.ref cA_Ring) "amount" = some none) (na_c_cells_Unlike : PySem.W.findIn K (.ref cA_Unlike) "cells" = some none) (na_c_cells_Sum : PySem.W.findIn K (.ref cA_Sum) "cells" = some none) (na_c_cells_Rising : PySem.W.findIn K (.ref cA_Rising) "cells" = some none) (na_c_cells_Seen : PySem.W.findIn K (.ref cA_Seen) "cells" = some none) (na_c_cells_Count : PySem.W.findIn K (.ref cA_Count) "cells" = some none) (na_c_cells_Joined : PySem.W.findIn K (.ref cA_Joined) "cells" = some none) (na_c_cells_NoSquare : PySem.W.findIn K (.ref cA_NoSquare) "cells" = some none) (na_c_cells_Ring : PySem.W.findIn K (.ref cA_Ring) "cells" = some none) (na_c_floor_Unlike : PySem.W.findIn K (.ref cA_Unlike) "floor" = some none) (na_c_floor_Sum : PySem.W.findIn K (.ref cA_Sum) "floor" = some none) (na_c_floor_Rising : PySem.W.findIn K (.ref cA_Rising) "floor" = some none) (na_c_floor_Seen : PySem.W.findIn K (.ref cA_Seen) "floor" = some none) (na_c_floor_Count : PySem.W.findIn K (.ref cA_Count) "floor" = some none) (na_c_floor_Joined : PySem.W.findIn K (.ref cA_Joined) "floor" = some none) (na_c_floor_NoSquare : PySem.W.findIn K (.ref cA_NoSquare) "floor" = some none) (na_c_floor_Ring : PySem.W.findIn K (.ref cA_Ring) "floor" = some none) (na_c_mark_Unlike : PySem.W.findIn K (.ref cA_Unlike) "mark" = some none) (na_c_mark_Sum : PySem.W.findIn K (.ref cA_Sum) "mark" = some none) (na_c_mark_Rising : PySem.W.findIn K (.ref cA_Rising) "mark" = some none) (na_c_mark_Seen : PySem.W.findIn K (.ref cA_Seen) "mark" = some none) (na_c_mark_Count : PySem.W.findIn K (.ref cA_Count) "mark" = some none) (na_c_mark_Joined : PySem.W.findIn K (.ref cA_Joined) "mark" = some none) (na_c_mark_NoSquare : PySem.W.findIn K (.ref cA_NoSquare) "mark" = some none) (na_c_mark_Ring : PySem.W.findIn K (.ref cA_Ring) "mark" = some none) (na_c_words_Unlike : PySem.W.findIn K (.ref cA_Unlike) "words" = some none) (na_c_words_Sum : PySem.W.findIn K (.ref cA_Sum) "words" = some none) (na_c_words_Rising : PySem.W.findIn K (.ref cA_Rising) "words" = some none) (na_c_words_Seen : PySem.W.findIn K (.ref cA_Seen) "words" = some none) (na_c_words_Count : PySem.W.findIn K (.ref cA_Count) "words" = some none) (na_c_words_Joined : PySem.W.findIn K (.ref cA_Joined) "words" = some none) (na_c_words_NoSquare : PySem.W.findIn K (.ref cA_NoSquare) "words" = some none) (na_c_words_Ring : PySem.W.findIn K (.ref cA_Ring) "words" = some none) (na_d_floor_Puzzle : PySem.W.findIn K (.ref cA_Puzzle) "floor" = some none) (na_d_given_Puzzle : PySem.W.findIn K (.ref cA_Puzzle) "given" = some none) (na_d_laws_Puzzle : PySem.W.findIn K (.ref cA_Puzzle) "laws" = some none) (gt1_KINDS : PySem.W.nsIn K mainGlobals "KINDS" = some (some (.ref pt_KINDS))) (gt2_KINDS : K.lookup pt_KINDS = some ⟨.type "tuple", od_KINDS, .seq #[.str (tx [99, 108, 117, 101]) t0_KINDS, .str (tx [111, 110, 108, 121]) t1_KINDS, .str (tx [112, 108, 97, 99, 101]) t2_KINDS, .str (tx [99, 111, 117, 110, 116]) t3_KINDS, .str (tx [115, 116, 101, 112]) t4_KINDS, .str (tx [115, 117, 109]) t5_KINDS, .str (tx [115, 113, 117, 97, 114, 101]) t6_KINDS, .str (tx [114, 101, 97, 99, 104]) t7_KINDS, .str (tx [116, 117, 114, 110]) t8_KINDS, .str (tx [112, 97, 105, 114]) t9_KINDS, .str (tx [119, 97, 121, 115]) t10_KINDS] nn_KINDS, sl_KINDS⟩) (gt1_LINE_KINDS : PySem.W.nsIn K mainGlobals "LINE_KINDS" = some (some (.ref pt_LINE_KINDS))) (gt2_LINE_KINDS : K.lookup pt_LINE_KINDS = some ⟨.type "tuple", od_LINE_KINDS, .seq #[.str (tx [99, 108, 117, 101]) t0_LINE_KINDS, .str (tx [111, 110, 108, 121]) t1_LINE_KINDS, .str (tx [112, 108, 97, 99, 101]) t2_LINE_KINDS, .str (tx [115, 116, 101, 112]) t3_LINE_KINDS, .str (tx [112, 97, 105, 114]) t4_LINE_KINDS] nn_LINE_KINDS, sl_LINE_KINDS⟩) (gt1_NUMBER_KINDS : PySem.W.nsIn K mainGlobals "NUMBER_KINDS" = some (some (.ref pt_NUMBER_KINDS))) (gt2_NUMBER_KINDS : K.lookup pt_NUMBER_KINDS = some ⟨.type "tuple", od_NUMBER_KINDS, .seq #[.str (tx [99, 111, 117, 110, 116]) t0_NUMBER_KINDS, .str (tx [115, 117, 109]) t1_NUMBER_KINDS, .str (tx [119, 97, 121, 115]) t2_NUMBER_KINDS] nn_NUMBER_KINDS, sl_NUMBER_KINDS⟩) (gt1_OF_ALL_CELLS : PySem.W.nsIn K mainGlobals "OF_ALL_CELLS" = some (some (.ref pt_OF_ALL_CELLS))) (gt2_OF_ALL_CELLS : K.lookup pt_OF_ALL_CELLS = some ⟨.type "tuple", od_OF_ALL_CELLS, .seq #[.str (tx [106, 111, 105, 110, 101, 100]) t0_OF_ALL_CELLS, .str (tx [110, 111, 115, 113, 117, 97, 114, 101]) t1_OF_ALL_CELLS, .str (tx [114, 105, 110, 103]) t2_OF_ALL_CELLS] nn_OF_ALL_CELLS, sl_OF_ALL_CELLS⟩) (gt1_WITH_NUMBER : PySem.W.nsIn K mainGlobals "WITH_NUMBER" = some (some (.ref pt_WITH_NUMBER))) (gt2_WITH_NUMBER : K.lookup pt_WITH_NUMBER = some ⟨.type "tuple", od_WITH_NUMBER, .seq #[.str (tx [115, 117, 109]) t0_WITH_NUMBER, .str (tx [115, 101, 101, 110]) t1_WITH_NUMBER, .str (tx [99, 111, 117, 110, 116]) t2_WITH_NUMBER] nn_WITH_NUMBER, sl_WITH_NUMBER⟩) (gt1_WITH_SIGN : PySem.W.nsIn K mainGlobals "WITH_SIGN" = some (some (.ref pt_WITH_SIGN))) (gt2_WITH_SIGN : K.lookup pt_WITH_SIGN = some ⟨.type "tuple", od_WITH_SIGN, .seq #[.str (tx [99, 111, 117, 110, 116]) t0_WITH_SIGN, .str (tx [106, 111, 105, 110, 101, 100]) t1_WITH_SIGN, .str (tx [110, 111, 115, 113, 117, 97, 114, 101]) t2_WITH_SIGN, .str (tx [114, 105, 110, 103]) t3_WITH_SIGN] nn_WITH_SIGN, sl_WITH_SIGN⟩) (gd1_RULES_OF_KIND : PySem.W.nsIn K mainGlobals "RULES_OF_KIND" = some (some (.ref pd_RULES_OF_KIND))) (gd2_RULES_OF_KIND : K.lookup pd_RULES_OF_KIND = some ⟨.type "dict", none, .dict #[⟨dh0_RULES_OF_KIND, .str (tx [111, 110, 108, 121]) dt0_RULES_OF_KIND, .ref dq0_RULES_OF_KIND⟩, ⟨dh1_RULES_OF_KIND, .str (tx [112, 108, 97, 99, 101]) dt1_RULES_OF_KIND, .ref dq1_RULES_OF_KIND⟩, ⟨dh2_RULES_OF_KIND, .str (tx [99, 111, 117, 110, 116]) dt2_RULES_OF_KIND, .ref dq2_RULES_OF_KIND⟩, ⟨dh3_RULES_OF_KIND, .str (tx [115, 116, 101, 112]) dt3_RULES_OF_KIND, .ref dq3_RULES_OF_KIND⟩, ⟨dh4_RULES_OF_KIND, .str (tx [115, 117, 109]) dt4_RULES_OF_KIND, .ref dq4_RULES_OF_KIND⟩, ⟨dh5_RULES_OF_KIND, .str (tx [115, 113, 117, 97, 114, 101]) dt5_RULES_OF_KIND, .ref dq5_RULES_OF_KIND⟩, ⟨dh6_RULES_OF_KIND, .str (tx [114, 101, 97, 99, 104]) dt6_RULES_OF_KIND, .ref dq6_RULES_OF_KIND⟩, ⟨dh7_RULES_OF_KIND, .str (tx [116, 117, 114, 110]) dt7_RULES_OF_KIND, .ref dq7_RULES_OF_KIND⟩, ⟨dh8_RULES_OF_KIND, .str (tx [112, 97, 105, 114]) dt8_RULES_OF_KIND, .ref dq8_RULES_OF_KIND⟩] ep_RULES_OF_KIND, #[]⟩) (gd3_0_RULES_OF_KIND : K.lookup dq0_RULES_OF_KIND = some ⟨.type "tuple", dod0_RULES_OF_KIND, .seq #[.str (tx [117, 110, 108, 105, 107, 101]) du0_0_RULES_OF_KIND] dn0_RULES_OF_KIND, dsl0_RULES_OF_KIND⟩) (gd4_0_RULES_OF_KIND : dh0_RULES_OF_KIND = hashStr w (tx [111, 110, 108, 121])) (gd3_1_RULES_OF_KIND : K.lookup dq1_RULES_OF_KIND = some ⟨.type "tuple", dod1_RULES_OF_KIND, .seq #[.str (tx [117, 110, 108, 105, 107, 101]) du1_0_RULES_OF_KIND] dn1_RULES_OF_KIND, dsl1_RULES_OF_KIND⟩) (gd4_1_RULES_OF_KIND : dh1_RULES_OF_KIND = hashStr w (tx [112, 108, 97, 99, 101])) (gd3_2_RULES_OF_KIND : K.lookup dq2_RULES_OF_KIND = some ⟨.type "tuple", dod2_RULES_OF_KIND, .seq #[.str (tx [99, 111, 117, 110, 116]) du2_0_RULES_OF_KIND] dn2_RULES_OF_KIND, dsl2_RULES_OF_KIND⟩) (gd4_2_RULES_OF_KIND : dh2_RULES_OF_KIND = hashStr w (tx [99, 111, 117, 110, 116])) (gd3_3_RULES_OF_KIND : K.lookup dq3_RULES_OF_KIND = some ⟨.type "tuple", dod3_RULES_OF_KIND, .seq #[.str (tx [114, 105, 115, 105, 110, 103]) du3_0_RULES_OF_KIND] dn3_RULES_OF_KIND, dsl3_RULES_OF_KIND⟩) (gd4_3_RULES_OF_KIND : dh3_RULES_OF_KIND = hashStr w (tx [115, 116, 101, 112])) (gd3_4_RULES_OF_KIND : K.lookup dq4_RULES_OF_KIND = some ⟨.type "tuple", dod4_RULES_OF_KIND, .seq #[.str (tx [115, 117, 109]) du4_0_RULES_OF_KIND] dn4_RULES_OF_KIND, dsl4_RULES_OF_KIND⟩) (gd4_4_RULES_OF_KIND : dh4_RULES_OF_KIND = hashStr w (tx [115, 117, 109])) (gd3_5_RULES_OF_KIND : K.lookup dq5_RULES_OF_KIND = some ⟨.type "tuple", dod5_RULES_OF_KIND, .seq #[.str (tx [110, 111, 115, 113, 117, 97, 114, 101]) du5_0_RULES_OF_KIND] dn5_RULES_OF_KIND, dsl5_RULES_OF_KIND⟩) (gd4_5_RULES_OF_KIND : dh5_RULES_OF_KIND = hashStr w (tx [115, 113, 117, 97, 114, 101])) (gd3_6_RULES_OF_KIND : K.lookup dq6_RULES_OF_KIND = some ⟨.type "tuple", dod6_RULES_OF_KIND, .seq #[.str (tx [106, 111, 105, 110, 101, 100]) du6_0_RULES_OF_KIND, .str (tx [114, 105, 110, 103]) du6_1_RULES_OF_KIND] dn6_RULES_OF_KIND, dsl6_RULES_OF_KIND⟩) (gd4_6_RULES_OF_KIND : dh6_RULES_OF_KIND = hashStr w (tx [114, 101, 97, 99, 104])) (gd3_7_RULES_OF_KIND : K.lookup dq7_RULES_OF_KIND = some ⟨.type "tuple", dod7_RULES_OF_KIND, .seq #[.str (tx [114, 105, 110, 103]) du7_0_RULES_OF_KIND] dn7_RULES_OF_KIND, dsl7_RULES_OF_KIND⟩) (gd4_7_RULES_OF_KIND : dh7_RULES_OF_KIND = hashStr w (tx [116, 117, 114, 110])) (gd3_8_RULES_OF_KIND : K.lookup dq8_RULES_OF_KIND = some ⟨.type "tuple", dod8_RULES_OF_KIND, .seq #[.str (tx [117, 110, 108, 105, 107, 101]) du8_0_RULES_OF_KIND] dn8_RULES_OF_KIND, dsl8_RULES_OF_KIND⟩) (gd4_8_RULES_OF_KIND : dh8_RULES_OF_KIND = hashStr w (tx [112, 97, 105, 114])) (kc_FIGURES : PySem.W.nsIn K mainGlobals "FIGURES" = some (some (.str (tx [48, 49, 50, 51, 52, 53, 54, 55, 56, 57]) tk_FIGURES))) (kc_MOST_CELLS : PySem.W.nsIn K mainGlobals "MOST_CELLS" = some (some (.int 16 tk_MOST_CELLS))) (kc_MOST_FIGURES : PySem.W.nsIn K mainGlobals "MOST_FIGURES" = some (some (.int 9 tk_MOST_FIGURES))) (kc_MOST_NUMBER : PySem.W.nsIn K mainGlobals "MOST_NUMBER" = some (some (.int 99 tk_MOST_NUMBER))) (kc_MOST_RULES : PySem.W.nsIn K mainGlobals "MOST_RULES" = some (some (.int 12 tk_MOST_RULES))) (kc_MOST_SIDE : PySem.W.nsIn K mainGlobals "MOST_SIDE" = some (some (.int 6 tk_MOST_SIDE))) (kc_MOST_SIGNS : PySem.W.nsIn K mainGlobals "MOST_SIGNS" = some (some (.int 6 tk_MOST_SIGNS))) (z_len : PySem.W.nsIn K mainGlobals "len" = some none) (z_abs : PySem.W.nsIn K mainGlobals "abs" = some none) (z_min : PySem.W.nsIn K mainGlobals "min" = some none) (z_max : PySem.W.nsIn K mainGlobals "max" = some none) (z_sorted : PySem.W.nsIn K mainGlobals "sorted" = some none) (z_any : PySem.W.nsIn K mainGlobals "any" = some none) (z_isinstance : PySem.W.nsIn K mainGlobals "isinstance" = some none) (z_list : PySem.W.nsIn K mainGlobals "list" = some none) (z_int : PySem.W.nsIn K mainGlobals "int" = some none) (z_bool : PySem.W.nsIn K mainGlobals "bool" = some none) (z_str : PySem.W.nsIn K mainGlobals "str" = some none) (z_tuple : PySem.W.nsIn K mainGlobals "tuple" = some none) (z_reversed : PySem.W.nsIn K mainGlobals "reversed" = some none) (z_set : PySem.W.nsIn K mainGlobals "set" = some none) (z_range : PySem.W.nsIn K mainGlobals "range" = some none) (z_zip : PySem.W.nsIn K mainGlobals "zip" = some none) (z_all : PySem.W.nsIn K mainGlobals "all" = some none) (z_sum : PySem.W.nsIn K mainGlobals "sum" = some none) (z_enumerate : PySem.W.nsIn K mainGlobals "enumerate" = some none) :
    ∃ fd : FuncData, (∀ (s : Shared) (v : Value), BindsTo s fd ⟨[v], []⟩ [("_law_script", v)]) ∧ ∀ base : Heap, K.In base → base.Ns mainGlobals mg → FnOk l.prog w K mg base CX0 9 fa fd ["_law_script"] (sp_law0 K) := by
  have e := hfa.symm.trans (PySem.W.mg_of X G a46)
  cases e
  have B : Bt2 mg := ⟨⟨PySem.W.mg_none_of X G z_len, PySem.W.mg_none_of X G z_abs, PySem.W.mg_none_of X G z_min, PySem.W.mg_none_of X G z_max, PySem.W.mg_none_of X G z_sorted, PySem.W.mg_none_of X G z_any, PySem.W.mg_none_of X G z_isinstance, PySem.W.mg_none_of X G z_list, PySem.W.mg_none_of X G z_int, PySem.W.mg_none_of X G z_bool, PySem.W.mg_none_of X G z_str, PySem.W.mg_none_of X G z_tuple, PySem.W.mg_none_of X G z_reversed, PySem.W.mg_none_of X G z_set, PySem.W.mg_none_of X G z_range, PySem.W.mg_none_of X G z_zip⟩, PySem.W.mg_none_of X G z_all, PySem.W.mg_none_of X G z_sum, PySem.W.mg_none_of X G z_enumerate⟩
  have F0 := fun_mk (st := s_is_whole) l0 c0 k0
  have F1 := fun_mk (st := s_many_cells) l1 c1 k1
  have F2 := fun_mk (st := s_stands) l2 c2 k2
  have F3 := fun_mk (st := s_Rule___init__) l3 c3 k3
  have F4 := fun_mk (st := s_Rule_name) l4 c4 k4
  have F5 := fun_mk (st := s_Rule_spots) l5 c5 k5
  have F6 := fun_mk (st := s_number_in) l6 c6 k6
  have F7 := fun_mk (st := s_Puzzle_place) l7 c7 k7
  have F8 := fun_mk (st := s_Puzzle_clues) l8 c8 k8
  have F9 := fun_mk (st := s_Puzzle_rules) l9 c9 k9
  have F10 := fun_mk (st := s__law_cell_at) l10 c10 k10
  have F11 := fun_mk (st := s__law_order) l11 c11 k11
  have F12 := fun_mk (st := s__law_floor) l12 c12 k12
  have F13 := fun_mk (st := s__law_less) l13 c13 k13
  have F14 := fun_mk (st := s__law_greater) l14 c14 k14
  have F15 := fun_mk (st := s_is_from_one_to) l15 c15 k15
  have F16 := fun_mk (st := s_signs_in) l16 c16 k16
  have F17 := fun_mk (st := s_is_cell) l17 c17 k17
  have F18 := fun_mk (st := s_goes_by) l18 c18 k18
  have F19 := fun_mk (st := s_ahead_of) l19 c19 k19
  have F20 := fun_mk (st := s_behind) l20 c20 k20
  have F21 := fun_mk (st := s_number_within) l21 c21 k21
  have F22 := fun_mk (st := s_is_filling) l22 c22 k22
  have F23 := fun_mk (st := s__law_masks) l23 c23 k23
  have F24 := fun_mk (st := s__law_due) l24 c24 k24
  have F25 := fun_mk (st := s__law_clues) l25 c25 k25
  have F26 := fun_mk (st := s__law_thought) l26 c26 k26
  have F27 := fun_mk (st := s_floor_of) l27 c27 k27
  have F28 := fun_mk (st := s_is_sign) l28 c28 k28
  have F29 := fun_mk (st := s_has_its_rule) l29 c29 k29
  have F30 := fun_mk (st := s_is_no_greater) l30 c30 k30
  have F31 := fun_mk (st := s_is_no_less) l31 c31 k31
  have F32 := fun_mk (st := s_first_within) l32 c32 k32
  have F33 := fun_mk (st := s_told_cells) l33 c33 k33
  have F34 := fun_mk (st := s_rule_by) l34 c34 k34
  have F35 := fun_mk (st := s_checked_clues) l35 c35 k35
  have F36 := fun_mk (st := s_is_formed) l36 c36 k36
  have F37 := fun_mk (st := s_step_strikes) l37 c37 k37
  have F38 := fun_mk (st := s_cells_of) l38 c38 k38
  have F39 := fun_mk (st := s_checked_floor) l39 c39 k39
  have F40 := fun_mk (st := s_strikes_by_line) l40 c40 k40
  have F41 := fun_mk (st := s_read_rule) l41 c41 k41
  have F42 := fun_mk (st := s_strikes) l42 c42 k42
  have F43 := fun_mk (st := s_read_rules) l43 c43 k43
  have F44 := fun_mk (st := s_allowed) l44 c44 k44
  have F45 := fun_mk (st := s_Puzzle___init__) l45 c45 k45
  have F46 := fun_mk (st := s_law) l46 c46 k46
  refine ⟨PySem.W.fnOf "law" "law" (defArgs s_law) (defBody s_law) (defScope s_law) .none kV46 dc46 pm46 an46 cd46 ct46, fun s v => .of_eq rfl, fun base _ _ => ?_⟩
  have C_FIGURES := PySem.W.mg_of X G kc_FIGURES
  have C_MOST_CELLS := PySem.W.mg_of X G kc_MOST_CELLS
  have C_MOST_FIGURES := PySem.W.mg_of X G kc_MOST_FIGURES
  have C_MOST_NUMBER := PySem.W.mg_of X G kc_MOST_NUMBER
  have C_MOST_RULES := PySem.W.mg_of X G kc_MOST_RULES
  have C_MOST_SIDE := PySem.W.mg_of X G kc_MOST_SIDE
  have C_MOST_SIGNS := PySem.W.mg_of X G kc_MOST_SIGNS
  have cls_Unlike : Cls K cA_Unlike := ⟨cl1_Unlike, cl2_Unlike, cl3_Unlike, cl4_Unlike⟩
  have cls_Sum : Cls K cA_Sum := ⟨cl1_Sum, cl2_Sum, cl3_Sum, cl4_Sum⟩
  have cls_Rising : Cls K cA_Rising := ⟨cl1_Rising, cl2_Rising, cl3_Rising, cl4_Rising⟩
  have cls_Seen : Cls K cA_Seen := ⟨cl1_Seen, cl2_Seen, cl3_Seen, cl4_Seen⟩
  have cls_Count : Cls K cA_Count := ⟨cl1_Count, cl2_Count, cl3_Count, cl4_Count⟩
  have cls_Joined : Cls K cA_Joined := ⟨cl1_Joined, cl2_Joined, cl3_Joined, cl4_Joined⟩
  have cls_NoSquare : Cls K cA_NoSquare := ⟨cl1_NoSquare, cl2_NoSquare, cl3_NoSquare, cl4_NoSquare⟩
  have cls_Ring : Cls K cA_Ring := ⟨cl1_Ring, cl2_Ring, cl3_Ring, cl4_Ring⟩
  have cls_Puzzle : Cls K cA_Puzzle := ⟨cl1_Puzzle, cl2_Puzzle, cl3_Puzzle, cl4_Puzzle⟩
  have FK_c_amount : FldK K (mkC cA_Unlike cA_Sum cA_Rising cA_Seen cA_Count cA_Joined cA_NoSquare cA_Ring) "amount" := ⟨fun i hi => by cases i with | Rule => exact (Bool.false_ne_true hi).elim | Unlike => exact ⟨cls_Unlike, na_c_amount_Unlike⟩ | Sum => exact ⟨cls_Sum, na_c_amount_Sum⟩ | Rising => exact ⟨cls_Rising, na_c_amount_Rising⟩ | Seen => exact ⟨cls_Seen, na_c_amount_Seen⟩ | Count => exact ⟨cls_Count, na_c_amount_Count⟩ | Joined => exact ⟨cls_Joined, na_c_amount_Joined⟩ | NoSquare => exact ⟨cls_NoSquare, na_c_amount_NoSquare⟩ | Ring => exact ⟨cls_Ring, na_c_amount_Ring⟩⟩
  have FK_c_cells : FldK K (mkC cA_Unlike cA_Sum cA_Rising cA_Seen cA_Count cA_Joined cA_NoSquare cA_Ring) "cells" := ⟨fun i hi => by cases i with | Rule => exact (Bool.false_ne_true hi).elim | Unlike => exact ⟨cls_Unlike, na_c_cells_Unlike⟩ | Sum => exact ⟨cls_Sum, na_c_cells_Sum⟩ | Rising => exact ⟨cls_Rising, na_c_cells_Rising⟩ | Seen => exact ⟨cls_Seen, na_c_cells_Seen⟩ | Count => exact ⟨cls_Count, na_c_cells_Count⟩ | Joined => exact ⟨cls_Joined, na_c_cells_Joined⟩ | NoSquare => exact ⟨cls_NoSquare, na_c_cells_NoSquare⟩ | Ring => exact ⟨cls_Ring, na_c_cells_Ring⟩⟩
  have FK_c_floor : FldK K (mkC cA_Unlike cA_Sum cA_Rising cA_Seen cA_Count cA_Joined cA_NoSquare cA_Ring) "floor" := ⟨fun i hi => by cases i with | Rule => exact (Bool.false_ne_true hi).elim | Unlike => exact ⟨cls_Unlike, na_c_floor_Unlike⟩ | Sum => exact ⟨cls_Sum, na_c_floor_Sum⟩ | Rising => exact ⟨cls_Rising, na_c_floor_Rising⟩ | Seen => exact ⟨cls_Seen, na_c_floor_Seen⟩ | Count => exact ⟨cls_Count, na_c_floor_Count⟩ | Joined => exact ⟨cls_Joined, na_c_floor_Joined⟩ | NoSquare => exact ⟨cls_NoSquare, na_c_floor_NoSquare⟩ | Ring => exact ⟨cls_Ring, na_c_floor_Ring⟩⟩
  have FK_c_mark : FldK K (mkC cA_Unlike cA_Sum cA_Rising cA_Seen cA_Count cA_Joined cA_NoSquare cA_Ring) "mark" := ⟨fun i hi => by cases i with | Rule => exact (Bool.false_ne_true hi).elim | Unlike => exact ⟨cls_Unlike, na_c_mark_Unlike⟩ | Sum => exact ⟨cls_Sum, na_c_mark_Sum⟩ | Rising => exact ⟨cls_Rising, na_c_mark_Rising⟩ | Seen => exact ⟨cls_Seen, na_c_mark_Seen⟩ | Count => exact ⟨cls_Count, na_c_mark_Count⟩ | Joined => exact ⟨cls_Joined, na_c_mark_Joined⟩ | NoSquare => exact ⟨cls_NoSquare, na_c_mark_NoSquare⟩ | Ring => exact ⟨cls_Ring, na_c_mark_Ring⟩⟩
  have FK_c_words : FldK K (mkC cA_Unlike cA_Sum cA_Rising cA_Seen cA_Count cA_Joined cA_NoSquare cA_Ring) "words" := ⟨fun i hi => by cases i with | Rule => exact (Bool.false_ne_true hi).elim | Unlike => exact ⟨cls_Unlike, na_c_words_Unlike⟩ | Sum => exact ⟨cls_Sum, na_c_words_Sum⟩ | Rising => exact ⟨cls_Rising, na_c_words_Rising⟩ | Seen => exact ⟨cls_Seen, na_c_words_Seen⟩ | Count => exact ⟨cls_Count, na_c_words_Count⟩ | Joined => exact ⟨cls_Joined, na_c_words_Joined⟩ | NoSquare => exact ⟨cls_NoSquare, na_c_words_NoSquare⟩ | Ring => exact ⟨cls_Ring, na_c_words_Ring⟩⟩
  have FK_d_floor : FldK K (mkD cA_Puzzle) "floor" := ⟨fun i hi => by cases i; exact ⟨cls_Puzzle, na_d_floor_Puzzle⟩⟩
  have FK_d_given : FldK K (mkD cA_Puzzle) "given" := ⟨fun i hi => by cases i; exact ⟨cls_Puzzle, na_d_given_Puzzle⟩⟩
  have FK_d_laws : FldK K (mkD cA_Puzzle) "laws" := ⟨fun i hi => by cases i; exact ⟨cls_Puzzle, na_d_laws_Puzzle⟩⟩
  have G_KINDS : GTup K mg "KINDS" gt_KINDS := ⟨pt_KINDS, _, _, _, PySem.W.mg_of X G gt1_KINDS, gt2_KINDS, rfl, rfl, Nat.le_of_lt (small1000 (by show (11 : Nat) ≤ 1000; decide)), (.cons ⟨_, rfl⟩ (.cons ⟨_, rfl⟩ (.cons ⟨_, rfl⟩ (.cons ⟨_, rfl⟩ (.cons ⟨_, rfl⟩ (.cons ⟨_, rfl⟩ (.cons ⟨_, rfl⟩ (.cons ⟨_, rfl⟩ (.cons ⟨_, rfl⟩ (.cons ⟨_, rfl⟩ (.cons ⟨_, rfl⟩ .nil)))))))))))⟩
  have G_LINE_KINDS : GTup K mg "LINE_KINDS" gt_LINE_KINDS := ⟨pt_LINE_KINDS, _, _, _, PySem.W.mg_of X G gt1_LINE_KINDS, gt2_LINE_KINDS, rfl, rfl, Nat.le_of_lt (small1000 (by show (5 : Nat) ≤ 1000; decide)), (.cons ⟨_, rfl⟩ (.cons ⟨_, rfl⟩ (.cons ⟨_, rfl⟩ (.cons ⟨_, rfl⟩ (.cons ⟨_, rfl⟩ .nil)))))⟩
  have G_NUMBER_KINDS : GTup K mg "NUMBER_KINDS" gt_NUMBER_KINDS := ⟨pt_NUMBER_KINDS, _, _, _, PySem.W.mg_of X G gt1_NUMBER_KINDS, gt2_NUMBER_KINDS, rfl, rfl, Nat.le_of_lt (small1000 (by show (3 : Nat) ≤ 1000; decide)), (.cons ⟨_, rfl⟩ (.cons ⟨_, rfl⟩ (.cons ⟨_, rfl⟩ .nil)))⟩
  have G_OF_ALL_CELLS : GTup K mg "OF_ALL_CELLS" gt_OF_ALL_CELLS := ⟨pt_OF_ALL_CELLS, _, _, _, PySem.W.mg_of X G gt1_OF_ALL_CELLS, gt2_OF_ALL_CELLS, rfl, rfl, Nat.le_of_lt (small1000 (by show (3 : Nat) ≤ 1000; decide)), (.cons ⟨_, rfl⟩ (.cons ⟨_, rfl⟩ (.cons ⟨_, rfl⟩ .nil)))⟩
  have G_WITH_NUMBER : GTup K mg "WITH_NUMBER" gt_WITH_NUMBER := ⟨pt_WITH_NUMBER, _, _, _, PySem.W.mg_of X G gt1_WITH_NUMBER, gt2_WITH_NUMBER, rfl, rfl, Nat.le_of_lt (small1000 (by show (3 : Nat) ≤ 1000; decide)), (.cons ⟨_, rfl⟩ (.cons ⟨_, rfl⟩ (.cons ⟨_, rfl⟩ .nil)))⟩
  have G_WITH_SIGN : GTup K mg "WITH_SIGN" gt_WITH_SIGN := ⟨pt_WITH_SIGN, _, _, _, PySem.W.mg_of X G gt1_WITH_SIGN, gt2_WITH_SIGN, rfl, rfl, Nat.le_of_lt (small1000 (by show (4 : Nat) ≤ 1000; decide)), (.cons ⟨_, rfl⟩ (.cons ⟨_, rfl⟩ (.cons ⟨_, rfl⟩ (.cons ⟨_, rfl⟩ .nil))))⟩
  have D_RULES_OF_KIND : GDict w K mg "RULES_OF_KIND" gd_RULES_OF_KIND := ⟨pd_RULES_OF_KIND, _, _, _, PySem.W.mg_of X G gd1_RULES_OF_KIND, gd2_RULES_OF_KIND, ⟨rfl, rfl, rfl⟩, rfl, (.cons gd4_0_RULES_OF_KIND gd3_0_RULES_OF_KIND rfl rfl (Nat.le_of_lt (small1000 (by show (1 : Nat) ≤ 1000; decide))) (.cons ⟨_, rfl⟩ .nil) (.cons gd4_1_RULES_OF_KIND gd3_1_RULES_OF_KIND rfl rfl (Nat.le_of_lt (small1000 (by show (1 : Nat) ≤ 1000; decide))) (.cons ⟨_, rfl⟩ .nil) (.cons gd4_2_RULES_OF_KIND gd3_2_RULES_OF_KIND rfl rfl (Nat.le_of_lt (small1000 (by show (1 : Nat) ≤ 1000; decide))) (.cons ⟨_, rfl⟩ .nil) (.cons gd4_3_RULES_OF_KIND gd3_3_RULES_OF_KIND rfl rfl (Nat.le_of_lt (small1000 (by show (1 : Nat) ≤ 1000; decide))) (.cons ⟨_, rfl⟩ .nil) (.cons gd4_4_RULES_OF_KIND gd3_4_RULES_OF_KIND rfl rfl (Nat.le_of_lt (small1000 (by show (1 : Nat) ≤ 1000; decide))) (.cons ⟨_, rfl⟩ .nil) (.cons gd4_5_RULES_OF_KIND gd3_5_RULES_OF_KIND rfl rfl (Nat.le_of_lt (small1000 (by show (1 : Nat) ≤ 1000; decide))) (.cons ⟨_, rfl⟩ .nil) (.cons gd4_6_RULES_OF_KIND gd3_6_RULES_OF_KIND rfl rfl (Nat.le_of_lt (small1000 (by show (2 : Nat) ≤ 1000; decide))) (.cons ⟨_, rfl⟩ (.cons ⟨_, rfl⟩ .nil)) (.cons gd4_7_RULES_OF_KIND gd3_7_RULES_OF_KIND rfl rfl (Nat.le_of_lt (small1000 (by show (1 : Nat) ≤ 1000; decide))) (.cons ⟨_, rfl⟩ .nil) (.cons gd4_8_RULES_OF_KIND gd3_8_RULES_OF_KIND rfl rfl (Nat.le_of_lt (small1000 (by show (1 : Nat) ≤ 1000; decide))) (.cons ⟨_, rfl⟩ .nil) .nil))))))))), by decide +kernel⟩
  have C_is_whole : Cal l.prog w K mg base 1 "is_whole" ["value"] (sp_is_whole K) := ok_is_whole B  F0 (PySem.W.mg_of X G a0)
  have C_many_cells : Cal l.prog w K mg base 1 "many_cells" ["floor"] (sp_many_cells K) := ok_many_cells B  F1 (PySem.W.mg_of X G a1)
  have C_stands : Cal l.prog w K mg base 1 "stands" ["mask", "sign"] (sp_stands K) := ok_stands B  F2 (PySem.W.mg_of X G a2)
  have T3 : FnOk l.prog w K mg base CX0 1 f3 _ ["self", "floor", "words", "cells", "amount", "mark"] (sp_Rule___init__ K (mkC cA_Unlike cA_Sum cA_Rising cA_Seen cA_Count cA_Joined cA_NoSquare cA_Ring)) := fn_Rule___init__ (c := (mkC cA_Unlike cA_Sum cA_Rising cA_Seen cA_Count cA_Joined cA_NoSquare cA_Ring)) B  FK_c_amount FK_c_cells FK_c_floor FK_c_mark FK_c_words F3
  have K_Unlike : KCal l.prog w K mg base 1 "Unlike" ((mkC cA_Unlike cA_Sum cA_Rising cA_Seen cA_Count cA_Joined cA_NoSquare cA_Ring).A .Unlike) ["self", "floor", "words", "cells", "amount", "mark"] (sp_Rule___init__ K (mkC cA_Unlike cA_Sum cA_Rising cA_Seen cA_Count cA_Joined cA_NoSquare cA_Ring)) := ⟨f3, _, ⟨mk1_Unlike, mk2_Unlike, fn3, mk4_Unlike⟩, T3, PySem.W.mg_of X G q_Unlike, F3.binds (ps := ["self", "floor", "words", "cells", "amount", "mark"]) fun _ _ _ _ _ _ us hl => match us, hl with | [_, _, _, _, _, _], _ => rfl⟩
  have K_Sum : KCal l.prog w K mg base 1 "Sum" ((mkC cA_Unlike cA_Sum cA_Rising cA_Seen cA_Count cA_Joined cA_NoSquare cA_Ring).A .Sum) ["self", "floor", "words", "cells", "amount", "mark"] (sp_Rule___init__ K (mkC cA_Unlike cA_Sum cA_Rising cA_Seen cA_Count cA_Joined cA_NoSquare cA_Ring)) := ⟨f3, _, ⟨mk1_Sum, mk2_Sum, fn3, mk4_Sum⟩, T3, PySem.W.mg_of X G q_Sum, F3.binds (ps := ["self", "floor", "words", "cells", "amount", "mark"]) fun _ _ _ _ _ _ us hl => match us, hl with | [_, _, _, _, _, _], _ => rfl⟩
  have K_Rising : KCal l.prog w K mg base 1 "Rising" ((mkC cA_Unlike cA_Sum cA_Rising cA_Seen cA_Count cA_Joined cA_NoSquare cA_Ring).A .Rising) ["self", "floor", "words", "cells", "amount", "mark"] (sp_Rule___init__ K (mkC cA_Unlike cA_Sum cA_Rising cA_Seen cA_Count cA_Joined cA_NoSquare cA_Ring)) := ⟨f3, _, ⟨mk1_Rising, mk2_Rising, fn3, mk4_Rising⟩, T3, PySem.W.mg_of X G q_Rising, F3.binds (ps := ["self", "floor", "words", "cells", "amount", "mark"]) fun _ _ _ _ _ _ us hl => match us, hl with | [_, _, _, _, _, _], _ => rfl⟩
  have K_Seen : KCal l.prog w K mg base 1 "Seen" ((mkC cA_Unlike cA_Sum cA_Rising cA_Seen cA_Count cA_Joined cA_NoSquare cA_Ring).A .Seen) ["self", "floor", "words", "cells", "amount", "mark"] (sp_Rule___init__ K (mkC cA_Unlike cA_Sum cA_Rising cA_Seen cA_Count cA_Joined cA_NoSquare cA_Ring)) := ⟨f3, _, ⟨mk1_Seen, mk2_Seen, fn3, mk4_Seen⟩, T3, PySem.W.mg_of X G q_Seen, F3.binds (ps := ["self", "floor", "words", "cells", "amount", "mark"]) fun _ _ _ _ _ _ us hl => match us, hl with | [_, _, _, _, _, _], _ => rfl⟩
  have K_Count : KCal l.prog w K mg base 1 "Count" ((mkC cA_Unlike cA_Sum cA_Rising cA_Seen cA_Count cA_Joined cA_NoSquare cA_Ring).A .Count) ["self", "floor", "words", "cells", "amount", "mark"] (sp_Rule___init__ K (mkC cA_Unlike cA_Sum cA_Rising cA_Seen cA_Count cA_Joined cA_NoSquare cA_Ring)) := ⟨f3, _, ⟨mk1_Count, mk2_Count, fn3, mk4_Count⟩, T3, PySem.W.mg_of X G q_Count, F3.binds (ps := ["self", "floor", "words", "cells", "amount", "mark"]) fun _ _ _ _ _ _ us hl => match us, hl with | [_, _, _, _, _, _], _ => rfl⟩
  have K_Joined : KCal l.prog w K mg base 1 "Joined" ((mkC cA_Unlike cA_Sum cA_Rising cA_Seen cA_Count cA_Joined cA_NoSquare cA_Ring).A .Joined) ["self", "floor", "words", "cells", "amount", "mark"] (sp_Rule___init__ K (mkC cA_Unlike cA_Sum cA_Rising cA_Seen cA_Count cA_Joined cA_NoSquare cA_Ring)) := ⟨f3, _, ⟨mk1_Joined, mk2_Joined, fn3, mk4_Joined⟩, T3, PySem.W.mg_of X G q_Joined, F3.binds (ps := ["self", "floor", "words", "cells", "amount", "mark"]) fun _ _ _ _ _ _ us hl => match us, hl with | [_, _, _, _, _, _], _ => rfl⟩
  have K_NoSquare : KCal l.prog w K mg base 1 "NoSquare" ((mkC cA_Unlike cA_Sum cA_Rising cA_Seen cA_Count cA_Joined cA_NoSquare cA_Ring).A .NoSquare) ["self", "floor", "words", "cells", "amount", "mark"] (sp_Rule___init__ K (mkC cA_Unlike cA_Sum cA_Rising cA_Seen cA_Count cA_Joined cA_NoSquare cA_Ring)) := ⟨f3, _, ⟨mk1_NoSquare, mk2_NoSquare, fn3, mk4_NoSquare⟩, T3, PySem.W.mg_of X G q_NoSquare, F3.binds (ps := ["self", "floor", "words", "cells", "amount", "mark"]) fun _ _ _ _ _ _ us hl => match us, hl with | [_, _, _, _, _, _], _ => rfl⟩
  have K_Ring : KCal l.prog w K mg base 1 "Ring" ((mkC cA_Unlike cA_Sum cA_Rising cA_Seen cA_Count cA_Joined cA_NoSquare cA_Ring).A .Ring) ["self", "floor", "words", "cells", "amount", "mark"] (sp_Rule___init__ K (mkC cA_Unlike cA_Sum cA_Rising cA_Seen cA_Count cA_Joined cA_NoSquare cA_Ring)) := ⟨f3, _, ⟨mk1_Ring, mk2_Ring, fn3, mk4_Ring⟩, T3, PySem.W.mg_of X G q_Ring, F3.binds (ps := ["self", "floor", "words", "cells", "amount", "mark"]) fun _ _ _ _ _ _ us hl => match us, hl with | [_, _, _, _, _, _], _ => rfl⟩
  have T4 : FnOk l.prog w K mg base CX0 1 f4 _ ["self"] (sp_Rule_name K (mkC cA_Unlike cA_Sum cA_Rising cA_Seen cA_Count cA_Joined cA_NoSquare cA_Ring)) := fn_Rule_name (c := (mkC cA_Unlike cA_Sum cA_Rising cA_Seen cA_Count cA_Joined cA_NoSquare cA_Ring)) B  FK_c_words F4
  have M_name : MCal l.prog w K mg base (mkC cA_Unlike cA_Sum cA_Rising cA_Seen cA_Count cA_Joined cA_NoSquare cA_Ring) (mkC cA_Unlike cA_Sum cA_Rising cA_Seen cA_Count cA_Joined cA_NoSquare cA_Ring).ok 1 "name" ["self"] (sp_name K (mkC cA_Unlike cA_Sum cA_Rising cA_Seen cA_Count cA_Joined cA_NoSquare cA_Ring)) := ⟨fun i hi => by cases i with | Rule => exact (Bool.false_ne_true hi).elim | Unlike => exact ⟨f4, _, cls_Unlike, ⟨a4_Unlike, fn4, k4⟩, (T4.mono (by decide)).imp (fun vs H Q E h => ⟨.Unlike, h⟩), F4.binds (ps := ["self"]) fun _ _ _ _ _ _ us hl => match us, hl with | [_], _ => rfl⟩ | Sum => exact ⟨f4, _, cls_Sum, ⟨a4_Sum, fn4, k4⟩, (T4.mono (by decide)).imp (fun vs H Q E h => ⟨.Sum, h⟩), F4.binds (ps := ["self"]) fun _ _ _ _ _ _ us hl => match us, hl with | [_], _ => rfl⟩ | Rising => exact ⟨f4, _, cls_Rising, ⟨a4_Rising, fn4, k4⟩, (T4.mono (by decide)).imp (fun vs H Q E h => ⟨.Rising, h⟩), F4.binds (ps := ["self"]) fun _ _ _ _ _ _ us hl => match us, hl with | [_], _ => rfl⟩ | Seen => exact ⟨f4, _, cls_Seen, ⟨a4_Seen, fn4, k4⟩, (T4.mono (by decide)).imp (fun vs H Q E h => ⟨.Seen, h⟩), F4.binds (ps := ["self"]) fun _ _ _ _ _ _ us hl => match us, hl with | [_], _ => rfl⟩ | Count => exact ⟨f4, _, cls_Count, ⟨a4_Count, fn4, k4⟩, (T4.mono (by decide)).imp (fun vs H Q E h => ⟨.Count, h⟩), F4.binds (ps := ["self"]) fun _ _ _ _ _ _ us hl => match us, hl with | [_], _ => rfl⟩ | Joined => exact ⟨f4, _, cls_Joined, ⟨a4_Joined, fn4, k4⟩, (T4.mono (by decide)).imp (fun vs H Q E h => ⟨.Joined, h⟩), F4.binds (ps := ["self"]) fun _ _ _ _ _ _ us hl => match us, hl with | [_], _ => rfl⟩ | NoSquare => exact ⟨f4, _, cls_NoSquare, ⟨a4_NoSquare, fn4, k4⟩, (T4.mono (by decide)).imp (fun vs H Q E h => ⟨.NoSquare, h⟩), F4.binds (ps := ["self"]) fun _ _ _ _ _ _ us hl => match us, hl with | [_], _ => rfl⟩ | Ring => exact ⟨f4, _, cls_Ring, ⟨a4_Ring, fn4, k4⟩, (T4.mono (by decide)).imp (fun vs H Q E h => ⟨.Ring, h⟩), F4.binds (ps := ["self"]) fun _ _ _ _ _ _ us hl => match us, hl with | [_], _ => rfl⟩⟩
  have T5 : FnOk l.prog w K mg base CX0 1 f5 _ ["self"] (sp_Rule_spots K (mkC cA_Unlike cA_Sum cA_Rising cA_Seen cA_Count cA_Joined cA_NoSquare cA_Ring)) := fn_Rule_spots (c := (mkC cA_Unlike cA_Sum cA_Rising cA_Seen cA_Count cA_Joined cA_NoSquare cA_Ring)) B  FK_c_cells F5
  have M_spots : MCal l.prog w K mg base (mkC cA_Unlike cA_Sum cA_Rising cA_Seen cA_Count cA_Joined cA_NoSquare cA_Ring) (mkC cA_Unlike cA_Sum cA_Rising cA_Seen cA_Count cA_Joined cA_NoSquare cA_Ring).ok 1 "spots" ["self"] (sp_spots K (mkC cA_Unlike cA_Sum cA_Rising cA_Seen cA_Count cA_Joined cA_NoSquare cA_Ring)) := ⟨fun i hi => by cases i with | Rule => exact (Bool.false_ne_true hi).elim | Unlike => exact ⟨f5, _, cls_Unlike, ⟨a5_Unlike, fn5, k5⟩, (T5.mono (by decide)).imp (fun vs H Q E h => ⟨.Unlike, h⟩), F5.binds (ps := ["self"]) fun _ _ _ _ _ _ us hl => match us, hl with | [_], _ => rfl⟩ | Sum => exact ⟨f5, _, cls_Sum, ⟨a5_Sum, fn5, k5⟩, (T5.mono (by decide)).imp (fun vs H Q E h => ⟨.Sum, h⟩), F5.binds (ps := ["self"]) fun _ _ _ _ _ _ us hl => match us, hl with | [_], _ => rfl⟩ | Rising => exact ⟨f5, _, cls_Rising, ⟨a5_Rising, fn5, k5⟩, (T5.mono (by decide)).imp (fun vs H Q E h => ⟨.Rising, h⟩), F5.binds (ps := ["self"]) fun _ _ _ _ _ _ us hl => match us, hl with | [_], _ => rfl⟩ | Seen => exact ⟨f5, _, cls_Seen, ⟨a5_Seen, fn5, k5⟩, (T5.mono (by decide)).imp (fun vs H Q E h => ⟨.Seen, h⟩), F5.binds (ps := ["self"]) fun _ _ _ _ _ _ us hl => match us, hl with | [_], _ => rfl⟩ | Count => exact ⟨f5, _, cls_Count, ⟨a5_Count, fn5, k5⟩, (T5.mono (by decide)).imp (fun vs H Q E h => ⟨.Count, h⟩), F5.binds (ps := ["self"]) fun _ _ _ _ _ _ us hl => match us, hl with | [_], _ => rfl⟩ | Joined => exact ⟨f5, _, cls_Joined, ⟨a5_Joined, fn5, k5⟩, (T5.mono (by decide)).imp (fun vs H Q E h => ⟨.Joined, h⟩), F5.binds (ps := ["self"]) fun _ _ _ _ _ _ us hl => match us, hl with | [_], _ => rfl⟩ | NoSquare => exact ⟨f5, _, cls_NoSquare, ⟨a5_NoSquare, fn5, k5⟩, (T5.mono (by decide)).imp (fun vs H Q E h => ⟨.NoSquare, h⟩), F5.binds (ps := ["self"]) fun _ _ _ _ _ _ us hl => match us, hl with | [_], _ => rfl⟩ | Ring => exact ⟨f5, _, cls_Ring, ⟨a5_Ring, fn5, k5⟩, (T5.mono (by decide)).imp (fun vs H Q E h => ⟨.Ring, h⟩), F5.binds (ps := ["self"]) fun _ _ _ _ _ _ us hl => match us, hl with | [_], _ => rfl⟩⟩
  have C_number_in : Cal l.prog w K mg base 1 "number_in" ["word"] (sp_number_in K) := ok_number_in B  C_FIGURES C_MOST_FIGURES F6 (PySem.W.mg_of X G a6)
  have T7 : FnOk l.prog w K mg base CX0 1 f7 _ ["self"] (sp_Puzzle_place K (mkC cA_Unlike cA_Sum cA_Rising cA_Seen cA_Count cA_Joined cA_NoSquare cA_Ring) (mkD cA_Puzzle)) := fn_Puzzle_place (c := (mkC cA_Unlike cA_Sum cA_Rising cA_Seen cA_Count cA_Joined cA_NoSquare cA_Ring)) (d := (mkD cA_Puzzle)) B  FK_d_floor F7
  have M_place : MCal l.prog w K mg base (mkD cA_Puzzle) (mkD cA_Puzzle).ok 1 "place" ["self"] (sp_place K (mkC cA_Unlike cA_Sum cA_Rising cA_Seen cA_Count cA_Joined cA_NoSquare cA_Ring) (mkD cA_Puzzle)) := ⟨fun i hi => by cases i; exact ⟨f7, _, cls_Puzzle, ⟨a7_Puzzle, fn7, k7⟩, (T7.mono (by decide)).imp (fun vs H Q E h => h), F7.binds (ps := ["self"]) fun _ _ _ _ _ _ us hl => match us, hl with | [_], _ => rfl⟩⟩
  have T8 : FnOk l.prog w K mg base CX0 1 f8 _ ["self"] (sp_Puzzle_clues K (mkC cA_Unlike cA_Sum cA_Rising cA_Seen cA_Count cA_Joined cA_NoSquare cA_Ring) (mkD cA_Puzzle)) := fn_Puzzle_clues (c := (mkC cA_Unlike cA_Sum cA_Rising cA_Seen cA_Count cA_Joined cA_NoSquare cA_Ring)) (d := (mkD cA_Puzzle)) B  FK_d_given F8
  have M_clues : MCal l.prog w K mg base (mkD cA_Puzzle) (mkD cA_Puzzle).ok 1 "clues" ["self"] (sp_clues K (mkC cA_Unlike cA_Sum cA_Rising cA_Seen cA_Count cA_Joined cA_NoSquare cA_Ring) (mkD cA_Puzzle)) := ⟨fun i hi => by cases i; exact ⟨f8, _, cls_Puzzle, ⟨a8_Puzzle, fn8, k8⟩, (T8.mono (by decide)).imp (fun vs H Q E h => h), F8.binds (ps := ["self"]) fun _ _ _ _ _ _ us hl => match us, hl with | [_], _ => rfl⟩⟩
  have T9 : FnOk l.prog w K mg base CX0 1 f9 _ ["self"] (sp_Puzzle_rules K (mkC cA_Unlike cA_Sum cA_Rising cA_Seen cA_Count cA_Joined cA_NoSquare cA_Ring) (mkD cA_Puzzle)) := fn_Puzzle_rules (c := (mkC cA_Unlike cA_Sum cA_Rising cA_Seen cA_Count cA_Joined cA_NoSquare cA_Ring)) (d := (mkD cA_Puzzle)) B  FK_d_laws F9
  have M_rules : MCal l.prog w K mg base (mkD cA_Puzzle) (mkD cA_Puzzle).ok 1 "rules" ["self"] (sp_rules K (mkC cA_Unlike cA_Sum cA_Rising cA_Seen cA_Count cA_Joined cA_NoSquare cA_Ring) (mkD cA_Puzzle)) := ⟨fun i hi => by cases i; exact ⟨f9, _, cls_Puzzle, ⟨a9_Puzzle, fn9, k9⟩, (T9.mono (by decide)).imp (fun vs H Q E h => h), F9.binds (ps := ["self"]) fun _ _ _ _ _ _ us hl => match us, hl with | [_], _ => rfl⟩⟩
  have C__law_cell_at : Cal l.prog w K mg base 1 "_law_cell_at" ["_law_script", "_law_k"] (sp__law_at34 K) := ok__law_cell_at B  F10 (PySem.W.mg_of X G a10)
  have C__law_order : Cal l.prog w K mg base 1 "_law_order" ["_law_number", "_law_many"] (sp__law_order35 K) := ok__law_order B  F11 (PySem.W.mg_of X G a11)
  have C__law_floor : Cal l.prog w K mg base 1 "_law_floor" ["_law_cell"] (sp__law_floor35 K) := ok__law_floor B  F12 (PySem.W.mg_of X G a12)
  have C__law_less : Cal l.prog w K mg base 1 "_law_less" ["_law_mask", "_law_sign"] (sp__law_less K) := ok__law_less B  F13 (PySem.W.mg_of X G a13)
  have C__law_greater : Cal l.prog w K mg base 1 "_law_greater" ["_law_mask", "_law_sign"] (sp__law_greater K) := ok__law_greater B  F14 (PySem.W.mg_of X G a14)
  have C_is_from_one_to : Cal l.prog w K mg base 2 "is_from_one_to" ["value", "most"] (sp_is_from_one_to K) := ok_is_from_one_to B C_is_whole F15 (PySem.W.mg_of X G a15)
  have C_signs_in : Cal l.prog w K mg base 2 "signs_in" ["mask"] (sp_signs_in K) := ok_signs_in B C_stands F16 (PySem.W.mg_of X G a16)
  have C_is_cell : Cal l.prog w K mg base 2 "is_cell" ["floor", "value"] (sp_is_cell K) := ok_is_cell B C_is_whole C_many_cells F17 (PySem.W.mg_of X G a17)
  have C_goes_by : Cal l.prog w K mg base 2 "goes_by" ["kind", "rule"] (sp_goes_by K (mkC cA_Unlike cA_Sum cA_Rising cA_Seen cA_Count cA_Joined cA_NoSquare cA_Ring)) := ok_goes_by (c := (mkC cA_Unlike cA_Sum cA_Rising cA_Seen cA_Count cA_Joined cA_NoSquare cA_Ring)) B  M_name D_RULES_OF_KIND F18 (PySem.W.mg_of X G a18)
  have C_ahead_of : Cal l.prog w K mg base 2 "ahead_of" ["rule", "cell"] (sp_ahead_of K (mkC cA_Unlike cA_Sum cA_Rising cA_Seen cA_Count cA_Joined cA_NoSquare cA_Ring)) := ok_ahead_of (c := (mkC cA_Unlike cA_Sum cA_Rising cA_Seen cA_Count cA_Joined cA_NoSquare cA_Ring)) B  M_spots F19 (PySem.W.mg_of X G a19)
  have C_behind : Cal l.prog w K mg base 2 "behind" ["rule", "cell"] (sp_behind K (mkC cA_Unlike cA_Sum cA_Rising cA_Seen cA_Count cA_Joined cA_NoSquare cA_Ring)) := ok_behind (c := (mkC cA_Unlike cA_Sum cA_Rising cA_Seen cA_Count cA_Joined cA_NoSquare cA_Ring)) B  M_spots F20 (PySem.W.mg_of X G a20)
  have C_number_within : Cal l.prog w K mg base 2 "number_within" ["word", "least", "most"] (sp_number_within K) := ok_number_within B C_number_in F21 (PySem.W.mg_of X G a21)
  have C_is_filling : Cal l.prog w K mg base 2 "is_filling" ["floor", "filling", "least"] (sp_is_filling K) := ok_is_filling B C_is_whole C_many_cells F22 (PySem.W.mg_of X G a22)
  have C__law_masks : Cal l.prog w K mg base 2 "_law_masks" ["_law_script", "_law_floor_here"] (sp__law_masks35 K) := ok__law_masks B C__law_cell_at F23 (PySem.W.mg_of X G a23)
  have C__law_due : Cal l.prog w K mg base 2 "_law_due" ["_law_floor_here", "_law_cells", "_law_masks_here", "_law_thought_here", "_law_at"] (sp__law_due35 K) := ok__law_due B C__law_greater C__law_less F24 (PySem.W.mg_of X G a24)
  have C__law_clues : Cal l.prog w K mg base 2 "_law_clues" ["_law_script", "_law_floor_here"] (sp__law_clues35 K) := ok__law_clues B C__law_cell_at F25 (PySem.W.mg_of X G a25)
  have C__law_thought : Cal l.prog w K mg base 2 "_law_thought" ["_law_script", "_law_floor_here", "_law_cells", "_law_k"] (sp__law_thought35 K) := ok__law_thought B C__law_cell_at F26 (PySem.W.mg_of X G a26)
  have C_floor_of : Cal l.prog w K mg base 3 "floor_of" ["high", "wide", "signs"] (sp_floor_of K) := ok_floor_of B C_is_from_one_to C_MOST_CELLS C_MOST_SIDE C_MOST_SIGNS F27 (PySem.W.mg_of X G a27)
  have C_is_sign : Cal l.prog w K mg base 3 "is_sign" ["floor", "value"] (sp_is_sign K) := ok_is_sign B C_is_from_one_to F28 (PySem.W.mg_of X G a28)
  have C_has_its_rule : Cal l.prog w K mg base 3 "has_its_rule" ["puzzle", "kind", "number", "cell"] (sp_has_its_rule K (mkC cA_Unlike cA_Sum cA_Rising cA_Seen cA_Count cA_Joined cA_NoSquare cA_Ring) (mkD cA_Puzzle)) := ok_has_its_rule (c := (mkC cA_Unlike cA_Sum cA_Rising cA_Seen cA_Count cA_Joined cA_NoSquare cA_Ring)) (d := (mkD cA_Puzzle)) B C_goes_by C_is_whole M_rules M_spots F29 (PySem.W.mg_of X G a29)
  have C_is_no_greater : Cal l.prog w K mg base 3 "is_no_greater" ["sign", "mask"] (sp_is_no_greater K) := ok_is_no_greater B C_signs_in F30 (PySem.W.mg_of X G a30)
  have C_is_no_less : Cal l.prog w K mg base 3 "is_no_less" ["sign", "mask"] (sp_is_no_less K) := ok_is_no_less B C_signs_in F31 (PySem.W.mg_of X G a31)
  have C_first_within : Cal l.prog w K mg base 3 "first_within" ["words", "least", "most"] (sp_first_within K) := ok_first_within B C_number_within F32 (PySem.W.mg_of X G a32)
  have C_told_cells : Cal l.prog w K mg base 3 "told_cells" ["floor", "words"] (sp_told_cells K) := ok_told_cells B C_many_cells C_number_within F33 (PySem.W.mg_of X G a33)
  have C_rule_by : Cal l.prog w K mg base 3 "rule_by" ["floor", "words", "cells", "amount", "mark"] (sp_rule_by K (mkC cA_Unlike cA_Sum cA_Rising cA_Seen cA_Count cA_Joined cA_NoSquare cA_Ring)) := ok_rule_by (c := (mkC cA_Unlike cA_Sum cA_Rising cA_Seen cA_Count cA_Joined cA_NoSquare cA_Ring)) B  K_Count K_Joined K_NoSquare K_Ring K_Rising K_Seen K_Sum K_Unlike F34 (PySem.W.mg_of X G a34)
  have C_checked_clues : Cal l.prog w K mg base 3 "checked_clues" ["floor", "clues"] (sp_checked_clues K) := ok_checked_clues B C_is_filling F35 (PySem.W.mg_of X G a35)
  have C_is_formed : Cal l.prog w K mg base 4 "is_formed" ["puzzle", "thought"] (sp_is_formed K (mkC cA_Unlike cA_Sum cA_Rising cA_Seen cA_Count cA_Joined cA_NoSquare cA_Ring) (mkD cA_Puzzle)) := ok_is_formed (c := (mkC cA_Unlike cA_Sum cA_Rising cA_Seen cA_Count cA_Joined cA_NoSquare cA_Ring)) (d := (mkD cA_Puzzle)) B C_has_its_rule C_is_cell C_is_sign C_is_whole M_place G_KINDS F36 (PySem.W.mg_of X G a36)
  have C_step_strikes : Cal l.prog w K mg base 4 "step_strikes" ["rule", "masks", "cell", "sign", "more"] (sp_step_strikes K (mkC cA_Unlike cA_Sum cA_Rising cA_Seen cA_Count cA_Joined cA_NoSquare cA_Ring)) := ok_step_strikes (c := (mkC cA_Unlike cA_Sum cA_Rising cA_Seen cA_Count cA_Joined cA_NoSquare cA_Ring)) B C_ahead_of C_behind C_is_no_greater C_is_no_less F37 (PySem.W.mg_of X G a37)
  have C_cells_of : Cal l.prog w K mg base 4 "cells_of" ["floor", "name", "words"] (sp_cells_of K) := ok_cells_of B C_many_cells C_told_cells G_OF_ALL_CELLS F38 (PySem.W.mg_of X G a38)
  have C_checked_floor : Cal l.prog w K mg base 4 "checked_floor" ["floor"] (sp_checked_floor K) := ok_checked_floor B C_floor_of F39 (PySem.W.mg_of X G a39)
  have C_strikes_by_line : Cal l.prog w K mg base 5 "strikes_by_line" ["puzzle", "masks", "thought"] (sp_strikes_by_line35 K (mkC cA_Unlike cA_Sum cA_Rising cA_Seen cA_Count cA_Joined cA_NoSquare cA_Ring) (mkD cA_Puzzle)) := ok_strikes_by_line (c := (mkC cA_Unlike cA_Sum cA_Rising cA_Seen cA_Count cA_Joined cA_NoSquare cA_Ring)) (d := (mkD cA_Puzzle)) B C_step_strikes M_clues M_place M_rules F40 (PySem.W.mg_of X G a40)
  have C_read_rule : Cal l.prog w K mg base 5 "read_rule" ["floor", "line"] (sp_read_rule K (mkC cA_Unlike cA_Sum cA_Rising cA_Seen cA_Count cA_Joined cA_NoSquare cA_Ring)) := ok_read_rule (c := (mkC cA_Unlike cA_Sum cA_Rising cA_Seen cA_Count cA_Joined cA_NoSquare cA_Ring)) B C_cells_of C_first_within C_rule_by C_MOST_NUMBER G_WITH_NUMBER G_WITH_SIGN F41 (PySem.W.mg_of X G a41)
  have C_strikes : Cal l.prog w K mg base 6 "strikes" ["puzzle", "masks", "thought"] (sp_strikes35 K (mkC cA_Unlike cA_Sum cA_Rising cA_Seen cA_Count cA_Joined cA_NoSquare cA_Ring) (mkD cA_Puzzle)) := ok_strikes (c := (mkC cA_Unlike cA_Sum cA_Rising cA_Seen cA_Count cA_Joined cA_NoSquare cA_Ring)) (d := (mkD cA_Puzzle)) B C_strikes_by_line G_LINE_KINDS G_NUMBER_KINDS F42 (PySem.W.mg_of X G a42)
  have C_read_rules : Cal l.prog w K mg base 6 "read_rules" ["floor", "lines"] (sp_read_rules K (mkC cA_Unlike cA_Sum cA_Rising cA_Seen cA_Count cA_Joined cA_NoSquare cA_Ring)) := ok_read_rules (c := (mkC cA_Unlike cA_Sum cA_Rising cA_Seen cA_Count cA_Joined cA_NoSquare cA_Ring)) B C_read_rule C_MOST_RULES F43 (PySem.W.mg_of X G a43)
  have C_allowed : Cal l.prog w K mg base 7 "allowed" ["puzzle", "masks", "thought"] (sp_allowed35 K (mkC cA_Unlike cA_Sum cA_Rising cA_Seen cA_Count cA_Joined cA_NoSquare cA_Ring) (mkD cA_Puzzle)) := ok_allowed (c := (mkC cA_Unlike cA_Sum cA_Rising cA_Seen cA_Count cA_Joined cA_NoSquare cA_Ring)) (d := (mkD cA_Puzzle)) B C_is_formed C_strikes F44 (PySem.W.mg_of X G a44)
  have T45 : FnOk l.prog w K mg base CX0 7 f45 _ ["self", "floor", "lines", "clues"] (sp_Puzzle___init__ K (mkC cA_Unlike cA_Sum cA_Rising cA_Seen cA_Count cA_Joined cA_NoSquare cA_Ring) (mkD cA_Puzzle)) := fn_Puzzle___init__ (c := (mkC cA_Unlike cA_Sum cA_Rising cA_Seen cA_Count cA_Joined cA_NoSquare cA_Ring)) (d := (mkD cA_Puzzle)) B C_checked_clues C_checked_floor C_read_rules FK_d_floor FK_d_given FK_d_laws F45
  have K_Puzzle : KCal l.prog w K mg base 7 "Puzzle" ((mkD cA_Puzzle).A .Puzzle) ["self", "floor", "lines", "clues"] (sp_Puzzle___init__ K (mkC cA_Unlike cA_Sum cA_Rising cA_Seen cA_Count cA_Joined cA_NoSquare cA_Ring) (mkD cA_Puzzle)) := ⟨f45, _, ⟨mk1_Puzzle, mk2_Puzzle, fn45, mk4_Puzzle⟩, T45, PySem.W.mg_of X G q_Puzzle, F45.binds (ps := ["self", "floor", "lines", "clues"]) fun _ _ _ _ _ _ us hl => match us, hl with | [_, _, _, _], _ => rfl⟩
  exact (fn_law (c := (mkC cA_Unlike cA_Sum cA_Rising cA_Seen cA_Count cA_Joined cA_NoSquare cA_Ring)) (d := (mkD cA_Puzzle)) B C__law_cell_at C__law_clues C__law_due C__law_floor C__law_masks C__law_order C__law_thought C_allowed K_Puzzle F46).imp fun vs H Q E h => by obtain ⟨a, ns, e, hS, hn, k⟩ := h; exact ⟨a, ns, e, hS, hn, fun k hk => by cases k <;> first | rfl | exact absurd rfl hk, rfl, k⟩
theorem walk {l : PySem.W.OpenLaw} {q : Program} {loose : List Str} {XP : (Str → Option Value) → Heap → Prop} {YP : World → Heap → Prop} {d : DefRec} {K : Params → PySem.W.Frag} (hn : l.most = some 63) (hdf : d.params.defaults = [])
    (hY : ∀ (w : World) (h : Heap), YP w h → (K w.params).In h)
    (F : ∀ (w : World) (mg : Str → Option Value) (fa : Addr) (h : Heap), (K w.params).In h → h.Ns mainGlobals mg → mg d.name = some (.ref fa) →
      ∃ fd : FuncData, (∀ (s : Shared) (u : Value), BindsTo s fd ⟨[u], []⟩ [("_law_script", u)]) ∧ ∀ base : Heap, (K w.params).In base → base.Ns mainGlobals mg → FnOk l.prog w (K w.params) mg base CX0 9 fa fd ["_law_script"] (sp_law0 (K w.params))) :
    PySem.W.WalkO q loose XP YP l.row.toRowW d [] (fun f vs => PySem.call f vs) :=
  L2.walk_of (n := 63) (k := 9) (x := "_law_script") (CX := fun _ => CX0) (sp := fun w => sp_law0 (K w.params)) hn (by decide) hdf ⟨rfl, by decide, by decide⟩ hY F (fun _ _ a ns hl _ hS => ⟨a, ns, rfl, hS, hl, fun _ => rfl⟩) fun _ _ _ _ _ z => z
end L2
open PySem PySem.W PyProof.Rows
set_option maxRecDepth 100000 in
def PySem.W.Fast.tw1261103235246305866 : Unit := ()
def PySem.W.Fast.tw7434282951526965647 : Unit := ()
def PySem.W.Fast.tw13956553099136526375 : Unit := ()
def PySem.W.Fast.tw12077433754167498693 : Unit := ()
def PySem.W.Fast.tw3264298220069017987 : Unit := ()
def PySem.W.Fast.tw2605062756124658830 : Unit := ()
def PySem.W.Fast.tw13725695623677562965 : Unit := ()
def PySem.W.Fast.tw4641528057756554639 : Unit := ()
def PySem.W.Fast.tw5031464286657511181 : Unit := ()
def PySem.W.Fast.tw12751444379927890658 : Unit := ()
def PySem.W.Fast.tw16916414253288426616 : Unit := ()
def PySem.W.Fast.tw15746176797986036672 : Unit := ()
def PySem.W.Fast.tw2359168044254722758 : Unit := ()
def PySem.W.Fast.tw13939729883045457368 : Unit := ()
def PySem.W.Fast.tw15861438073433905732 : Unit := ()
def PySem.W.Fast.tw14092188066266558883 : Unit := ()
def PySem.W.Fast.tw13367247175513975511 : Unit := ()
def PySem.W.Fast.tw18108026274463150244 : Unit := ()
def PySem.W.Fast.tw4022332052291209087 : Unit := ()
def PySem.W.Fast.tw1538375033116561928 : Unit := ()
def PySem.W.Fast.tw4405693093198214212 : Unit := ()
def PySem.W.Fast.tw245213564939662767 : Unit := ()
def PySem.W.Fast.tw8319869596538895850 : Unit := ()
def PySem.W.Fast.tw1516210654139021795 : Unit := ()
def PySem.W.Fast.tw4754386167586687154 : Unit := ()
def PySem.W.Fast.tw13597815694897853625 : Unit := ()
def PySem.W.Fast.tw4810864697394703060 : Unit := ()
def PySem.W.Fast.tw5838506558998183935 : Unit := ()
def PySem.W.Fast.tw4745016470838001661 : Unit := ()
def PySem.W.Fast.tw4675152483302720595 : Unit := ()
def PySem.W.Fast.tw5917778494328419416 : Unit := ()
def PySem.W.Fast.tw13878296105131687530 : Unit := ()
def PySem.W.Fast.tw9098246061901577856 : Unit := ()
def PySem.W.Fast.tw12133662363373895151 : Unit := ()
def PySem.W.Fast.tw6722444080227659000 : Unit := ()
def PySem.W.Fast.tw2655590837575753700 : Unit := ()
def PySem.W.Fast.tw29716984244276155 : Unit := ()
def PySem.W.Fast.tw8467391060055757776 : Unit := ()
def PySem.W.Fast.tw14935101696312872442 : Unit := ()
def PySem.W.Fast.tw5613048085589600036 : Unit := ()
def PySem.W.Fast.tw1265968680871267235 : Unit := ()
def PySem.W.Fast.tw12604084934875629670 : Unit := ()
def PySem.W.Fast.tw12272005115810004764 : Unit := ()
set_option maxHeartbeats 0 in
theorem PySem.Challenge.cw_cluemaker_k35_thoughts_of_steps_holds : PySem.Challenge.rw_cluemaker_k35_thoughts_of_steps.Holds := by
  w_on; o_law; k_head; (case hw => w_witness2)
  k_fill
  refine L2.walk (l := PySem.Challenge.rw_cluemaker_k35_thoughts_of_steps) rfl rfl (fun w h Y => PySem.W.kIn_of Y) ?F
  case F =>
    intro w mg fa h KX G hmg
    refine' L2.all_mk KX G hmg ?q_Unlike ?q_Sum ?q_Rising ?q_Seen ?q_Count ?q_Joined ?q_NoSquare ?q_Ring ?q_Puzzle ?a0 ?a1 ?a2 ?mk2_Unlike ?mk2_Sum ?mk2_Rising ?mk2_Seen ?mk2_Count ?mk2_Joined ?mk2_NoSquare ?mk2_Ring ?a4_Unlike ?a4_Sum ?a4_Rising ?a4_Seen ?a4_Count ?a4_Joined ?a4_NoSquare ?a4_Ring ?a5_Unlike ?a5_Sum ?a5_Rising ?a5_Seen ?a5_Count ?a5_Joined ?a5_NoSquare ?a5_Ring ?a6 ?a7_Puzzle ?a8_Puzzle ?a9_Puzzle ?a10 ?a11 ?a12 ?a13 ?a14 ?a15 ?a16 ?a17 ?a18 ?a19 ?a20 ?a21 ?a22 ?a23 ?a24 ?a25 ?a26 ?a27 ?a28 ?a29 ?a30 ?a31 ?a32 ?a33 ?a34 ?a35 ?a36 ?a37 ?a38 ?a39 ?a40 ?a41 ?a42 ?a43 ?a44 ?mk2_Puzzle ?a46 ?l0 ?c0 ?k0 ?l1 ?c1 ?k1 ?l2 ?c2 ?k2 ?l3 ?c3 ?k3 ?fn3 ?l4 ?c4 ?k4 ?fn4 ?l5 ?c5 ?k5 ?fn5 ?l6 ?c6 ?k6 ?l7 ?c7 ?k7 ?fn7 ?l8 ?c8 ?k8 ?fn8 ?l9 ?c9 ?k9 ?fn9 ?l10 ?c10 ?k10 ?l11 ?c11 ?k11 ?l12 ?c12 ?k12 ?l13 ?c13 ?k13 ?l14 ?c14 ?k14 ?l15 ?c15 ?k15 ?l16 ?c16 ?k16 ?l17 ?c17 ?k17 ?l18 ?c18 ?k18 ?l19 ?c19 ?k19 ?l20 ?c20 ?k20 ?l21 ?c21 ?k21 ?l22 ?c22 ?k22 ?l23 ?c23 ?k23 ?l24 ?c24 ?k24 ?l25 ?c25 ?k25 ?l26 ?c26 ?k26 ?l27 ?c27 ?k27 ?l28 ?c28 ?k28 ?l29 ?c29 ?k29 ?l30 ?c30 ?k30 ?l31 ?c31 ?k31 ?l32 ?c32 ?k32 ?l33 ?c33 ?k33 ?l34 ?c34 ?k34 ?l35 ?c35 ?k35 ?l36 ?c36 ?k36 ?l37 ?c37 ?k37 ?l38 ?c38 ?k38 ?l39 ?c39 ?k39 ?l40 ?c40 ?k40 ?l41 ?c41 ?k41 ?l42 ?c42 ?k42 ?l43 ?c43 ?k43 ?l44 ?c44 ?k44 ?l45 ?c45 ?k45 ?fn45 ?l46 ?c46 ?k46 ?mk1_Unlike ?mk4_Unlike ?cl1_Unlike ?cl2_Unlike ?cl3_Unlike ?cl4_Unlike ?mk1_Sum ?mk4_Sum ?cl1_Sum ?cl2_Sum ?cl3_Sum ?cl4_Sum ?mk1_Rising ?mk4_Rising ?cl1_Rising ?cl2_Rising ?cl3_Rising ?cl4_Rising ?mk1_Seen ?mk4_Seen ?cl1_Seen ?cl2_Seen ?cl3_Seen ?cl4_Seen ?mk1_Count ?mk4_Count ?cl1_Count ?cl2_Count ?cl3_Count ?cl4_Count ?mk1_Joined ?mk4_Joined ?cl1_Joined ?cl2_Joined ?cl3_Joined ?cl4_Joined ?mk1_NoSquare ?mk4_NoSquare ?cl1_NoSquare ?cl2_NoSquare ?cl3_NoSquare ?cl4_NoSquare ?mk1_Ring ?mk4_Ring ?cl1_Ring ?cl2_Ring ?cl3_Ring ?cl4_Ring ?mk1_Puzzle ?mk4_Puzzle ?cl1_Puzzle ?cl2_Puzzle ?cl3_Puzzle ?cl4_Puzzle ?na_c_amount_Unlike ?na_c_amount_Sum ?na_c_amount_Rising ?na_c_amount_Seen ?na_c_amount_Count ?na_c_amount_Joined ?na_c_amount_NoSquare ?na_c_amount_Ring ?na_c_cells_Unlike ?na_c_cells_Sum ?na_c_cells_Rising ?na_c_cells_Seen ?na_c_cells_Count ?na_c_cells_Joined ?na_c_cells_NoSquare ?na_c_cells_Ring ?na_c_floor_Unlike ?na_c_floor_Sum ?na_c_floor_Rising ?na_c_floor_Seen ?na_c_floor_Count ?na_c_floor_Joined ?na_c_floor_NoSquare ?na_c_floor_Ring ?na_c_mark_Unlike ?na_c_mark_Sum ?na_c_mark_Rising ?na_c_mark_Seen ?na_c_mark_Count ?na_c_mark_Joined ?na_c_mark_NoSquare ?na_c_mark_Ring ?na_c_words_Unlike ?na_c_words_Sum ?na_c_words_Rising ?na_c_words_Seen ?na_c_words_Count ?na_c_words_Joined ?na_c_words_NoSquare ?na_c_words_Ring ?na_d_floor_Puzzle ?na_d_given_Puzzle ?na_d_laws_Puzzle ?gt1_KINDS ?gt2_KINDS ?gt1_LINE_KINDS ?gt2_LINE_KINDS ?gt1_NUMBER_KINDS ?gt2_NUMBER_KINDS ?gt1_OF_ALL_CELLS ?gt2_OF_ALL_CELLS ?gt1_WITH_NUMBER ?gt2_WITH_NUMBER ?gt1_WITH_SIGN ?gt2_WITH_SIGN ?gd1_RULES_OF_KIND ?gd2_RULES_OF_KIND ?gd3_0_RULES_OF_KIND ?gd4_0_RULES_OF_KIND ?gd3_1_RULES_OF_KIND ?gd4_1_RULES_OF_KIND ?gd3_2_RULES_OF_KIND ?gd4_2_RULES_OF_KIND ?gd3_3_RULES_OF_KIND ?gd4_3_RULES_OF_KIND ?gd3_4_RULES_OF_KIND ?gd4_4_RULES_OF_KIND ?gd3_5_RULES_OF_KIND ?gd4_5_RULES_OF_KIND ?gd3_6_RULES_OF_KIND ?gd4_6_RULES_OF_KIND ?gd3_7_RULES_OF_KIND ?gd4_7_RULES_OF_KIND ?gd3_8_RULES_OF_KIND ?gd4_8_RULES_OF_KIND ?kc_FIGURES ?kc_MOST_CELLS ?kc_MOST_FIGURES ?kc_MOST_NUMBER ?kc_MOST_RULES ?kc_MOST_SIDE ?kc_MOST_SIGNS ?z_len ?z_abs ?z_min ?z_max ?z_sorted ?z_any ?z_isinstance ?z_list ?z_int ?z_bool ?z_str ?z_tuple ?z_reversed ?z_set ?z_range ?z_zip ?z_all ?z_sum ?z_enumerate
    (case q_Unlike => k_is)
    (case q_Sum => k_is)
    (case q_Rising => k_is)
    (case q_Seen => k_is)
    (case q_Count => k_is)
    (case q_Joined => k_is)
    (case q_NoSquare => k_is)
    (case q_Ring => k_is)
    (case q_Puzzle => k_is)
    (case a0 => k_is)
    (case a1 => k_is)
    (case a2 => k_is)
    (case mk2_Unlike => k_is)
    (case mk2_Sum => k_is)
    (case mk2_Rising => k_is)
    (case mk2_Seen => k_is)
    (case mk2_Count => k_is)
    (case mk2_Joined => k_is)
    (case mk2_NoSquare => k_is)
    (case mk2_Ring => k_is)
    (case a4_Unlike => k_is)
    (case a4_Sum => k_is)
    (case a4_Rising => k_is)
    (case a4_Seen => k_is)
    (case a4_Count => k_is)
    (case a4_Joined => k_is)
    (case a4_NoSquare => k_is)
    (case a4_Ring => k_is)
    (case a5_Unlike => k_is)
    (case a5_Sum => k_is)
    (case a5_Rising => k_is)
    (case a5_Seen => k_is)
    (case a5_Count => k_is)
    (case a5_Joined => k_is)
    (case a5_NoSquare => k_is)
    (case a5_Ring => k_is)
    (case a6 => k_is)
    (case a7_Puzzle => k_is)
    (case a8_Puzzle => k_is)
    (case a9_Puzzle => k_is)
    (case a10 => k_is)
    (case a11 => k_is)
    (case a12 => k_is)
    (case a13 => k_is)
    (case a14 => k_is)
    (case a15 => k_is)
    (case a16 => k_is)
    (case a17 => k_is)
    (case a18 => k_is)
    (case a19 => k_is)
    (case a20 => k_is)
    (case a21 => k_is)
    (case a22 => k_is)
    (case a23 => k_is)
    (case a24 => k_is)
    (case a25 => k_is)
    (case a26 => k_is)
    (case a27 => k_is)
    (case a28 => k_is)
    (case a29 => k_is)
    (case a30 => k_is)
    (case a31 => k_is)
    (case a32 => k_is)
    (case a33 => k_is)
    (case a34 => k_is)
    (case a35 => k_is)
    (case a36 => k_is)
    (case a37 => k_is)
    (case a38 => k_is)
    (case a39 => k_is)
    (case a40 => k_is)
    (case a41 => k_is)
    (case a42 => k_is)
    (case a43 => k_is)
    (case a44 => k_is)
    (case mk2_Puzzle => k_is)
    (case a46 => k_is)
    (case l0 => k_is)
    (case c0 => k_is)
    (case k0 => k_is)
    (case l1 => k_is)
    (case c1 => k_is)
    (case k1 => k_is)
    (case l2 => k_is)
    (case c2 => k_is)
    (case k2 => k_is)
    (case l3 => k_is)
    (case c3 => k_is)
    (case k3 => k_is)
    (case fn3 => k_is)
    (case l4 => k_is)
    (case c4 => k_is)
    (case k4 => k_is)
    (case fn4 => k_is)
    (case l5 => k_is)
    (case c5 => k_is)
    (case k5 => k_is)
    (case fn5 => k_is)
    (case l6 => k_is)
    (case c6 => k_is)
    (case k6 => k_is)
    (case l7 => k_is)
    (case c7 => k_is)
    (case k7 => k_is)
    (case fn7 => k_is)
    (case l8 => k_is)
    (case c8 => k_is)
    (case k8 => k_is)
    (case fn8 => k_is)
    (case l9 => k_is)
    (case c9 => k_is)
    (case k9 => k_is)
    (case fn9 => k_is)
    (case l10 => k_is)
    (case c10 => k_is)
    (case k10 => k_is)
    (case l11 => k_is)
    (case c11 => k_is)
    (case k11 => k_is)
    (case l12 => k_is)
    (case c12 => k_is)
    (case k12 => k_is)
    (case l13 => k_is)
    (case c13 => k_is)
    (case k13 => k_is)
    (case l14 => k_is)
    (case c14 => k_is)
    (case k14 => k_is)
    (case l15 => k_is)
    (case c15 => k_is)
    (case k15 => k_is)
    (case l16 => k_is)
    (case c16 => k_is)
    (case k16 => k_is)
    (case l17 => k_is)
    (case c17 => k_is)
    (case k17 => k_is)
    (case l18 => k_is)
    (case c18 => k_is)
    (case k18 => k_is)
    (case l19 => k_is)
    (case c19 => k_is)
    (case k19 => k_is)
    (case l20 => k_is)
    (case c20 => k_is)
    (case k20 => k_is)
    (case l21 => k_is)
    (case c21 => k_is)
    (case k21 => k_is)
    (case l22 => k_is)
    (case c22 => k_is)
    (case k22 => k_is)
    (case l23 => k_is)
    (case c23 => k_is)
    (case k23 => k_is)
    (case l24 => k_is)
    (case c24 => k_is)
    (case k24 => k_is)
    (case l25 => k_is)
    (case c25 => k_is)
    (case k25 => k_is)
    (case l26 => k_is)
    (case c26 => k_is)
    (case k26 => k_is)
    (case l27 => k_is)
    (case c27 => k_is)
    (case k27 => k_is)
    (case l28 => k_is)
    (case c28 => k_is)
    (case k28 => k_is)
    (case l29 => k_is)
    (case c29 => k_is)
    (case k29 => k_is)
    (case l30 => k_is)
    (case c30 => k_is)
    (case k30 => k_is)
    (case l31 => k_is)
    (case c31 => k_is)
    (case k31 => k_is)
    (case l32 => k_is)
    (case c32 => k_is)
    (case k32 => k_is)
    (case l33 => k_is)
    (case c33 => k_is)
    (case k33 => k_is)
    (case l34 => k_is)
    (case c34 => k_is)
    (case k34 => k_is)
    (case l35 => k_is)
    (case c35 => k_is)
    (case k35 => k_is)
    (case l36 => k_is)
    (case c36 => k_is)
    (case k36 => k_is)
    (case l37 => k_is)
    (case c37 => k_is)
    (case k37 => k_is)
    (case l38 => k_is)
    (case c38 => k_is)
    (case k38 => k_is)
    (case l39 => k_is)
    (case c39 => k_is)
    (case k39 => k_is)
    (case l40 => k_is)
    (case c40 => k_is)
    (case k40 => k_is)
    (case l41 => k_is)
    (case c41 => k_is)
    (case k41 => k_is)
    (case l42 => k_is)
    (case c42 => k_is)
    (case k42 => k_is)
    (case l43 => k_is)
    (case c43 => k_is)
    (case k43 => k_is)
    (case l44 => k_is)
    (case c44 => k_is)
    (case k44 => k_is)
    (case l45 => k_is)
    (case c45 => k_is)
    (case k45 => k_is)
    (case fn45 => k_is)
    (case l46 => k_is)
    (case c46 => k_is)
    (case k46 => k_is)
    (case mk1_Unlike => k_is)
    (case mk4_Unlike => k_is)
    (case cl1_Unlike => k_is)
    (case cl2_Unlike => k_is)
    (case cl3_Unlike => k_is)
    (case cl4_Unlike => k_is)
    (case mk1_Sum => k_is)
    (case mk4_Sum => k_is)
    (case cl1_Sum => k_is)
    (case cl2_Sum => k_is)
    (case cl3_Sum => k_is)
    (case cl4_Sum => k_is)
    (case mk1_Rising => k_is)
    (case mk4_Rising => k_is)
    (case cl1_Rising => k_is)
    (case cl2_Rising => k_is)
    (case cl3_Rising => k_is)
    (case cl4_Rising => k_is)
    (case mk1_Seen => k_is)
    (case mk4_Seen => k_is)
    (case cl1_Seen => k_is)
    (case cl2_Seen => k_is)
    (case cl3_Seen => k_is)
    (case cl4_Seen => k_is)
    (case mk1_Count => k_is)
    (case mk4_Count => k_is)
    (case cl1_Count => k_is)
    (case cl2_Count => k_is)
    (case cl3_Count => k_is)
    (case cl4_Count => k_is)
    (case mk1_Joined => k_is)
    (case mk4_Joined => k_is)
    (case cl1_Joined => k_is)
    (case cl2_Joined => k_is)
    (case cl3_Joined => k_is)
    (case cl4_Joined => k_is)
    (case mk1_NoSquare => k_is)
    (case mk4_NoSquare => k_is)
    (case cl1_NoSquare => k_is)
    (case cl2_NoSquare => k_is)
    (case cl3_NoSquare => k_is)
    (case cl4_NoSquare => k_is)
    (case mk1_Ring => k_is)
    (case mk4_Ring => k_is)
    (case cl1_Ring => k_is)
    (case cl2_Ring => k_is)
    (case cl3_Ring => k_is)
    (case cl4_Ring => k_is)
    (case mk1_Puzzle => k_is)
    (case mk4_Puzzle => k_is)
    (case cl1_Puzzle => k_is)
    (case cl2_Puzzle => k_is)
    (case cl3_Puzzle => k_is)
    (case cl4_Puzzle => k_is)
    (case na_c_amount_Unlike => k_is)
    (case na_c_amount_Sum => k_is)
    (case na_c_amount_Rising => k_is)
    (case na_c_amount_Seen => k_is)
    (case na_c_amount_Count => k_is)
    (case na_c_amount_Joined => k_is)
    (case na_c_amount_NoSquare => k_is)
    (case na_c_amount_Ring => k_is)
    (case na_c_cells_Unlike => k_is)
    (case na_c_cells_Sum => k_is)
    (case na_c_cells_Rising => k_is)
    (case na_c_cells_Seen => k_is)
    (case na_c_cells_Count => k_is)
    (case na_c_cells_Joined => k_is)
    (case na_c_cells_NoSquare => k_is)
    (case na_c_cells_Ring => k_is)
    (case na_c_floor_Unlike => k_is)
    (case na_c_floor_Sum => k_is)
    (case na_c_floor_Rising => k_is)
    (case na_c_floor_Seen => k_is)
    (case na_c_floor_Count => k_is)
    (case na_c_floor_Joined => k_is)
    (case na_c_floor_NoSquare => k_is)
    (case na_c_floor_Ring => k_is)
    (case na_c_mark_Unlike => k_is)
    (case na_c_mark_Sum => k_is)
    (case na_c_mark_Rising => k_is)
    (case na_c_mark_Seen => k_is)
    (case na_c_mark_Count => k_is)
    (case na_c_mark_Joined => k_is)
    (case na_c_mark_NoSquare => k_is)
    (case na_c_mark_Ring => k_is)
    (case na_c_words_Unlike => k_is)
    (case na_c_words_Sum => k_is)
    (case na_c_words_Rising => k_is)
    (case na_c_words_Seen => k_is)
    (case na_c_words_Count => k_is)
    (case na_c_words_Joined => k_is)
    (case na_c_words_NoSquare => k_is)
    (case na_c_words_Ring => k_is)
    (case na_d_floor_Puzzle => k_is)
    (case na_d_given_Puzzle => k_is)
    (case na_d_laws_Puzzle => k_is)
    (case gt1_KINDS => k_is)
    (case gt2_KINDS => k_is)
    (case gt1_LINE_KINDS => k_is)
    (case gt2_LINE_KINDS => k_is)
    (case gt1_NUMBER_KINDS => k_is)
    (case gt2_NUMBER_KINDS => k_is)
    (case gt1_OF_ALL_CELLS => k_is)
    (case gt2_OF_ALL_CELLS => k_is)
    (case gt1_WITH_NUMBER => k_is)
    (case gt2_WITH_NUMBER => k_is)
    (case gt1_WITH_SIGN => k_is)
    (case gt2_WITH_SIGN => k_is)
    (case gd1_RULES_OF_KIND => k_is)
    (case gd2_RULES_OF_KIND => k_is)
    (case gd3_0_RULES_OF_KIND => k_is)
    (case gd4_0_RULES_OF_KIND => first | exact rfl | with_unfolding_all rfl)
    (case gd3_1_RULES_OF_KIND => k_is)
    (case gd4_1_RULES_OF_KIND => first | exact rfl | with_unfolding_all rfl)
    (case gd3_2_RULES_OF_KIND => k_is)
    (case gd4_2_RULES_OF_KIND => first | exact rfl | with_unfolding_all rfl)
    (case gd3_3_RULES_OF_KIND => k_is)
    (case gd4_3_RULES_OF_KIND => first | exact rfl | with_unfolding_all rfl)
    (case gd3_4_RULES_OF_KIND => k_is)
    (case gd4_4_RULES_OF_KIND => first | exact rfl | with_unfolding_all rfl)
    (case gd3_5_RULES_OF_KIND => k_is)
    (case gd4_5_RULES_OF_KIND => first | exact rfl | with_unfolding_all rfl)
    (case gd3_6_RULES_OF_KIND => k_is)
    (case gd4_6_RULES_OF_KIND => first | exact rfl | with_unfolding_all rfl)
    (case gd3_7_RULES_OF_KIND => k_is)
    (case gd4_7_RULES_OF_KIND => first | exact rfl | with_unfolding_all rfl)
    (case gd3_8_RULES_OF_KIND => k_is)
    (case gd4_8_RULES_OF_KIND => first | exact rfl | with_unfolding_all rfl)
    (case kc_FIGURES => k_is)
    (case kc_MOST_CELLS => k_is)
    (case kc_MOST_FIGURES => k_is)
    (case kc_MOST_NUMBER => k_is)
    (case kc_MOST_RULES => k_is)
    (case kc_MOST_SIDE => k_is)
    (case kc_MOST_SIGNS => k_is)
    (case z_len => k_is)
    (case z_abs => k_is)
    (case z_min => k_is)
    (case z_max => k_is)
    (case z_sorted => k_is)
    (case z_any => k_is)
    (case z_isinstance => k_is)
    (case z_list => k_is)
    (case z_int => k_is)
    (case z_bool => k_is)
    (case z_str => k_is)
    (case z_tuple => k_is)
    (case z_reversed => k_is)
    (case z_set => k_is)
    (case z_range => k_is)
    (case z_zip => k_is)
    (case z_all => k_is)
    (case z_sum => k_is)
    (case z_enumerate => k_is)
