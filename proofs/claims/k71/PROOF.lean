import PyProof.Rows.All
import Wide.All
import OpenK.AllK
import Wide.FinOn
import PyProof.StrLawsTight
import PyProof.StrLawsChain
import PyProof.StrLaws
import PyProof.StrLawsFirst
import PyProof.StrBlock
import Lean
import PyProof.EqAt
import PyProof.EqKinds
import PyProof.TupleCall
import PyProof.ZipIter
import PyProof.ConsumeS
import PyProof.StrCalls2
import PyProof.StrWalks
import PyProof.SliceStr2
import PyProof.StrBlockL
import PyProof.ListIndex
import PyProof.StationsW
import PyProof.ExcClass3
import PyProof.NsDelKeeps
import PyProof.RulesAs
import PyProof.ExcBaseAll.ValueError
import PyProof.ExcArgsOwn
import PyProof.ExcAttrAll.ValueError
import KE.KTryMore
import KE.RegKTryMore
import KE.RegKIsAll
import PyProof.Rows.Range3
import PyProof.Rows.SumGenD
import PyProof.Rows.RuleM_int
import PyProof.EnumMake
import PyProof.EnumFor
import PyProof.EnumStmt
import PyProof.Rows.EnumRows
import KE.KRevIter
import PyProof.ListNew
import PyProof.CollectIter
import PyProof.ListRange
import PyProof.CallStr
import PyProof.StrBlock2
import PyProof.Rows.StrMadeLen
import PyProof.Rows.SetFrom
import PyProof.SetRoads
import PyProof.MeetsStr2
import KE.KRevSl
import PyProof.Conv_int
import KE.KListMore
import PyProof.AutoSeq1
import PyProof.WalkInts
import PySem.Challenge.RW_cluemaker_k71_texts_of_books_refused
set_option Elab.async false
set_option linter.all false
namespace L2
open PySem PySem.Builtin PySem.Builtin.Str
def tx (l : List Nat) : Str := ⟨l.toArray⟩
theorem tx_cps (l : List Nat) : (tx l).cps.toList = l := by simp [tx]
theorem tx_of (x : Str) : tx x.cps.toList = x := by cases x; simp [tx]
theorem tx_inj {a b : List Nat} (h : tx a = tx b) : a = b := by rw [← tx_cps a, h, tx_cps]
theorem tx_len (l : List Nat) : (tx l).length = l.length := by simp [tx, Str.length]
theorem tx_app (a b : List Nat) : tx a ++ tx b = tx (a ++ b) := by
  refine Str.ext' ?_
  rw [Str.cps_append]
  simp [tx]
theorem tx_dec (a b : List Nat) : decide (tx a = tx b) = decide (a = b) := by
  by_cases h : a = b
  · subst h; simp
  · have : ¬ tx a = tx b := fun e => h (tx_inj e)
    rw [decide_eq_false h, decide_eq_false this]
def catL (c : Nat) : List (List Nat) → List Nat
  | [] => []
  | [x] => x
  | x :: y :: r => x ++ c :: catL c (y :: r)
theorem join_tx (c : Nat) : ∀ ts : List (List Nat), Str.join (tx [c]) (ts.map tx) = tx (catL c ts)
  | [] => rfl
  | [x] => rfl
  | x :: y :: r => by
    show tx x ++ tx [c] ++ Str.join (tx [c]) ((y :: r).map tx) = _
    rw [join_tx c (y :: r), tx_app, tx_app]
    show tx _ = tx (x ++ c :: catL c (y :: r))
    rw [List.append_assoc]; rfl
theorem Txt_join (sep : Str) (ts : List Str) : Txt.join sep ts = Str.join sep ts := StrLaws.glued_eq_join sep ts
theorem cut_inj {c : Nat} : ∀ {a b x y : List Nat}, c ∉ a → c ∉ b → a ++ c :: x = b ++ c :: y → a = b ∧ x = y
  | [], [], _, _, _, _, h => ⟨rfl, by simpa using h⟩
  | [], b :: bs, _, _, _, hb, h => by
    simp at h
    exact absurd (List.mem_cons.mpr (.inl h.1)) hb
  | a :: as, [], _, _, ha, _, h => by
    simp at h
    exact absurd (List.mem_cons.mpr (.inl h.1.symm)) ha
  | a :: as, b :: bs, x, y, ha, hb, h => by
    simp at h
    have := cut_inj (fun z => ha (List.mem_cons_of_mem _ z)) (fun z => hb (List.mem_cons_of_mem _ z)) h.2
    exact ⟨by rw [h.1, this.1], this.2⟩
theorem catL_mem {c : Nat} : ∀ {x : List Nat} {r : List (List Nat)} {y : List Nat}, c ∈ catL c (x :: y :: r) := by
  intro x r y
  show c ∈ x ++ c :: _
  simp
theorem catL_inj {c : Nat} : ∀ {xs ys : List (List Nat)}, xs ≠ [] → ys ≠ [] → (∀ x ∈ xs, c ∉ x) → (∀ y ∈ ys, c ∉ y) → catL c xs = catL c ys → xs = ys
  | [], _, h, _, _, _, _ => absurd rfl h
  | _, [], _, h, _, _, _ => absurd rfl h
  | [x], [y], _, _, _, _, h => by
    have h' : x = y := h
    rw [h']
  | [x], y :: z :: r, _, _, hx, _, h => by
    have h' : x = catL c (y :: z :: r) := h
    exact absurd (h' ▸ catL_mem) (hx x List.mem_cons_self)
  | x :: z :: r, [y], _, _, _, hy, h => by
    have h' : catL c (x :: z :: r) = y := h
    exact absurd (h' ▸ catL_mem) (hy y List.mem_cons_self)
  | x :: z :: r, y :: u :: s, _, _, hx, hy, h => by
    obtain ⟨e1, e2⟩ := cut_inj (hx x List.mem_cons_self) (hy y List.mem_cons_self) (show x ++ c :: catL c (z :: r) = y ++ c :: catL c (u :: s) from h)
    rw [e1, catL_inj (by simp) (by simp) (fun w hw => hx w (List.mem_cons_of_mem _ hw)) (fun w hw => hy w (List.mem_cons_of_mem _ hw)) e2]
theorem split_ne (x y : Str) : Txt.split x y ≠ [] := by
  intro h
  unfold Txt.split at h
  split at h
  · cases h
  · split at h
    · cases h
    · rw [StrLaws.partsBetween_eq] at h
      obtain ⟨p, r, e⟩ := StrLaws.partsFrom_ne x y.length 0 (occurrences x y 0 x.length (x.length + 1))
      rw [e] at h; cases h
theorem split_tx {c : Nat} {rows : List (List Nat)} (hne : rows ≠ []) (hf : ∀ r ∈ rows, c ∉ r) : Txt.split (tx (catL c rows)) (tx [c]) = rows.map tx := by
  have h1 := StrLaws.join_split (tx (catL c rows)) (tx [c])
  have h2 : ∀ p ∈ Txt.split (tx (catL c rows)) (tx [c]), c ∉ p.cps.toList := StrLaws.split_free _ c
  have h3 := split_ne (tx (catL c rows)) (tx [c])
  generalize Txt.split (tx (catL c rows)) (tx [c]) = S at *
  have e : S = (S.map (·.cps.toList)).map tx := by
    rw [List.map_map]
    conv => lhs; rw [← List.map_id S]
    exact List.map_congr_left fun x _ => (tx_of x).symm
  rw [e, join_tx] at h1
  have h4 := tx_inj h1
  have h5 := catL_inj (c := c) (xs := S.map (·.cps.toList)) (ys := rows) (by simpa using h3) hne (fun x hx => by obtain ⟨p, hp, rfl⟩ := List.mem_map.mp hx; exact h2 p hp) hf h4
  rw [e, h5]
theorem split_parts (c : Nat) (l : List Nat) : ∃ rows : List (List Nat), rows ≠ [] ∧ (∀ r ∈ rows, c ∉ r) ∧ catL c rows = l ∧ Txt.split (tx l) (tx [c]) = rows.map tx := by
  have h1 := StrLaws.join_split (tx l) (tx [c])
  have h2 : ∀ p ∈ Txt.split (tx l) (tx [c]), c ∉ p.cps.toList := StrLaws.split_free _ c
  have h3 := split_ne (tx l) (tx [c])
  generalize Txt.split (tx l) (tx [c]) = S at *
  have e : S = (S.map (·.cps.toList)).map tx := by
    rw [List.map_map]
    conv => lhs; rw [← List.map_id S]
    exact List.map_congr_left fun x _ => (tx_of x).symm
  rw [e, join_tx] at h1
  exact ⟨S.map (·.cps.toList), by simpa using h3, (fun x hx => by obtain ⟨p, hp, rfl⟩ := List.mem_map.mp hx; exact h2 p hp), tx_inj h1, e⟩
end L2
set_option Elab.async false
set_option linter.all false
namespace L2
open PySem PySem.Builtin PySem.Builtin.Str
def catS (s : List Nat) : List (List Nat) → List Nat
  | [] => []
  | [x] => x
  | x :: y :: r => x ++ (s ++ catS s (y :: r))
theorem joinS_tx (s : List Nat) : ∀ ts : List (List Nat), Str.join (tx s) (ts.map tx) = tx (catS s ts)
  | [] => rfl
  | [x] => rfl
  | x :: y :: r => by
    show tx x ++ tx s ++ Str.join (tx s) ((y :: r).map tx) = _
    rw [joinS_tx s (y :: r), tx_app, tx_app]
    show tx _ = tx (x ++ (s ++ catS s (y :: r)))
    rw [List.append_assoc]
theorem at_iff {x s : List Nat} {k : Nat} : StrLaws.At (tx x) (tx s) (tx x).length k ↔ k + s.length ≤ x.length ∧ (x.drop k).take s.length = s := by
  unfold StrLaws.At
  rw [StrLaws.subAt_eq, tx_len, tx_len, tx_cps, tx_cps, beq_iff_eq]
theorem sub_tx (x : List Nat) (a b : Nat) : strSub (tx x) a b = tx ((x.drop a).take (b - a)) := by
  rw [← tx_of (strSub (tx x) a b), StrLaws.strSub_toList, tx_cps]
theorem at_mark {x s : List Nat} {c j k : Nat} (hj : s[j]? = some c) (h : StrLaws.At (tx x) (tx s) (tx x).length k) : x[k + j]? = some c := by
  have h2 := (at_iff.mp h).2
  have hl := (List.getElem?_eq_some_iff.mp hj).1
  rw [← h2, List.getElem?_take_of_lt hl, List.getElem?_drop] at hj
  exact hj
end L2
set_option Elab.async false
set_option linter.all false
set_option maxRecDepth 100000
namespace L2
open PySem PySem.Spec PyProof.Rows
abbrev Key := Sum Int Str
def keyIs : Key → Value → Bool
  | .inl k, v => Value.isInt k v
  | .inr x, v => Value.isStrOf x v
def keyH (w : World) : Key → Int
  | .inl k => hashInt k
  | .inr x => hashStr w x
theorem keyIs_shape : ∀ {k : Key} {v : Value}, keyIs k v = true → (∃ i t, k = Sum.inl i ∧ v = Value.int i t) ∨ (∃ x t, k = Sum.inr x ∧ v = Value.str x t)
  | .inl i, v, h => by
    obtain ⟨t, e⟩ := Value.isInt_shape (k := i) (v := v) h
    exact .inl ⟨i, t, rfl, e⟩
  | .inr x, v, h => by
    obtain ⟨t, e⟩ := Value.isStrOf_shape (x := x) (v := v) h
    exact .inr ⟨x, t, rfl, e⟩
theorem keyIs_int (i : Int) (t : Tok) : keyIs (.inl i) (.int i t) = true := by simp [keyIs, Value.isInt]
theorem keyIs_str (x : Str) (t : Tok) : keyIs (.inr x) (.str x t) = true := by simp [keyIs, Value.isStrOf]
theorem key_ll (a b : Int) : decide ((Sum.inl a : Key) = Sum.inl b) = (a == b) := by
  by_cases e : a = b
  · subst e; simp
  · have h : ¬ (Sum.inl a : Key) = Sum.inl b := fun q => e (Sum.inl.inj q)
    rw [decide_eq_false h]
    exact (beq_eq_false_iff_ne.mpr e).symm
theorem key_rr (a b : Str) : decide ((Sum.inr a : Key) = Sum.inr b) = decide (a = b) := by
  by_cases e : a = b
  · subst e; simp
  · have h : ¬ (Sum.inr a : Key) = Sum.inr b := fun q => e (Sum.inr.inj q)
    rw [decide_eq_false h, decide_eq_false e]
theorem key_lr (a : Int) (b : Str) : decide ((Sum.inl a : Key) = Sum.inr b) = false := decide_eq_false (fun q => nomatch q)
theorem key_rl (a : Str) (b : Int) : decide ((Sum.inr a : Key) = Sum.inl b) = false := decide_eq_false (fun q => nomatch q)
def mixKind (prog : Program) (w : World) : PySem.KeyKind prog w Key where
  is := keyIs
  hash := keyH w
  inj := fun v a b ha hb => by
    rcases keyIs_shape ha with ⟨i, t, rfl, rfl⟩ | ⟨x, t, rfl, rfl⟩
    · rcases keyIs_shape hb with ⟨j, u, rfl, e⟩ | ⟨y, u, rfl, e⟩
      · injection e with e1 _; rw [e1]
      · exact nomatch e
    · rcases keyIs_shape hb with ⟨j, u, rfl, e⟩ | ⟨y, u, rfl, e⟩
      · exact nomatch e
      · injection e with e1 _; rw [e1]
  byValue := fun k v h => by
    rcases keyIs_shape h with ⟨i, t, rfl, rfl⟩ | ⟨x, t, rfl, rfl⟩ <;> rfl
  pyHash := fun hv h => by
    rcases keyIs_shape hv with ⟨i, t, rfl, rfl⟩ | ⟨x, t, rfl, rfl⟩
    · exact wpAny_pyHash_int h
    · exact wpAny_pyHash_str h
  eqBool := fun hu hv h => by
    rcases keyIs_shape hu with ⟨i, t, rfl, rfl⟩ | ⟨x, t, rfl, rfl⟩
    · rcases keyIs_shape hv with ⟨j, u, rfl, rfl⟩ | ⟨y, u, rfl, rfl⟩
      · rw [key_ll] at h; exact wpAny_eqBool_int h
      · rw [key_lr] at h; exact SeqAt.EqAt.int_str i t y u _ _ _ _ h
    · rcases keyIs_shape hv with ⟨j, u, rfl, rfl⟩ | ⟨y, u, rfl, rfl⟩
      · rw [key_rl] at h; exact SeqAt.EqAt.str_int x t j u _ _ _ _ h
      · rw [key_rr] at h; exact wpAny_eqBool_str h
  «strs» := fun k x t v h => by
    rcases keyIs_shape h with ⟨i, u, rfl, e⟩ | ⟨y, u, rfl, e⟩
    · exact nomatch e
    · injection e with e1 _
      subst e1
      cases v <;> rfl
theorem mixKind_int (prog : Program) (w : World) (i : Int) (t : Tok) : (mixKind prog w).is (.inl i) (.int i t) = true := keyIs_int i t
theorem mixKind_str (prog : Program) (w : World) (x : Str) (t : Tok) : (mixKind prog w).is (.inr x) (.str x t) = true := keyIs_str x t
end L2
namespace L2
open PySem PySem.Spec PyProof.Rows
inductive V where
  | non | bl (b : Bool) | int (i : Int) | str (x : Str) | byt (b : Array UInt8) | flt (b : UInt64) | ref (a : Addr) | ty (n : String)
  deriving DecidableEq
def RelV : V → Value → Prop
  | .non, u => u = Value.none
  | .bl b, u => u = Value.bool b
  | .int i, u => ∃ t, u = Value.int i t
  | .str x, u => ∃ t, u = Value.str x t
  | .byt b, u => ∃ t, u = Value.bytes b t
  | .flt b, u => ∃ t, u = Value.float b t
  | .ref a, u => u = Value.ref a
  | .ty n, u => u = Value.type n
abbrev Vals : List V → List Value → Prop := Paired RelV
theorem Vals.length {xs : List V} {us : List Value} (r : Vals xs us) : xs.length = us.length := Paired.length r
theorem Vals.get : ∀ {xs : List V} {us : List Value} {i : Nat} {x : V}, Vals xs us → xs[i]? = some x → ∃ u, us[i]? = some u ∧ RelV x u
  | _, _, _, _, .nil, e => by simp at e
  | _, _, 0, _, .cons r _, e => by simp at e; subst e; exact ⟨_, rfl, r⟩
  | _, _, i + 1, x, .cons _ t, e => by
    obtain ⟨u, h1, h2⟩ := Vals.get (i := i) (x := x) t (by simpa using e)
    exact ⟨u, by simpa using h1, h2⟩
theorem Vals.append : ∀ {xs ys : List V} {us ws : List Value}, Vals xs us → Vals ys ws → Vals (xs ++ ys) (us ++ ws)
  | _, _, _, _, .nil, s => s
  | _, _, _, _, .cons r t, s => .cons r (Vals.append t s)
theorem Vals.take : ∀ {xs : List V} {us : List Value} (n : Nat), Vals xs us → Vals (xs.take n) (us.take n)
  | _, _, 0, _ => .nil
  | _, _, _ + 1, .nil => .nil
  | _, _, n + 1, .cons r t => .cons r (Vals.take n t)
theorem Vals.drop : ∀ {xs : List V} {us : List Value} (n : Nat), Vals xs us → Vals (xs.drop n) (us.drop n)
  | _, _, 0, r => r
  | _, _, _ + 1, .nil => .nil
  | _, _, n + 1, .cons _ t => Vals.drop n t
def RelO : Option V → Option Value → Prop
  | some v, some u => RelV v u
  | none, none => True
  | _, _ => False
def KV {κ : Type} : List (κ × V) → List (κ × Value) → Prop := Paired fun (p : κ × V) (q : κ × Value) => p.1 = q.1 ∧ RelV p.2 q.2
def kV : Key → V
  | .inl i => .int i
  | .inr x => .str x
inductive HO where
    | lst (xs : List V)
    | tup (xs : List V)
    | dK (kvs : List (Key × V)) | dT (kvs : List (List Key × V))
    | set (S : Int → Bool) (n : Nat)
    | ins (C dx : Addr) (fs : List (Str × V))
    | own (x : Addr)
    | xd (fs : List (Str × V))
    | met (f x : Addr)
    | rng (lo hi : Int)
    | frz (o : Obj) (u : HO)
    | tbl (ps : Array Value)
    | ext (φ : Heap → Prop)
abbrev Hp := Addr → Option HO
def upd (H : Hp) (a : Addr) (o : HO) : Hp := fun b => if b = a then some o else H b
theorem upd_same {H : Hp} {a : Addr} {o : HO} : upd H a o a = some o := by unfold upd; rw [if_pos rfl]
theorem upd_ne {H : Hp} {a b : Addr} {o : HO} (h : b ≠ a) : upd H a o b = H b := by unfold upd; rw [if_neg h]
theorem ne_of {H : Hp} {a b : Addr} {o u : HO} (h : H a = some o) (h' : H b = some u) (d : o ≠ u) : a ≠ b := by
  intro e; subst e; rw [h] at h'; exact d (Option.some.inj h')
theorem ne_of_none {H : Hp} {a b : Addr} {o : HO} (h : H a = some o) (h' : H b = none) : a ≠ b := by
  intro e; subst e; rw [h] at h'; cases h'
section
variable (P : Program) (w : World)
def ObjOk (H : Hp) (h : Heap) (a : Addr) : HO → Prop
  | .lst xs => xs.length ≤ sizeLine ∧ ∃ (its : List Value) (n : Nat), Vals xs its ∧ h.get? a = some { cls := .type "list", data := .seq its.toArray n }
  | .tup xs => xs.length ≤ sizeLine ∧ ∃ its : List Value, Vals xs its ∧ IsTup h a its.toArray
  | .dK kvs => kvs.length ≤ sizeLine ∧ (a == sysModules) = false ∧ ∃ vs, KV kvs vs ∧ h.DictOf (mixKind P w) a vs
  | .dT kvs => kvs.length ≤ sizeLine ∧ (a == sysModules) = false ∧ ∃ xs : List (List Key × Addr × Value),
      Paired (fun (p : List Key × V) (q : List Key × Addr × Value) => p.1 = q.1 ∧ H q.2.1 = some (.tup (p.1.map kV)) ∧ RelV p.2 q.2.2) kvs xs ∧
      ∃ o es ep, h.get? a = some o ∧ o.ExactDict ∧ o.data = .dict es ep ∧ es.toList = xs.map (entryOfKey (tupleKind (mixKind P w))) ∧ (xs.map (·.1)).Nodup
  | .set S n => h.SetOf (intKind P w) a S n
  | .ins C dx fs => H dx = some (.own a) ∧ fs.length ≤ 1000 ∧ dx ≠ a ∧ h.get? a = some (PySem.W.instObj C dx) ∧
      ∃ mA, h.Ns1 dx mA ∧ (∀ f, RelO (fs.lookup f) (mA f)) ∧ PySem.Within mA (fs.map (·.1))
  | .own _ => ∃ o, h.get? a = some o
  | .xd fs => ∃ mA, h.Ns1 a mA ∧ ∀ f, RelO (fs.lookup f) (mA f)
  | .rng lo hi => ∃ t u v, h.get? a = some { cls := .type "range", data := .fields #[.int lo t, .int hi u, .int 1 v] }
  | .frz o u => h.get? a = some o ∧ ObjOk H h a u
  | .tbl ps => h.get? a = some { cls := .none, data := .fields ps }
  | .met f x => h.get? a = some (PySem.W.methodObj (.ref f) (.ref x))
  | .ext φ => φ h ∧ (∃ o, h.get? a = some o) ∧ ∀ h1 h2 : Heap, φ h1 → (∀ o, h1.get? a = some o → h2.get? a = some o) → φ h2
def HOk (H : Hp) (h : Heap) : Prop := ∀ a o, H a = some o → ObjOk P w H h a o
end
section
variable {P : Program} {w : World} {H H' : Hp} {h h' : Heap} {a : Addr} {o : HO}
theorem ObjOk.lt (x : ObjOk P w H h a o) : a < h.objs.size := by
  cases o with
  | lst xs => obtain ⟨_, _, _, _, e⟩ := x; exact Heap.lt_size e
  | tup xs => obtain ⟨_, _, _, p⟩ := x; exact p.lt
  | dK kvs => obtain ⟨_, _, _, _, o, _, _, e, _⟩ := x; exact Heap.lt_size e
  | dT kvs => obtain ⟨_, _, _, _, o, _, _, e, _⟩ := x; exact Heap.lt_size e
  | set S n => obtain ⟨o, _, _, _, e, _⟩ := x; exact Heap.lt_size e
  | ins C dx fs => obtain ⟨_, _, _, e, _⟩ := x; exact Heap.lt_size e
  | own y => obtain ⟨_, e⟩ := x; exact Heap.lt_size e
  | xd fs => obtain ⟨_, ⟨_, _, _, e, _⟩, _⟩ := x; exact Heap.lt_size e
  | rng lo hi => obtain ⟨_, _, _, e⟩ := x; exact Heap.lt_size e
  | frz ob u => obtain ⟨e, _⟩ := x; exact Heap.lt_size e
  | tbl ps => exact Heap.lt_size (show h.get? a = some _ from x)
  | met f y => exact Heap.lt_size (show h.get? a = some _ from x)
  | ext φ => obtain ⟨_, ⟨_, e⟩, _⟩ := x; exact Heap.lt_size e
theorem Paired.mapP {α β : Type} {F G : α → β → Prop} : ∀ {l₁ : List α} {l₂ : List β}, Paired F l₁ l₂ → (∀ a b, F a b → G a b) → Paired G l₁ l₂
  | _, _, .nil, _ => .nil
  | _, _, .cons r t, f => .cons (f _ _ r) (Paired.mapP t f)
theorem ObjOk.stay (x : ObjOk P w H h a o) (k : ∀ b u, (b = a ∨ H b = some (.own a)) → h.get? b = some u → h'.get? b = some u)
    (ho : ∀ b, H b = some (.own a) → H' b = some (.own a)) (ht : ∀ b xs, H b = some (.tup xs) → H' b = some (.tup xs)) : ObjOk P w H' h' a o := by
  induction o with
  | lst xs => obtain ⟨z, its, n, r, e⟩ := x; exact ⟨z, its, n, r, k _ _ (.inl rfl) e⟩
  | tup xs => obtain ⟨z, its, r, ob, e, c⟩ := x; exact ⟨z, its, r, ob, k _ _ (.inl rfl) e, c⟩
  | dK kvs => obtain ⟨z, y, vs, r, ob, es, ep, e, c⟩ := x; exact ⟨z, y, vs, r, ob, es, ep, k _ _ (.inl rfl) e, c⟩
  | dT kvs =>
    obtain ⟨z, y, xs, r, ob, es, ep, e, c⟩ := x
    exact ⟨z, y, xs, Paired.mapP r fun p q z => ⟨z.1, ht _ _ z.2.1, z.2.2⟩, ob, es, ep, k _ _ (.inl rfl) e, c⟩
  | set S n => obtain ⟨ob, es, ep, t, e, c⟩ := x; exact ⟨ob, es, ep, t, k _ _ (.inl rfl) e, c⟩
  | ins C dx fs =>
    obtain ⟨d, z, ne, e, mA, ⟨od, es, ep, e2, c⟩, r⟩ := x
    exact ⟨ho _ d, z, ne, k _ _ (.inl rfl) e, mA, ⟨od, es, ep, k _ _ (.inr d) e2, c⟩, r⟩
  | own y => obtain ⟨ob, e⟩ := x; exact ⟨ob, k _ _ (.inl rfl) e⟩
  | xd fs => obtain ⟨mA, ⟨od, es, ep, e, c⟩, r⟩ := x; exact ⟨mA, ⟨od, es, ep, k _ _ (.inl rfl) e, c⟩, r⟩
  | rng lo hi => obtain ⟨t, u, v, e⟩ := x; exact ⟨t, u, v, k _ _ (.inl rfl) e⟩
  | frz ob u ih => obtain ⟨e, q⟩ := x; exact ⟨k _ _ (.inl rfl) e, ih q⟩
  | tbl ps =>
    have e : h.get? a = some { cls := .none, data := .fields ps } := x
    show h'.get? a = some { cls := .none, data := .fields ps }
    exact k a _ (.inl rfl) e
  | met f y =>
    have e : h.get? a = some (PySem.W.methodObj (.ref f) (.ref y)) := x
    show h'.get? a = some (PySem.W.methodObj (.ref f) (.ref y))
    exact k a _ (.inl rfl) e
  | ext φ => obtain ⟨p, ⟨o, e⟩, st⟩ := x; exact ⟨st _ _ p fun o q => k _ _ (.inl rfl) q, ⟨o, k _ _ (.inl rfl) e⟩, st⟩
theorem HOk.lt (x : HOk P w H h) (e : H a = some o) : a < h.objs.size := (x a o e).lt
theorem HOk.fresh (x : HOk P w H h) (e : h.objs.size ≤ a) : H a = none := by
  cases q : H a with
  | none => rfl
  | some u => exact absurd (Nat.lt_of_lt_of_le (x.lt q) e) (Nat.lt_irrefl _)
theorem HOk.kept (x : HOk P w H h) (k : ∀ b u, h.get? b = some u → h'.get? b = some u) : HOk P w H h' := fun a o e =>
  (x a o e).stay (fun b u _ q => k b u q) (fun _ q => q) fun _ _ q => q
theorem HOk.laid (x : HOk P w H h) (k : ∀ b u, h.get? b = some u → h'.get? b = some u) (hp : h.objs.size ≤ a) (new : ObjOk P w (upd H a o) h' a o) : HOk P w (upd H a o) h' := fun b u e => by
  have hn := x.fresh hp
  by_cases hb : b = a
  · subst hb; rw [upd_same] at e; cases e; exact new
  · rw [upd_ne hb] at e
    exact (x b u e).stay (fun c v _ q => k c v q) (fun c q => by rw [upd_ne (ne_of_none q hn)]; exact q) fun c xs q => by rw [upd_ne (ne_of_none q hn)]; exact q
end
def Rd (H : Hp) (a : Addr) (u : HO) : Prop := H a = some u ∨ ∃ o, H a = some (.frz o u)
theorem Rd.ok {P : Program} {w : World} {H : Hp} {h : Heap} {a : Addr} {u : HO} (r : Rd H a u) (x : HOk P w H h) : ObjOk P w H h a u := by
  rcases r with r | ⟨o, r⟩
  · exact x a u r
  · obtain ⟨_, q⟩ := x a _ r
    exact q
def Mut : Option HO → Prop
  | some (.lst _) => True
  | some (.dK _) => True
  | some (.dT _) => True
  | some (.set _ _) => True
  | some (.ins _ _ _) => True
  | some (.ext _) => True
  | _ => False
section
variable {P : Program} {w : World} {H : Hp} {h h' : Heap} {x e : Addr} {o' : HO}
theorem HOk.write (ok : HOk P w H h) (mu : Mut (H x)) (he : e = x ∨ H e = some (.own x)) (k : ∀ b u, b ≠ e → h.get? b = some u → h'.get? b = some u) (heo : ∃ u, h'.get? e = some u)
    (new : ObjOk P w (upd H x o') h' x o') : HOk P w (upd H x o') h' := fun b u q => by
  have nown : ∀ c y, H c = some (.own y) → c ≠ x := fun c y r z => by subst z; rw [r] at mu; exact mu
  have ntup : ∀ c xs, H c = some (.tup xs) → c ≠ x := fun c xs r z => by subst z; rw [r] at mu; exact mu
  by_cases hb : b = x
  · subst hb; rw [upd_same] at q; cases q; exact new
  · rw [upd_ne hb] at q
    by_cases hbe : b = e
    · have q' : H b = some (.own x) := by
        rcases he with z | z
        · exact absurd (hbe.trans z) hb
        · rw [hbe]; exact z
      rw [q] at q'; cases q'
      obtain ⟨v, hv⟩ := heo
      exact ⟨v, by rw [hbe]; exact hv⟩
    · refine (ok b u q).stay (fun c v hc r => k c v ?_ r) (fun c r => by rw [upd_ne (nown c b r)]; exact r) fun c xs r => by rw [upd_ne (ntup c xs r)]; exact r
      rcases hc with rfl | hc
      · exact hbe
      · rintro rfl
        rcases he with z | z
        · exact nown c b hc z
        · rw [hc] at z; cases z; exact hb rfl
end
structure Un (fs ex : List Addr) (H H' : Hp) (h h' : Heap) : Prop where
  keep : ∀ b o, h.get? b = some o → H b = none → b ∉ fs → b ∉ ex → h'.get? b = some o
  slot : ∀ b o, h.get? b = some o → H b = none → b ∈ fs → b ∉ ex → ∃ sl, h'.get? b = some { o with slots := sl }
  free : ∀ b o, h.get? b = some o → H b = none → b ∉ ex → H' b = none
  there : ∀ b o, h.get? b = some o → b ∉ ex → ∃ o', h'.get? b = some o'
  tups : ∀ b xs, H b = some (.tup xs) → H' b = some (.tup xs)
  frzs : ∀ b o u, H b = some (.frz o u) → H' b = some (.frz o u)
  tbls : ∀ b ps, H b = some (.tbl ps) → ∃ more, H' b = some (.tbl (ps ++ more))
section
variable {fs fs' ex ex' : List Addr} {H H1 H2 : Hp} {h h1 h2 h' : Heap} {a x e : Addr} {o : HO}
theorem Un.any (u : Un fs ex H H1 h h1) {b : Addr} {ob : Obj} (q : h.get? b = some ob) (n : H b = none) (hx : b ∉ ex) : ∃ sl, h1.get? b = some { ob with slots := sl } := by
  by_cases hb : b ∈ fs
  · exact u.slot b ob q n hb hx
  · exact ⟨ob.slots, u.keep b ob q n hb hx⟩
theorem Un.trans (a : Un fs ex H H1 h h1) (b : Un fs ex H1 H2 h1 h2) : Un fs ex H H2 h h2 where
  keep := fun c ob q n hc hx => b.keep c ob (a.keep c ob q n hc hx) (a.free c ob q n hx) hc hx
  slot := fun c ob q n hc hx => by
    obtain ⟨sl, e1⟩ := a.slot c ob q n hc hx
    obtain ⟨sl', e2⟩ := b.slot c _ e1 (a.free c ob q n hx) hc hx
    exact ⟨sl', e2⟩
  free := fun c ob q n hx => by
    obtain ⟨o', e1⟩ := a.there c ob q hx
    exact b.free c o' e1 (a.free c ob q n hx) hx
  there := fun c ob q hx => by
    obtain ⟨o', e1⟩ := a.there c ob q hx
    exact b.there c o' e1 hx
  tups := fun c xs q => b.tups c xs (a.tups c xs q)
  frzs := fun c ob xs q => b.frzs c ob xs (a.frzs c ob xs q)
  tbls := fun c ps q => by
    obtain ⟨m1, e1⟩ := a.tbls c ps q
    obtain ⟨m2, e2⟩ := b.tbls c _ e1
    exact ⟨m1 ++ m2, by rw [e2, Array.append_assoc]⟩
theorem Un.kept (k : ∀ b u, h.get? b = some u → h'.get? b = some u) : Un fs ex H H h h' :=
  ⟨fun b ob q _ _ _ => k b ob q, fun b ob q _ _ _ => ⟨ob.slots, k b ob q⟩, fun _ _ _ n _ => n, fun b ob q _ => ⟨ob, k b ob q⟩, fun _ _ q => q, fun _ _ _ q => q, fun _ ps q => ⟨#[], by rw [q]; simp⟩⟩
theorem Un.refl : Un fs ex H H h h := Un.kept fun _ _ q => q
theorem Un.laid (k : ∀ b u, h.get? b = some u → h'.get? b = some u) (hp : h.objs.size ≤ a) (hn : H a = none) : Un fs ex H (upd H a o) h h' where
  keep := fun b u q _ _ _ => k b u q
  slot := fun b u q _ _ _ => ⟨u.slots, k b u q⟩
  free := fun b u q n _ => by rw [upd_ne (Nat.ne_of_lt (Nat.lt_of_lt_of_le (Heap.lt_size q) hp))]; exact n
  there := fun b u q _ => ⟨u, k b u q⟩
  tups := fun b xs q => by rw [upd_ne (ne_of_none q hn)]; exact q
  frzs := fun b u xs q => by rw [upd_ne (ne_of_none q hn)]; exact q
  tbls := fun b ps q => ⟨#[], by rw [upd_ne (ne_of_none q hn), q]; simp⟩
theorem Un.write (mu : Mut (H x)) (he : e = x ∨ H e = some (.own x)) (k : ∀ b u, b ≠ e → h.get? b = some u → h'.get? b = some u) (heo : ∃ u, h'.get? e = some u) : Un fs ex H (upd H x o) h h' := by
  have hx : ∀ b, H b = none → b ≠ x := fun b n z => by subst z; rw [n] at mu; exact mu
  have hb : ∀ b, H b = none → b ≠ e := fun b n z => by
    subst z
    rcases he with r | r
    · exact hx b n r
    · rw [n] at r; cases r
  have hm : ∀ b u, H b = some u → ¬ Mut (some u) → b ≠ x := fun b u q nm z => by subst z; rw [q] at mu; exact nm mu
  refine ⟨fun b u q n _ _ => k b u (hb b n) q, fun b u q n _ _ => ⟨u.slots, k b u (hb b n) q⟩, fun b u q n _ => by rw [upd_ne (hx b n)]; exact n, fun b u q _ => ?_,
    fun b xs q => by rw [upd_ne (hm b _ q fun z => z)]; exact q, fun b u xs q => by rw [upd_ne (hm b _ q fun z => z)]; exact q, fun b ps q => ⟨#[], by rw [upd_ne (hm b _ q fun z => z), q]; simp⟩⟩
  by_cases hbe : b = e
  · subst hbe; exact heo
  · exact ⟨u, k b u hbe q⟩
theorem Un.mono (u : Un fs ex H H1 h h1) (hs : ∀ b ∈ fs, b ∈ fs') (hx : ∀ b ∈ ex, b ∈ ex') : Un fs' ex' H H1 h h1 :=
  ⟨fun b ob q n hb he => u.keep b ob q n (fun z => hb (hs b z)) fun z => he (hx b z), fun _ _ q n _ he => u.any q n fun z => he (hx _ z), fun b ob q n he => u.free b ob q n fun z => he (hx b z), fun b ob q he => u.there b ob q fun z => he (hx b z), u.tups, u.frzs, u.tbls⟩
end
def trk (h : Heap) (H : Hp) : List Addr := (List.range h.objs.size).filter fun a => (H a).isSome
def hidT (h : Heap) (H : Hp) : Heap := PySem.W.hideAll h (trk h H)
theorem hidT_size (h : Heap) (H : Hp) : (hidT h H).objs.size = h.objs.size := PySem.W.hideAll_size _ _
theorem hidT_get {h : Heap} {H : Hp} {b : Addr} {o : Obj} (e : h.get? b = some o) (n : H b = none) : (hidT h H).get? b = some o :=
  PySem.W.hideAll_get _ e fun hm => by
    have q : (H b).isSome = true := (List.mem_filter.mp hm).2
    rw [n] at q; simp at q
theorem of_hidT {h : Heap} {H : Hp} {b : Addr} {o : Obj} (e : (hidT h H).get? b = some o) : h.get? b = some o ∧ H b = none := by
  have e' : h.get? b = some o := PySem.W.of_hideAll (trk h H) e
  refine ⟨e', ?_⟩
  cases q : H b with
  | none => rfl
  | some x =>
    have hm : b ∈ trk h H := List.mem_filter.mpr ⟨List.mem_range.mpr (Heap.lt_size e'), by simp [q]⟩
    have z : (hidT h H).get? b = none := PySem.W.hideAll_none (trk h H) hm
    rw [z] at e; cases e
end L2
namespace L2
open PySem PySem.Spec PyProof.Rows
structure Mod (K : PySem.W.Frag) (mg : Str → Option Value) (base : Heap) : Prop where
  kin : K.In base
  glob : base.Ns mainGlobals mg
  blt : ∃ mb, base.Ns builtinsNs mb ∧ ∀ x : Str, x ≠ "__name__" → mb x = bootBuiltins x
  nolimit : base.NoLimit
structure Cx where
  prog : Program
  w : World
  K : PySem.W.Frag
  mg : Str → Option Value
  base : Heap
  A : Around
  N : List Str
  s₀ : Shared
  H₀ : Hp
  env : Env
  outer : List Env
  stack : List Env
  ex : List Addr
  fn : Str → Bool
  calm : Bool
  pn : List (Addr × Obj)
  xe : Value → Shared → Prop
def frs (l : List Env) : List Addr := l.filterMap (·.frame)
abbrev Cx.fs (X : Cx) : List Addr := frs X.outer
def Vis (sc : Scope) (x : Str) : Prop := sc.names.lookup x = some .local ∨ sc.names.lookup x = some .cell ∨ sc.names.lookup x = some .free
def Loc (sc : Scope) (x : Str) : Prop := sc.names.lookup x = some .local ∨ sc.names.lookup x = some .cell
def Look (env : Env) (h : Heap) (m : Str → Option Value) (x : Str) (u : Value) : Prop :=
  (env.kindOf x = some .local ∧ m x = some u) ∨ ((env.kindOf x = some .cell ∨ env.kindOf x = some .free) ∧ ∃ c, env.cells.lookup x = some c ∧ h.IsCell c (some u))
structure Cx.Ok (X : Cx) : Prop where
  mod : Mod X.K X.mg X.base
  kind : X.env.scope.kind = .function
  glob : X.env.globals = mainGlobals
  blt : X.env.builtins = builtinsNs
  above : X.s₀.heap.objs.size ≤ X.env.locals
  inj : ∀ x y c, X.env.cells.lookup x = some c → X.env.cells.lookup y = some c → x = y
  has : ∀ x, (X.env.kindOf x = some .cell ∨ X.env.kindOf x = some .free) → ∃ c, X.env.cells.lookup x = some c
  cab : ∀ x c, X.fn x = true → X.env.cells.lookup x = some c → X.s₀.heap.objs.size ≤ c
  hd : X.calm = true → X.A.handled = none
  frames : X.A.frames = some X.stack
  stk : X.stack = X.outer ∨ (X.stack = X.env :: X.outer ∧ X.env.frame = some X.env.locals)
  exf : ∀ b ∈ X.ex, b ≠ X.env.locals ∧ ∀ x c, X.env.cells.lookup x = some c → c ≠ b
  bs : ∀ b o, X.base.get? b = some o → X.s₀.heap.get? b = some o ∧ X.H₀ b = none
  bsz : X.base.objs.size ≤ X.s₀.heap.objs.size
  noex : ∀ b o, X.base.get? b = some o → b ∉ X.ex
  exfs : ∀ b ∈ X.ex, b ∉ X.fs
  funs : X.s₀.heap.FunFrames X.base X.outer
  frf : ∀ b ∈ X.fs, X.H₀ b = none
structure Inv (X : Cx) (pins : List (Addr × Obj)) (σ : List (Option V)) (H : Hp) (s : Shared) : Prop where
  ok : X.Ok
  os : s.os = X.s₀.os
  bare : AllBare s.gens
  base : Un X.fs X.ex X.H₀ H X.s₀.heap s.heap
  loc : ∃ m, s.heap.Ns X.env.locals m ∧ ∀ (i : Nat) (x : Str) (v : V), X.N[i]? = some x → σ[i]? = some (some v) → Vis X.env.scope x → ∃ u, RelV v u ∧ Look X.env s.heap m x u
  cell : ∀ x c, X.env.cells.lookup x = some c → ∃ v, s.heap.IsCell c v
  free : H X.env.locals = none
  freeC : ∀ x c, X.env.cells.lookup x = some c → H c = none
  pin : ∀ p ∈ X.pn ++ pins, s.heap.get? p.1 = some p.2 ∧ H p.1 = none ∧ p.1 ≠ X.env.locals ∧ p.1 ∉ X.fs ∧ ∀ v, p.2.data ≠ .cell v
  hok : HOk X.prog X.w H s.heap
  len : σ.length = X.N.length
section
variable {X : Cx} {pins : List (Addr × Obj)} {σ : List (Option V)} {H H' : Hp} {s : Shared} {h' : Heap}
theorem Cx.Ok.nofr (ok : X.Ok) {b : Addr} {o : Obj} (e : X.base.get? b = some o) : b ∉ X.fs := fun hb => by
  have := (ok.funs.mem hb).1
  rw [e] at this; cases this
theorem Inv.bs (I : Inv X pins σ H s) : ∀ b o, X.base.get? b = some o → s.heap.get? b = some o ∧ H b = none := fun b o e =>
  ⟨I.base.keep b o (I.ok.bs b o e).1 (I.ok.bs b o e).2 (I.ok.nofr e) (I.ok.noex b o e), I.base.free b o (I.ok.bs b o e).1 (I.ok.bs b o e).2 (I.ok.noex b o e)⟩
theorem Inv.bk (I : Inv X pins σ H s) : ∀ b o, X.base.get? b = some o → s.heap.get? b = some o := fun b o e => (I.bs b o e).1
theorem Inv.mod (I : Inv X pins σ H s) : Mod X.K X.mg X.base := I.ok.mod
theorem Inv.kIn (I : Inv X pins σ H s) : X.K.In s.heap := I.ok.mod.kin.keeps I.bk
theorem Inv.lt (I : Inv X pins σ H s) : X.env.locals < s.heap.objs.size := let ⟨_, hn, _⟩ := I.loc; hn.lt
theorem Inv.sz (I : Inv X pins σ H s) : X.s₀.heap.objs.size ≤ s.heap.objs.size := Nat.le_trans I.ok.above (Nat.le_of_lt I.lt)
theorem Inv.nofs (I : Inv X pins σ H s) {a : Addr} (h : s.heap.objs.size ≤ a) : a ∉ X.fs := fun hb => by
  obtain ⟨_, o, ho, _⟩ := I.ok.funs.mem hb
  exact absurd (Nat.lt_of_lt_of_le (Heap.lt_size ho) (Nat.le_trans I.sz h)) (Nat.lt_irrefl _)
theorem Inv.cne (I : Inv X pins σ H s) : ∀ x c, X.env.cells.lookup x = some c → c ≠ X.env.locals := fun x c e z => by
  obtain ⟨v, o, ho, hd⟩ := I.cell x c e
  obtain ⟨m, ⟨o', es, ep, ho', hd', _⟩, _⟩ := I.loc
  rw [z, ho'] at ho; cases ho; rw [hd'] at hd; cases hd
theorem Inv.funs (I : Inv X pins σ H s) : s.heap.FunFrames X.base X.outer := by
  have all : ∀ (l : List Env), (∀ b ∈ frs l, b ∈ X.fs) → X.s₀.heap.FunFrames X.base l → s.heap.FunFrames X.base l := by
    intro l
    induction l with
    | nil => intro _ _; trivial
    | cons env r ih =>
      intro hs hl
      obtain ⟨hk, ⟨L, o, hf, hn, ho, hd⟩, hr⟩ := hl
      have hL : L ∈ X.fs := hs L (by unfold frs; rw [List.filterMap_cons, hf]; exact List.mem_cons_self)
      obtain ⟨sl, e⟩ := I.base.slot L o ho (I.ok.frf L hL) hL fun z => I.ok.exfs L z hL
      exact ⟨hk, ⟨L, _, hf, hn, e, hd⟩, ih (fun b hb => hs b (by unfold frs; rw [List.filterMap_cons, hf]; exact List.mem_cons_of_mem _ hb)) hr⟩
  exact all X.outer (fun _ hb => hb) I.ok.funs
theorem Inv.stack (I : Inv X pins σ H s) : s.heap.FunFrames X.base X.stack := by
  rcases I.ok.stk with e | ⟨e, hf⟩
  · rw [e]; exact I.funs
  · rw [e]
    obtain ⟨m, hn, _⟩ := I.loc
    refine .cons (by rw [I.ok.kind]; decide) hf hn ?_ I.funs
    exact Heap.get?_none_of_le (Nat.le_trans I.ok.bsz I.ok.above)
theorem Inv.stkSub (I : Inv X pins σ H s) : ∀ b ∈ frs X.stack, b ∈ X.env.locals :: X.fs := fun b hb => by
  rcases I.ok.stk with e | ⟨e, hf⟩
  · rw [e] at hb; exact List.mem_cons_of_mem _ hb
  · rw [e] at hb
    unfold frs at hb
    rw [List.filterMap_cons, hf] at hb
    exact hb
theorem Inv.stkFree (I : Inv X pins σ H s) : ∀ b ∈ frs X.stack, H b = none := fun b hb => by
  rcases List.mem_cons.mp (I.stkSub b hb) with e | hb
  · rw [e]; exact I.free
  · obtain ⟨_, o, ho, _⟩ := I.ok.funs.mem hb
    exact I.base.free b o ho (I.ok.frf b hb) fun z => I.ok.exfs b z hb
theorem Inv.step {g' : Array GenState} {t' : Nat} {d' : Drawn} {ch : List Addr} (I : Inv X pins σ H s)
    (hch : ∀ b ∈ ch, (b ∈ X.ex ∨ X.s₀.heap.objs.size ≤ b) ∧ b ≠ X.env.locals ∧ (∀ x c, X.env.cells.lookup x = some c → c ≠ b) ∧ ∀ p ∈ X.pn ++ pins, p.1 ≠ b)
    (keep : ∀ b o, b ≠ X.env.locals → b ∉ X.fs → b ∉ ch → s.heap.get? b = some o → H b = none → h'.get? b = some o)
    (slot : ∀ b o, b ≠ X.env.locals → b ∈ X.fs → b ∉ ch → s.heap.get? b = some o → H b = none → ∃ sl, h'.get? b = some { o with slots := sl }) (free : ∀ b o, b ∉ ch → s.heap.get? b = some o → H b = none → H' b = none)
    (there : ∀ b o, b ∉ ch → s.heap.get? b = some o → ∃ o', h'.get? b = some o')
    (tups : ∀ b xs, H b = some (.tup xs) → H' b = some (.tup xs)) (frzs : ∀ b o u, H b = some (.frz o u) → H' b = some (.frz o u)) (tbls : ∀ b ps, H b = some (.tbl ps) → ∃ more, H' b = some (.tbl (ps ++ more)))
    (ns : ∀ m, s.heap.Ns X.env.locals m → h'.Ns X.env.locals m) (hok : HOk X.prog X.w H' h') (hg : AllBare g') :
    Inv X pins σ H' { s with heap := h', gens := g', drawn := d', toks := t' } := by
  have neL : ∀ b o, X.s₀.heap.get? b = some o → b ≠ X.env.locals := fun b o e => Nat.ne_of_lt (Nat.lt_of_lt_of_le (Heap.lt_size e) I.ok.above)
  have neC : ∀ b o, X.s₀.heap.get? b = some o → b ∉ X.ex → b ∉ ch := fun b o e hx hb => by
    rcases (hch b hb).1 with z | z
    · exact hx z
    · exact absurd (Nat.lt_of_lt_of_le (Heap.lt_size e) z) (Nat.lt_irrefl _)
  have cellK : ∀ x c, X.env.cells.lookup x = some c → ∀ v, s.heap.IsCell c v → h'.IsCell c v := fun x c e v ⟨o, ho, hd⟩ => by
    have nch : c ∉ ch := fun z => (hch c z).2.2.1 x c e rfl
    by_cases hc : c ∈ X.fs
    · obtain ⟨sl, q⟩ := slot c o (I.cne x c e) hc nch ho (I.freeC x c e)
      exact ⟨_, q, hd⟩
    · exact ⟨o, keep c o (I.cne x c e) hc nch ho (I.freeC x c e), hd⟩
  refine ⟨I.ok, I.os, hg, ⟨fun b o e n hb hx => ?_, fun b o e n hb hx => ?_, fun b o e n hx => ?_, fun b o e hx => ?_, fun b xs e => tups b xs (I.base.tups b xs e), fun b o xs e => frzs b o xs (I.base.frzs b o xs e), fun b ps e => ?_⟩, ?_, fun x c e => ?_, ?_, fun x c e => ?_, fun p hp => ?_, hok, I.len⟩
  · exact keep b o (neL b o e) hb (neC b o e hx) (I.base.keep b o e n hb hx) (I.base.free b o e n hx)
  · obtain ⟨sl, e1⟩ := I.base.slot b o e n hb hx
    obtain ⟨sl', e2⟩ := slot b _ (neL b o e) hb (neC b o e hx) e1 (I.base.free b o e n hx)
    exact ⟨sl', e2⟩
  · obtain ⟨o', e1⟩ := I.base.there b o e hx
    exact free b o' (neC b o e hx) e1 (I.base.free b o e n hx)
  · obtain ⟨o', e1⟩ := I.base.there b o e hx
    exact there b o' (neC b o e hx) e1
  · obtain ⟨m1, e1⟩ := I.base.tbls b ps e
    obtain ⟨m2, e2⟩ := tbls b _ e1
    exact ⟨m1 ++ m2, by rw [e2, Array.append_assoc]⟩
  · obtain ⟨m, hn, hl⟩ := I.loc
    refine ⟨m, ns m hn, fun i x v e1 e2 e3 => ?_⟩
    obtain ⟨u, r, l⟩ := hl i x v e1 e2 e3
    refine ⟨u, r, ?_⟩
    rcases l with l | ⟨k, c, e, z⟩
    · exact .inl l
    · exact .inr ⟨k, c, e, cellK x c e _ z⟩
  · obtain ⟨v, z⟩ := I.cell x c e
    exact ⟨v, cellK x c e v z⟩
  · obtain ⟨m, ⟨o, _, _, ho, _⟩, _⟩ := I.loc
    exact free _ o (fun z => (hch _ z).2.1 rfl) ho I.free
  · obtain ⟨v, o, ho, hd⟩ := I.cell x c e
    exact free c o (fun z => (hch c z).2.2.1 x c e rfl) ho (I.freeC x c e)
  · obtain ⟨e, n, ne, nf, d⟩ := I.pin p hp
    have nch : p.1 ∉ ch := fun z => (hch p.1 z).2.2.2 p hp rfl
    exact ⟨keep p.1 p.2 ne nf nch e n, free p.1 p.2 nch e n, ne, nf, d⟩
theorem Inv.un {t' : Nat} (I : Inv X pins σ H s) (u : Un X.fs [] H H' s.heap h') (hok : HOk X.prog X.w H' h') : Inv X pins σ H' { s with heap := h', toks := t' } := by
  obtain ⟨m, ⟨o, es, ep, ho, r⟩, _⟩ := id I.loc
  obtain ⟨sl, hL⟩ := u.any ho I.free (by simp)
  exact I.step (g' := s.gens) (d' := s.drawn) (ch := []) (fun _ z => nomatch z) (fun b o _ hb _ e n => u.keep b o e n hb (by simp)) (fun b o _ hb _ e n => u.slot b o e n hb (by simp)) (fun b o _ e n => u.free b o e n (by simp)) (fun b o _ e => u.there b o e (by simp)) u.tups u.frzs u.tbls (fun m' hm => by
    obtain ⟨o', es', ep', ho', r'⟩ := hm
    rw [ho] at ho'; cases ho'
    exact ⟨_, es', ep', hL, r'⟩) hok I.bare
theorem Inv.call {g' : Array GenState} {t' : Nat} {d' : Drawn} {ch : List Addr} (I : Inv X pins σ H s) (u : Un (frs X.stack) ch H H' s.heap h') (hok : HOk X.prog X.w H' h') (hg : AllBare g')
    (hch : ∀ b ∈ ch, (b ∈ X.ex ∨ X.s₀.heap.objs.size ≤ b) ∧ b ≠ X.env.locals ∧ (∀ x c, X.env.cells.lookup x = some c → c ≠ b) ∧ ∀ p ∈ X.pn ++ pins, p.1 ≠ b) :
    Inv X pins σ H' { s with heap := h', gens := g', drawn := d', toks := t' } := by
  obtain ⟨m, ⟨o, es, ep, ho, r⟩, _⟩ := id I.loc
  obtain ⟨sl, hL⟩ := u.any ho I.free fun z => (hch _ z).2.1 rfl
  exact I.step (ch := ch) hch (fun b o hL hb hc e n => u.keep b o e n (fun z => (List.mem_cons.mp (I.stkSub b z)).elim hL hb) hc) (fun b o _ _ hc e n => u.any e n hc) (fun b o hc e n => u.free b o e n hc) (fun b o hc e => u.there b o e hc) u.tups u.frzs u.tbls (fun m' hm => by
    obtain ⟨o', es', ep', ho', r'⟩ := hm
    rw [ho] at ho'; cases ho'
    exact ⟨_, es', ep', hL, r'⟩) hok hg
theorem Inv.turned {t' : Nat} {it : Addr} (I : Inv X pins σ H s) (k : ∀ b o, b ≠ it → s.heap.get? b = some o → h'.get? b = some o) (hn : H it = none) (hL : it ≠ X.env.locals)
    (h1 : it ∈ X.ex ∨ X.s₀.heap.objs.size ≤ it) (h2 : ∀ x c, X.env.cells.lookup x = some c → c ≠ it) (h3 : ∀ p ∈ X.pn ++ pins, p.1 ≠ it) : Inv X pins σ H { s with heap := h', toks := t' } := by
  have nit : ∀ b u, H b = some u → b ≠ it := fun b u e z => by rw [z, hn] at e; cases e
  refine I.step (g' := s.gens) (d' := s.drawn) (ch := [it]) (fun b hb => ?_) (fun b o _ _ hc e _ => k b o (fun z => hc (by simp [z])) e) (fun b o _ _ hc e _ => ⟨o.slots, k b o (fun z => hc (by simp [z])) e⟩) (fun _ _ _ _ n => n)
    (fun b o hc e => ⟨o, k b o (fun z => hc (by simp [z])) e⟩) (fun _ _ e => e) (fun _ _ _ e => e) (fun b ps e => ⟨#[], by rw [e]; simp⟩) (fun m hm => ?_) (fun b u e => ?_) I.bare
  · have e : b = it := by simpa using hb
    subst e
    exact ⟨h1, hL, h2, h3⟩
  · obtain ⟨o, es, ep, ho, r⟩ := hm
    exact ⟨o, es, ep, k _ o (Ne.symm hL) ho, r⟩
  · refine (I.hok b u e).stay (fun c v hc q => k c v ?_ q) (fun _ q => q) fun _ _ q => q
    rcases hc with z | z
    · rw [z]; exact nit b u e
    · exact nit c _ z
theorem Inv.tok (I : Inv X pins σ H s) (t : Nat) : Inv X pins σ H { s with toks := t } := I.un (h' := s.heap) (t' := t) Un.refl I.hok
theorem Inv.kept {t' : Nat} (I : Inv X pins σ H s) (k : ∀ b u, s.heap.get? b = some u → h'.get? b = some u) : Inv X pins σ H { s with heap := h', toks := t' } := I.un (Un.kept k) (I.hok.kept k)
theorem Inv.laid {a : Addr} {o : HO} {t' : Nat} (I : Inv X pins σ H s) (k : ∀ b u, s.heap.get? b = some u → h'.get? b = some u) (hp : s.heap.objs.size ≤ a) (new : ObjOk X.prog X.w (upd H a o) h' a o) :
    Inv X pins σ (upd H a o) { s with heap := h', toks := t' } := I.un (Un.laid k hp (I.hok.fresh hp)) (I.hok.laid k hp new)
theorem Inv.write {x e : Addr} {o : HO} {t' : Nat} (I : Inv X pins σ H s) (mu : Mut (H x)) (he : e = x ∨ H e = some (.own x)) (k : ∀ b u, b ≠ e → s.heap.get? b = some u → h'.get? b = some u) (heo : ∃ u, h'.get? e = some u)
    (new : ObjOk X.prog X.w (upd H x o) h' x o) : Inv X pins σ (upd H x o) { s with heap := h', toks := t' } := I.un (Un.write mu he k heo) (I.hok.write mu he k heo new)
theorem Inv.pins_of {pins' : List (Addr × Obj)} (I : Inv X pins σ H s) (h : ∀ p ∈ pins', s.heap.get? p.1 = some p.2 ∧ H p.1 = none ∧ p.1 ≠ X.env.locals ∧ p.1 ∉ X.fs ∧ ∀ v, p.2.data ≠ .cell v) : Inv X pins' σ H s :=
  ⟨I.ok, I.os, I.bare, I.base, I.loc, I.cell, I.free, I.freeC, fun p hp => (List.mem_append.mp hp).elim (fun z => I.pin p (List.mem_append_left _ z)) (h p), I.hok, I.len⟩
theorem nodup_ix {N : List Str} (hN : N.Nodup) {i j : Nat} {x : Str} (a : N[i]? = some x) (b : N[j]? = some x) : i = j := by
  obtain ⟨h1, e1⟩ := List.getElem?_eq_some_iff.mp a
  obtain ⟨h2, e2⟩ := List.getElem?_eq_some_iff.mp b
  exact (List.getElem_inj hN).mp (e1.trans e2.symm)
theorem store_ok2 {M : Model} {A : Around} {E : Value → Shared → Prop} {i : Nat} {x : Str} {v : V} {u : Value} {Q : Unit → Shared → Prop} (I : Inv X pins σ H s) (hN : X.N.Nodup) (hi : X.N[i]? = some x) (hx : Loc X.env.scope x) (r : RelV v u)
    (h : ∀ s', Inv X pins (σ.set i (some v)) H s' → (∃ a, Heap.SameBut a s.heap s'.heap ∧ (a = X.env.locals ∨ X.env.cells.lookup x = some a)) → Q () s') (hf : X.fn x = true ∨ X.env.scope.names.lookup x = some .local := by first | exact .inl rfl | exact .inr rfl | assumption) : wpAny M A (storeName X.env x u) Q E s := by
  obtain ⟨m, hn, hl⟩ := id I.loc
  have hcls : (X.env.scope.kind == .class || (X.env.scope.kind == .module && X.env.locals != X.env.globals)) = false := by rw [I.ok.kind]; rfl
  have hiσ : i < σ.length := by rw [I.len]; exact (List.getElem?_eq_some_iff.mp hi).1
  have cne := I.cne
  have tracked : ∀ {a : Addr} {h' : Heap}, (∃ o, s.heap.get? a = some o ∧ H a = none) → Heap.SameBut a s.heap h' → HOk X.prog X.w H h' := fun {a h'} ha hs b ob e => by
    obtain ⟨_, _, hfree⟩ := ha
    refine (I.hok b ob e).stay (fun c w' hc q => (hs.2 c ?_).trans q) (fun _ q => q) fun _ _ q => q
    rintro rfl
    rcases hc with rfl | hc
    · rw [hfree] at e; cases e
    · rw [hfree] at hc; cases hc
  rcases hx with hk | hk
  · refine wpAny_storeName_local hk hn (fun h' hn' hs => ?_) hcls
    obtain ⟨oL, _, _, hoL, _⟩ := id hn
    refine h _ ⟨I.ok, I.os, I.bare, ⟨fun b o e n hb hx => ?_, fun b o e n hb hx => ?_, I.base.free, fun b o e hx => ?_, I.base.tups, I.base.frzs, I.base.tbls⟩, ⟨_, hn', fun j y v' e1 e2 e3 => ?_⟩, fun y c e => ?_, I.free, I.freeC, fun p hp => ?_, tracked ⟨oL, hoL, I.free⟩ hs, by simpa using I.len⟩ ⟨_, hs, .inl rfl⟩
    · exact (hs.2 b (Nat.ne_of_lt (Nat.lt_of_lt_of_le (Heap.lt_size e) I.ok.above))).trans (I.base.keep b o e n hb hx)
    · obtain ⟨sl, e1⟩ := I.base.slot b o e n hb hx
      exact ⟨sl, (hs.2 b (Nat.ne_of_lt (Nat.lt_of_lt_of_le (Heap.lt_size e) I.ok.above))).trans e1⟩
    · obtain ⟨o', e1⟩ := I.base.there b o e hx
      exact ⟨o', (hs.2 b (Nat.ne_of_lt (Nat.lt_of_lt_of_le (Heap.lt_size e) I.ok.above))).trans e1⟩
    · by_cases hj : j = i
      · subst hj
        rw [hi] at e1; cases e1
        rw [List.getElem?_set_self hiσ] at e2
        cases e2
        exact ⟨u, r, .inl ⟨hk, by simp⟩⟩
      · rw [List.getElem?_set_ne (Ne.symm hj)] at e2
        obtain ⟨u', r', q⟩ := hl j y v' e1 e2 e3
        refine ⟨u', r', ?_⟩
        rcases q with ⟨k, e⟩ | ⟨k, c, e, z⟩
        · refine .inl ⟨k, ?_⟩
          have : y ≠ x := fun e => hj (nodup_ix hN e1 (e ▸ hi))
          simp [this, e]
        · exact .inr ⟨k, c, e, z.sameBut hs (cne y c e)⟩
    · obtain ⟨w', z⟩ := I.cell y c e
      exact ⟨w', z.sameBut hs (cne y c e)⟩
    · obtain ⟨e, n, ne, nf, d⟩ := I.pin p hp
      exact ⟨(hs.2 p.1 ne).trans e, n, ne, nf, d⟩
  · have hfn : X.fn x = true := by
      rcases hf with z | z
      · exact z
      · rw [z] at hk; cases hk
    obtain ⟨c, hc⟩ := I.ok.has x (.inl hk)
    obtain ⟨w', z⟩ := I.cell x c hc
    refine wpAny_storeName_cell I.ok.kind hk hc z (fun h' hc' hs => ?_)
    obtain ⟨oc, hoc, hocd⟩ := id z
    refine h { s with heap := h' } ⟨I.ok, I.os, I.bare, ⟨fun b o e n hb hx => ?_, fun b o e n hb hx => ?_, I.base.free, fun b o e hx => ?_, I.base.tups, I.base.frzs, I.base.tbls⟩, ⟨m, hn.sameBut hs (Ne.symm (cne x c hc)), fun j y v' e1 e2 e3 => ?_⟩, fun y c' e => ?_, I.free, I.freeC, fun p hp => ?_, tracked ⟨oc, hoc, I.freeC x c hc⟩ hs, by simpa using I.len⟩ ⟨c, hs, .inr hc⟩
    · exact (hs.2 b (Nat.ne_of_lt (Nat.lt_of_lt_of_le (Heap.lt_size e) (I.ok.cab x c hfn hc)))).trans (I.base.keep b o e n hb hx)
    · obtain ⟨sl, e1⟩ := I.base.slot b o e n hb hx
      exact ⟨sl, (hs.2 b (Nat.ne_of_lt (Nat.lt_of_lt_of_le (Heap.lt_size e) (I.ok.cab x c hfn hc)))).trans e1⟩
    · obtain ⟨o', e1⟩ := I.base.there b o e hx
      exact ⟨o', (hs.2 b (Nat.ne_of_lt (Nat.lt_of_lt_of_le (Heap.lt_size e) (I.ok.cab x c hfn hc)))).trans e1⟩
    · by_cases hj : j = i
      · subst hj
        rw [hi] at e1; cases e1
        rw [List.getElem?_set_self hiσ] at e2
        cases e2
        exact ⟨u, r, .inr ⟨.inl hk, c, hc, hc'⟩⟩
      · rw [List.getElem?_set_ne (Ne.symm hj)] at e2
        obtain ⟨u', r', q⟩ := hl j y v' e1 e2 e3
        refine ⟨u', r', ?_⟩
        rcases q with q | ⟨k, c', e, z'⟩
        · exact .inl q
        · refine .inr ⟨k, c', e, z'.sameBut hs ?_⟩
          rintro rfl
          exact hj (nodup_ix hN e1 (I.ok.inj _ _ _ e hc ▸ hi))
    · by_cases hcc : c' = c
      · subst hcc; exact ⟨_, hc'⟩
      · obtain ⟨w2, z2⟩ := I.cell y c' e
        exact ⟨w2, z2.sameBut hs hcc⟩
    · obtain ⟨e, n, ne, nf, d⟩ := I.pin p hp
      refine ⟨(hs.2 p.1 ?_).trans e, n, ne, nf, d⟩
      intro q
      rw [q, hoc] at e
      have q' : oc = p.2 := Option.some.inj e
      exact d w' (by rw [← q']; exact hocd)
theorem store_ok {M : Model} {A : Around} {E : Value → Shared → Prop} {i : Nat} {x : Str} {v : V} {u : Value} {Q : Unit → Shared → Prop} (I : Inv X pins σ H s) (hN : X.N.Nodup) (hi : X.N[i]? = some x) (hx : Loc X.env.scope x) (r : RelV v u)
    (h : ∀ s', Inv X pins (σ.set i (some v)) H s' → Q () s') (hf : X.fn x = true ∨ X.env.scope.names.lookup x = some .local := by first | exact .inl rfl | exact .inr rfl | assumption) : wpAny M A (storeName X.env x u) Q E s :=
  store_ok2 I hN hi hx r (fun s' I' _ => h s' I') hf
theorem Inv.call' {s' : Shared} {ch : List Addr} (I : Inv X pins σ H s) (ho : s'.os = s.os) (u : Un (frs X.stack) ch H H' s.heap s'.heap) (hok : HOk X.prog X.w H' s'.heap) (hg : AllBare s'.gens)
    (hch : ∀ b ∈ ch, (b ∈ X.ex ∨ X.s₀.heap.objs.size ≤ b) ∧ b ≠ X.env.locals ∧ (∀ x c, X.env.cells.lookup x = some c → c ≠ b) ∧ ∀ p ∈ X.pn ++ pins, p.1 ≠ b) : Inv X pins σ H' s' := by
  obtain ⟨h', g', d', t', o'⟩ := s'
  have e : o' = s.os := ho
  subst e
  exact I.call (g' := g') (t' := t') (d' := d') u hok hg hch
end
abbrev XK := Value → Option Addr → Hp → Prop
abbrev St := List (Option V)
abbrev VK := V → Hp → Prop
abbrev TE := St → Hp → VK → Prop
abbrev TT := St → Hp → (Bool → Hp → Prop) → Prop
abbrev TA := St → Hp → (List V → Hp → Prop) → Prop
structure Ends where
  nx : St → Hp → Prop
  rt : VK
  bk : St → Hp → Prop := fun _ _ => False
  ct : St → Hp → Prop := fun _ _ => False
abbrev TS := Ends → St → Hp → Prop
def EP (X : Cx) (pins : List (Addr × Obj)) (σ : St) (Q : VK) (u : Value) (s' : Shared) : Prop := ∃ v H', Inv X pins σ H' s' ∧ RelV v u ∧ Q v H'
def TP (X : Cx) (pins : List (Addr × Obj)) (σ : St) (Q : Bool → Hp → Prop) (b : Bool) (s' : Shared) : Prop := ∃ H', Inv X pins σ H' s' ∧ Q b H'
def AP (X : Cx) (pins : List (Addr × Obj)) (σ : St) (Q : List V → Hp → Prop) (us : List Value) (s' : Shared) : Prop := ∃ vs H', Inv X pins σ H' s' ∧ Vals vs us ∧ Q vs H'
def SP (X : Cx) (pins : List (Addr × Obj)) (D : Ends) (f : Flow) (s' : Shared) : Prop :=
  match f with
  | .next => ∃ σ' H', Inv X pins σ' H' s' ∧ D.nx σ' H'
  | .brk => ∃ σ' H', Inv X pins σ' H' s' ∧ D.bk σ' H'
  | .cont => ∃ σ' H', Inv X pins σ' H' s' ∧ D.ct σ' H'
  | .ret u => ∃ v σ' H', Inv X pins σ' H' s' ∧ RelV v u ∧ D.rt v H'
def PE (X : Cx) (e : Expr) (t : TE) : Prop :=
  ∀ (pins : List (Addr × Obj)) (s : Shared) (σ : St) (H : Hp) (Q : VK), Inv X pins σ H s → t σ H Q → wpAny (model X.prog X.w) X.A (eval e X.env) (EP X pins σ Q) X.xe s
def PT (X : Cx) (e : Expr) (t : TT) : Prop :=
  ∀ (pins : List (Addr × Obj)) (s : Shared) (σ : St) (H : Hp) (Q : Bool → Hp → Prop), Inv X pins σ H s → t σ H Q → wpAny (model X.prog X.w) X.A (isTrue e X.env (eval e X.env)) (TP X pins σ Q) X.xe s
def PW (X : Cx) (e : Expr) (t : TT) : Prop :=
  ∀ (whole : Sem Value) (pins : List (Addr × Obj)) (s : Shared) (σ : St) (H : Hp) (Q : Bool → Hp → Prop), Inv X pins σ H s → t σ H Q → wpAny (model X.prog X.w) X.A (isTrue e X.env whole) (TP X pins σ Q) X.xe s
theorem PW.pt {X : Cx} {e : Expr} {t : TT} (h : PW X e t) : PT X e t := h _
def PA (X : Cx) (es : List Expr) (t : TA) : Prop :=
  ∀ (pos : Pos) (pins : List (Addr × Obj)) (s : Shared) (σ : St) (H : Hp) (Q : List V → Hp → Prop), Inv X pins σ H s → t σ H Q → wpAny (model X.prog X.w) X.A (spliced (backTo pos (starEach es X.env))) (AP X pins σ Q) X.xe s
def PS (X : Cx) (st : Stmt) (t : TS) : Prop :=
  ∀ (pins : List (Addr × Obj)) (s : Shared) (σ : St) (H : Hp) (D : Ends), Inv X pins σ H s → t D σ H → wpAny (model X.prog X.w) X.A (exec st X.env) (SP X pins D) X.xe s
def PSs (X : Cx) (st : List Stmt) (t : TS) : Prop :=
  ∀ (pins : List (Addr × Obj)) (s : Shared) (σ : St) (H : Hp) (D : Ends), Inv X pins σ H s → t D σ H → wpAny (model X.prog X.w) X.A (execs st X.env) (SP X pins D) X.xe s
theorem thn {α : Type} {t : Sem α} {Q Q' : α → Shared → Prop} {M : Model} {A : Around} {E : Value → Shared → Prop} {s : Shared} (h : wpAny M A t Q E s) (hQ : ∀ a s, Q a s → Q' a s) : wpAny M A t Q' E s := wpAny_mono h hQ fun _ _ x => x
end L2
namespace L2
open PySem PySem.Spec PyProof.Rows
section
variable {X : Cx}
def vB : Option (Option V) → (V → Prop) → Prop
  | some (some v), k => k v
  | _, _ => False
theorem vB_ex {o : Option (Option V)} {k : V → Prop} (h : vB o k) : ∃ v, o = some (some v) ∧ k v := by
  rcases o with _ | _ | v
  · cases h
  · cases h
  · exact ⟨v, rfl, h⟩
def tVar (i : Nat) : TE := fun σ H Q => vB σ[i]? fun v => Q v H
def tC (v : V) : TE := fun _ H Q => Q v H
theorem pe_var {i : Nat} {x : Str} {pos : Pos} (hN : X.N[i]? = some x) (hv : Vis X.env.scope x) (hd : (x == ("__debug__" : Str)) = false := by decide) (hcd : (x == ("__classdict__" : Str)) = false := by decide) : PE X (.Name x pos) (tVar i) := by
  intro pins s σ H Q I h
  obtain ⟨v, e, h⟩ := vB_ex h
  obtain ⟨m, hn, hl⟩ := I.loc
  obtain ⟨u, r, l⟩ := hl i x v hN e hv
  have fin : EP X pins σ Q u s := ⟨v, H, I, r, h⟩
  rcases l with ⟨hk, hm⟩ | ⟨hk, c, hc, hcell⟩
  · exact wpAny_Name (wpAny_loadName_local I.ok.kind hk hn hm fin) hd
  · rcases hk with hk | hk
    · exact wpAny_Name (wpAny_loadName_cell I.ok.kind hk hc hcell fin) hd
    · exact wpAny_Name (wpAny_loadName_free I.ok.kind hk hc hcell fin hcd) hd
theorem pe_int {i j pos} : PE X (.Constant (.int i) j pos) (tC (.int i)) := fun _ _ _ H _ I h => wpAny_Constant_int ⟨.int i, H, I.tok _, ⟨_, rfl⟩, h⟩
theorem pe_bl {b j pos} : PE X (.Constant (.bool b) j pos) (tC (.bl b)) := fun _ _ _ H _ I h => Constant_bool ⟨.bl b, H, I, rfl, h⟩
theorem pe_non {j pos} : PE X (.Constant .none j pos) (tC .non) := fun _ _ _ H _ I h => Constant_none ⟨.non, H, I, rfl, h⟩
theorem pe_str {x j pos} : PE X (.Constant (.str x) j pos) (tC (.str x)) := fun _ _ _ H _ I h => Calls.Constant_str ⟨.str x, H, I.tok _, ⟨_, rfl⟩, h⟩
def Gl (X : Cx) (x : Str) : Prop := X.env.kindOf x = some .globalImplicit
theorem ld_glob {E : Value → Shared → Prop} {pins : List (Addr × Obj)} {s : Shared} {σ : St} {H : Hp} {x : Str} {u : Value} {pos : Pos} {Q : Value → Shared → Prop} (I : Inv X pins σ H s) (hg : Gl X x) (hm : X.mg x = some u) (h : Q u s)
    (hd : (x == ("__debug__" : Str)) = false := by decide) : wpAny (model X.prog X.w) X.A (eval (.Name x pos) X.env) Q E s :=
  Calls.Name_function_global I.ok.kind hg (Calls.loadGlobal_global (by rw [I.ok.glob]; exact I.mod.glob.keeps I.bk) hm h) hd
theorem ld_blt {E : Value → Shared → Prop} {pins : List (Addr × Obj)} {s : Shared} {σ : St} {H : Hp} {x : Str} {u : Value} {pos : Pos} {Q : Value → Shared → Prop} (I : Inv X pins σ H s) (hg : Gl X x) (hm : X.mg x = none) (hv : bootBuiltins x = some u) (h : Q u s)
    (hn : x ≠ "__name__" := by decide) (hd : (x == ("__debug__" : Str)) = false := by decide) : wpAny (model X.prog X.w) X.A (eval (.Name x pos) X.env) Q E s := by
  obtain ⟨mb, h1, h2⟩ := I.mod.blt
  exact Calls.Name_function_global I.ok.kind hg (Calls.loadGlobal_builtin (by rw [I.ok.glob]; exact I.mod.glob.keeps I.bk) hm (by rw [I.ok.blt]; exact h1.keeps I.bk) ((h2 x hn).trans hv) h) hd
theorem pe_glob {x : Str} {v : V} {u : Value} {pos : Pos} (hg : Gl X x) (hm : X.mg x = some u) (r : RelV v u) (hd : (x == ("__debug__" : Str)) = false := by decide) : PE X (.Name x pos) (tC v) :=
  fun _ _ _ H _ I h => ld_glob I hg hm ⟨v, H, I, r, h⟩ hd
theorem pe_bltn {x : Str} {v : V} {u : Value} {pos : Pos} (hg : Gl X x) (hm : X.mg x = none) (hv : bootBuiltins x = some u) (r : RelV v u) (hn : x ≠ "__name__" := by decide) (hd : (x == ("__debug__" : Str)) = false := by decide) : PE X (.Name x pos) (tC v) :=
  fun _ _ _ H _ I h => ld_blt I hg hm hv ⟨v, H, I, r, h⟩ hn hd
variable {a b : Expr} {ta tb : TE} {pos : Pos}
def tB (t : TE) : TT := fun σ H Q => t σ H fun x H1 => ∃ c, x = .bl c ∧ Q c H1
theorem pt_val {e : Expr} {t : TE} (h : PE X e t) (he : ∀ whole, isTrue e X.env whole = (do let v ← whole; standAt e.pos; holding [v] (truthy v)) := by intro _; rfl) : PT X e (tB t) := by
  intro pins s σ H Q I hw
  refine isTrue_plain (thn (h pins s σ H _ I hw) fun v s1 ⟨x, H1, I1, r1, q1⟩ => ?_) (he _)
  obtain ⟨d, rfl, q⟩ := q1
  cases r1
  exact wpAny_truthy_bool ⟨H1, I1, q⟩
variable {tA tB' : TT} {rest : List Expr}
def tAnd (t u : TT) : TT := fun σ H Q => t σ H fun c H1 => if c = true then u σ H1 Q else Q false H1
def tOr (t u : TT) : TT := fun σ H Q => t σ H fun c H1 => if c = true then Q true H1 else u σ H1 Q
def tNot (t : TT) : TT := fun σ H Q => t σ H fun c H1 => Q (!c) H1
theorem pw_and1 (ha : PT X a tA) : PW X (.BoolOp .And [a] pos) tA := by
  intro wh pins s σ H Q I h
  refine isTrue_and (thn (ha pins s σ H Q I h) fun c s1 e => ?_)
  cases c with
  | true => exact isTrue_and_nil e
  | false => exact e
theorem pw_or1 (ha : PT X a tA) : PW X (.BoolOp .Or [a] pos) tA := by
  intro wh pins s σ H Q I h
  refine isTrue_or (thn (ha pins s σ H Q I h) fun c s1 e => ?_)
  cases c with
  | false => exact isTrue_or_nil e
  | true => exact e
theorem pw_and (ha : PT X a tA) (hb : PW X (.BoolOp .And (b :: rest) pos) tB') : PW X (.BoolOp .And (a :: b :: rest) pos) (tAnd tA tB') := by
  intro wh pins s σ H Q I h
  refine isTrue_and (thn (ha pins s σ H _ I h) fun c s1 ⟨H1, I1, q1⟩ => ?_)
  cases c with
  | true => exact hb wh pins s1 σ H1 Q I1 q1
  | false => exact ⟨H1, I1, q1⟩
theorem pw_or (ha : PT X a tA) (hb : PW X (.BoolOp .Or (b :: rest) pos) tB') : PW X (.BoolOp .Or (a :: b :: rest) pos) (tOr tA tB') := by
  intro wh pins s σ H Q I h
  refine isTrue_or (thn (ha pins s σ H _ I h) fun c s1 ⟨H1, I1, q1⟩ => ?_)
  cases c with
  | true => exact ⟨H1, I1, q1⟩
  | false => exact hb wh pins s1 σ H1 Q I1 q1
theorem pt_not (ha : PT X a tA) : PT X (.UnaryOp .Not a pos) (tNot tA) := by
  intro pins s σ H Q I h
  exact isTrue_not (ha pins s σ H (fun c H1 => Q (!c) H1) I h)
def tAndV (ta tb : TE) : TE := fun σ H Q => ta σ H fun x H1 => ∃ c, x = .bl c ∧ if c = true then tb σ H1 Q else Q (.bl false) H1
def tOrV (ta tb : TE) : TE := fun σ H Q => ta σ H fun x H1 => ∃ c, x = .bl c ∧ if c = true then Q (.bl true) H1 else tb σ H1 Q
def tNotV (ta : TE) : TE := fun σ H Q => ta σ H fun x H1 => ∃ c, x = .bl c ∧ Q (.bl (!c)) H1
theorem pe_one {op} {t : TE} (h : PE X a t) : PE X (.BoolOp op [a] pos) t := fun pins s σ H Q I hw => BoolOp_one (h pins s σ H Q I hw)
theorem pe_and (ha : PE X a ta) (hb : PE X (.BoolOp .And (b :: rest) pos) tb) : PE X (.BoolOp .And (a :: b :: rest) pos) (tAndV ta tb) := by
  intro pins s σ H Q I h
  refine BoolOp_and (thn (ha pins s σ H _ I h) fun v s1 ⟨x, H1, I1, r1, q1⟩ => ?_)
  obtain ⟨c, rfl, q1⟩ := q1
  cases r1
  refine wpAny_truthy_bool ?_
  cases c with
  | true => exact hb pins s1 σ H1 Q I1 q1
  | false => exact ⟨.bl false, H1, I1, rfl, q1⟩
theorem pe_not (ha : PE X a ta) : PE X (.UnaryOp .Not a pos) (tNotV ta) := by
  intro pins s σ H Q I h
  refine UnaryOp_ (thn (ha pins s σ H _ I h) fun v s1 ⟨x, H1, I1, r1, q1⟩ => ?_)
  obtain ⟨c, rfl, q1⟩ := q1
  cases r1
  exact not_of (wpAny_truthy_bool ⟨.bl (!c), H1, I1, rfl, q1⟩)
def tIf (t : TT) (ta tb : TE) : TE := fun σ H Q => t σ H fun c H1 => if c = true then ta σ H1 Q else tb σ H1 Q
end
end L2
namespace L2
open PySem PySem.Spec PyProof.Rows
def SqL (K : PySem.W.Frag) (H : Hp) (a : Addr) (xs : List V) : Prop :=
  Rd H a (.lst xs) ∨
    ∃ (o : Obj) (its : Array Value) (n : Nat), K.lookup a = some o ∧ o.cls = .type "list" ∧ o.dict = none ∧ o.data = .seq its n ∧ its.size ≤ sizeLine ∧ Vals xs its.toList
def SqT (K : PySem.W.Frag) (H : Hp) (a : Addr) (xs : List V) : Prop :=
  Rd H a (.tup xs) ∨
    ∃ (o : Obj) (its : Array Value) (n : Nat), K.lookup a = some o ∧ o.cls = .type "tuple" ∧ o.data = .seq its n ∧ its.size ≤ sizeLine ∧ Vals xs its.toList
def absV : Value → Option V
  | .none => some .non
  | .bool b => some (.bl b)
  | .int i _ => some (.int i)
  | .str x _ => some (.str x)
  | .bytes b _ => some (.byt b)
  | .float b _ => some (.flt b)
  | .ref a => some (.ref a)
  | .type n => some (.ty n)
  | _ => none
theorem RelV.abs {x : V} {u : Value} (r : RelV x u) : absV u = some x := by
  cases x with
  | non => cases r; rfl
  | bl _ => cases r; rfl
  | int _ => obtain ⟨t, rfl⟩ := r; rfl
  | str _ => obtain ⟨t, rfl⟩ := r; rfl
  | byt _ => obtain ⟨t, rfl⟩ := r; rfl
  | flt _ => obtain ⟨t, rfl⟩ := r; rfl
  | ref _ => cases r; rfl
  | ty _ => cases r; rfl
theorem RelV.inj {x y : V} {u : Value} (r : RelV x u) (q : RelV y u) : x = y := Option.some.inj (r.abs.symm.trans q.abs)
theorem Vals.inj : ∀ {xs ys : List V} {us : List Value}, Vals xs us → Vals ys us → xs = ys
  | _, _, _, .nil, .nil => rfl
  | _, _, _, .cons r t, .cons r' t' => by rw [r.inj r', Vals.inj t t']
section
variable {X : Cx} {pins : List (Addr × Obj)} {σ : St} {H : Hp} {s : Shared} {a : Addr} {xs ys : List V}
theorem SqL.of {K : PySem.W.Frag} (h : H a = some (.lst xs)) : SqL K H a xs := .inl (.inl h)
theorem SqT.of {K : PySem.W.Frag} (h : H a = some (.tup xs)) : SqT K H a xs := .inl (.inl h)
theorem Inv.list (I : Inv X pins σ H s) (h : SqL X.K H a xs) : ∃ its : List Value, Vals xs its ∧ PlainL s.heap a its.toArray ∧ xs.length ≤ sizeLine := by
  rcases h with h | ⟨o, its, n, hk, hc, hd, hs, hz, r⟩
  · obtain ⟨z, its, n, r, e⟩ := h.ok I.hok
    exact ⟨its, r, ⟨_, n, e, rfl, rfl, rfl⟩, z⟩
  · refine ⟨its.toList, r, ⟨o, n, I.kIn a o hk, hc, hd, by simpa using hs⟩, ?_⟩
    have e := r.length
    simp only [Array.length_toList] at e
    omega
theorem Inv.tuple (I : Inv X pins σ H s) (h : SqT X.K H a xs) : ∃ its : List Value, Vals xs its ∧ IsTup s.heap a its.toArray ∧ xs.length ≤ sizeLine := by
  rcases h with h | ⟨o, its, n, hk, hc, hs, hz, r⟩
  · obtain ⟨z, its, r, p⟩ := h.ok I.hok
    exact ⟨its, r, p, z⟩
  · refine ⟨its.toList, r, ⟨o, I.kIn a o hk, hc, n, by simpa using hs⟩, ?_⟩
    have e := r.length
    simp only [Array.length_toList] at e
    omega
theorem Inv.list_inj (I : Inv X pins σ H s) (h : SqL X.K H a xs) (h' : SqL X.K H a ys) : xs = ys := by
  obtain ⟨its, r, ⟨o, n, e, _, _, d⟩, _⟩ := I.list h
  obtain ⟨its', r', ⟨o', n', e', _, _, d'⟩, _⟩ := I.list h'
  rw [e] at e'; cases e'
  rw [d] at d'
  injection d' with d1 _
  have : its = its' := by simpa using congrArg Array.toList d1
  subst this
  exact r.inj r'
theorem Inv.tuple_inj (I : Inv X pins σ H s) (h : SqT X.K H a xs) (h' : SqT X.K H a ys) : xs = ys := by
  obtain ⟨its, r, ⟨o, e, _, n, d⟩, _⟩ := I.tuple h
  obtain ⟨its', r', ⟨o', e', _, n', d'⟩, _⟩ := I.tuple h'
  rw [e] at e'; cases e'
  rw [d] at d'
  injection d' with d1 _
  have : its = its' := by simpa using congrArg Array.toList d1
  subst this
  exact r.inj r'
end
abbrev Cx.wish (X : Cx) (E : Value → Shared → Prop) : Cx := { X with xe := E }
abbrev Cx.nox (X : Cx) : Cx := X.wish fun _ _ => False
theorem Cx.Ok.wish {X : Cx} (ok : X.Ok) (E : Value → Shared → Prop) : (X.wish E).Ok :=
  ⟨ok.mod, ok.kind, ok.glob, ok.blt, ok.above, ok.inj, ok.has, ok.cab, ok.hd, ok.frames, ok.stk, ok.exf, ok.bs, ok.bsz, ok.noex, ok.exfs, ok.funs, ok.frf⟩
theorem Cx.Ok.unwish {X : Cx} {E : Value → Shared → Prop} (ok : (X.wish E).Ok) : X.Ok :=
  ⟨ok.mod, ok.kind, ok.glob, ok.blt, ok.above, ok.inj, ok.has, ok.cab, ok.hd, ok.frames, ok.stk, ok.exf, ok.bs, ok.bsz, ok.noex, ok.exfs, ok.funs, ok.frf⟩
section
variable {X : Cx} {pins : List (Addr × Obj)} {σ : St} {H : Hp} {s : Shared} {E : Value → Shared → Prop}
theorem Inv.wish (I : Inv X pins σ H s) (E : Value → Shared → Prop) : Inv (X.wish E) pins σ H s := ⟨I.ok.wish E, I.os, I.bare, I.base, I.loc, I.cell, I.free, I.freeC, I.pin, I.hok, I.len⟩
theorem Inv.unwish (I : Inv (X.wish E) pins σ H s) : Inv X pins σ H s := ⟨I.ok.unwish, I.os, I.bare, I.base, I.loc, I.cell, I.free, I.freeC, I.pin, I.hok, I.len⟩
theorem SP.unwish {D : Ends} {f : Flow} {s' : Shared} (h : SP (X.wish E) pins D f s') : SP X pins D f s' := by
  cases f with
  | next => obtain ⟨σ', H', I, q⟩ := h; exact ⟨σ', H', I.unwish, q⟩
  | brk => obtain ⟨σ', H', I, q⟩ := h; exact ⟨σ', H', I.unwish, q⟩
  | cont => obtain ⟨σ', H', I, q⟩ := h; exact ⟨σ', H', I.unwish, q⟩
  | ret u => obtain ⟨v, σ', H', I, r, q⟩ := h; exact ⟨v, σ', H', I.unwish, r, q⟩
theorem PSs.nox {st : List Stmt} {t : TS} (h : PSs X.nox st t) : PSs X st t := fun pins s σ H D I hw =>
  wpAny_mono (h pins s σ H D (I.wish _) hw) (fun _ _ q => q.unwish) fun _ _ z => False.elim z
end
section
variable {X : Cx} {st : Stmt} {rest : List Stmt} {t u : TS} {e : Expr} {te : TE} {pos : Pos}
def tNext : TS := fun D σ H => D.nx σ H
def tSeq (t u : TS) : TS := fun D σ H => t { D with nx := u D } σ H
theorem pss_nil : PSs X [] tNext := fun _ _ σ H _ I h => wpAny_execs_nil ⟨σ, H, I, h⟩
theorem pss_cons (h1 : PS X st t) (h2 : PSs X rest u) : PSs X (st :: rest) (tSeq t u) := by
  intro pins s σ H D I h
  refine wpAny_execs_cons (thn (h1 pins s σ H { D with nx := u D } I h) fun f s1 q => ?_)
  cases f with
  | next =>
    obtain ⟨σ', H', I', q⟩ := q
    exact h2 pins s1 σ' H' D I' q
  | ret v => exact q
  | brk => exact q
  | cont => exact q
theorem pss_one (h1 : PS X st t) : PSs X [st] t := by
  intro pins s σ H D I h
  refine wpAny_execs_cons (thn (h1 pins s σ H D I h) fun f s1 q => ?_)
  cases f with
  | next => exact wpAny_execs_nil q
  | ret v => exact q
  | brk => exact q
  | cont => exact q
theorem Inv.quiet {pins : List (Addr × Obj)} {σ : St} {H : Hp} {s : Shared} (I : Inv X pins σ H s) : interactive X.env = false := by simp [interactive, I.ok.kind]
def tDrop (te : TE) : TS := fun D σ H => te σ H fun _ H1 => D.nx σ H1
theorem ps_expr (he : PE X e te) (hs : swapsWith e none pos.line X.env = pure false := by rfl) : PS X (.Expr e pos) (tDrop te) := by
  intro pins s σ H D I h
  exact wpAny_Expr_any (thn (he pins s σ H _ I h) fun v s1 ⟨x, H1, I1, r1, q1⟩ => ⟨σ, H1, I1, q1⟩) I.quiet hs
def tRet (te : TE) : TS := fun D σ H => te σ H D.rt
theorem ps_ret (he : PE X e te) : PS X (.Return (some e) pos) (tRet te) := by
  intro pins s σ H D I h
  exact wpAny_Return_some (thn (he pins s σ H _ I h) fun v s1 ⟨x, H1, I1, r1, q1⟩ => ⟨x, σ, H1, I1, r1, q1⟩)
def tRetN : TS := fun D _ H => D.rt .non H
def tIfS (c : TT) (t u : TS) : TS := fun D σ H => c σ H fun b H1 => if b = true then t D σ H1 else u D σ H1
theorem ps_if {c : Expr} {a b : List Stmt} {tc : TT} (hc : PT X c tc) (ha : PSs X a t) (hb : PSs X b u) : PS X (.If c a b pos) (tIfS tc t u) := by
  intro pins s σ H D I h
  refine wpAny_If (thn (hc pins s σ H _ I h) fun d s1 ⟨H1, I1, q1⟩ => ?_)
  cases d with
  | true => exact ha pins s1 σ H1 D I1 q1
  | false => exact hb pins s1 σ H1 D I1 q1
end
abbrev TG := V → St → Hp → (St → Hp → Prop) → Prop
def PG (X : Cx) (target : Expr) (t : TG) : Prop :=
  ∀ (pins : List (Addr × Obj)) (s : Shared) (σ : St) (H : Hp) (v : V) (u : Value) (Q : St → Hp → Prop), Inv X pins σ H s → RelV v u → t v σ H Q →
    wpAny (model X.prog X.w) X.A (assign target X.env u) (fun _ s' => ∃ σ' H', Inv X pins σ' H' s' ∧ Q σ' H') X.xe s
abbrev TSet := V → V → V → Hp → (Hp → Prop) → Prop
def PSet (X : Cx) (t : TSet) : Prop :=
  ∀ (pins : List (Addr × Obj)) (s : Shared) (σ : St) (H : Hp) (o i v : V) (ov iv u : Value) (Q : Hp → Prop), Inv X pins σ H s → RelV o ov → RelV i iv → RelV v u → t o i v H Q →
    wpAny (model X.prog X.w) X.A (setItem ov iv u) (fun _ s' => ∃ H', Inv X pins σ H' s' ∧ Q H') X.xe s
section
variable {X : Cx} {pos : Pos}
def gName (i : Nat) : TG := fun v σ H Q => Q (σ.set i (some v)) H
theorem pg_name {i : Nat} {x : Str} (hN : X.N.Nodup) (hi : X.N[i]? = some x) (hx : Loc X.env.scope x) (hf : X.fn x = true ∨ X.env.scope.names.lookup x = some .local := by first | exact .inl rfl | exact .inr rfl | assumption) : PG X (.Name x pos) (gName i) := by
  intro pins s σ H v u Q I r h
  exact wpAny_assign_Name (store_ok I hN hi hx r (fun s' I' => ⟨_, H, I', h⟩) hf)
def gSub (to ti : TE) (t : TSet) : TG := fun v σ H Q => to σ H fun o H1 => ti σ H1 fun i H2 => t o i v H2 fun H3 => Q σ H3
theorem pg_sub {o i : Expr} {to ti : TE} {t : TSet} (ho : PE X o to) (hi : PE X i ti) (hs : PSet X t)
    (ha : ∀ v, assign (.Subscript o i pos) X.env v = (do
      let ov ← holding [v] (eval o X.env)
      let iv ← holding [v, ov] (eval i X.env)
      standAt pos
      holding [v, ov, iv] (setItem ov iv v)
      release [v, ov, iv] []) := by intro _; rfl) : PG X (.Subscript o i pos) (gSub to ti t) := by
  intro pins s σ H v u Q I r h
  rw [ha]
  refine wpAny_bind (wpAny_holding (thn (ho pins s σ H _ I h) fun ov s1 ⟨x, H1, I1, r1, q1⟩ => ?_))
  refine wpAny_bind (wpAny_holding (thn (hi pins s1 σ H1 _ I1 q1) fun iv s2 ⟨y, H2, I2, r2, q2⟩ => ?_))
  refine wpAny_bind (wpAny_standAt (wpAny_bind (wpAny_holding (thn (hs pins s2 σ H2 x y v ov iv u _ I2 r1 r2 r q2) fun _ s3 ⟨H3, I3, q3⟩ => ?_))))
  exact wpAny_release ⟨σ, H3, I3, q3⟩
def tAsg (te : TE) (g : TG) : TS := fun D σ H => te σ H fun x H1 => g x σ H1 D.nx
theorem ps_asg {tg e : Expr} {te : TE} {g : TG} (he : PE X e te) (hg : PG X tg g) (hs : swapsWithSole [tg] e pos.line X.env = pure false := by rfl) (hw : swappedStores [tg] e X.env = pure none := by rfl)
    (h1 : (assignEach [tg] X.env).map (·.2) = [assign tg X.env] := by rfl) : PS X (.Assign [tg] e pos) (tAsg te g) := by
  intro pins s σ H D I h
  refine wpAny_Assign_stores (thn (he pins s σ H _ I h) fun v s1 ⟨x, H1, I1, r1, q1⟩ => ?_) hs hw
  rw [h1]
  exact thn (hg pins s1 σ H1 x v _ I1 r1 q1) fun _ s2 q => q
theorem ps_set {i : Nat} {x : Str} {e : Expr} {te : TE} {pos' : Pos} (hN : X.N.Nodup) (hi : X.N[i]? = some x) (hx : Loc X.env.scope x) (he : PE X e te) (hs : swapsWith e (some (.Name x pos')) pos.line X.env = pure false := by rfl) (hf : X.fn x = true ∨ X.env.scope.names.lookup x = some .local := by first | exact .inl rfl | exact .inr rfl | assumption) :
    PS X (.Assign [.Name x pos'] e pos) (tAsg te (gName i)) := by
  intro pins s σ H D I h
  refine wpAny_Assign_Name (thn (he pins s σ H _ I h) fun v s1 ⟨y, H1, I1, r1, q1⟩ => ?_) hs
  exact store_ok I1 hN hi hx r1 (fun s2 I2 => ⟨_, H1, I2, q1⟩) hf
end
structure It where
  go : Nat → Hp → Prop
  yld : Nat → Hp → V → Hp → Prop
  stop : Nat → Hp → Prop
def FpOk (X : Cx) (pins : List (Addr × Obj)) (H : Hp) (b : Addr) : Prop :=
  H b = none ∧ b ≠ X.env.locals ∧ b ∉ X.fs ∧ (b ∈ X.ex ∨ X.s₀.heap.objs.size ≤ b) ∧ (∀ x c, X.env.cells.lookup x = some c → c ≠ b) ∧ ∀ p ∈ X.pn ++ pins, p.1 ≠ b
theorem Inv.fpOk {X : Cx} {pins : List (Addr × Obj)} {σ : St} {H H' : Hp} {s : Shared} {b : Addr} (I : Inv X pins σ H s) (hb : s.heap.objs.size ≤ b) (hn : H' b = none) : FpOk X pins H' b := by
  refine ⟨hn, Nat.ne_of_gt (Nat.lt_of_lt_of_le I.lt hb), I.nofs hb, .inr (Nat.le_trans I.sz hb), fun x c e z => ?_, fun p hp z => ?_⟩
  · obtain ⟨v, q⟩ := I.cell x c e
    exact absurd (Nat.lt_of_lt_of_le q.lt (by rw [z]; exact hb)) (Nat.lt_irrefl _)
  · exact absurd (Nat.lt_of_lt_of_le (Heap.lt_size (I.pin p hp).1) (by rw [z]; exact hb)) (Nat.lt_irrefl _)
structure Turn (P : Program) (w : World) (K : PySem.W.Frag) (tg : Expr) (J : It) (fp : List Addr) (it : Addr) (tn : Nat → Heap → Prop) : Prop where
  mem : it ∈ fp
  obj : ∀ i h, tn i h → ∀ b ∈ fp, ∃ o, h.get? b = some o ∧ ∀ v, o.data ≠ .cell v
  keep : ∀ i h h', tn i h → (∀ b ∈ fp, ∀ o, h.get? b = some o → h'.get? b = some o) → tn i h'
  item : ∀ (X : Cx), X.prog = P → X.w = w → X.K = K → X.calm = true → ∀ (i : Nat) (pins : List (Addr × Obj)) (s : Shared) (σ : St) (H : Hp) (E : Value → Shared → Prop), Inv X pins σ H s → (∀ b ∈ fp, FpOk X pins H b) → tn i s.heap → J.go i H →
    wpAny (model P w) X.A (pyNext (.ref it)) (fun r s1 => ∃ u, r = some u ∧
      wpAny (model P w) X.A (letOwnedTupleGo tg (.ref it) u) (fun _ s2 => ∃ x H', Inv X pins σ H' s2 ∧ RelV x u ∧ J.yld i H x H' ∧ tn (i + 1) s2.heap ∧ ∀ b ∈ fp, H' b = none) E s1) E s
  done : ∀ (X : Cx), X.prog = P → X.w = w → X.K = K → X.calm = true → ∀ (i : Nat) (pins : List (Addr × Obj)) (s : Shared) (σ : St) (H : Hp) (E : Value → Shared → Prop), Inv X pins σ H s → (∀ b ∈ fp, FpOk X pins H b) → tn i s.heap → J.stop i H →
    wpAny (model P w) X.A (pyNext (.ref it)) (fun r s1 => r = none ∧ Inv X pins σ H s1) E s
  self : ∀ (A : Around) (i : Nat) (s : Shared) (Q : Value → Shared → Prop) (E : Value → Shared → Prop), tn i s.heap → Q (.ref it) s → wpAny (model P w) A (pyIter (.ref it)) Q E s
abbrev TI := St → Hp → (It → Hp → Prop) → Prop
def PIE (X : Cx) (pins : List (Addr × Obj)) (σ : St) (tg : Expr) (R : It → Hp → Prop) (itv : Value) (s2 : Shared) : Prop :=
  ∃ (it : Addr) (fp : List Addr) (tn : Nat → Heap → Prop) (J : It) (H' : Hp), itv = .ref it ∧ Inv X pins σ H' s2 ∧ Turn X.prog X.w X.K tg J fp it tn ∧ tn 0 s2.heap ∧ (∀ b ∈ fp, FpOk X pins H' b) ∧ R J H'
def PI (X : Cx) (tg iter : Expr) (wi : TI) : Prop :=
  ∀ (pins : List (Addr × Obj)) (s : Shared) (σ : St) (H : Hp) (R : It → Hp → Prop), Inv X pins σ H s → wi σ H R →
    wpAny (model X.prog X.w) X.A (eval iter X.env) (fun v s1 => wpAny (model X.prog X.w) X.A (pyIter v) (PIE X pins σ tg R) X.xe s1) X.xe s
theorem go_of {M : Model} {A : Around} {E : Value → Shared → Prop} {s : Shared} {tg : Expr} {it : Addr} {u : Value} {o : Obj} {n : String} {vs : Array Value} {Q : Unit → Shared → Prop} (ho : s.heap.get? it = some o) (hc : o.cls = .type n) (hd : o.data = .fields vs)
    (hn : ["enumerate", "zip", "dict_itemiterator", "dict_reverseitemiterator", "odict_iterator", "itertools.zip_longest", "itertools.pairwise"].contains n = false) (hQ : Q () s) : wpAny M A (letOwnedTupleGo tg (.ref it) u) Q E s := by
  unfold letOwnedTupleGo
  cases tg <;> first
    | exact wpAny_pure hQ
    | (cases u <;> first
        | exact wpAny_pure hQ
        | (refine wpAny_bind (wpAny_load ho ?_)
           rw [hc, hd]
           show wpAny M A (if (["enumerate", "zip", "dict_itemiterator", "dict_reverseitemiterator", "odict_iterator", "itertools.zip_longest", "itertools.pairwise"].contains n && vs[0]? == some (rawInt _)) = true then _ else _) Q E s
           rw [if_neg (by intro h; rw [hn, Bool.false_and] at h; cases h)]
           exact wpAny_pure hQ))
def Itl (K : PySem.W.Frag) (a : Addr) : It :=
  ⟨fun i H => ∃ xs x, SqL K H a xs ∧ xs[i]? = some x, fun i H x H' => H' = H ∧ ∀ xs, SqL K H a xs → xs[i]? = some x, fun i H => ∃ xs, SqL K H a xs ∧ xs.length ≤ i⟩
def Itt (K : PySem.W.Frag) (a : Addr) : It :=
  ⟨fun i H => ∃ xs x, SqT K H a xs ∧ xs[i]? = some x, fun i H x H' => H' = H ∧ ∀ xs, SqT K H a xs → xs[i]? = some x, fun i H => ∃ xs, SqT K H a xs ∧ xs.length ≤ i⟩
def Itr (lo : Int) (n : Nat) : It := ⟨fun i _ => i < n, fun i H x H' => H' = H ∧ x = .int (lo + i), fun i _ => n ≤ i⟩
theorem turn_list {P : Program} {w : World} {K : PySem.W.Frag} {tg : Expr} (a it : Addr) : Turn P w K tg (Itl K a) [it] it (fun i h => h.IsListIter it a i) where
  mem := by simp
  obj := fun i h st b hb => by
    have e : b = it := by simpa using hb
    subst e
    obtain ⟨o, e, c, d⟩ := st
    exact ⟨o, e, fun v z => by rw [d] at z; cases z⟩
  keep := fun i h h' st k => st.at fun o e => k it (by simp) o e
  item := by
    intro X hP hw hK hc i pins s σ H E I hf st hg
    subst hP hw hK
    obtain ⟨xs, x, hq, hx⟩ := hg
    obtain ⟨its, rv, p, hz⟩ := I.list hq
    obtain ⟨u, hu, ru⟩ := rv.get hx
    obtain ⟨f0, f1, f2, f3, f4, f5⟩ := hf it (by simp)
    refine wpAny_pyNext_list_item st p.isList (x := u) (by simpa using hu) fun h' st' sb => ?_
    have I1 : Inv X pins σ H { s with heap := h' } := I.turned (t' := s.toks) (fun b o hb e => (sb.2 b hb).trans e) f0 f1 f3 f4 f5
    obtain ⟨o, e, c, d⟩ := id st'
    exact ⟨u, rfl, go_of (s := { s with heap := h' }) e c d (by decide) ⟨x, H, I1, ru, ⟨rfl, fun ys hy => by rw [I.list_inj hy hq]; exact hx⟩, st', fun b hb => (hf b hb).1⟩⟩
  done := by
    intro X hP hw hK hc i pins s σ H E I hf st hg
    subst hP hw hK
    obtain ⟨xs, hq, hx⟩ := hg
    obtain ⟨its, rv, p, hz⟩ := I.list hq
    obtain ⟨f0, f1, f2, f3, f4, f5⟩ := hf it (by simp)
    have hl := rv.length
    exact wpAny_pyNext_list_end (I.ok.hd hc) st p.isList (by simp; omega) fun h' eb => ⟨rfl, I.turned (t' := s.toks) (fun b o hb e => eb b o hb e) f0 f1 f3 f4 f5⟩
  self := fun _ _ _ _ _ st h => wpAny_pyIter_listiter st h
theorem turn_tuple {P : Program} {w : World} {K : PySem.W.Frag} {tg : Expr} (a it : Addr) : Turn P w K tg (Itt K a) [it] it (fun i h => h.IsTupleIter it a i) where
  mem := by simp
  obj := fun i h st b hb => by
    have e : b = it := by simpa using hb
    subst e
    obtain ⟨o, e, c, d⟩ := st
    exact ⟨o, e, fun v z => by rw [d] at z; cases z⟩
  keep := fun i h h' st k => st.at fun o e => k it (by simp) o e
  item := by
    intro X hP hw hK hc i pins s σ H E I hf st hg
    subst hP hw hK
    obtain ⟨xs, x, hq, hx⟩ := hg
    obtain ⟨its, rv, p, hz⟩ := I.tuple hq
    obtain ⟨u, hu, ru⟩ := rv.get hx
    obtain ⟨f0, f1, f2, f3, f4, f5⟩ := hf it (by simp)
    refine wpAny_pyNext_tuple_item st (show s.heap.IsTuple a its.toArray from p) (x := u) (by simpa using hu) fun h' st' sb => ?_
    have I1 : Inv X pins σ H { s with heap := h' } := I.turned (t' := s.toks) (fun b o hb e => (sb.2 b hb).trans e) f0 f1 f3 f4 f5
    obtain ⟨o, e, c, d⟩ := id st'
    exact ⟨u, rfl, go_of (s := { s with heap := h' }) e c d (by decide) ⟨x, H, I1, ru, ⟨rfl, fun ys hy => by rw [I.tuple_inj hy hq]; exact hx⟩, st', fun b hb => (hf b hb).1⟩⟩
  done := by
    intro X hP hw hK hc i pins s σ H E I hf st hg
    subst hP hw hK
    obtain ⟨xs, hq, hx⟩ := hg
    obtain ⟨its, rv, p, hz⟩ := I.tuple hq
    obtain ⟨f0, f1, f2, f3, f4, f5⟩ := hf it (by simp)
    have hl := rv.length
    exact wpAny_pyNext_tuple_end (I.ok.hd hc) st (show s.heap.IsTuple a its.toArray from p) (by simp; omega) fun h' eb => ⟨rfl, I.turned (t' := s.toks) (fun b o hb e => eb b o hb e) f0 f1 f3 f4 f5⟩
  self := fun _ _ _ _ _ st h => wpAny_pyIter_tupleiter st h
theorem turn_range {P : Program} {w : World} {K : PySem.W.Frag} {tg : Expr} (it : Addr) (lo : Int) (n : Nat) : Turn P w K tg (Itr lo n) [it] it (fun i h => IsRangeIter h it (lo + (i : Nat) * 1) ((n : Int) - (i : Nat)) 1) where
  mem := by simp
  obj := fun i h st b hb => by
    have e : b = it := by simpa using hb
    subst e
    exact ⟨_, st, fun v z => by
      have z' : Data.fields _ = Data.cell v := z
      cases z'⟩
  keep := fun i h h' st k => k it (by simp) _ st
  item := by
    intro X hP hw hK hc i pins s σ H E I hf st hg
    subst hP hw hK
    obtain ⟨f0, f1, f2, f3, f4, f5⟩ := hf it (by simp)
    have W := Walks.range (prog := X.prog) (w := X.w) (I.ok.hd hc) it lo 1 n
    refine W.item i s _ _ hg st fun v h' tk hv st' kk => ?_
    obtain ⟨t, rfl⟩ := hv
    have I1 : Inv X pins σ H { s with heap := h', toks := tk } := I.turned (fun b o hb e => kk b o (by simpa using hb) e) f0 f1 f3 f4 f5
    refine ⟨_, rfl, go_of (s := { s with heap := h', toks := tk }) (n := "range_iterator") st' rfl rfl (by decide) ⟨.int (lo + i), H, I1, ⟨t, ?_⟩, ⟨rfl, rfl⟩, st', fun b hb => (hf b hb).1⟩⟩
    rw [Int.mul_one]
  done := by
    intro X hP hw hK hc i pins s σ H E I hf st hg
    subst hP hw hK
    obtain ⟨f0, f1, f2, f3, f4, f5⟩ := hf it (by simp)
    exact wpAny_pyNext_range_end (I.ok.hd hc) st (by have : n ≤ i := hg; omega) fun h' eb => ⟨rfl, I.turned (t' := s.toks) (fun b o hb e => eb b o hb e) f0 f1 f3 f4 f5⟩
  self := fun _ _ _ _ _ st h => wpAny_pyIter_rangeiter st h
end L2
namespace L2
open PySem PySem.Spec PyProof.Rows
section
variable {X : Cx} {tg : Expr}
def iList (K : PySem.W.Frag) (tl : TE) : TI := fun σ H R => tl σ H fun x H1 => ∃ a, x = .ref a ∧ (∃ xs, SqL K H1 a xs) ∧ R (Itl K a) H1
def iTup (K : PySem.W.Frag) (tl : TE) : TI := fun σ H R => tl σ H fun x H1 => ∃ a, x = .ref a ∧ (∃ xs, SqT K H1 a xs) ∧ R (Itt K a) H1
theorem pi_list {l : Expr} {tl : TE} (hl : PE X l tl) : PI X tg l (iList X.K tl) := by
  intro pins s σ H R I h
  refine thn (hl pins s σ H _ I h) fun v s1 ⟨x, H1, I1, r1, q1⟩ => ?_
  obtain ⟨a, e, ⟨xs, hq⟩, q⟩ := q1
  subst e
  cases r1
  obtain ⟨its, rv, p, hz⟩ := I1.list hq
  refine wpAny_pyIter_list p.isList ?_
  refine ⟨s1.heap.objs.size, [s1.heap.objs.size], _, _, H1, rfl, I1.kept (t' := s1.toks) fun b o e => Heap.get?_push_of_some _ e, turn_list a _, ⟨_, Heap.get?_push_size _ rfl, rfl, rfl⟩, fun b hb => ?_, q⟩
  have e : b = s1.heap.objs.size := by simpa using hb
  subst e
  exact I1.fpOk (Nat.le_refl _) (I1.hok.fresh (Nat.le_refl _))
theorem pi_tup {l : Expr} {tl : TE} (hl : PE X l tl) : PI X tg l (iTup X.K tl) := by
  intro pins s σ H R I h
  refine thn (hl pins s σ H _ I h) fun v s1 ⟨x, H1, I1, r1, q1⟩ => ?_
  obtain ⟨a, e, ⟨xs, hq⟩, q⟩ := q1
  subst e
  cases r1
  obtain ⟨its, rv, p, hz⟩ := I1.tuple hq
  refine wpAny_pyIter_tuple (show s1.heap.IsTuple a its.toArray from p) ?_
  refine ⟨s1.heap.objs.size, [s1.heap.objs.size], _, _, H1, rfl, I1.kept (t' := s1.toks) fun b o e => Heap.get?_push_of_some _ e, turn_tuple a _, ⟨_, Heap.get?_push_size _ rfl, rfl, rfl⟩, fun b hb => ?_, q⟩
  have e : b = s1.heap.objs.size := by simpa using hb
  subst e
  exact I1.fpOk (Nat.le_refl _) (I1.hok.fresh (Nat.le_refl _))
theorem range_it {pins : List (Addr × Obj)} {σ : St} {H : Hp} {s : Shared} {R : It → Hp → Prop} {E : Value → Shared → Prop} {lo hi : Int} {t u v : Tok} {tk : Nat} (I : Inv X pins σ H s) (h1 : -(2 ^ 62) ≤ lo) (h2 : lo < 2 ^ 62) (h3 : -(2 ^ 62) ≤ hi) (h4 : hi < 2 ^ 62)
    (q : R (Itr lo (hi - lo).toNat) H) : wpAny (model X.prog X.w) X.A (pyIter (.ref s.heap.objs.size)) (PIE X pins σ tg R) E { s with heap := s.heap.push { cls := .type "range", data := .fields #[.int lo t, .int hi u, .int 1 v] }, toks := tk } := by
  refine wpAny_pyIter_range (IsRange.new ..) (small_one h1 h2 h3 h4) ?_
  have I1 : Inv X pins σ H { s with heap := s.heap.push { cls := .type "range", data := .fields #[.int lo t, .int hi u, .int 1 v] }, toks := tk } := I.kept fun b o e => Heap.get?_push_of_some _ e
  refine ⟨(s.heap.push { cls := .type "range", data := .fields #[.int lo t, .int hi u, .int 1 v] }).objs.size, [(s.heap.push { cls := .type "range", data := .fields #[.int lo t, .int hi u, .int 1 v] }).objs.size], _, _, H, rfl,
    I1.kept (t' := tk) fun b o e => Heap.get?_push_of_some _ e, turn_range _ lo (hi - lo).toNat, ?_, fun b hb => ?_, q⟩
  · have e1 : lo + ((0 : Nat) : Int) * 1 = lo := by simp
    have e2 : (((hi - lo).toNat : Nat) : Int) - ((0 : Nat) : Int) = Builtin.Range.rangeSize lo hi 1 := by rw [rangeSize_one]; split <;> omega
    show IsRangeIter _ _ (lo + ((0 : Nat) : Int) * 1) ((((hi - lo).toNat : Nat) : Int) - ((0 : Nat) : Int)) 1
    rw [e1, e2]
    exact Heap.get?_push_size _ rfl
  · have e : b = (s.heap.push { cls := .type "range", data := .fields #[.int lo t, .int hi u, .int 1 v] }).objs.size := by simpa using hb
    subst e
    exact I1.fpOk (Nat.le_refl _) (I1.hok.fresh (Nat.le_refl _))
def iRng1 (ta : TA) : TI := fun σ H R => ta σ H fun vs H1 => ∃ j : Int, vs = [.int j] ∧ -(2 ^ 62) ≤ j ∧ j < 2 ^ 62 ∧ R (Itr 0 j.toNat) H1
def iRng2 (ta : TA) : TI := fun σ H R => ta σ H fun vs H1 => ∃ i j : Int, vs = [.int i, .int j] ∧ (-(2 ^ 62) ≤ i ∧ i < 2 ^ 62 ∧ -(2 ^ 62) ≤ j ∧ j < 2 ^ 62) ∧ R (Itr i (j - i).toNat) H1
theorem pi_range1 {a : Expr} {ta : TA} {p pos : Pos} (hg : Gl X "range") (hm : X.mg "range" = none) (ha : PA X [a] ta) (hs : starEach [a] X.env = [(false, eval a X.env)] := by rfl) : PI X tg (.Call (.Name "range" p) [a] [] pos) (iRng1 ta) := by
  intro pins s σ H R I h
  refine Call_ (ld_blt I hg hm boot_range (PyProof.Rows.callWith_type1 (thn (ha pos pins s σ H _ I h) fun us s1 ⟨vs, H1, I1, r1, q1⟩ => ?_) hs rfl))
  obtain ⟨j, e, q1, q2, q⟩ := q1
  subst e
  cases r1 with
  | cons r rr =>
    cases rr
    obtain ⟨t, rfl⟩ := r
    exact call_range_1 (range_it I1 (by omega) (by omega) q1 q2 (by simpa using q))
def tFor (wi : TI) (g : TG) (tb : TS) : TS := fun D σ H => wi σ H fun J H1 => ∃ W : Nat → Nat → St → Hp → Prop, (∃ m, W 0 m σ H1) ∧ ∀ i m σ H, W i m σ H →
  (J.stop i H ∧ D.nx σ H) ∨ (J.go i H ∧ ∃ N : St → Hp → Prop, (∀ σ' H', N σ' H' → ∃ m', m' < m ∧ W (i + 1) m' σ' H') ∧ ∀ x H', J.yld i H x H' → g x σ H' fun σ2 H2 => tb { D with nx := N, ct := N, bk := D.nx } σ2 H2)
def pinsAt (fp : List Addr) (h : Heap) : List (Addr × Obj) := fp.filterMap fun b => (h.get? b).map fun o => (b, o)
theorem mem_pinsAt {fp : List Addr} {h : Heap} {b : Addr} {o : Obj} (hb : b ∈ fp) (e : h.get? b = some o) : (b, o) ∈ pinsAt fp h := List.mem_filterMap.mpr ⟨b, hb, by rw [e]; rfl⟩
theorem of_pinsAt {fp : List Addr} {h : Heap} {p : Addr × Obj} (hp : p ∈ pinsAt fp h) : p.1 ∈ fp ∧ h.get? p.1 = some p.2 := by
  obtain ⟨b, hb, e⟩ := List.mem_filterMap.mp hp
  cases q : h.get? b with
  | none => rw [q] at e; cases e
  | some o =>
    rw [q] at e
    have e' : (b, o) = p := Option.some.inj e
    subst e'
    exact ⟨hb, q⟩
theorem Inv.pinned {pins : List (Addr × Obj)} {σ : St} {H : Hp} {s : Shared} {fp : List Addr} (I : Inv X pins σ H s) (hf : ∀ b ∈ fp, FpOk X pins H b) (ho : ∀ b ∈ fp, ∃ o, s.heap.get? b = some o ∧ ∀ v, o.data ≠ .cell v) : Inv X (pins ++ pinsAt fp s.heap) σ H s :=
  I.pins_of fun p hp => (List.mem_append.mp hp).elim (fun z => I.pin p (List.mem_append_right _ z)) fun z => by
    obtain ⟨hb, e⟩ := of_pinsAt z
    obtain ⟨f0, f1, f2, _⟩ := hf p.1 hb
    obtain ⟨o, e', d⟩ := ho p.1 hb
    rw [e] at e'; cases e'
    exact ⟨e, f0, f1, f2, d⟩
theorem Inv.unpinned {pins pl : List (Addr × Obj)} {σ : St} {H : Hp} {s : Shared} (I : Inv X (pins ++ pl) σ H s) : Inv X pins σ H s := I.pins_of fun p hp => I.pin p (List.mem_append_right _ (List.mem_append_left _ hp))
theorem ps_for {iter : Expr} {body : List Stmt} {wi : TI} {g : TG} {tb : TS} {pos : Pos} (hp : PassesOwn (model X.prog X.w) X.A X.env X.xe) (hc : X.calm = true) (hi : PI X tg iter wi) (hg : PG X tg g) (hb : PSs X body tb)
    (hs : ∀ x, foldedSetIterable iter X.env x = pure x := by intro _; rfl) : PS X (.For tg iter body [] pos) (tFor wi g tb) := by
  intro pins s σ H D I h
  refine wpAny_For (thn (hi pins s σ H _ I h) fun v s1 h1 => thn h1 fun itv s2 h2 => ?_) hs
  obtain ⟨it, fp, tn, J, H2, e, I2, T, st2, f2, W, ⟨m0, w0⟩, turn⟩ := h2
  subst e
  -- what stays true of the iterator's objects through the loop
  have stat : ∀ {H' : Hp}, (∀ b ∈ fp, H' b = none) → ∀ b ∈ fp, FpOk X pins H' b := fun hn b hb => ⟨hn b hb, (f2 b hb).2⟩
  refine codeAny_forLoop_any (fun n s' => ∃ i σ' H', Inv X pins σ' H' s' ∧ tn i s'.heap ∧ (∀ b ∈ fp, H' b = none) ∧ W i n σ' H') ?_ m0 ⟨0, σ, H2, I2, st2, fun b hb => (f2 b hb).1, w0⟩
  rintro n s3 ⟨i, σ3, H3, I3, st3, fr3, w3⟩
  rcases turn i n σ3 H3 w3 with ⟨stop, qn⟩ | ⟨go, N, hN, step⟩
  · refine wpAny_passesOwn hp (thn (T.done X rfl rfl rfl hc i pins s3 σ3 H3 X.xe I3 (stat fr3) st3 stop) fun r s4 ⟨hr, I4⟩ => ?_)
    subst hr
    exact wpAny_execs_nil ⟨σ3, H3, I4, qn⟩
  · refine wpAny_passesOwn hp (thn (T.item X rfl rfl rfl hc i pins s3 σ3 H3 X.xe I3 (stat fr3) st3 go) fun r s4 ⟨u, hr, h4⟩ => ?_)
    subst hr
    refine wpAny_passesOwn hp (thn h4 fun _ s5 ⟨x, H5, I5, r5, y5, st5, fr5⟩ => ?_)
    have I5' := I5.pinned (stat fr5) (T.obj _ _ st5)
    refine wpAny_passesOwn hp (thn (hg _ s5 σ3 H5 x u _ I5' r5 (step x H5 y5)) fun _ s6 ⟨σ6, H6, I6, q6⟩ => ?_)
    refine wpAny_passesOwn hp (thn (hb _ s6 σ6 H6 _ I6 q6) fun f s7 q7 => ?_)
    have again : ∀ {σ7 : St} {H7 : Hp}, Inv X (pins ++ pinsAt fp s5.heap) σ7 H7 s7 → N σ7 H7 → ∃ m, m < n ∧ ∃ i σ' H', Inv X pins σ' H' s7 ∧ tn i s7.heap ∧ (∀ b ∈ fp, H' b = none) ∧ W i m σ' H' := fun {σ7 H7} I7 n7 => by
      obtain ⟨m', hm, w7⟩ := hN σ7 H7 n7
      refine ⟨m', hm, i + 1, σ7, H7, I7.unpinned, T.keep _ _ _ st5 fun b hb o e => (I7.pin (b, o) (List.mem_append_right _ (List.mem_append_right _ (mem_pinsAt hb e)))).1, fun b hb => ?_, w7⟩
      obtain ⟨o, e, d⟩ := T.obj _ _ st5 b hb
      exact (I7.pin (b, o) (List.mem_append_right _ (List.mem_append_right _ (mem_pinsAt hb e)))).2.1
    cases f with
    | next => obtain ⟨σ7, H7, I7, n7⟩ := q7; exact again I7 n7
    | cont => obtain ⟨σ7, H7, I7, n7⟩ := q7; exact again I7 n7
    | brk => obtain ⟨σ7, H7, I7, q7⟩ := q7; exact ⟨σ7, H7, I7.unpinned, q7⟩
    | ret v => obtain ⟨x7, σ7, H7, I7, r7, q7⟩ := q7; exact ⟨x7, σ7, H7, I7.unpinned, r7, q7⟩
end
theorem for_list {K : PySem.W.Frag} {a : Addr} {xs : List V} {g : TG} {tb : TS} {D : Ends} {σ : St} {H : Hp} (Pv : Nat → St → Hp → Prop) (h0 : Pv 0 σ H) (hl : ∀ i σ H, i ≤ xs.length → Pv i σ H → SqL K H a xs)
    (hs : ∀ i x σ H, xs[i]? = some x → Pv i σ H → g x σ H fun σ2 H2 => tb { D with nx := Pv (i + 1), ct := Pv (i + 1), bk := D.nx } σ2 H2) (hd : ∀ σ H, Pv xs.length σ H → D.nx σ H) :
    ∃ W : Nat → Nat → St → Hp → Prop, (∃ m, W 0 m σ H) ∧ ∀ i m σ H, W i m σ H →
      ((Itl K a).stop i H ∧ D.nx σ H) ∨ ((Itl K a).go i H ∧ ∃ N : St → Hp → Prop, (∀ σ' H', N σ' H' → ∃ m', m' < m ∧ W (i + 1) m' σ' H') ∧ ∀ x H', (Itl K a).yld i H x H' → g x σ H' fun σ2 H2 => tb { D with nx := N, ct := N, bk := D.nx } σ2 H2) := by
  refine ⟨fun i m σ H => m = xs.length - i ∧ i ≤ xs.length ∧ Pv i σ H, ⟨xs.length, by simp, Nat.zero_le _, h0⟩, ?_⟩
  rintro i m σ H ⟨rfl, hi, p⟩
  have q := hl i σ H hi p
  by_cases hlt : i < xs.length
  · refine .inr ⟨⟨xs, xs[i], q, by simp [hlt]⟩, Pv (i + 1), fun σ' H' p' => ⟨xs.length - (i + 1), by omega, rfl, hlt, p'⟩, fun x H' y => ?_⟩
    obtain ⟨e, y⟩ := y
    subst e
    exact hs i x σ _ (y xs q) p
  · have e : i = xs.length := by omega
    subst e
    exact .inl ⟨⟨xs, q, Nat.le_refl _⟩, hd σ H p⟩
theorem for_tup {K : PySem.W.Frag} {a : Addr} {xs : List V} {g : TG} {tb : TS} {D : Ends} {σ : St} {H : Hp} (Pv : Nat → St → Hp → Prop) (h0 : Pv 0 σ H) (hl : ∀ i σ H, i ≤ xs.length → Pv i σ H → SqT K H a xs)
    (hs : ∀ i x σ H, xs[i]? = some x → Pv i σ H → g x σ H fun σ2 H2 => tb { D with nx := Pv (i + 1), ct := Pv (i + 1), bk := D.nx } σ2 H2) (hd : ∀ σ H, Pv xs.length σ H → D.nx σ H) :
    ∃ W : Nat → Nat → St → Hp → Prop, (∃ m, W 0 m σ H) ∧ ∀ i m σ H, W i m σ H →
      ((Itt K a).stop i H ∧ D.nx σ H) ∨ ((Itt K a).go i H ∧ ∃ N : St → Hp → Prop, (∀ σ' H', N σ' H' → ∃ m', m' < m ∧ W (i + 1) m' σ' H') ∧ ∀ x H', (Itt K a).yld i H x H' → g x σ H' fun σ2 H2 => tb { D with nx := N, ct := N, bk := D.nx } σ2 H2) := by
  refine ⟨fun i m σ H => m = xs.length - i ∧ i ≤ xs.length ∧ Pv i σ H, ⟨xs.length, by simp, Nat.zero_le _, h0⟩, ?_⟩
  rintro i m σ H ⟨rfl, hi, p⟩
  have q := hl i σ H hi p
  by_cases hlt : i < xs.length
  · refine .inr ⟨⟨xs, xs[i], q, by simp [hlt]⟩, Pv (i + 1), fun σ' H' p' => ⟨xs.length - (i + 1), by omega, rfl, hlt, p'⟩, fun x H' y => ?_⟩
    obtain ⟨e, y⟩ := y
    subst e
    exact hs i x σ _ (y xs q) p
  · have e : i = xs.length := by omega
    subst e
    exact .inl ⟨⟨xs, q, Nat.le_refl _⟩, hd σ H p⟩
theorem for_range {lo : Int} {n : Nat} {g : TG} {tb : TS} {D : Ends} {σ : St} {H : Hp} (Pv : Nat → St → Hp → Prop) (h0 : Pv 0 σ H)
    (hs : ∀ i σ H, i < n → Pv i σ H → g (.int (lo + i)) σ H fun σ2 H2 => tb { D with nx := Pv (i + 1), ct := Pv (i + 1), bk := D.nx } σ2 H2) (hd : ∀ σ H, Pv n σ H → D.nx σ H) :
    ∃ W : Nat → Nat → St → Hp → Prop, (∃ m, W 0 m σ H) ∧ ∀ i m σ H, W i m σ H →
      ((Itr lo n).stop i H ∧ D.nx σ H) ∨ ((Itr lo n).go i H ∧ ∃ N : St → Hp → Prop, (∀ σ' H', N σ' H' → ∃ m', m' < m ∧ W (i + 1) m' σ' H') ∧ ∀ x H', (Itr lo n).yld i H x H' → g x σ H' fun σ2 H2 => tb { D with nx := N, ct := N, bk := D.nx } σ2 H2) := by
  refine ⟨fun i m σ H => m = n - i ∧ i ≤ n ∧ Pv i σ H, ⟨n, by simp, Nat.zero_le _, h0⟩, ?_⟩
  rintro i m σ H ⟨rfl, hi, p⟩
  by_cases hlt : i < n
  · refine .inr ⟨hlt, Pv (i + 1), fun σ' H' p' => ⟨n - (i + 1), by omega, rfl, hlt, p'⟩, fun x H' y => ?_⟩
    obtain ⟨e, y⟩ := y
    subst e y
    exact hs i σ _ hlt p
  · have e : i = n := by omega
    subst e
    exact .inl ⟨Nat.le_refl _, hd σ H p⟩
end L2
namespace L2
open PySem PySem.Spec PyProof.Rows
abbrev R2 := V → V → Hp → VK → Prop
def OpR (X : Cx) (f : Value → Value → Sem Value) (r : R2) : Prop :=
  ∀ (pins : List (Addr × Obj)) (s : Shared) (σ : St) (H : Hp) (x y : V) (v u : Value) (Q : VK), Inv X pins σ H s → RelV x v → RelV y u → r x y H Q →
    wpAny (model X.prog X.w) X.A (f v u) (EP X pins σ Q) X.xe s
def UnR (X : Cx) (f : Value → Sem Value) (r : V → Hp → VK → Prop) : Prop :=
  ∀ (pins : List (Addr × Obj)) (s : Shared) (σ : St) (H : Hp) (x : V) (v : Value) (Q : VK), Inv X pins σ H s → RelV x v → r x H Q →
    wpAny (model X.prog X.w) X.A (f v) (EP X pins σ Q) X.xe s
def CallR (X : Cx) (f : Value) (r : List V → Hp → VK → Prop) : Prop :=
  ∀ (pins : List (Addr × Obj)) (s : Shared) (σ : St) (H : Hp) (xs : List V) (us : List Value) (Q : VK), Inv X pins σ H s → Vals xs us → r xs H Q →
    wpAny (model X.prog X.w) X.A (call f us) (EP X pins σ Q) X.xe s
def tOp (r : R2) (ta tb : TE) : TE := fun σ H Q => ta σ H fun x H1 => tb σ H1 fun y H2 => r x y H2 Q
def tUn (r : V → Hp → VK → Prop) (ta : TE) : TE := fun σ H Q => ta σ H fun x H1 => r x H1 Q
def rI (C : Int → Int → Prop) (g : Int → Int → V) : R2 := fun x y H Q => ∃ i j, x = .int i ∧ y = .int j ∧ C i j ∧ Q (g i j) H
def rI0 (g : Int → Int → V) : R2 := fun x y H Q => ∃ i j, x = .int i ∧ y = .int j ∧ Q (g i j) H
def rU (g : Int → V) : V → Hp → VK → Prop := fun x H Q => ∃ i, x = .int i ∧ Q (g i) H
section
variable {X : Cx} {a b c : Expr} {ta tb tc : TE} {pos : Pos}
theorem binT (ha : PE X a ta) (hb : PE X b tb) {pins : List (Addr × Obj)} {s : Shared} {σ : St} {H : Hp} {R : V → V → Hp → Prop} (I : Inv X pins σ H s)
    (h : ta σ H fun x H1 => tb σ H1 fun y H2 => R x y H2) {Q : Value → Shared → Prop} {f : Value → Value → Sem Value}
    (hf : ∀ v u s2 x y H2, Inv X pins σ H2 s2 → RelV x v → RelV y u → R x y H2 → wpAny (model X.prog X.w) X.A (f v u) Q X.xe s2) :
    wpAny (model X.prog X.w) X.A (eval a X.env) (fun v s₁ => wpAny (model X.prog X.w) X.A (eval b X.env) (fun u s₂ => wpAny (model X.prog X.w) X.A (f v u) Q X.xe s₂) X.xe s₁) X.xe s := by
  refine thn (ha pins s σ H _ I h) fun v s1 ⟨x, H1, I1, r1, q1⟩ => ?_
  refine thn (hb pins s1 σ H1 _ I1 q1) fun u s2 ⟨y, H2, I2, r2, q2⟩ => ?_
  exact hf v u s2 x y H2 I2 r1 r2 q2
theorem pe_op {op : Operator} {r : R2} (ho : OpR X (binaryOp op) r) (ha : PE X a ta) (hb : PE X b tb) : PE X (.BinOp a op b pos) (tOp r ta tb) := by
  intro pins s σ H Q I h
  exact wpAny_BinOp (binT ha hb I h fun v u s2 x y H2 I2 rx ry q => ho pins s2 σ H2 x y v u Q I2 rx ry q)
theorem pe_un {op : UnaryOp} {r : V → Hp → VK → Prop} (ho : UnR X (unaryOp op) r) (ha : PE X a ta) : PE X (.UnaryOp op a pos) (tUn r ta) := by
  intro pins s σ H Q I h
  exact UnaryOp_ (thn (ha pins s σ H _ I h) fun v s1 ⟨x, H1, I1, r1, q1⟩ => ho pins s1 σ H1 x v Q I1 r1 q1)
theorem opI {f : Value → Value → Sem Value} {C : Int → Int → Prop} {g : Int → Int → Int}
    (rule : ∀ (i j : Int) (t u : Tok) (s : Shared) (Q : Value → Shared → Prop) (E : Value → Shared → Prop), C i j → Q (.int (g i j) s.toks) { s with toks := s.toks + 1 } → wpAny (model X.prog X.w) X.A (f (.int i t) (.int j u)) Q E s) :
    OpR X f (rI C fun i j => .int (g i j)) := by
  intro pins s σ H x y v u Q I rx ry h
  obtain ⟨i, j, rfl, rfl, hc, q⟩ := h
  obtain ⟨t, rfl⟩ := rx
  obtain ⟨t', rfl⟩ := ry
  exact rule i j t t' s _ _ hc ⟨.int (g i j), H, I.tok _, ⟨_, rfl⟩, q⟩
theorem opI0 {f : Value → Value → Sem Value} {g : Int → Int → Int}
    (rule : ∀ (i j : Int) (t u : Tok) (s : Shared) (Q : Value → Shared → Prop) (E : Value → Shared → Prop), Q (.int (g i j) s.toks) { s with toks := s.toks + 1 } → wpAny (model X.prog X.w) X.A (f (.int i t) (.int j u)) Q E s) :
    OpR X f (rI0 fun i j => .int (g i j)) := by
  intro pins s σ H x y v u Q I rx ry h
  obtain ⟨i, j, rfl, rfl, q⟩ := h
  obtain ⟨t, rfl⟩ := rx
  obtain ⟨t', rfl⟩ := ry
  exact rule i j t t' s _ _ ⟨.int (g i j), H, I.tok _, ⟨_, rfl⟩, q⟩
theorem opB0 {f : Value → Value → Sem Value} {g : Int → Int → Bool}
    (rule : ∀ (i j : Int) (t u : Tok) (s : Shared) (Q : Value → Shared → Prop) (E : Value → Shared → Prop), Q (.bool (g i j)) s → wpAny (model X.prog X.w) X.A (f (.int i t) (.int j u)) Q E s) :
    OpR X f (rI0 fun i j => .bl (g i j)) := by
  intro pins s σ H x y v u Q I rx ry h
  obtain ⟨i, j, rfl, rfl, q⟩ := h
  obtain ⟨t, rfl⟩ := rx
  obtain ⟨t', rfl⟩ := ry
  exact rule i j t t' s _ _ ⟨.bl (g i j), H, I, rfl, q⟩
def CDiv (i j : Int) : Prop := 0 < j ∧ j < 1073741824
def CPow (i j : Int) : Prop := 0 ≤ j ∧ j ≤ 1000000 ∧ i.natAbs < 2 ^ 64
def CMul (i j : Int) : Prop := (-(2 ^ 64) < i ∧ i < 2 ^ 64) ∨ (-(2 ^ 64) < j ∧ j < 2 ^ 64)
theorem CMul.ok {i j : Int} (h : CMul i j) : IntMulOk i j := by
  rcases h with ⟨h1, h2⟩ | ⟨h1, h2⟩
  · exact .of_left (intBits_le_64 h1 h2)
  · exact .of_right (intBits_le_64 h1 h2)
theorem op_add : OpR X (binaryOp .Add) (rI0 fun i j => .int (i + j)) := opI0 fun _ _ _ _ _ _ _ q => add_int q
theorem op_sub : OpR X (binaryOp .Sub) (rI0 fun i j => .int (i - j)) := opI0 fun _ _ _ _ _ _ _ q => sub_int q
theorem op_mul : OpR X (binaryOp .Mult) (rI CMul fun i j => .int (i * j)) := opI fun _ _ _ _ _ _ _ hc q => mul_int q hc.ok
theorem op_fdiv : OpR X (binaryOp .FloorDiv) (rI CDiv fun i j => .int (i / j)) := opI fun i j _ _ _ _ _ hc q => by
  have h1 : (0 : Int) < j := hc.1
  have h2 : j < 1073741824 := hc.2
  exact floordiv_int (by omega) (by rw [Int.fdiv_eq_ediv_of_nonneg i (by omega)]; exact q) (.inl (PyProof.noPylong_small (by omega)))
theorem op_mod : OpR X (binaryOp .Mod) (rI (fun _ j => 0 < j) fun i j => .int (i % j)) := opI fun i j _ _ _ _ _ hc q => by
  have h1 : (0 : Int) < j := hc
  exact mod_int' (by omega) (by rw [Int.fmod_eq_emod_of_nonneg i (by omega)]; exact q)
theorem unI {f : Value → Sem Value} {g : Int → Int}
    (rule : ∀ (i : Int) (t : Tok) (s : Shared) (Q : Value → Shared → Prop) (E : Value → Shared → Prop), Q (.int (g i) s.toks) { s with toks := s.toks + 1 } → wpAny (model X.prog X.w) X.A (f (.int i t)) Q E s) :
    UnR X f (rU fun i => .int (g i)) := by
  intro pins s σ H x v Q I rx h
  obtain ⟨i, rfl, q⟩ := h
  obtain ⟨t, rfl⟩ := rx
  exact rule i t s _ _ ⟨.int (g i), H, I.tok _, ⟨_, rfl⟩, q⟩
theorem un_neg : UnR X (unaryOp .USub) (rU fun i => .int (-i)) := unI fun _ _ _ _ _ q => neg_int q
end
def scal : V → V → Bool
  | .non, .non => true | .non, .int _ => true | .int _, .non => true | .non, .bl _ => true | .bl _, .non => true | .non, .str _ => true | .str _, .non => true
  | .int _, .int _ => true | .bl _, .bl _ => true | .str _, .str _ => true | .byt _, .byt _ => true
  | .int _, .str _ => true | .str _, .int _ => true | .bl _, .str _ => true | .str _, .bl _ => true
  | _, _ => false
def rEq : R2 := fun x y H Q => scal x y = true ∧ Q (.bl (decide (x = y))) H
def rNe : R2 := fun x y H Q => scal x y = true ∧ Q (.bl (!decide (x = y))) H
theorem dec_int {i j : Int} : decide (V.int i = V.int j) = (i == j) := by
  rw [Bool.eq_iff_iff]
  simp
theorem dec_bl {i j : Bool} : decide (V.bl i = V.bl j) = (i == j) := by
  rw [Bool.eq_iff_iff]
  simp
theorem dec_str {i j : Str} : decide (V.str i = V.str j) = (i == j) := by
  rw [Bool.eq_iff_iff]
  simp
theorem dec_byt {i j : Array UInt8} : decide (V.byt i = V.byt j) = (i.toList == j.toList) := by
  rw [Bool.eq_iff_iff]
  cases i
  cases j
  simp
section
variable {X : Cx} {a b c : Expr} {ta tb tc : TE} {pos : Pos}
theorem fin_bl {pins : List (Addr × Obj)} {σ : St} {H : Hp} {s : Shared} {Q : VK} {k k' : Bool} (I : Inv X pins σ H s) (q : Q (.bl k) H) (e : k = k') : EP X pins σ Q (.bool k') s := by
  subst e
  exact ⟨.bl k, H, I, rfl, q⟩
theorem op_eq : OpR X (compareOp .Eq) rEq := by
  intro pins s σ H x y v u Q I rx ry h
  obtain ⟨hs, q⟩ := h
  cases x with
  | non =>
    cases rx
    cases y with
    | non => cases ry; exact PySem.EqNone.eq_none_none (fin_bl I q (by simp))
    | bl j => cases ry; exact PySem.EqNone.eq_none_bool (fin_bl I q (by simp))
    | int j => obtain ⟨t', rfl⟩ := ry; exact PySem.EqNone.eq_none_int (fin_bl I q (by simp))
    | str j => obtain ⟨t', rfl⟩ := ry; exact PySem.EqNone.eq_none_str (fin_bl I q (by simp))
    | _ => exact absurd (show false = true from hs) Bool.false_ne_true
  | bl i =>
    cases rx
    cases y with
    | non => cases ry; exact PySem.EqNone.eq_bool_none (fin_bl I q (by simp))
    | bl j => cases ry; exact eq_bool (fin_bl I q dec_bl)
    | str j => obtain ⟨t', rfl⟩ := ry; exact PySem.EqMixed.eq_bool_str (fin_bl I q (by simp))
    | _ => exact absurd (show false = true from hs) Bool.false_ne_true
  | int i =>
    obtain ⟨t, rfl⟩ := rx
    cases y with
    | non => cases ry; exact PySem.EqNone.eq_int_none (fin_bl I q (by simp))
    | int j => obtain ⟨t', rfl⟩ := ry; exact eq_int (fin_bl I q dec_int)
    | str j => obtain ⟨t', rfl⟩ := ry; exact PySem.EqMixed.eq_int_str (fin_bl I q (by simp))
    | _ => exact absurd (show false = true from hs) Bool.false_ne_true
  | str i =>
    obtain ⟨t, rfl⟩ := rx
    cases y with
    | non => cases ry; exact PySem.EqNone.eq_str_none (fin_bl I q (by simp))
    | bl j => cases ry; exact PySem.EqMixed.eq_str_bool (fin_bl I q (by simp))
    | int j => obtain ⟨t', rfl⟩ := ry; exact PySem.EqMixed.eq_str_int (fin_bl I q (by simp))
    | str j => obtain ⟨t', rfl⟩ := ry; exact eq_str (fin_bl I q dec_str)
    | _ => exact absurd (show false = true from hs) Bool.false_ne_true
  | byt i =>
    obtain ⟨t, rfl⟩ := rx
    cases y with
    | byt j => obtain ⟨t', rfl⟩ := ry; exact PySem.W.eq_bytes (fin_bl I q dec_byt)
    | _ => exact absurd (show false = true from hs) Bool.false_ne_true
  | _ => cases y <;> exact absurd (show false = true from hs) Bool.false_ne_true
theorem op_ne : OpR X (compareOp .NotEq) rNe := by
  intro pins s σ H x y v u Q I rx ry h
  obtain ⟨hs, q⟩ := h
  cases x with
  | non =>
    cases rx
    cases y with
    | non => cases ry; exact PySem.EqNone.ne_none_none (fin_bl I q (by simp))
    | bl j => cases ry; exact PySem.EqNone.ne_none_bool (fin_bl I q (by simp))
    | int j => obtain ⟨t', rfl⟩ := ry; exact PySem.EqNone.ne_none_int (fin_bl I q (by simp))
    | str j => obtain ⟨t', rfl⟩ := ry; exact PySem.EqNone.ne_none_str (fin_bl I q (by simp))
    | _ => exact absurd (show false = true from hs) Bool.false_ne_true
  | bl i =>
    cases rx
    cases y with
    | non => cases ry; exact PySem.EqNone.ne_bool_none (fin_bl I q (by simp))
    | bl j => cases ry; exact ne_bool (fin_bl I q (congrArg not dec_bl))
    | str j => obtain ⟨t', rfl⟩ := ry; exact PySem.EqMixed.ne_bool_str (fin_bl I q (by simp))
    | _ => exact absurd (show false = true from hs) Bool.false_ne_true
  | int i =>
    obtain ⟨t, rfl⟩ := rx
    cases y with
    | non => cases ry; exact PySem.EqNone.ne_int_none (fin_bl I q (by simp))
    | int j => obtain ⟨t', rfl⟩ := ry; exact ne_int (fin_bl I q (congrArg not dec_int))
    | str j => obtain ⟨t', rfl⟩ := ry; exact PySem.EqMixed.ne_int_str (fin_bl I q (by simp))
    | _ => exact absurd (show false = true from hs) Bool.false_ne_true
  | str i =>
    obtain ⟨t, rfl⟩ := rx
    cases y with
    | non => cases ry; exact PySem.EqNone.ne_str_none (fin_bl I q (by simp))
    | bl j => cases ry; exact PySem.EqMixed.ne_str_bool (fin_bl I q (by simp))
    | int j => obtain ⟨t', rfl⟩ := ry; exact PySem.EqMixed.ne_str_int (fin_bl I q (by simp))
    | str j => obtain ⟨t', rfl⟩ := ry; exact ne_str (fin_bl I q (congrArg not dec_str))
    | _ => exact absurd (show false = true from hs) Bool.false_ne_true
  | byt i =>
    obtain ⟨t, rfl⟩ := rx
    cases y with
    | byt j => obtain ⟨t', rfl⟩ := ry; exact PySem.W.ne_bytes (fin_bl I q (congrArg not dec_byt))
    | _ => exact absurd (show false = true from hs) Bool.false_ne_true
  | _ => cases y <;> exact absurd (show false = true from hs) Bool.false_ne_true
theorem op_lt : OpR X (compareOp .Lt) (rI0 fun i j => .bl (decide (i < j))) := opB0 fun _ _ _ _ _ _ _ q => lt_int q
theorem op_gt : OpR X (compareOp .Gt) (rI0 fun i j => .bl (decide (j < i))) := opB0 fun _ _ _ _ _ _ _ q => gt_int q
theorem op_in_str : OpR X (compareOp .In) (fun x y H Q => ∃ i j, x = .str i ∧ y = .str j ∧ Q (.bl (!(Builtin.Str.occurrences j i 0 j.length 1).isEmpty)) H) := by
  intro pins s σ H x y v u Q I rx ry h
  obtain ⟨i, j, rfl, rfl, q⟩ := h
  obtain ⟨t, rfl⟩ := rx
  obtain ⟨t', rfl⟩ := ry
  exact in_str (fin_bl I q rfl)
theorem nomark (b : Expr) {op : CmpOp} (h : op ≠ .In := by decide) (h2 : op ≠ .NotIn := by decide) : behindInMarks op b = false := by
  have e1 : (op == CmpOp.In) = false := by cases op <;> first | rfl | exact absurd rfl h
  have e2 : (op == CmpOp.NotIn) = false := by cases op <;> first | rfl | exact absurd rfl h2
  cases b <;> simp [behindInMarks, e1, e2]
theorem pe_cmpR {op : CmpOp} {r : R2} (ho : OpR X (compareOp op) r) (ha : PE X a ta) (hb : PE X b tb) (hm : behindInMarks op b = false) : PE X (.Compare a [op] [b] pos) (tOp r ta tb) := by
  intro pins s σ H Q I h
  exact wpAny_Compare1 (binT ha hb I h fun v u s2 x y H2 I2 rx ry q => ho pins s2 σ H2 x y v u Q I2 rx ry q) hm
def tTest (t : TE) : TT := fun σ H Q => t σ H fun x H' => ∃ k, x = .bl k ∧ Q k H'
theorem pt_cmpR {op : CmpOp} {r : R2} (ho : OpR X (compareOp op) r) (ha : PE X a ta) (hb : PE X b tb) (hm : behindInMarks op b = false) : PT X (.Compare a [op] [b] pos) (tTest (tOp r ta tb)) := by
  intro pins s σ H Q I h
  refine wpAny_isTrue_Compare1 (thn (ha pins s σ H _ I h) fun v s1 ⟨x, H1, I1, r1, q1⟩ => thn (hb pins s1 σ H1 _ I1 q1) fun u s2 ⟨y, H2, I2, r2, q2⟩ =>
    thn (ho pins s2 σ H2 x y v u _ I2 r1 r2 q2) fun c s3 ⟨z, H3, I3, r3, k, e, q3⟩ => ?_) hm
  subst e
  cases r3
  exact wpAny_truthy_bool ⟨H3, I3, q3⟩
theorem line63 : (sizeLine : Nat) < 2 ^ 63 := by rw [sizeLine_eq]; decide
theorem op_add_str : OpR X (binaryOp .Add) (fun x y H Q => ∃ i j, x = .str i ∧ y = .str j ∧ i.length + j.length ≤ sizeLine ∧ Q (.str (i ++ j)) H) := by
  intro pins s σ H x y v u Q I rx ry h
  obtain ⟨i, j, rfl, rfl, hz, q⟩ := h
  obtain ⟨t, rfl⟩ := rx
  obtain ⟨t', rfl⟩ := ry
  exact add_str (fun t' tk => ⟨.str (i ++ j), H, I.tok _, ⟨_, rfl⟩, q⟩) hz
theorem vals1 {x : V} {us : List Value} (r : Vals [x] us) : ∃ u, us = [u] ∧ RelV x u := by
  cases r with
  | cons r1 r2 => cases r2; exact ⟨_, rfl, r1⟩
theorem vals2 {x y : V} {us : List Value} (r : Vals [x, y] us) : ∃ u w', us = [u, w'] ∧ RelV x u ∧ RelV y w' := by
  cases r with
  | cons r1 r2 =>
    cases r2 with
    | cons r3 r4 => cases r4; exact ⟨_, _, rfl, r1, r3⟩
theorem call_min2 (hc : X.calm = true) : CallR X (.builtin "min") (fun xs H Q => ∃ i j, xs = [.int i, .int j] ∧ Q (.int (if j < i then j else i)) H) := by
  intro pins s σ H xs us Q I r h
  obtain ⟨i, j, rfl, q⟩ := h
  obtain ⟨u, w', rfl, ⟨t, rfl⟩, ⟨t', rfl⟩⟩ := vals2 r
  refine min_two_ints (I.ok.hd hc) fun h' tk k => ⟨_, H, I.kept k, ?_, q⟩
  by_cases hj : j < i
  · rw [if_pos hj, if_pos hj]; exact ⟨_, rfl⟩
  · rw [if_neg hj, if_neg hj]; exact ⟨_, rfl⟩
theorem call_int1 : CallR X (.type "int") (fun xs H Q => (∃ i, xs = [.int i] ∧ Q (.int i) H) ∨ ∃ k, xs = [.bl k] ∧ Q (.int (if k then 1 else 0)) H) := by
  intro pins s σ H xs us Q I r h
  rcases h with ⟨i, rfl, q⟩ | ⟨k, rfl, q⟩
  · obtain ⟨u, rfl, t, rfl⟩ := vals1 r
    exact call_int_int ⟨.int i, H, I, ⟨_, rfl⟩, q⟩
  · obtain ⟨u, rfl, r1⟩ := vals1 r
    cases r1
    exact call_int_bool ⟨.int (if k then 1 else 0), H, I.tok _, ⟨_, rfl⟩, q⟩
end
end L2
namespace L2
open PySem PySem.Spec PyProof.Rows
structure ObjM (h : Heap) (x dx C : Addr) (mA : Str → Option Value) : Prop where
  obj : h.get? x = some (PySem.W.instObj C dx)
  ns : h.Ns1 dx mA
  ne : dx ≠ x
theorem lookIn_ns {h : Heap} {dx : Addr} {mA : Str → Option Value} (n : h.Ns1 dx mA) : ∃ od, h.get? dx = some od ∧ ∀ name, PySem.W.lookIn name od = some (mA name) := by
  obtain ⟨o, es, ep, ho, hd, hk, _, hm⟩ := n
  refine ⟨o, ho, fun name => ?_⟩
  have e := hm name
  unfold nsFind findBy at e
  rw [← Array.find?_toList] at e
  unfold PySem.W.lookIn
  rw [hd]
  dsimp only
  split
  · rename_i y q
    rw [q] at e
    exact congrArg some e
  · rename_i q
    rw [q] at e
    have a : es.toList.any (·.refKey) = false := by
      rw [List.any_eq_false]
      intro y hy
      obtain ⟨z, t, hkey⟩ := hk y (Array.mem_toList_iff.mp hy)
      simp [DictEntry.refKey, hkey]
    have a' : ¬ es.toList.any (·.refKey) = true := by rw [a]; exact Bool.false_ne_true
    rw [if_neg a']
    exact congrArg some e
theorem ObjM.look {h : Heap} {x dx C : Addr} {mA : Str → Option Value} (I : ObjM h x dx C mA) : ∃ od, PySem.W.InstAt h x (PySem.W.instObj C dx) C (some od) ∧ ∀ name, PySem.W.lookIn name od = some (mA name) :=
  let ⟨od, ho, hl⟩ := lookIn_ns I.ns
  ⟨od, ⟨I.obj, rfl, rfl, ho⟩, hl⟩
section
variable {prog : Program} {w : World} {A : Around} {E : Value → Shared → Prop} {s : Shared} {K : PySem.W.Frag} {x dx C f : Addr} {mA : Str → Option Value} {name : Str} {v : Value}
end
theorem RelO.some_of {v : V} {o : Option Value} (r : RelO (some v) o) : ∃ u, o = some u ∧ RelV v u := by
  cases o with
  | none => exact (show False from r).elim
  | some u => exact ⟨u, rfl, r⟩
section
variable {P : Program} {w : World} {H H' : Hp} {h h' : Heap} {a C dx : Addr} {fs fs' : List (Str × V)}
theorem ins_get (hok : HOk P w H h) (e : H a = some (.ins C dx fs)) : ∃ mA, ObjM h a dx C mA ∧ (∀ f, RelO (fs.lookup f) (mA f)) ∧ PySem.Within mA (fs.map (·.1)) ∧ fs.length ≤ 1000 ∧ H dx = some (.own a) := by
  obtain ⟨d, z, ne, ob, mA, n, r, q⟩ := (show ObjOk P w H h a (.ins C dx fs) from hok a _ e)
  exact ⟨mA, ⟨ob, n, ne⟩, r, q, z, d⟩
end
structure Cls (K : PySem.W.Frag) (C : Addr) : Prop where
  pg : PySem.W.plainGet K C Str.empty = true
  hd : PySem.W.hasDictIn K C = true
  po : PySem.W.plainOver K C = true
  sa : PySem.W.findIn K (.ref C) "__setattr__" = some (some (.builtin "object.__setattr__"))
theorem Cls.get {K : PySem.W.Frag} {C : Addr} (c : Cls K C) (f : Str) : PySem.W.plainGet K C f = true := c.pg
section
variable {X : Cx} {pins : List (Addr × Obj)} {σ : St} {H : Hp} {s : Shared} {a C dx : Addr} {fs : List (Str × V)} {f : Str} {v : V} {A : Around} {E : Value → Shared → Prop}
end
section
variable {X : Cx} {o e value : Expr} {f : Str} {pos pos' tpos : Pos} {ta tv : TE}
end
section
variable {X : Cx} {pins : List (Addr × Obj)} {σ : St} {H : Hp} {s : Shared} {A : Around} {E : Value → Shared → Prop} {Q : Value → Shared → Prop} {c : Value} {b : Bool}
inductive TyOf (K : PySem.W.Frag) (H : Hp) : V → Value → Prop where
  | non : TyOf K H .non (.type "NoneType")
  | bl (x : Bool) : TyOf K H (.bl x) (.type "bool")
  | int (i : Int) : TyOf K H (.int i) (.type "int")
  | str (x : Str) : TyOf K H (.str x) (.type "str")
  | flt (x : UInt64) : TyOf K H (.flt x) (.type "float")
  | lst {a : Addr} {xs : List V} (e : H a = some (.lst xs)) : TyOf K H (.ref a) (.type "list")
  | frz {a : Addr} {o : Obj} {xs : List V} (e : H a = some (.frz o (.lst xs))) : TyOf K H (.ref a) (.type "list")
  | tup {a : Addr} {xs : List V} (e : H a = some (.tup xs)) : TyOf K H (.ref a) (.type "tuple")
  | dK {a : Addr} {kvs : List (Key × V)} (e : H a = some (.dK kvs)) : TyOf K H (.ref a) (.type "dict")
  | dT {a : Addr} {kvs : List (List Key × V)} (e : H a = some (.dT kvs)) : TyOf K H (.ref a) (.type "dict")
  | ins {a C dx : Addr} {fs : List (Str × V)} (e : H a = some (.ins C dx fs)) (cl : Cls K C) (ha : PySem.W.findIn K (.ref C) "__class__" = some (some (.builtin "object.__class__")))
      (hn : PySem.W.specialIn K (.builtin "object.__class__") "__get__" = some (some (.builtin "getset_descriptor.__get__"))) (htk : PySem.W.takesIn K (.builtin "object.__class__") = some true)
      (hm : PySem.W.mroIn K C (.type "object") = some true) : TyOf K H (.ref a) (.ref C)
theorem isinst_ok {x : V} {u t : Value} (I : Inv X pins σ H s) (rx : RelV x u) (ty : TyOf X.K H x t) (e : PySem.W.kitOne X.K t c = some b) (h : ∀ tk, Q (.bool b) { s with toks := tk }) :
    wpAny (model X.prog X.w) A (call (.builtin "isinstance") [u, c]) Q E s := by
  cases ty with
  | non => cases (show u = Value.none from rx); exact PySem.W.kia_one PySem.W.kitx_none I.kIn True.intro e (fun z => nomatch z) h
  | bl y => cases (show u = Value.bool y from rx); exact PySem.W.kia_one PySem.W.kitx_bool I.kIn True.intro e (fun z => nomatch z) h
  | int i => obtain ⟨t, q⟩ := (show ∃ t, u = Value.int i t from rx); cases q; exact PySem.W.kia_one PySem.W.kitx_int I.kIn True.intro e (fun z => nomatch z) h
  | str y => obtain ⟨t, q⟩ := (show ∃ t, u = Value.str y t from rx); cases q; exact PySem.W.kia_one PySem.W.kitx_str I.kIn True.intro e (fun z => nomatch z) h
  | flt y => obtain ⟨t, q⟩ := (show ∃ t, u = Value.float y t from rx); cases q; exact PySem.W.kia_one PySem.W.kitx_float I.kIn True.intro e (fun z => nomatch z) h
  | @lst a xs ea =>
    cases (show u = Value.ref a from rx)
    obtain ⟨_, _, n, _, h1⟩ := (show ObjOk X.prog X.w H s.heap a (.lst xs) from I.hok a _ ea)
    exact PySem.W.kia_one PySem.W.kitx_list I.kIn ⟨_, h1, rfl⟩ e (fun z => nomatch z) h
  | @frz a ob xs ea =>
    cases (show u = Value.ref a from rx)
    obtain ⟨_, _, _, n, _, h1⟩ := (show ObjOk X.prog X.w H s.heap a (.frz ob (.lst xs)) from I.hok a _ ea)
    exact PySem.W.kia_one PySem.W.kitx_list I.kIn ⟨_, h1, rfl⟩ e (fun z => nomatch z) h
  | @tup a xs ea =>
    cases (show u = Value.ref a from rx)
    obtain ⟨_, _, _, p⟩ := (show ObjOk X.prog X.w H s.heap a (.tup xs) from I.hok a _ ea)
    obtain ⟨o, h1, h2, _⟩ := p
    exact PySem.W.kia_one PySem.W.kitx_tuple I.kIn ⟨o, h1, h2⟩ e (fun z => nomatch z) h
  | @dK a kvs ea =>
    cases (show u = Value.ref a from rx)
    obtain ⟨_, _, vs, _, p⟩ := (show ObjOk X.prog X.w H s.heap a (.dK kvs) from I.hok a _ ea)
    obtain ⟨o, es, ep, h1, h2, _⟩ := p
    exact PySem.W.kia_one PySem.W.kitx_dict I.kIn ⟨o, h1, h2.1⟩ e (fun z => nomatch z) h
  | @dT a kvs ea =>
    cases (show u = Value.ref a from rx)
    obtain ⟨_, _, xs, _, o, es, ep, h1, h2, _⟩ := (show ObjOk X.prog X.w H s.heap a (.dT kvs) from I.hok a _ ea)
    exact PySem.W.kia_one PySem.W.kitx_dict I.kIn ⟨o, h1, h2.1⟩ e (fun z => nomatch z) h
  | @ins a C dx fs ea cl ha hn htk hm =>
    cases (show u = Value.ref a from rx)
    obtain ⟨mA, O, _⟩ := ins_get I.hok ea
    obtain ⟨od, J, _⟩ := O.look
    exact PySem.W.kia_one (PySem.W.kitx_own (cl.get _) cl.hd ha hn htk hm) I.kIn J e (fun z => nomatch z) h
end
end L2
namespace L2
open PySem PySem.Spec PyProof.Rows
structure Room (k : Nat) (A : Around) : Prop where
  hd : A.handled = none
  dp : A.depth + 3 * k + 5 < recursionLimit
  un : A.units + 16 * k + 200 < cLine
theorem Room.mono {j k : Nat} {A : Around} (r : Room k A) (h : j ≤ k) : Room j A := ⟨r.hd, by have := r.dp; omega, by have := r.un; omega⟩
theorem Room.deeper {k : Nat} {A : Around} (r : Room (k + 1) A) (env : Env) : Room k (A.deeper env) :=
  ⟨r.hd, by have := r.dp; show A.depth + 1 + 3 * k + 5 < _; omega, by have := r.un; show A.units + 3 + 16 * k + 200 < _; omega⟩
theorem Room.depth {k : Nat} {A : Around} (r : Room k A) : A.depth < recursionLimit := by have := r.dp; omega
theorem Room.units {k : Nat} {A : Around} (r : Room k A) : A.units + 64 < cLine := by have := r.un; omega
def tNil : TA := fun _ H Q => Q [] H
def tCons (ta : TE) (tr : TA) : TA := fun σ H Q => ta σ H fun x H1 => tr σ H1 fun xs H2 => Q (x :: xs) H2
section
variable {X : Cx} {e : Expr} {es : List Expr} {te : TE} {t : TA} {pos : Pos}
theorem pa_nil : PA X [] tNil := fun _ _ _ _ H Q I h => Calls.spliced_nil ⟨[], H, I, .nil, h⟩
theorem pa_cons (ha : PE X e te) (hr : PA X es t) (hs : starEach (e :: es) X.env = (false, eval e X.env) :: starEach es X.env := by rfl) : PA X (e :: es) (tCons te t) := by
  intro pos pins s σ H Q I h
  rw [hs]
  show wpAny _ _ (spliced ((false, eval e X.env) :: backTo pos (starEach es X.env))) _ _ s
  refine Calls.spliced_cons (thn (ha pins s σ H _ I h) fun u s1 ⟨x, H1, I1, r1, q1⟩ => ?_)
  exact thn (hr pos pins s1 σ H1 _ I1 q1) fun us s2 ⟨xs, H2, I2, r2, q2⟩ => ⟨x :: xs, H2, I2, .cons r1 r2, q2⟩
def tTup (t : TA) : TE := fun σ H Q => t σ H fun xs H1 => xs.length ≤ sizeLine ∧ ∀ p, H1 p = none → Q (.ref p) (upd H1 p (.tup xs))
def tLst (t : TA) : TE := fun σ H Q => t σ H fun xs H1 => xs.length ≤ sizeLine ∧ ∀ p, H1 p = none → Q (.ref p) (upd H1 p (.lst xs))
theorem pe_tup {x1} (h : PA X es t) : PE X (.Tuple es x1 pos) (tTup t) := by
  intro pins s σ H Q I hq
  refine wpAny_Tuple_spliced (thn (h pos pins s σ H _ I hq) fun us s1 ⟨xs, H1, I1, r, z, q⟩ => ⟨by rw [← r.length]; exact z, ?_⟩)
  have hf : H1 s1.heap.objs.size = none := I1.hok.fresh (Nat.le_refl _)
  refine ⟨.ref s1.heap.objs.size, upd H1 s1.heap.objs.size (.tup xs), I1.laid (t' := s1.toks) (fun b u e => Heap.get?_push_of_some _ e) (Nat.le_refl _) ?_, rfl, q _ hf⟩
  exact ⟨z, us, r, ⟨_, Heap.get?_push_size _ rfl, rfl, _, rfl⟩⟩
theorem pe_lst (h : PA X es t) : PE X (.List es pos) (tLst t) := by
  intro pins s σ H Q I hq
  refine wpAny_List_spliced (thn (h pos pins s σ H _ I hq) fun us s1 ⟨xs, H1, I1, r, z, q⟩ => ⟨by rw [← r.length]; exact z, ?_⟩)
  have hf : H1 s1.heap.objs.size = none := I1.hok.fresh (Nat.le_refl _)
  refine ⟨.ref s1.heap.objs.size, upd H1 s1.heap.objs.size (.lst xs), I1.laid (t' := s1.toks) (fun b u e => Heap.get?_push_of_some _ e) (Nat.le_refl _) ?_, rfl, q _ hf⟩
  exact ⟨z, us, 0, r, Heap.get?_push_size _ rfl⟩
end
abbrev Sp := List V → Hp → VK → XK → Prop
abbrev CXT := List Env → Hp → Shared → XK → Value → Shared → Prop
structure Env0 (P : Program) (w : World) (K : PySem.W.Frag) (mg : Str → Option Value) (base : Heap) (A : Around) (outer : List Env) (s : Shared) (H : Hp) : Prop where
  frames : A.frames = some outer
  mod : Mod K mg base
  bs : ∀ b o, base.get? b = some o → s.heap.get? b = some o ∧ H b = none
  bsz : base.objs.size ≤ s.heap.objs.size
  funs : s.heap.FunFrames base outer
  frf : ∀ b ∈ frs outer, H b = none
  hok : HOk P w H s.heap
  bare : AllBare s.gens
def CE (outer : List Env) (P : Program) (w : World) (H : Hp) (s : Shared) (Q : VK) (u : Value) (s' : Shared) : Prop :=
  ∃ v H', s'.os = s.os ∧ AllBare s'.gens ∧ Un (frs outer) [] H H' s.heap s'.heap ∧ HOk P w H' s'.heap ∧ RelV v u ∧ Q v H'
def CR (CX : CXT) (outer : List Env) (P : Program) (w : World) (H : Hp) (s : Shared) (Q : VK) (E : XK) (r : Result) (s' : Shared) : Prop :=
  match r with
  | .ok (.ret u) => CE outer P w H s Q u s'
  | .ok _ => False
  | .error e => CX outer H s E e s'
structure FnOk (P : Program) (w : World) (K : PySem.W.Frag) (mg : Str → Option Value) (base : Heap) (CX : CXT) (k : Nat) (f : Addr) (fd : FuncData) (ps : List Str) (sp : Sp) : Prop where
  len : ∀ vs H Q E, sp vs H Q E → vs.length = ps.length
  run : ∀ (A : Around) (outer : List Env) (s : Shared) (H : Hp) (args : Args) (us : List Value) (vs : List V) (Q : VK) (E : XK), Room k A → Env0 P w K mg base A outer s H → BindsTo s fd args (ps.zip us) → Vals vs us → sp vs H Q E →
    codeAny (model P w) A (.call (.ref f) args) (CR CX outer P w H s Q E) s
theorem FnOk.mono {P : Program} {w : World} {K : PySem.W.Frag} {mg : Str → Option Value} {base : Heap} {CX : CXT} {j k : Nat} {f : Addr} {fd : FuncData} {ps : List Str} {sp : Sp} (F : FnOk P w K mg base CX j f fd ps sp) (h : j ≤ k) :
    FnOk P w K mg base CX k f fd ps sp := ⟨F.len, fun A outer s H args us vs Q E hr => F.run A outer s H args us vs Q E (hr.mono h)⟩
section
variable {X : Cx} {pins : List (Addr × Obj)} {σ : St} {H : Hp} {s s' : Shared}
theorem Inv.env0 (I : Inv X pins σ H s) : Env0 X.prog X.w X.K X.mg X.base X.A X.stack s H :=
  ⟨I.ok.frames, I.ok.mod, I.bs, Nat.le_trans I.ok.bsz I.sz, I.stack, I.stkFree, I.hok, I.bare⟩
theorem Inv.after {Q : VK} {u : Value} (I : Inv X pins σ H s) (h : CE X.stack X.prog X.w H s Q u s') : EP X pins σ Q u s' := by
  obtain ⟨v, H', os, bare, un, hok, r, q⟩ := h
  obtain ⟨hh, g, d, t, os'⟩ := s'
  obtain rfl : os' = s.os := os
  exact ⟨v, H', I.call (h' := hh) (g' := g) (d' := d) (t' := t) (ch := []) un hok bare (fun b z => absurd z (by simp)), r, q⟩
end
def tCall (sp : Sp) (dvs : List V) (E : XK) (t : TA) : TE := fun σ H Q => t σ H fun vs H1 => sp (vs ++ dvs) H1 Q E
def tMake (C : Addr) (sp : Sp) (dvs : List V) (E : XK) (t : TA) : TE := fun σ H Q => t σ H fun vs H1 => ∀ x dx, H1 x = none → H1 dx = none → dx ≠ x →
  sp (.ref x :: (vs ++ dvs)) (upd (upd H1 dx (.own x)) x (.ins C dx [])) (fun v H2 => v = .non ∧ Q (.ref x) H2) E
def Binds (K : PySem.W.Frag) (fd : FuncData) (ps : List Str) (ds : List Value) : Prop :=
  ∀ (s : Shared) (us : List Value), K.In s.heap → (us ++ ds).length = ps.length → BindsTo s fd ⟨us, []⟩ (ps.zip (us ++ ds))
theorem Binds.all {K : PySem.W.Frag} {fd : FuncData} {ps : List Str} (h : ∀ us : List Value, us.length = ps.length → bindArgs fd ⟨us, []⟩ = pure (ps.zip us)) : Binds K fd ps [] := fun s us _ hl => by
  rw [List.append_nil] at hl ⊢
  exact .of_eq (h us hl)
def Passes (CX : CXT) (X : Cx) (E : XK) : Prop := ∀ (pins : List (Addr × Obj)) (σ : St) (H : Hp) (s : Shared) (e : Value) (s' : Shared), Inv X pins σ H s → CX X.stack H s E e s' → X.xe e s'
section
variable {X : Cx} {CX : CXT} {k : Nat} {f C : Addr} {fd : FuncData} {ps : List Str} {sp : Sp} {dvs : List V} {ds : List Value} {E : XK} {x m : Str} {p pos apos : Pos} {e o : Expr} {es : List Expr} {ta : TE} {t : TA}
theorem run_fn {pins : List (Addr × Obj)} {σ : St} {H : Hp} {s : Shared} {Q : VK} {us : List Value} {vs : List V} (F : FnOk X.prog X.w X.K X.mg X.base CX k f fd ps sp) (hr : Room k X.A) (hb : Binds X.K fd ps ds) (hd : Vals dvs ds) (hx : Passes CX X E)
    (I : Inv X pins σ H s) (r : Vals vs us) (h : sp (vs ++ dvs) H Q E) : wpAny (model X.prog X.w) X.A (call (.ref f) us) (EP X pins σ Q) X.xe s := by
  have r2 : Vals (vs ++ dvs) (us ++ ds) := r.append hd
  have hl : (us ++ ds).length = ps.length := by rw [← r2.length]; exact F.len _ _ _ _ h
  refine wpAny_call (codeAny_mono (F.run X.A X.stack s H ⟨us, []⟩ (us ++ ds) (vs ++ dvs) Q E hr I.env0 (hb s us I.kIn hl) r2 h) fun r s' hq => ?_)
  cases r with
  | error e => exact hx pins σ H s e s' I hq
  | ok fl =>
    cases fl with
    | ret u => exact I.after hq
    | next => exact False.elim hq
    | brk => exact False.elim hq
    | cont => exact False.elim hq
theorem pe_call (F : FnOk X.prog X.w X.K X.mg X.base CX k f fd ps sp) (hr : Room k X.A) (hg : Gl X x) (hm : X.mg x = some (.ref f)) (hk : PySem.W.keepIn X.K (.ref f) = true) (hb : Binds X.K fd ps ds) (hd : Vals dvs ds) (hx : Passes CX X E)
    (ha : PA X (e :: es) t) (hdb : (x == ("__debug__" : Str)) = false := by decide) (he : starEach (e :: es) X.env = (false, eval e X.env) :: starEach es X.env := by rfl) (hpl : (backTo pos (starEach es X.env)).any (·.1) = false := by rfl) :
    PE X (.Call (.Name x p) (e :: es) [] pos) (tCall sp dvs E t) := by
  intro pins s σ H Q I h
  refine wpAny_Call_Name_kw (ld_glob I hg hm ?_ hdb)
  refine PySem.W.callWith_K (h₀ := X.base) I.ok.mod.kin hk (thn (ha pos pins s σ H _ I h) fun us s1 ⟨vs, H1, I1, r, q⟩ => ⟨I1.kIn, ?_⟩) he hpl
  exact run_fn F hr hb hd hx I1 r q
end
section
variable {X : Cx} {CX : CXT} {k : Nat} {f C : Addr} {fd : FuncData} {ps ks : List Str} {sp : Sp} {E : XK} {x m : Str} {p pos apos kpos : Pos} {e o : Expr} {es : List Expr} {kws : List Keyword} {te ta : TE} {t tk : TA} {nm : Option Str}
variable {g : List Value → List Value → List Value} {gV : List V → List V → List V}
end
structure FnScope (N P : List Str) (sc : Scope) : Prop where
  kind : sc.kind = .function
  co : sc.isCoroutine = false
  gen : sc.isGenerator = false
  nd : N.Nodup
  pre : N.take P.length = P
  par : ∀ x ∈ P, sc.names.lookup x = some .local ∨ sc.names.lookup x = some .cell
  nofree : ∀ y ∈ sc.names, y.2 ≠ .free
theorem bindL_out {kindOf : Str → Option NameKind} {x : Str} : ∀ {binds : List (Str × Value)} {m : Str → Option Value}, (∀ v, (x, v) ∉ binds) → bindL kindOf binds m x = m x
  | [], _, _ => rfl
  | (n, v) :: r, m, h => by
    unfold bindL
    rw [bindL_out fun w hw => h w (List.mem_cons_of_mem _ hw)]
    split
    · have : x ≠ n := by rintro rfl; exact h v List.mem_cons_self
      simp [this]
    · rfl
theorem bindC_out {kindOf : Str → Option NameKind} {x : Str} : ∀ {binds : List (Str × Value)} {m : Str → Option Value}, (∀ v, (x, v) ∉ binds) → bindC kindOf binds m x = m x
  | [], _, _ => rfl
  | (n, v) :: r, m, h => by
    unfold bindC
    rw [bindC_out fun w hw => h w (List.mem_cons_of_mem _ hw)]
    split
    · rfl
    · have : x ≠ n := by rintro rfl; exact h v List.mem_cons_self
      simp [this]
theorem bindL_get {kindOf : Str → Option NameKind} {x : Str} {v : Value} : ∀ {P : List Str} {vs : List Value} {i : Nat} {m : Str → Option Value}, P.Nodup → P[i]? = some x → vs[i]? = some v → kindOf x = some .local →
    bindL kindOf (P.zip vs) m x = some v
  | [], _, _, _, _, h, _, _ => by simp at h
  | _ :: _, [], _, _, _, _, h, _ => by simp at h
  | p :: P, w :: vs, 0, m, nd, h1, h2, hk => by
    simp at h1 h2; subst h1; subst h2
    show bindL kindOf ((p, w) :: P.zip vs) m p = _
    unfold bindL
    rw [bindL_out fun v hv => (List.nodup_cons.mp nd).1 (List.of_mem_zip hv).1, if_pos hk]
    simp
  | p :: P, w :: vs, i + 1, m, nd, h1, h2, hk => by
    show bindL kindOf ((p, w) :: P.zip vs) m x = _
    unfold bindL
    exact bindL_get (i := i) (List.nodup_cons.mp nd).2 (by simpa using h1) (by simpa using h2) hk
theorem bindC_get {kindOf : Str → Option NameKind} {x : Str} {v : Value} : ∀ {P : List Str} {vs : List Value} {i : Nat} {m : Str → Option Value}, P.Nodup → P[i]? = some x → vs[i]? = some v → kindOf x ≠ some .local →
    bindC kindOf (P.zip vs) m x = some v
  | [], _, _, _, _, h, _, _ => by simp at h
  | _ :: _, [], _, _, _, _, h, _ => by simp at h
  | p :: P, w :: vs, 0, m, nd, h1, h2, hk => by
    simp at h1 h2; subst h1; subst h2
    show bindC kindOf ((p, w) :: P.zip vs) m p = _
    unfold bindC
    rw [bindC_out fun v hv => (List.nodup_cons.mp nd).1 (List.of_mem_zip hv).1, if_neg hk]
    simp
  | p :: P, w :: vs, i + 1, m, nd, h1, h2, hk => by
    show bindC kindOf ((p, w) :: P.zip vs) m x = _
    unfold bindC
    exact bindC_get (i := i) (List.nodup_cons.mp nd).2 (by simpa using h1) (by simpa using h2) hk
def start (N : List Str) (vs : List V) : St := vs.map some ++ List.replicate (N.length - vs.length) none
def cxOf (CX : CXT) (P : Program) (w : World) (K : PySem.W.Frag) (mg : Str → Option Value) (base : Heap) (N : List Str) (qual : Str) (scope : Scope) (f : Addr) (cd : Value) (A : Around) (outer : List Env) (s : Shared) (H : Hp) (E : XK) : Cx where
  prog := P
  w := w
  K := K
  mg := mg
  base := base
  A := A.deeper (envOfC qual scope s.heap.objs.size f cd)
  N := N
  s₀ := s
  H₀ := H
  env := envOfC qual scope s.heap.objs.size f cd
  outer := outer
  stack := envOfC qual scope s.heap.objs.size f cd :: outer
  ex := []
  calm := true
  fn := fun _ => true
  pn := []
  xe := fun e s' => wpAny (model P w) (A.deeper (envOfC qual scope s.heap.objs.size f cd)) (leaving (envOfC qual scope s.heap.objs.size f cd) e) (fun _ s'' => CX outer H s E e s'') (fun e' s'' => CX outer H s E e' s'') s'
theorem cell_has {sc : Scope} {n : Nat} {x : Str} (h : sc.names.lookup x = some .cell) : ∃ c, (cellsFrom n sc.names []).lookup x = some c := by
  have q := PySem.W.cellsFrom_some sc.names n [] (.inl h)
  exact Option.isSome_iff_exists.mp q
theorem inv_start {CX : CXT} {P : Program} {w : World} {K : PySem.W.Frag} {mg : Str → Option Value} {base : Heap} {N ps : List Str} {qual : Str} {scope : Scope} {f : Addr} {cd : Value} {A : Around} {outer : List Env} {s s1 : Shared} {H : Hp} {E : XK} {us : List Value} {vs : List V}
    (S : FnScope N ps scope) (hd : A.handled = none) (e0 : Env0 P w K mg base A outer s H) (hl : vs.length = ps.length) (r : Vals vs us)
    (x : InCallC s s.heap.objs.size (bindL (envOfC qual scope s.heap.objs.size f cd).kindOf (ps.zip us) fun _ => none) (cellsFrom (s.heap.objs.size + 1) scope.names []) (bindC (envOfC qual scope s.heap.objs.size f cd).kindOf (ps.zip us) fun _ => none) s1) :
    Inv (cxOf CX P w K mg base N qual scope f cd A outer s H E) [] (start N vs) H s1 := by
  have hpl : ps.length ≤ N.length := by have := congrArg List.length S.pre; rw [List.length_take] at this; omega
  obtain ⟨h1, tk, rfl, hk⟩ := x.done
  have noA : ∀ b : Addr, b ∉ (cxOf CX P w K mg base N qual scope f cd A outer s H E).ex := fun b z => absurd (show b ∈ ([] : List Addr) from z) (by simp)
  refine ⟨⟨e0.mod, S.kind, rfl, rfl, Nat.le_refl _, fun y z c h1 h2 => ?_, fun y hy => ?_, fun y c _ h => ?_, fun _ => hd, Around.frames_deeper e0.frames, .inr ⟨rfl, rfl⟩, fun b z => absurd z (noA b), e0.bs, e0.bsz, fun b _ _ => noA b, fun b z => absurd z (noA b), e0.funs, e0.frf⟩,
    rfl, e0.bare, Un.kept hk, ⟨_, x.toInCall.ns, fun i y v h1 h2 h3 => ?_⟩, fun y c h => ⟨_, x.cell y c h⟩, e0.hok.fresh (Nat.le_refl _), fun y c h => ?_, fun p hp => absurd (show p ∈ ([] : List (Addr × Obj)) from hp) (by simp), e0.hok.kept hk, ?_⟩
  · exact name_of_addr x.apart (PySem.mem_of_lookup h1) (PySem.mem_of_lookup h2)
  · have hy : scope.names.lookup y = some .cell ∨ scope.names.lookup y = some .free := hy
    rcases hy with hy | hy
    · exact cell_has hy
    · exact absurd rfl (S.nofree _ (PySem.mem_of_lookup hy))
  · exact Nat.le_of_lt (x.above y c (PySem.mem_of_lookup h))
  · have hi : i < vs.length := by
      unfold start at h2
      by_cases hi : i < vs.length
      · exact hi
      · rw [List.getElem?_append_right (by simpa using hi)] at h2
        rw [List.getElem?_replicate] at h2
        split at h2 <;> cases h2
    have ha : vs[i]? = some v := by
      unfold start at h2
      rw [List.getElem?_append_left (by simpa using hi), List.getElem?_map] at h2
      cases e : vs[i]? with
      | none => rw [e] at h2; cases h2
      | some a => rw [e] at h2; cases h2; rfl
    obtain ⟨u, hu, rv⟩ := r.get ha
    have hp : ps[i]? = some y := by
      rw [← S.pre, List.getElem?_take_of_lt (by omega)]; exact h1
    have ndP : ps.Nodup := by rw [← S.pre]; exact S.nd.sublist (List.take_sublist _ _)
    refine ⟨u, rv, ?_⟩
    rcases S.par y (List.mem_of_getElem? hp) with k | k
    · exact .inl ⟨k, bindL_get ndP hp hu k⟩
    · obtain ⟨c, e⟩ := cell_has (n := s.heap.objs.size + 1) k
      refine .inr ⟨.inl k, c, e, ?_⟩
      have q := x.cell y c e
      rw [bindC_get ndP hp hu (by show scope.names.lookup y ≠ _; rw [k]; decide)] at q
      exact q
  · exact e0.hok.fresh (Nat.le_of_lt (x.above y c (PySem.mem_of_lookup h)))
  · unfold start
    show _ = N.length
    rw [List.length_append, List.length_map, List.length_replicate]
    omega
theorem fn_of {CX : CXT} {P : Program} {w : World} {K : PySem.W.Frag} {mg : Str → Option Value} {base : Heap} {k : Nat} {f : Addr} {name qual : Str} {params : Arguments} {body : List Stmt} {scope : Scope} {dV kV doc pm cdv ct oc : Value} {an od : Option Addr}
    {osl : Array (Option Value)} {N ps : List Str} {sp : Sp} (lk : K.lookup f = some ⟨oc, od, .func (PySem.W.fnOf name qual params body scope dV kV doc pm an cdv ct), osl⟩) (hcd : PySem.W.codeIn K cdv qual = true) (S : FnScope N ps scope)
    (len : ∀ vs H Q E, sp vs H Q E → vs.length = ps.length)
    (hbody : ∀ (A : Around) (outer : List Env) (s : Shared) (H : Hp) (vs : List V) (Q : VK) (E : XK), Room k (A.deeper (envOfC qual scope s.heap.objs.size f cdv)) → sp vs H Q E →
      ∃ t, PSs (cxOf CX P w K mg base N qual scope f cdv A outer s H E) body t ∧ t { nx := fun _ H' => Q .non H', rt := Q } (start N vs) H) :
    FnOk P w K mg base CX (k + 1) f (PySem.W.fnOf name qual params body scope dV kV doc pm an cdv ct) ps sp := by
  refine ⟨len, fun A outer s H args us vs Q E hr e0 hb r hsp => ?_⟩
  have hl := len _ _ _ _ hsp
  have KX : K.In s.heap := e0.mod.kin.keeps fun b o e => (e0.bs b o e).1
  have lim : s.heap.NoLimit := e0.mod.nolimit.keeps fun b o e => (e0.bs b o e).1
  have hkind : ∀ y ∈ ps.zip us, scope.names.lookup y.1 = some .local ∨ (scope.names.lookup y.1 = some .cell ∧ ((cellsFrom (s.heap.objs.size + 1) scope.names []).lookup y.1).isSome = true) := fun ⟨n, v⟩ hy => by
    rcases S.par n (List.of_mem_zip hy).1 with q | q
    · exact .inl q
    · exact .inr ⟨q, PySem.W.cellsFrom_some _ _ _ (.inl q)⟩
  refine codeAny_call_function hr.depth (KX _ _ lk) rfl S.co S.gen rfl (PySem.W.codeRec_of KX hcd) (hb _ _ _ _ ?_)
  refine wpAny_newFunctionEnv_cells S.kind hkind fun env he s1 x => ?_
  subst he
  refine ⟨lim.keeps x.toInCall.keep, codeAny_func ?_⟩
  obtain ⟨t, ht, hq⟩ := hbody A outer s H vs Q E (hr.deeper _) hsp
  have I : Inv (cxOf CX P w K mg base N qual scope f cdv A outer s H E) [] (start N vs) H s1 := inv_start S hr.hd e0 hl r x
  refine wpAny_mono (ht [] s1 (start N vs) H _ I hq) (fun fl s' hs => ?_) fun e s' hs => hs
  have fin : ∀ {σ' : St} {H' : Hp} {v : V} {u : Value}, Inv (cxOf CX P w K mg base N qual scope f cdv A outer s H E) [] σ' H' s' → RelV v u → Q v H' → CE outer P w H s Q u s' :=
    fun {σ' H' v u} J rv q => ⟨v, H', J.os, J.bare, J.base, J.hok, rv, q⟩
  cases fl with
  | ret u =>
    obtain ⟨v, σ', H', J, rv, q⟩ := hs
    exact fin J rv q
  | next =>
    obtain ⟨σ', H', J, q⟩ := hs
    exact fin (v := V.non) (u := Value.none) J rfl q
  | brk =>
    obtain ⟨_, _, _, q⟩ := hs
    exact False.elim q
  | cont =>
    obtain ⟨_, _, _, q⟩ := hs
    exact False.elim q
end L2
namespace L2
open PySem PySem.Spec PyProof.Rows
section
variable {X : Cx} {x : Str} {p pos : Pos} {e : Expr} {es : List Expr} {t : TA} {id T : String} {r : List V → Hp → VK → Prop}
def tCB (r : List V → Hp → VK → Prop) (t : TA) : TE := fun σ H Q => t σ H fun vs H1 => r vs H1 Q
theorem pe_callB (hc : CallR X (.builtin id) r) (hg : Gl X x) (hm : X.mg x = none) (hv : bootBuiltins x = some (.builtin id)) (ha : PA X (e :: es) t) (hn : x ≠ "__name__" := by decide) (hdb : (x == ("__debug__" : Str)) = false := by decide)
    (he : starEach (e :: es) X.env = (false, eval e X.env) :: starEach es X.env := by rfl) (hpl : (backTo pos (starEach es X.env)).any (·.1) = false := by rfl) : PE X (.Call (.Name x p) (e :: es) [] pos) (tCB r t) := by
  intro pins s σ H Q I h
  refine wpAny_Call_Name_kw (ld_blt I hg hm hv ?_ hn hdb)
  exact PyProof.Rows.callWith_builtin1 (thn (ha pos pins s σ H _ I h) fun us s1 ⟨vs, H1, I1, r1, q1⟩ => hc pins s1 σ H1 vs us Q I1 r1 q1) he hpl
theorem pe_callTy (hc : CallR X (.type T) r) (hg : Gl X x) (hm : X.mg x = none) (hv : bootBuiltins x = some (.type T)) (ha : PA X (e :: es) t) (hn : x ≠ "__name__" := by decide) (hdb : (x == ("__debug__" : Str)) = false := by decide)
    (he : starEach (e :: es) X.env = (false, eval e X.env) :: starEach es X.env := by rfl) (hpl : (backTo pos (starEach es X.env)).any (·.1) = false := by rfl) : PE X (.Call (.Name x p) (e :: es) [] pos) (tCB r t) := by
  intro pins s σ H Q I h
  refine wpAny_Call_Name_kw (ld_blt I hg hm hv ?_ hn hdb)
  exact PyProof.Rows.callWith_type1 (thn (ha pos pins s σ H _ I h) fun us s1 ⟨vs, H1, I1, r1, q1⟩ => hc pins s1 σ H1 vs us Q I1 r1 q1) he hpl
end
end L2
namespace HT
open PySem PyProof.Rows
section
open PySem.SeqAt
open PySem.AutoSeq1 (wpAny_loadPart')
open PySem.MeetsSeq PySem.MeetsSeq2 PySem.MeetsSeq3
end
section
variable {prog : Program} {w : World} {A : Around} {E : Value → Shared → Prop} {s : Shared}
def sIx (n d : Nat) : Option Int → Nat
  | none => d
  | some v => if v < 0 then (v + (n : Int)).toNat else min v.toNat n
theorem sIx_nat (n d k : Nat) : sIx n d (some (k : Int)) = min k n := by
  show (if (k : Int) < 0 then ((k : Int) + (n : Int)).toNat else min (k : Int).toNat n) = min k n
  rw [if_neg (by omega), Int.toNat_natCast]
theorem sIx_le (n d : Nat) (hd : d ≤ n) (o : Option Int) : sIx n d o ≤ n := by
  cases o with
  | none => exact hd
  | some v =>
    show (if v < 0 then (v + (n : Int)).toNat else min v.toNat n) ≤ n
    by_cases hv : v < 0
    · rw [if_pos hv]; omega
    · rw [if_neg hv]; exact Nat.min_le_right _ _
theorem clip_eq (v : Int) (n d : Nat) : (if v < 0 then max (v + (n : Int)) 0 else min v (n : Int)) = ((sIx n d (some v) : Nat) : Int) := by
  show (if v < 0 then max (v + (n : Int)) 0 else min v (n : Int)) = (((if v < 0 then (v + (n : Int)).toNat else min v.toNat n) : Nat) : Int)
  by_cases hv : v < 0
  · simp only [if_pos hv]; omega
  · simp only [if_neg hv]; omega
theorem adjust_gen (lo hi : Option Int) (n : Nat) : Builtin.Slice.sliceAdjust lo hi 1 (n : Int) = (((sIx n 0 lo : Nat) : Int), ((sIx n n hi : Nat) : Int)) := by
  have h1 : ¬ ((1 : Int) < 0) := by omega
  unfold Builtin.Slice.sliceAdjust
  simp only [h1, if_false]
  refine Prod.ext ?_ ?_
  · cases lo with
    | none => rfl
    | some v => exact clip_eq v n 0
  · cases hi with
    | none => rfl
    | some v => exact clip_eq v n n
theorem places_gen (i j : Nat) : Builtin.Slice.slicePlaces (i : Int) (j : Int) 1 = j - i := by
  unfold Builtin.Slice.slicePlaces
  have h1 : (1 : Int) > 0 := by omega
  simp only [h1, if_true, Int.ediv_one]
  split <;> omega
theorem slicePart_ {v : Value} {o : Option Int} {Q : Option Int → Shared → Prop} (p : IsPart v o) (h : Q o s) : wpAny (model prog w) A (Builtin.Slice.slicePartIndex v) Q E s := by
  cases p with
  | none => exact slicePart_none h
  | int i t => exact slicePart_int h
theorem sliceApplied_gen {sl : Addr} {vl vu : Value} {lo hi : Option Int} {n : Nat} {Q : Int × Int × Nat → Shared → Prop} (hs : s.heap.IsSliceOf sl vl vu .none) (pl : IsPart vl lo) (pu : IsPart vu hi)
    (h : Q (((sIx n 0 lo : Nat) : Int), 1, sIx n n hi - sIx n 0 lo) s) : wpAny (model prog w) A (Builtin.Slice.sliceApplied (.ref sl) (pure (n : Int))) Q E s := by
  obtain ⟨os, hos, hcs, hds⟩ := id hs
  unfold Builtin.Slice.sliceApplied Builtin.Slice.sliceFields
  refine wpAny_bind (wpAny_bind (wpAny_field hos hds (x := vl) rfl (wpAny_bind (wpAny_field hos hds (x := vu) rfl (wpAny_bind (wpAny_field hos hds (x := .none) rfl (wpAny_pure ?_)))))))
  refine wpAny_bind (slicePart_none ?_)
  show wpAny _ _ (if ((1 : Int) == 0) = true then _ else _) _ _ s
  rw [if_neg (by decide)]
  refine wpAny_bind (slicePart_ pl (wpAny_bind (slicePart_ pu (wpAny_bind (wpAny_pure ?_)))))
  show wpAny _ _ (match Builtin.Slice.sliceAdjust lo hi 1 (n : Int) with | (lo, hi) => pure (lo, (1 : Int), Builtin.Slice.slicePlaces lo hi 1)) _ _ s
  rw [adjust_gen lo hi n]
  show wpAny _ _ (pure (((sIx n 0 lo : Nat) : Int), (1 : Int), Builtin.Slice.slicePlaces ((sIx n 0 lo : Nat) : Int) ((sIx n n hi : Nat) : Int) 1)) _ _ s
  rw [places_gen]
  exact wpAny_pure h
theorem pick_gen (xs : Array Value) (i k : Nat) : ((List.range k).filterMap fun (m : Nat) => xs[((i : Int) + (m : Int) * 1).toNat]?).toArray = ((xs.toList.drop i).take k).toArray := by
  have e : (fun (m : Nat) => xs[((i : Int) + (m : Int) * 1).toNat]?) = fun m => xs[i + m]? := by
    funext m
    have : ((i : Int) + (m : Int) * 1).toNat = i + m := by omega
    rw [this]
  rw [e]
  have := pick_run xs i k
  rw [List.filterMap_map] at this
  have e2 : ((fun x => xs[x]?) ∘ fun x => i + x) = fun m => xs[i + m]? := rfl
  rw [e2] at this
  rw [this]
theorem getItem_tuple_cut {t sl : Addr} {items : Array Value} {vl vu : Value} {lo hi : Option Int} {Q : Value → Shared → Prop} (ht : IsTup s.heap t items) (hs : s.heap.IsSliceOf sl vl vu .none) (pl : IsPart vl lo) (pu : IsPart vu hi)
    (hw : ¬ (sIx items.size 0 lo = 0 ∧ sIx items.size items.size hi = items.size))
    (h : Q (.ref s.heap.objs.size) { s with heap := s.heap.push { cls := .type "tuple", data := .seq ((items.toList.drop (sIx items.size 0 lo)).take (sIx items.size items.size hi - sIx items.size 0 lo)).toArray } })
    (hsz : items.size ≤ sizeLine) : wpAny (model prog w) A (getItem (.ref t) (.ref sl)) Q E s := by
  have htake : sizeOk (.seq ((items.toList.drop (sIx items.size 0 lo)).take (sIx items.size items.size hi - sIx items.size 0 lo)).toArray) := by
    show ((items.toList.drop (sIx items.size 0 lo)).take (sIx items.size items.size hi - sIx items.size 0 lo)).toArray.size ≤ sizeLine
    rw [List.size_toArray, List.length_take, List.length_drop, Array.length_toList]
    omega
  have hj : sIx items.size items.size hi ≤ items.size := sIx_le _ _ (Nat.le_refl _) hi
  obtain ⟨os, hos, hcs, hds⟩ := id hs
  have hTs : s.TypeIs (.ref sl) "slice" := ⟨os, hos, hcs⟩
  unfold getItem
  try with_reducible refine wpAny_holding ?_
  first | refine wpAny_bind (wpAny_pure ?_) | skip
  refine wpAny_bind (wpAny_sequenceKey ht.typeIs (by decide) ?_)
  refine wpAny_bind (wpAny_callSpecial?_slot (name := Str.ofString "__getitem__") ht.typeIs PyProof.Rows.slot_tuple_getitem
    (wpAny_call_entry PyProof.Rows.slot_tuple_getitem ht.typeIs entry_tuple_getitem ?_ (args_tuple_getitem _ _)))
  show wpAny _ _ (Builtin.Tuple.tupleItemsOf (.ref t) >>= _) _ _ s
  refine wpAny_bind (tupleItemsOf_ ht ?_)
  refine wpAny_bind (wpAny_typeOf hTs ?_)
  rw [if_pos (by decide)]
  refine wpAny_bind (sliceApplied_gen hs pl pu ?_)
  have hno : ¬ ((((sIx items.size 0 lo : Nat) : Int) == 0 && (1 : Int) == 1 && (sIx items.size items.size hi - sIx items.size 0 lo) == items.size) = true) := by
    intro q
    rw [Bool.and_eq_true, Bool.and_eq_true] at q
    have q1 : ((sIx items.size 0 lo : Nat) : Int) = 0 := eq_of_beq q.1.1
    have q2 : sIx items.size items.size hi - sIx items.size 0 lo = items.size := eq_of_beq q.2
    exact hw ⟨by omega, by omega⟩
  show wpAny _ _ (if (((sIx items.size 0 lo : Nat) : Int) == 0 && (1 : Int) == 1 && (sIx items.size items.size hi - sIx items.size 0 lo) == items.size) = true then _ else _) _ _ s
  rw [if_neg hno, pick_gen]
  first
    | exact wpAny_bind (m := Builtin.Tuple.tupleExact _) (wpAny_newObj_type (wpAny_pure ⟨_, rfl, wpAny_pure h⟩) htake)
    | exact wpAny_bind (m := Builtin.Tuple.tupleExact _) (wpAny_newObj_type (wpAny_bind (wpAny_pure (wpAny_pure ⟨_, rfl, wpAny_pure h⟩))) htake)
    | exact wpAny_bind (wpAny_bind (m := Builtin.Tuple.tupleExact _) (wpAny_newObj_type (wpAny_pure (wpAny_pure ⟨_, rfl, wpAny_pure h⟩)) htake))
    | exact wpAny_bind (wpAny_bind (m := Builtin.Tuple.tupleExact _) (wpAny_newObj_type (wpAny_pure ⟨_, rfl, wpAny_pure h⟩) htake))
end
end HT
namespace L2
open PySem PySem.Spec PyProof.Rows
abbrev TO := St → Hp → (Option Int → Hp → Prop) → Prop
def PO (X : Cx) (e : Option Expr) (t : TO) : Prop :=
  ∀ (pins : List (Addr × Obj)) (s : Shared) (σ : St) (H : Hp) (Q : Option Int → Hp → Prop), Inv X pins σ H s → t σ H Q →
    wpAny (model X.prog X.w) X.A (evalPart e X.env) (fun u s' => ∃ o H', Inv X pins σ H' s' ∧ IsPart u o ∧ Q o H') X.xe s
def tNoPart : TO := fun _ H Q => Q none H
def tPart (t : TE) : TO := fun σ H Q => t σ H fun x H1 => ∃ i, x = .int i ∧ Q (some i) H1
section
variable {X : Cx} {e : Expr} {te : TE} {lo hi : Option Expr} {tl th : TO} {pos p2 : Pos}
theorem po_none : PO X none tNoPart := by
  intro pins s σ H Q I h
  rw [evalPart_none]
  exact wpAny_pure ⟨none, H, I, .none, h⟩
theorem po_some (h : PE X e te) : PO X (some e) (tPart te) := by
  intro pins s σ H Q I hw
  rw [evalPart_some]
  refine thn (h pins s σ H _ I hw) fun u s1 ⟨x, H1, I1, r1, q1⟩ => ?_
  obtain ⟨i, rfl, q⟩ := q1
  obtain ⟨t, rfl⟩ := r1
  exact ⟨some i, H1, I1, .int i t, q⟩
def SlR (X : Cx) (r : V → Option Int → Option Int → Hp → VK → Prop) : Prop :=
  ∀ (pins : List (Addr × Obj)) (s : Shared) (σ : St) (H : Hp) (x : V) (v vl vu : Value) (lo hi : Option Int) (sl : Addr) (Q : VK), Inv X pins σ H s → RelV x v → s.heap.IsSliceOf sl vl vu .none → IsPart vl lo → IsPart vu hi → r x lo hi H Q →
    ∃ T id, typeLookup (.type T) "__getitem__" = pure (some (.builtin id)) ∧ s.TypeIs v T ∧ wpAny (model X.prog X.w) X.A (getItem v (.ref sl)) (EP X pins σ Q) X.xe s
def tSl (r : V → Option Int → Option Int → Hp → VK → Prop) (te : TE) (tl th : TO) : TE := fun σ H Q => te σ H fun x H1 => tl σ H1 fun l H2 => th σ H2 fun u H3 => r x l u H3 Q
theorem pe_slice {r : V → Option Int → Option Int → Hp → VK → Prop} (hr : SlR X r) (he : PE X e te) (hl : PO X lo tl) (hu : PO X hi th) : PE X (.Subscript e (.Slice lo hi none p2) pos) (tSl r te tl th) := by
  intro pins s σ H Q I h
  refine Subscript_ (thn (he pins s σ H _ I h) fun v s1 ⟨x, H1, I1, r1, q1⟩ => ?_)
  refine wpAny_Slice (thn (hl pins s1 σ H1 _ I1 q1) fun vl s2 ⟨l, H2, I2, pl, q2⟩ => thn (hu pins s2 σ H2 _ I2 q2) fun vu s3 ⟨u, H3, I3, pu, q3⟩ => ?_)
  rw [evalPart_none]
  refine wpAny_pure ?_
  have I4 : Inv X pins σ H3 { s3 with heap := s3.heap.push { cls := .type "slice", data := .fields #[vl, vu, .none] } } := I3.kept (t' := s3.toks) fun b ob q => Heap.get?_push_of_some _ q
  obtain ⟨T, id, hT, ht, hg⟩ := hr pins { s3 with heap := s3.heap.push { cls := .type "slice", data := .fields #[vl, vu, .none] } } σ H3 x v vl vu l u s3.heap.objs.size Q I4 r1 (Heap.IsSliceOf.new ..) pl pu q3
  show wpAny (model X.prog X.w) X.A (subscriptTail e (.Slice lo hi none p2) v (.ref s3.heap.objs.size)) (EP X pins σ Q) X.xe { s3 with heap := s3.heap.push { cls := .type "slice", data := .fields #[vl, vu, .none] } }
  exact tail_any (ops := [.ref s3.heap.objs.size, v]) ht hT hg (by with_unfolding_all rfl)
def cutV (xs : List V) (lo hi : Option Int) : List V := (xs.drop (HT.sIx xs.length 0 lo)).take (HT.sIx xs.length xs.length hi - HT.sIx xs.length 0 lo)
theorem cutV_length (xs : List V) (lo hi : Option Int) : (cutV xs lo hi).length ≤ xs.length := by
  unfold cutV
  rw [List.length_take, List.length_drop]
  omega
def rSlT (K : PySem.W.Frag) : V → Option Int → Option Int → Hp → VK → Prop := fun x lo hi H Q => ∃ a xs, x = .ref a ∧ SqT K H a xs ∧
  ¬ (HT.sIx xs.length 0 lo = 0 ∧ HT.sIx xs.length xs.length hi = xs.length) ∧ ∀ p, H p = none → Q (.ref p) (upd H p (.tup (cutV xs lo hi)))
theorem sl_tup : SlR X (rSlT X.K) := by
  intro pins s σ H x v vl vu lo hi sl Q I rx hs pl pu h
  obtain ⟨a, xs, rfl, hx, hw, q⟩ := h
  cases rx
  obtain ⟨its, r, ht, hz⟩ := I.tuple hx
  have hlen : its.toArray.size = xs.length := by rw [List.size_toArray]; exact r.length.symm
  refine ⟨"tuple", _, PyProof.Rows.slot_tuple_getitem.lookup, ht.typeIs, ?_⟩
  refine HT.getItem_tuple_cut ht hs pl pu (by rw [hlen]; exact hw) ?_ (by rw [hlen]; exact hz)
  rw [hlen]
  refine ⟨.ref s.heap.objs.size, _, I.laid (t' := s.toks) (o := .tup (cutV xs lo hi)) (fun b ob q => Heap.get?_push_of_some _ q) (Nat.le_refl _) ?_, rfl, q _ (I.hok.fresh (Nat.le_refl _))⟩
  exact ⟨Nat.le_trans (cutV_length xs lo hi) hz, _, (r.drop (HT.sIx xs.length 0 lo)).take (HT.sIx xs.length xs.length hi - HT.sIx xs.length 0 lo), IsTup.new _ _⟩
end
end L2
namespace L2
open PySem PySem.Spec PyProof.Rows
def ixN (n : Nat) (i : Int) : Option Nat := if 0 ≤ i then (if i < n then some i.toNat else none) else if -(n : Int) ≤ i then some (i + n).toNat else none
def atI {α : Type} (xs : List α) (i : Int) : Option α := (ixN xs.length i).bind fun j => xs[j]?
theorem ixN_seq {n : Nat} {i : Int} {j : Nat} (h : ixN n i = some j) : seqIndex? i n = some j ∧ j < n ∧ -(n : Int) ≤ i ∧ i < n := by
  unfold ixN at h
  by_cases h0 : 0 ≤ i
  · rw [if_pos h0] at h
    by_cases h1 : i < n
    · rw [if_pos h1] at h
      have e : i.toNat = j := Option.some.inj h
      exact ⟨by rw [seqIndex_of h0 h1, e], by omega, by omega, h1⟩
    · rw [if_neg h1] at h; cases h
  · rw [if_neg h0] at h
    by_cases h1 : -(n : Int) ≤ i
    · rw [if_pos h1] at h
      have e : (i + n).toNat = j := Option.some.inj h
      exact ⟨by rw [seqIndex_neg (by omega) h1, e], by omega, h1, by omega⟩
    · rw [if_neg h1] at h; cases h
theorem atI_get {α : Type} {xs : List α} {i : Int} {v : α} (h : atI xs i = some v) : ∃ j, seqIndex? i xs.length = some j ∧ xs[j]? = some v ∧ j < xs.length ∧ -(xs.length : Int) ≤ i ∧ i < xs.length := by
  unfold atI at h
  cases e : ixN xs.length i with
  | none => rw [e] at h; cases h
  | some j =>
    rw [e] at h
    obtain ⟨h1, h2, h3, h4⟩ := ixN_seq e
    exact ⟨j, h1, h, h2, h3, h4⟩
theorem atI_nat {α : Type} {xs : List α} {j : Nat} {v : α} (h : xs[j]? = some v) : atI xs (j : Int) = some v := by
  have hj : j < xs.length := (List.getElem?_eq_some_iff.mp h).1
  have e : ixN xs.length (j : Int) = some j := by
    unfold ixN
    rw [if_pos (by omega), if_pos (by omega)]; simp
  unfold atI; rw [e]; exact h
def PlainIx (b : Expr) : Prop := ∀ o i, subscripted b false o i = operate [o, i] (getItem o i)
def IxR (X : Cx) (r : R2) : Prop :=
  ∀ (value slice : Expr) (pins : List (Addr × Obj)) (s : Shared) (σ : St) (H : Hp) (x y : V) (v u : Value) (Q : VK), Inv X pins σ H s → RelV x v → RelV y u → r x y H Q →
    subscripted slice false v u = operate [v, u] (getItem v u) → wpAny (model X.prog X.w) X.A (subscriptTail value slice v u) (EP X pins σ Q) X.xe s
def MtR (X : Cx) (id : String) (r : V → List V → Hp → VK → Prop) : Prop :=
  ∀ (pins : List (Addr × Obj)) (s : Shared) (σ : St) (H : Hp) (x : V) (xs : List V) (v : Value) (us : List Value) (Q : VK), Inv X pins σ H s → RelV x v → Vals xs us → r x xs H Q →
    wpAny (model X.prog X.w) X.A (call (.builtin id) (v :: us)) (EP X pins σ Q) X.xe s
section
variable {X : Cx} {a b : Expr} {ta tb : TE} {pos : Pos}
theorem pe_ix {r : R2} (hr : IxR X r) (ha : PE X a ta) (hb : PE X b tb) (hs : PlainIx b) : PE X (.Subscript a b pos) (tOp r ta tb) := by
  intro pins s σ H Q I h
  exact Subscript_ (binT ha hb I h fun v u s2 x y H2 I2 rx ry q => hr a b pins s2 σ H2 x y v u Q I2 rx ry q (hs _ _))
def rIxL (K : PySem.W.Frag) : R2 := fun x y H Q => ∃ p xs i v, x = .ref p ∧ y = .int i ∧ SqL K H p xs ∧ atI xs i = some v ∧ Q v H
def rIxT (K : PySem.W.Frag) : R2 := fun x y H Q => ∃ p xs i v, x = .ref p ∧ y = .int i ∧ SqT K H p xs ∧ atI xs i = some v ∧ Q v H
def rIxS : R2 := fun x y H Q => ∃ z i c, x = .str z ∧ y = .int i ∧ z.length ≤ sizeLine ∧ atI z.cps.toList i = some c ∧ Q (.str ⟨#[c]⟩) H
theorem ix_list : IxR X (rIxL X.K) := by
  intro value slice pins s σ H x y v u Q I rx ry h hs
  obtain ⟨p, xs, i, z, rfl, rfl, hq, he, q⟩ := h
  cases rx
  obtain ⟨t, rfl⟩ := ry
  obtain ⟨its, r, pl, hz⟩ := I.list hq
  obtain ⟨j, h1, h2, h3, h4, h5⟩ := atI_get he
  obtain ⟨w, ew, rw'⟩ := r.get h2
  have hl := r.length
  have hn := line63
  have fin : EP X pins σ Q w s := ⟨z, H, I, rw', q⟩
  by_cases h0 : 0 ≤ i
  · have hj : i.toNat = j := by
      rw [seqIndex_of h0 h5] at h1
      exact Option.some.inj h1
    exact item_listR pl.isList h0 (by omega) (by rw [hj]; simpa using ew) fin hs
  · have hj : (i + (its.toArray.size : Int)).toNat = j := by
      rw [seqIndex_neg (by omega) h4] at h1
      rw [List.size_toArray, ← hl]
      exact Option.some.inj h1
    exact subscriptTail_builtinR (x := w) pl.isList.typeIs slot_list_getitem.lookup
      (wpAny_getItem_list_neg (Q := fun r s' => r = w ∧ EP X pins σ Q r s') pl.isList (by omega) (by rw [List.size_toArray] <;> omega) (by omega) (by rw [hj]; simpa using ew) ⟨rfl, fin⟩) hs
theorem ix_tup : IxR X (rIxT X.K) := by
  intro value slice pins s σ H x y v u Q I rx ry h hs
  obtain ⟨p, xs, i, z, rfl, rfl, hq, he, q⟩ := h
  cases rx
  obtain ⟨t, rfl⟩ := ry
  obtain ⟨its, r, pl, hz⟩ := I.tuple hq
  obtain ⟨j, h1, h2, h3, h4, h5⟩ := atI_get he
  obtain ⟨w, ew, rw'⟩ := r.get h2
  have hl := r.length
  have hn := line63
  have fin : EP X pins σ Q w s := ⟨z, H, I, rw', q⟩
  exact subscriptTail_builtinR (x := w) pl.typeIs slot_tuple_getitem.lookup
    (getItem_tuple (j := j) (Q := fun r s' => r = w ∧ EP X pins σ Q r s') pl (by omega) (by omega) (by rw [List.size_toArray, ← hl]; exact h1) (by simpa using ew) ⟨rfl, fin⟩) hs
theorem ix_str : IxR X rIxS := by
  intro value slice pins s σ H x y v u Q I rx ry h hs
  obtain ⟨z, i, c, rfl, rfl, hz, he, q⟩ := h
  obtain ⟨t, rfl⟩ := rx
  obtain ⟨t', rfl⟩ := ry
  obtain ⟨j, h1, h2, h3, h4, h5⟩ := atI_get he
  have hl : z.cps.toList.length = z.length := by simp [Str.length]
  rw [hl] at h1 h4 h5
  have hn := line63
  exact tail_any (typeIs_str s z t) slot_str_getitem.lookup (getItem_str (c := c) (by
    have e1 : decide (i < -(2 ^ 63 : Int)) = false := decide_eq_false (by omega)
    have e2 : decide (i ≥ 2 ^ 63) = false := decide_eq_false (by omega)
    rw [e1, e2, Bool.or_false]) (by rw [h1]; simpa using h2) ⟨.str ⟨#[c]⟩, H, I.tok _, ⟨_, rfl⟩, q⟩) hs
theorem slice_bounds (lo hi : Option Int) (n : Nat) : (sliceBounds lo hi none n).1 = ((HT.sIx n 0 lo : Nat) : Int) ∧ (sliceBounds lo hi none n).2.1 = ((HT.sIx n n hi : Nat) : Int) ∧ (sliceBounds lo hi none n).2.2 = 1 := by
  refine ⟨?_, ?_, rfl⟩
  · cases lo with
    | none => simp [sliceBounds, HT.sIx]
    | some i =>
      simp only [sliceBounds, HT.sIx, Option.getD_none, show (1 : Int) > 0 by decide, if_true]
      by_cases h : i < 0
      · simp only [h, if_true] <;> omega
      · simp only [h, if_false] <;> omega
  · cases hi with
    | none => simp [sliceBounds, HT.sIx]
    | some i =>
      simp only [sliceBounds, HT.sIx, Option.getD_none, show (1 : Int) > 0 by decide, if_true]
      by_cases h : i < 0
      · simp only [h, if_true] <;> omega
      · simp only [h, if_false] <;> omega
theorem slicePick_cut (its : List Value) (lo hi : Option Int) : slicePick its.toArray lo hi none = ((its.drop (HT.sIx its.length 0 lo)).take (HT.sIx its.length its.length hi - HT.sIx its.length 0 lo)).toArray := by
  obtain ⟨h1, h2, h3⟩ := slice_bounds lo hi its.toArray.size
  unfold slicePick
  rw [h1, h2, h3]
  simp only [sliceRange_one, pick_run, List.size_toArray] <;> rfl
def rSlL (K : PySem.W.Frag) : V → Option Int → Option Int → Hp → VK → Prop := fun x lo hi H Q => ∃ a xs, x = .ref a ∧ SqL K H a xs ∧ ∀ p, H p = none → Q (.ref p) (upd H p (.lst (cutV xs lo hi)))
theorem sl_list : SlR X (rSlL X.K) := by
  intro pins s σ H x v vl vu lo hi sl Q I rx hs pl pu h
  obtain ⟨a, xs, rfl, hx, q⟩ := h
  cases rx
  obtain ⟨its, r, ht, hz⟩ := I.list hx
  have hlen := r.length
  refine ⟨"list", _, slot_list_getitem.lookup, ht.isList.typeIs, ?_⟩
  refine wpAny_getItem_list_slice ht.isList hs pl pu .none (by simp) ?_ (by rw [List.size_toArray] <;> omega)
  rw [slicePick_cut, ← hlen]
  refine ⟨.ref s.heap.objs.size, _, I.laid (t' := s.toks) (o := .lst (cutV xs lo hi)) (fun b ob q => Heap.get?_push_of_some _ q) (Nat.le_refl _) ?_, rfl, q _ (I.hok.fresh (Nat.le_refl _))⟩
  exact ⟨Nat.le_trans (cutV_length xs lo hi) hz, _, 0, (r.drop (HT.sIx xs.length 0 lo)).take (HT.sIx xs.length xs.length hi - HT.sIx xs.length 0 lo), Heap.get?_push_size _ rfl⟩
def flatV : V → Bool
  | .non => true
  | .bl _ => true
  | .int _ => true
  | .str _ => true
  | _ => false
def eqV : V → V → Bool
  | .non, .non => true
  | .bl a, .bl b => a == b
  | .bl a, .int b => (if a then 1 else 0) == b
  | .int a, .bl b => a == (if b then 1 else 0)
  | .int a, .int b => a == b
  | .str a, .str b => a == b
  | _, _ => false
theorem eqAt_V {A : Around} {s : Shared} {y x : V} {u v : Value} (ry : RelV y u) (rx : RelV x v) (fy : flatV y = true) (fx : flatV x = true) : SeqAt.EqAt A s u v (eqV y x) := by
  cases y with
  | non =>
    cases ry
    cases x with
    | non => cases rx; exact SeqAt.EqAt.same _
    | bl b => cases rx; exact SeqAt.EqAt.none_bool b
    | int b => obtain ⟨t, rfl⟩ := rx; exact SeqAt.EqAt.none_int b t
    | str b => obtain ⟨t, rfl⟩ := rx; exact SeqAt.EqAt.none_str b t
    | _ => exact absurd (show false = true from fx) Bool.false_ne_true
  | bl a =>
    cases ry
    cases x with
    | non => cases rx; exact SeqAt.EqAt.bool_none a
    | bl b => cases rx; exact SeqAt.EqAt.bool_bool a b
    | int b => obtain ⟨t, rfl⟩ := rx; exact SeqAt.EqAt.bool_int a b t
    | str b => obtain ⟨t, rfl⟩ := rx; exact SeqAt.EqAt.bool_str a b t
    | _ => exact absurd (show false = true from fx) Bool.false_ne_true
  | int a =>
    obtain ⟨t', rfl⟩ := ry
    cases x with
    | non => cases rx; exact SeqAt.EqAt.int_none a t'
    | bl b => cases rx; exact SeqAt.EqAt.int_bool a t' b
    | int b => obtain ⟨t, rfl⟩ := rx; exact SeqAt.EqAt.int_int a t' b t
    | str b => obtain ⟨t, rfl⟩ := rx; exact SeqAt.EqAt.int_str a t' b t
    | _ => exact absurd (show false = true from fx) Bool.false_ne_true
  | str a =>
    obtain ⟨t', rfl⟩ := ry
    cases x with
    | non => cases rx; exact SeqAt.EqAt.str_none a t'
    | bl b => cases rx; exact SeqAt.EqAt.str_bool a t' b
    | int b => obtain ⟨t, rfl⟩ := rx; exact SeqAt.EqAt.str_int a t' b t
    | str b => obtain ⟨t, rfl⟩ := rx; exact SeqAt.EqAt.str_str a t' b t
    | _ => exact absurd (show false = true from fx) Bool.false_ne_true
  | _ => exact absurd (show false = true from fy) Bool.false_ne_true
def eqU (x : V) (u : Value) : Bool := match u with
  | .none => eqV .non x
  | .bool b => eqV (.bl b) x
  | .int i _ => eqV (.int i) x
  | .str z _ => eqV (.str z) x
  | _ => false
theorem eqU_of {x y : V} {u : Value} (r : RelV y u) (f : flatV y = true) : eqU x u = eqV y x := by
  cases y with
  | non => cases r; rfl
  | bl b => cases r; rfl
  | int i => obtain ⟨t, rfl⟩ := r; rfl
  | str z => obtain ⟨t, rfl⟩ := r; rfl
  | _ => exact absurd (show false = true from f) Bool.false_ne_true
theorem any_eqU {x : V} : ∀ {xs : List V} {us : List Value}, Vals xs us → xs.all flatV = true → us.any (eqU x) = xs.any fun y => eqV y x
  | _, _, .nil, _ => rfl
  | y :: xs, u :: us, .cons r t, f => by
    rw [List.all_cons, Bool.and_eq_true] at f
    rw [List.any_cons, List.any_cons, eqU_of r f.1, any_eqU t f.2]
theorem mem_eqAt {A : Around} {s : Shared} {x : V} {v : Value} (rx : RelV x v) (fx : flatV x = true) : ∀ {xs : List V} {us : List Value}, Vals xs us → xs.all flatV = true → ∀ u ∈ us, SeqAt.EqAt A s u v (eqU x u)
  | _, _, .nil, _ => fun u hu => by cases hu
  | y :: xs, u :: us, .cons r t, f => fun u' hu => by
    rw [List.all_cons, Bool.and_eq_true] at f
    rcases List.mem_cons.mp hu with rfl | hu
    · rw [eqU_of r f.1]; exact eqAt_V r rx f.1 fx
    · exact mem_eqAt rx fx t f.2 u' hu
def inV (x : V) (xs : List V) : Bool := xs.any fun y => eqV y x
def rIn (K : PySem.W.Frag) (neg : Bool) : R2 := fun x y H Q => ∃ p xs, y = .ref p ∧ (SqL K H p xs ∨ SqT K H p xs) ∧ flatV x = true ∧ xs.all flatV = true ∧ Q (.bl (if neg then !inV x xs else inV x xs)) H
theorem op_in_seq : OpR X (compareOp .In) (rIn X.K false) := by
  intro pins s σ H x y v u Q I rx ry h
  obtain ⟨p, xs, rfl, hq, fx, fs, q⟩ := h
  cases ry
  rcases hq with hq | hq
  · obtain ⟨its, r, pl, hz⟩ := I.list hq
    refine SeqAt.in_listAt (eqU x) pl.isList (fun w hw => mem_eqAt rx fx r fs w (by simpa using hw)) ⟨.bl _, H, I, rfl, ?_⟩
    rw [show its.toArray.any (eqU x) = its.any (eqU x) by simp, any_eqU r fs]
    exact q
  · obtain ⟨its, r, pl, hz⟩ := I.tuple hq
    refine SeqAt.in_tupleAt (eqU x) pl (fun w hw => mem_eqAt rx fx r fs w (by simpa using hw)) ⟨.bl _, H, I, rfl, ?_⟩
    rw [show its.toArray.any (eqU x) = its.any (eqU x) by simp, any_eqU r fs]
    exact q
theorem op_notIn_seq : OpR X (compareOp .NotIn) (rIn X.K true) := by
  intro pins s σ H x y v u Q I rx ry h
  obtain ⟨p, xs, rfl, hq, fx, fs, q⟩ := h
  cases ry
  rcases hq with hq | hq
  · obtain ⟨its, r, pl, hz⟩ := I.list hq
    refine SeqAt.notIn_listAt (eqU x) pl.isList (fun w hw => mem_eqAt rx fx r fs w (by simpa using hw)) ⟨.bl _, H, I, rfl, ?_⟩
    rw [show its.toArray.any (eqU x) = its.any (eqU x) by simp, any_eqU r fs]
    exact q
  · obtain ⟨its, r, pl, hz⟩ := I.tuple hq
    refine SeqAt.notIn_tupleAt (eqU x) pl (fun w hw => mem_eqAt rx fx r fs w (by simpa using hw)) ⟨.bl _, H, I, rfl, ?_⟩
    rw [show its.toArray.any (eqU x) = its.any (eqU x) by simp, any_eqU r fs]
    exact q
theorem call_len_seq : CallR X (.builtin "len") (fun xs H Q => ∃ p ys, xs = [.ref p] ∧ (SqL X.K H p ys ∨ SqT X.K H p ys) ∧ Q (.int ys.length) H) := by
  intro pins s σ H xs us Q I r h
  obtain ⟨p, ys, rfl, hq, q⟩ := h
  obtain ⟨u, rfl, rx⟩ := vals1 r
  cases rx
  have hn := line63
  rcases hq with hq | hq
  · obtain ⟨its, r', pl, hz⟩ := I.list hq
    have hlen := r'.length
    exact Calls.call_len_list pl.isList (by simp only [List.size_toArray] <;> omega) ⟨.int ys.length, H, I.tok _, ⟨s.toks + 1, by rw [List.size_toArray, hlen]⟩, q⟩
  · obtain ⟨its, r', pl, hz⟩ := I.tuple hq
    have hlen := r'.length
    exact len_tuple pl (by simp only [List.size_toArray] <;> omega) ⟨.int ys.length, H, I.tok _, ⟨s.toks + 1, by rw [List.size_toArray, hlen]⟩, q⟩
theorem call_len_str : CallR X (.builtin "len") (fun xs H Q => ∃ z, xs = [.str z] ∧ z.length ≤ sizeLine ∧ Q (.int z.length) H) := by
  intro pins s σ H xs us Q I r h
  obtain ⟨z, rfl, hz, q⟩ := h
  obtain ⟨u, rfl, t, rfl⟩ := vals1 r
  have hn := line63
  exact len_str (by omega) ⟨.int z.length, H, I.tok _, ⟨_, rfl⟩, q⟩
theorem call_list_of : CallR X (.type "list") (fun xs H Q => ∃ p ys, xs = [.ref p] ∧ (SqL X.K H p ys ∨ SqT X.K H p ys) ∧ ∀ l, H l = none → Q (.ref l) (upd H l (.lst ys))) := by
  intro pins s σ H xs us Q I r h
  obtain ⟨p, ys, rfl, hq, q⟩ := h
  obtain ⟨u, rfl, rx⟩ := vals1 r
  cases rx
  have fin : ∀ (its : List Value), Vals ys its → ys.length ≤ sizeLine → ∀ (h' : Heap) (c' : Nat), (∀ b o', s.heap.get? b = some o' → h'.get? b = some o') →
      h'.get? s.heap.objs.size = some { cls := .type "list", dict := none, data := .seq its.toArray c', slots := #[] } → EP X pins σ Q (.ref s.heap.objs.size) { s with heap := h' } := fun its r' hz h' c' kp e =>
    ⟨.ref s.heap.objs.size, _, I.laid (t' := s.toks) kp (Nat.le_refl _) (show ObjOk X.prog X.w _ h' _ (.lst ys) from ⟨hz, its, c', r', e⟩), rfl, q _ (I.hok.fresh (Nat.le_refl _))⟩
  rcases hq with hq | hq
  · obtain ⟨its, r', pl, hz⟩ := I.list hq
    have hlen := r'.length
    obtain ⟨o, ho, hc, n, hd⟩ := pl.isList
    exact call_list_seq p (.inl rfl) ho hc hd (fun h' c' kp e => fin its r' hz h' c' kp e) (by simp only [List.size_toArray] <;> omega)
  · obtain ⟨its, r', pl, hz⟩ := I.tuple hq
    have hlen := r'.length
    obtain ⟨o, ho, hc, n, hd⟩ := pl
    exact call_list_seq p (.inr rfl) ho hc hd (fun h' c' kp e => fin its r' hz h' c' kp e) (by simp only [List.size_toArray] <;> omega)
def tyV (K : PySem.W.Frag) (T : String) (x : V) (H : Hp) : Prop := match x with
  | .str _ => T = "str"
  | .int _ => T = "int"
  | .ref p => (T = "list" ∧ ∃ xs, SqL K H p xs) ∨ (T = "tuple" ∧ ∃ o, K.lookup p = some o ∧ o.cls = .type "tuple" ∧ o.dict = none) ∨
      (T = "dict" ∧ ((∃ kvs, H p = some (.dK kvs)) ∨ ∃ kvs, H p = some (.dT kvs))) ∨ (T = "set" ∧ ∃ S n, H p = some (.set S n))
  | _ => False
theorem tyV_is {pins : List (Addr × Obj)} {σ : St} {H : Hp} {s : Shared} {T : String} {x : V} {v : Value} (I : Inv X pins σ H s) (r : RelV x v) (ty : tyV X.K T x H) :
    s.TypeIs v T ∧ ∀ a, v = .ref a → ∃ ob, s.heap.get? a = some ob ∧ ob.dict = none := by
  cases x with
  | str z =>
    obtain ⟨t, rfl⟩ := r
    cases (show T = "str" from ty)
    exact ⟨typeIs_str s z t, fun _ e => nomatch e⟩
  | int i =>
    obtain ⟨t, rfl⟩ := r
    cases (show T = "int" from ty)
    exact ⟨typeIs_int s i t, fun _ e => nomatch e⟩
  | ref p =>
    cases r
    rcases ty with ⟨rfl, xs, hq⟩ | ⟨rfl, o, hk, hc, hd⟩ | ⟨rfl, hk⟩ | ⟨rfl, S, n, hk⟩
    · obtain ⟨its, _, pl, _⟩ := I.list hq
      refine ⟨pl.isList.typeIs, fun a e => ?_⟩
      cases e
      obtain ⟨o, n, e, c, hd, _⟩ := pl
      exact ⟨o, e, hd⟩
    · refine ⟨⟨o, I.kIn p o hk, hc⟩, fun a e => ?_⟩
      cases e
      exact ⟨o, I.kIn _ o hk, hd⟩
    · have z : ∃ o, s.heap.get? p = some o ∧ o.ExactDict := by
        rcases hk with ⟨kvs, hk⟩ | ⟨kvs, hk⟩
        · obtain ⟨_, _, _, _, o, _, _, e, ex, _⟩ := I.hok p _ hk
          exact ⟨o, e, ex⟩
        · obtain ⟨_, _, _, _, o, _, _, e, ex, _⟩ := I.hok p _ hk
          exact ⟨o, e, ex⟩
      obtain ⟨o, e, ex⟩ := z
      refine ⟨⟨o, e, ex.1⟩, fun a e2 => ?_⟩
      cases e2
      exact ⟨o, e, ex.2.1⟩
    · obtain ⟨o, _, _, _, e, ex, _⟩ := I.hok p _ hk
      refine ⟨⟨o, e, ex.1⟩, fun a e2 => ?_⟩
      cases e2
      exact ⟨o, e, ex.2.1⟩
  | _ => exact False.elim ty
def tBM0 (K : PySem.W.Frag) (T : String) (r : V → List V → Hp → VK → Prop) (to : TE) : TE := fun σ H Q => to σ H fun x H1 => tyV K T x H1 ∧ r x [] H1 Q
def tBM (K : PySem.W.Frag) (T : String) (r : V → List V → Hp → VK → Prop) (to : TE) (t : TA) : TE := fun σ H Q => to σ H fun x H1 => tyV K T x H1 ∧ t σ H1 fun xs H2 => r x xs H2 Q
variable {o e : Expr} {es : List Expr} {to : TE} {t : TA} {name : Str} {apos cpos : Pos} {T id : String} {r : V → List V → Hp → VK → Prop}
theorem pe_bm0 (pa : PlainAttrs T) (slot : Slot T name id) (hty : typeOf (.builtin id) = pure (.type "method_descriptor")) (hm : MtR X id r) (ho : PE X o to)
    (hbase : attributeBase o name X.env (eval o X.env) = eval o X.env := by rfl) (hline : (apos.endLine == cpos.line) = true := by rfl) : PE X (.Call (.Attribute o name apos) [] [] cpos) (tBM0 X.K T r to) := by
  intro pins s σ H Q I h
  refine wpAny_Call_method0_late hbase hline (thn (ho pins s σ H _ I h) fun v s1 ⟨x, H1, I1, r1, ty, q1⟩ => ?_)
  obtain ⟨h1, h2⟩ := tyV_is I1 r1 ty
  exact ⟨T, id, pa, slot, hty, h1, h2, Calls.callWith_builtin rfl (PySem.evalArgs_none (hm pins s1 σ H1 x [] v [] Q I1 r1 .nil q1))⟩
theorem pe_bm (pa : PlainAttrs T) (slot : Slot T name id) (hty : typeOf (.builtin id) = pure (.type "method_descriptor")) (hm : MtR X id r) (ho : PE X o to) (ha : PA X (e :: es) t)
    (hbase : attributeBase o name X.env (eval o X.env) = eval o X.env := by rfl)
    (hfew : ((backTo cpos (starEach (e :: es) X.env)).all (fun x => !x.1) && (backToKw cpos (keywordEach [] X.env)).all (fun x => x.1.isSome)
      && decide ((e :: es).length + ([] : List Keyword).length + (if ([] : List Keyword).isEmpty then 0 else 1) < 30)) = true := by rfl)
    (hline : (apos.endLine == cpos.line) = true := by rfl) (hs : starEach (e :: es) X.env = (false, eval e X.env) :: starEach es X.env := by rfl) (hplain : (backTo cpos (starEach es X.env)).any (·.1) = false := by rfl) :
    PE X (.Call (.Attribute o name apos) (e :: es) [] cpos) (tBM X.K T r to t) := by
  intro pins s σ H Q I h
  refine wpAny_Call_method_late hbase hfew hline rfl (thn (ho pins s σ H _ I h) fun v s1 ⟨x, H1, I1, r1, ty, q1⟩ => ?_)
  obtain ⟨h1, h2⟩ := tyV_is I1 r1 ty
  refine ⟨T, id, pa, slot, hty, h1, h2, ?_⟩
  have hA := ha cpos pins s1 σ H1 _ I1 q1
  rw [hs] at hA ⊢
  refine Calls.callWith_builtin (by show (false || (backTo cpos (starEach es X.env)).any (·.1)) = false; rw [hplain] <;> rfl) (Calls.evalArgs_plain ?_)
  exact thn hA fun us s2 ⟨vs, H2, I2, r2, q2⟩ => hm pins s2 σ H2 x vs v us Q I2 r1 r2 q2
/- xs.append(e), list.index on a module's tuple .. are MtR facts of 06m -/
end
end L2
namespace L2
open PySem PySem.Spec PyProof.Rows
def MtM (X : Cx) (id : String) (r : V → List V → Hp → VK → Prop) : Prop :=
  ∀ (pins : List (Addr × Obj)) (s : Shared) (σ : St) (H : Hp) (x : V) (xs : List V) (v : Value) (us : List Value) (Q : VK), Inv X pins σ H s → RelV x v → Vals xs us → r x xs H Q →
    wpAny (model X.prog X.w) X.A (call (.builtin id) (v :: us)) (EP X pins σ Q) X.xe s
theorem Vals.one : ∀ {x : V} {us : List Value}, Vals [x] us → ∃ u, us = [u] ∧ RelV x u
  | _, _, .cons r .nil => ⟨_, rfl, r⟩
section
variable {X : Cx} {pins : List (Addr × Obj)} {σ : St} {H : Hp} {s : Shared} {l b : Addr} {xs ys zs : List V}
theorem Inv.lset {its its' : List Value} {n : Nat} {f : Array Value → Array Value} {t' : Nat} (I : Inv X pins σ H s) (hH : H l = some (.lst xs))
    (e : s.heap.get? l = some { cls := .type "list", data := .seq its.toArray n }) (hf : f its.toArray = its'.toArray) (hv : Vals ys its') (hz : ys.length ≤ sizeLine) :
    Inv X pins σ (upd H l (.lst ys)) { s with heap := s.heap.update l (Obj.mapSeq f), toks := t' } := by
  have q := PySem.IsL.update e f
  rw [hf] at q
  refine I.write (x := l) (e := l) (by rw [hH]; exact trivial) (.inl rfl) (fun b' u hb hu => (Heap.get?_update_other s.heap (Obj.mapSeq f) (Ne.symm hb)).trans hu) ⟨_, q⟩ ?_
  exact ⟨hz, its', _, hv, q⟩
theorem Inv.lnew {its : List Value} {t' : Nat} (I : Inv X pins σ H s) (hv : Vals ys its) (hz : ys.length ≤ sizeLine) :
    Inv X pins σ (upd H s.heap.objs.size (.lst ys)) { s with heap := s.heap.push { cls := .type "list", data := .seq its.toArray }, toks := t' } :=
  I.laid (fun _ _ q => Heap.get?_push_of_some _ q) (Nat.le_refl _) ⟨hz, its, 0, hv, Heap.get?_push_size _ rfl⟩
theorem Inv.fresh (I : Inv X pins σ H s) : H s.heap.objs.size = none := I.hok.fresh (Nat.le_refl _)
theorem Inv.lstM (I : Inv X pins σ H s) (hH : H l = some (.lst xs)) : xs.length ≤ sizeLine ∧ ∃ (its : List Value) (n : Nat), Vals xs its ∧ xs.length = its.length ∧ s.heap.get? l = some { cls := .type "list", data := .seq its.toArray n } := by
  obtain ⟨z, its, n, r, e⟩ := I.hok l _ hH
  exact ⟨z, its, n, r, r.length, e⟩
end
section
variable {X : Cx}
def rAppend : V → List V → Hp → VK → Prop := fun x vs H Q => ∃ l xs y, x = .ref l ∧ vs = [y] ∧ H l = some (.lst xs) ∧ xs.length < sizeLine ∧ Q .non (upd H l (.lst (xs ++ [y])))
theorem mt_append : MtM X "list.append" rAppend := by
  intro pins s σ H x vs v us Q I rx rv h
  obtain ⟨l, xs, y, rfl, rfl, hH, hz, q⟩ := h
  cases rx
  obtain ⟨u, rfl, ru⟩ := rv.one
  obtain ⟨z, its, n, r, hl, e⟩ := I.lstM hH
  refine call_meets F.slot_list_append ⟨_, e, rfl⟩ F.entry_list_append (F.args_list_append_2 _ _) (PySem.list_append l its.toArray n u (by rw [List.size_toArray]; omega)) ⟨e, ?_⟩
  refine ⟨.non, _, I.lset (its' := its ++ [u]) hH e (by simp) (r.append (.cons ru .nil)) ?_, rfl, q⟩
  rw [List.length_append, List.length_singleton]
  omega
def rCat : R2 := fun x y H Q => ∃ l b xs zs, x = .ref l ∧ y = .ref b ∧ H l = some (.lst xs) ∧ H b = some (.lst zs) ∧ xs.length + zs.length ≤ sizeLine ∧ ∀ p, H p = none → Q (.ref p) (upd H p (.lst (xs ++ zs)))
theorem op_cat : OpR X (binaryOp .Add) rCat := by
  intro pins s σ H x y v u Q I rx ry h
  obtain ⟨l, b, xs, zs, rfl, rfl, hH, hB, hz, q⟩ := h
  cases rx
  cases ry
  obtain ⟨z, its, n, r, hl, e⟩ := I.lstM hH
  obtain ⟨z2, its2, n2, r2, hl2, e2⟩ := I.lstM hB
  refine PySem.P.add_list e e2 ?_ (by rw [List.size_toArray, List.size_toArray]; omega)
  have ea : its.toArray ++ its2.toArray = (its ++ its2).toArray := by simp
  rw [ea]
  exact ⟨.ref _, _, I.lnew (t' := s.toks) (r.append r2) (by rw [List.length_append]; omega), rfl, q _ I.fresh⟩
end
end L2
namespace Att
open PySem PySem.W PySem.Calls PyProof.Rows
theorem ints_of_wellAll {P : Params} {h : Heap} : ∀ (ns : List Int) (vs : List Value), WellAll P h vs (ns.map WData.int) → IntsAre vs ns := by
  intro ns
  induction ns with
  | nil =>
    intro vs w
    rw [List.map_nil] at w
    cases w
    exact .nil
  | cons n ns ih =>
    intro vs w
    rw [List.map_cons] at w
    cases w with
    | cons a b =>
      cases a
      exact .cons _ _ (ih _ b)
theorem script_of {l : OpenLaw} {n : Nat} (hn : l.most = some n) {P : Params} {h : Heap} {args : List WData} {vals : List Value}
    (hpre : l.row.toRowW.claim.pre args = true) (hwl : WellAll P h vals args) :
    ∃ a vs ns, vals = [Value.ref a] ∧ args = [WData.list (ns.map WData.int)] ∧ h.get? a = some { cls := .type "list", data := .seq vs.toArray } ∧ IntsAre vs ns ∧ ns.length ≤ n := by
  have hsh : WShape.hasAll [] args [.list .int] = true := (pre_splitW hpre).1
  have hc : l.pre.holds [] { args := args } = true := (pre_splitW hpre).2
  obtain ⟨d, r, rfl, h1, h2⟩ := hasAllW_cons hsh
  obtain rfl := hasAllW_nil h2
  obtain ⟨xs, rfl, h3⟩ := hasW_list h1
  obtain ⟨ns, rfl⟩ := items_int h3
  have hlen : ns.length ≤ n := by
    unfold OpenLaw.pre at hc
    have h4 : (WTm.not (.lt (.lit (.int (n : Int))) (.len (.arg 0)))).holds [] { args := [.list (ns.map .int)] } = true := by
      have h4 := (holds_andW hc).1
      rw [hn] at h4
      exact h4
    have h5 := condW_of h4 (w_not (w_lt w_lit (w_len_list (w_arg rfl))))
    rw [List.length_map] at h5
    refine Nat.le_of_not_lt fun q => ?_
    have q' : (n : Int) < ((ns.length : Nat) : Int) := by omega
    first
      | (rw [decide_eq_true q'] at h5; exact absurd h5 (by decide))
      | (simp at h5; omega)
  cases hwl with
  | cons w1 w2 =>
    cases w2
    cases w1 with
    | list ho hall => exact ⟨_, _, ns, rfl, rfl, ho, ints_of_wellAll ns _ hall, hlen⟩
theorem post_true (l : OpenLaw) (args : List WData) : l.row.toRowW.claim.post args (.bool true) args = true :=
  postW_of (r := l.row.toRowW) (X := (true == true))
    (show WShape.has [] (.bool true) .bool = true by first | rfl | decide | simp [WShape.has, WShape.arms, WShape.armsAll])
    (show (WTm.eq .res (.lit (.bool true))).value [] { args := args, res := some (.bool true), after := args } = some (.bool (true == true)) from w_eq_bool (w_res rfl) w_lit) rfl
theorem attach_call {l : OpenLaw} {n : Nat} {q : Program} {loose : List Str} {XP : (Str → Option Value) → Heap → Prop} {YP : World → Heap → Prop} {d : DefRec}
    (hn : l.most = some n) (hdf : d.params.defaults = [])
    (call : ∀ (w : World) (s₀ s₁ : Shared) (mg mb : Str → Option Value) (fa : Addr) (o : Obj) (pm cd doc : Value) (a : Addr) (vs : List Value) (ns : List Int),
      Ground q loose [] XP w s₀ mg mb s₁.heap → YP w s₁.heap →
      s₁.heap.get? fa = some o → o.data = .func (docDef d.name d.params d.body d.scope pm cd doc) → s₁.heap.CodeRec cd d.name → mg d.name = some (.ref fa) →
      s₁.heap.get? a = some { cls := .type "list", data := .seq vs.toArray } → IntsAre vs ns → ns.length ≤ n → s₁.gens = #[] →
      codeAny (model l.prog w) callerA (.call (.ref fa) ⟨[.ref a], []⟩) (fun r s' => r = .ok (.ret (.bool true)) ∧ OldK s₁.heap s'.heap ∧ s'.os = s₁.os ∧ AllBare s'.gens) s₁) :
    WalkO q loose XP YP l.row.toRowW d [] (fun f vs => PySem.call f vs) := by
  intro w s₀ s₁ mg mb G Y fa o pm cd doc dV kV ho hd hcd hD hmg hg args vals as hpre hlay hrd hwl hlo
  obtain rfl : dV = .none := Dflts.none hD hdf
  obtain rfl : kV = .none := Dflts.noKw hD
  obtain ⟨a, vs, ns, rfl, rfl, hobj, hints, hlen⟩ := script_of hn hpre hwl
  refine enter_call (codeAny_mono (call w s₀ s₁ mg mb fa o pm cd doc a vs ns G Y ho (fd_plain hd) hcd hmg hobj hints hlen hg) fun r s' hq => ?_)
  obtain ⟨rfl, h2, h3, h4⟩ := hq
  exact ⟨.inl ⟨.bool true, .bool true, [], rfl, fun _ => rfl, .bool true, post_true l _, fun _ => ⟨List.Pairwise.nil, fun _ hm => (nomatch hm)⟩⟩, h2, h3, h4⟩
section
variable {prog : Program} {w : World} {A : Around} {E : Value → Shared → Prop} {s : Shared} {K : Frag}
end
end Att
namespace L2
open PySem PySem.Spec PyProof.Rows
theorem vals_ints : ∀ {vs : List Value} {ns : List Int}, IntsAre vs ns → Vals (ns.map V.int) vs
  | _, _, .nil => .nil
  | _, _, .cons n t h => .cons ⟨t, rfl⟩ (vals_ints h)
def Only (H : Hp) : Prop := ∀ b, H b = none ∨ ∃ o xs, H b = some (.frz o (.lst xs))
theorem law_call {P : Program} {w : World} {K : PySem.W.Frag} {mg mb : Str → Option Value} {CX : CXT} {k : Nat} {fa a : Addr} {fd : FuncData} {x : Str} {sp : Sp} {s₁ : Shared} {vs : List Value} {ns : List Int}
    (KX : K.In s₁.heap) (hns : s₁.heap.Ns mainGlobals mg) (hb : s₁.heap.Ns builtinsNs mb) (hbb : ∀ x : Str, x ≠ "__name__" → mb x = bootBuiltins x) (hlim : s₁.heap.NoLimit) (hg : s₁.gens = #[])
    (ha : s₁.heap.get? a = some { cls := .type "list", data := .seq vs.toArray }) (hi : IntsAre vs ns) (hl : ns.length ≤ sizeLine) (hr : Room k callerA)
    (F : ∀ base : Heap, K.In base → base.Ns mainGlobals mg → FnOk P w K mg base CX k fa fd [x] sp) (hbind : ∀ (s : Shared) (u : Value), BindsTo s fd ⟨[u], []⟩ [(x, u)])
    (hsp : ∀ H : Hp, Only H → SqL K H a (ns.map V.int) → sp [.ref a] H (fun v _ => v = .bl true) fun _ _ _ => False)
    (hCX : ∀ H e s', CX [] H s₁ (fun _ _ _ => False) e s' → False) :
    codeAny (model P w) callerA (.call (.ref fa) ⟨[.ref a], []⟩) (fun r s' => r = .ok (.ret (.bool true)) ∧ OldK s₁.heap s'.heap ∧ s'.os = s₁.os ∧ AllBare s'.gens) s₁ := by
  have rv := vals_ints hi
  have lenV := hi.length
  -- from an abstract heap in which nothing but the script may be tracked
  have core : ∀ H : Hp, Only H → SqL K H a (ns.map V.int) → HOk P w H s₁.heap → (∀ b, H b ≠ none → b = a) → (H a ≠ none → K.lookup a = none) →
      codeAny (model P w) callerA (.call (.ref fa) ⟨[.ref a], []⟩) (fun r s' => r = .ok (.ret (.bool true)) ∧ OldK s₁.heap s'.heap ∧ s'.os = s₁.os ∧ AllBare s'.gens) s₁ := by
    intro H hO hS hok hA hK
    have base_of : ∀ {b : Addr} {o : Obj}, s₁.heap.get? b = some o → H b = none → (hidT s₁.heap H).get? b = some o := fun e n => hidT_get e n
    have noA : ∀ {b : Addr} {o : Obj} {es : Array DictEntry} {ep : Nat}, s₁.heap.get? b = some o → o.data = .dict es ep → H b = none := fun {b o es ep} e d => by
      cases q : H b with
      | none => rfl
      | some u =>
        have e' : b = a := hA b (by rw [q]; simp)
        subst e'
        rw [ha] at e; cases e
        have d' : Data.seq vs.toArray _ = Data.dict es ep := d
        cases d'
    have nsK : ∀ {b : Addr} {m : Str → Option Value}, s₁.heap.Ns b m → (hidT s₁.heap H).Ns b m := fun {b m} ⟨o, es, ep, e, d, r⟩ => ⟨o, es, ep, base_of e (noA e d), d, r⟩
    have hKb : K.In (hidT s₁.heap H) := fun b o e => base_of (KX b o e) (by
      cases q : H b with
      | none => rfl
      | some u =>
        have e' : b = a := hA b (by rw [q]; simp)
        subst e'
        rw [hK (by rw [q]; simp)] at e; cases e)
    have hM : Mod K mg (hidT s₁.heap H) := ⟨hKb, nsK hns, ⟨mb, nsK hb, hbb⟩, let ⟨mc, h1, h2⟩ := hlim; ⟨mc, nsK h1, h2⟩⟩
    have e0 : Env0 P w K mg (hidT s₁.heap H) callerA [] s₁ H := ⟨rfl, hM, fun b o e => of_hidT e, Nat.le_of_eq (hidT_size _ _), trivial, fun b hb => absurd (show b ∈ ([] : List Addr) from hb) (by simp), hok, .of_eq hg⟩
    refine codeAny_mono ((F _ hKb (nsK hns)).run callerA [] s₁ H ⟨[.ref a], []⟩ [.ref a] [.ref a] _ _ hr e0 (hbind s₁ (.ref a)) (.cons rfl .nil) (hsp H hO hS)) fun r s' h => ?_
    cases r with
    | error e => exact (hCX H e s' h).elim
    | ok fl =>
      cases fl with
      | next => exact False.elim h
      | brk => exact False.elim h
      | cont => exact False.elim h
      | ret u =>
        obtain ⟨v, H', os, bare, un, hok', r', q⟩ := h
        have q' : v = .bl true := q
        subst q'
        obtain rfl : u = Value.bool true := r'
        refine ⟨rfl, OldK.of_keep fun b o e => ?_, os, bare⟩
        cases q : H b with
        | none => exact un.keep b o e q (by intro z; exact absurd (show b ∈ ([] : List Addr) from z) (by simp)) (by simp)
        | some u =>
          rcases hO b with z | ⟨ob, xs, z⟩
          · rw [q] at z; cases z
          · have z2 := un.frzs b ob _ z
            obtain ⟨e1, _⟩ := hok b _ z
            obtain ⟨e2, _⟩ := hok' b _ z2
            rw [e] at e1; cases e1
            exact e2
  cases hk : K.lookup a with
  | some o =>
    -- the script is one of the module's own objects
    have e := KX a o hk
    rw [ha] at e
    cases e
    refine core (fun _ => none) (fun _ => .inl rfl) (.inr ⟨_, vs.toArray, _, hk, rfl, rfl, rfl, by rw [List.size_toArray, lenV]; exact hl, by simpa using rv⟩) (fun b u z => by have z' : (none : Option HO) = some u := z; cases z') (fun b z => absurd rfl z) fun z => absurd rfl z
  | none =>
    refine core (fun b => if b = a then some (.frz { cls := .type "list", data := .seq vs.toArray } (.lst (ns.map V.int))) else none) (fun b => ?_) (.inl (.inr ⟨{ cls := .type "list", data := .seq vs.toArray }, if_pos rfl⟩)) (fun b u z => ?_) (fun b z => ?_) fun _ => hk
    · by_cases hb : b = a
      · exact .inr ⟨_, _, if_pos hb⟩
      · exact .inl (if_neg hb)
    · by_cases hb : b = a
      · have z' := (if_pos hb).symm.trans z
        cases z'
        subst hb
        exact ⟨ha, by rw [List.length_map]; exact hl, vs, _, rv, ha⟩
      · have z' := (if_neg hb).symm.trans z
        cases z'
    · by_cases hb : b = a
      · exact hb
      · exact absurd (if_neg hb) z
end L2
namespace L2
open PySem PySem.Spec PyProof.Rows
theorem walk_of {l : PySem.W.OpenLaw} {n k : Nat} {q : Program} {loose : List Str} {XP : (Str → Option Value) → Heap → Prop} {YP : World → Heap → Prop} {d : DefRec} {K : Params → PySem.W.Frag} {CX : World → CXT} {sp : World → Sp} {x : Str}
    (hn : l.most = some n) (hn2 : n ≤ sizeLine) (hdf : d.params.defaults = []) (hr : Room k callerA)
    (hY : ∀ (w : World) (h : Heap), YP w h → (K w.params).In h)
    (F : ∀ (w : World) (mg : Str → Option Value) (fa : Addr) (h : Heap), (K w.params).In h → h.Ns mainGlobals mg → mg d.name = some (.ref fa) →
      ∃ fd : FuncData, (∀ (s : Shared) (u : Value), BindsTo s fd ⟨[u], []⟩ [(x, u)]) ∧
        ∀ base : Heap, (K w.params).In base → base.Ns mainGlobals mg → FnOk l.prog w (K w.params) mg base (CX w) k fa fd [x] (sp w))
    (hsp : ∀ (w : World) (H : Hp) (a : Addr) (ns : List Int), ns.length ≤ n → Only H → SqL (K w.params) H a (ns.map V.int) → sp w [.ref a] H (fun v _ => v = .bl true) fun _ _ _ => False)
    (hCX : ∀ (w : World) (H : Hp) (s : Shared) (e : Value) (s' : Shared), CX w [] H s (fun _ _ _ => False) e s' → False) :
    PySem.W.WalkO q loose XP YP l.row.toRowW d [] (fun f vs => PySem.call f vs) := by
  refine Att.attach_call hn hdf fun w s₀ s₁ mg mb fa o pm cd doc a vs ns G Y ho hd hcd hmg hobj hints hlen hg => ?_
  have KX := hY w _ Y
  obtain ⟨fd, hb, hF⟩ := F w mg fa _ KX G.T.g hmg
  exact law_call KX G.T.g G.T.b G.T.builtins G.T.nolimit hg hobj hints (Nat.le_trans hlen hn2) hr hF hb (fun H hO hS => hsp w H a ns hlen hO hS) fun H e s' => hCX w H s₁ e s'
end L2
/- THE LAST THEOREM (shape; LID, My.* are yours):
   My.Adr: a structure of the addresses that your layer names (classes, functions); My.Txt K t: a structure (Prop) of the equations over K;
   My.txt_mk : {K} {implicit addresses ..} (e1 : nsIn K mainGlobals "law" = some (some (.ref f))) (e2 : K.lookup f = some ⟨oc, od, .func (fnOf "law" "law" params body scope dV kV doc pm an cdv ct), sl⟩) (e3 : codeIn K cdv "law" = true) .. : ∃ t, My.Txt K t
set_option maxRecDepth 100000 in
set_option maxHeartbeats 0 in
theorem PySem.Challenge.cw_LID_holds : PySem.Challenge.rw_LID.Holds := by
  w_on; o_law; k_head; (case hw => w_witness2)
  k_fill
  refine L2.walk_of (l := PySem.Challenge.rw_LID) (n := 63) (k := 40) (x := "script") (CX := fun w => ..) (sp := fun _ => My.sp_law) rfl (by decide) rfl ⟨rfl, by decide, by decide⟩ (fun w h Y => PySem.W.kIn_of Y) ?F ?S ?C
  case F =>
    intro w mg fa h KX G hmg
    have T : ∃ t, My.Txt (L2.KOf KX) t := by
      dsimp only [L2.KOf]                          -- K must stand as «<heap const> w.params» for k_is
      refine' My.txt_mk ?e1 ?e2 ?e3 ..
      (case e1 => PySem.W.k_is)                    -- in the order: a name -> its address -> its object -> its parts
      (case e2 => PySem.W.k_is)
      ..
    obtain ⟨t, T⟩ := T
    have e0 := hmg.symm.trans (PySem.W.mg_of KX G T.law)
    cases e0                                       -- fa is the law's own address
    exact ⟨_, fun s u => .of_eq rfl, fun base kb nb => My.law_fn T kb nb⟩     -- if «.of_eq rfl» comes too early: refine' ⟨_, ?b, fun base kb nb => My.law_fn T kb nb⟩; exact fun s u => .of_eq rfl
  case S => exact fun w H a ns hl hO hS => ..
  case C => exact ..
(the tactic k_is has no namespace: write k_is) -/
namespace L2
open PySem PySem.Spec PyProof.Rows
def defArgs (s : Stmt) : Arguments := match s with
  | .FunctionDef _ a _ _ _ _ _ _ _ _ => a
  | _ => { posonlyargs := [], args := [], vararg := none, kwonlyargs := [], kw_defaults := [], kwarg := none, defaults := [] }
def defBody (s : Stmt) : List Stmt := match s with
  | .FunctionDef _ _ b _ _ _ _ _ _ _ => b
  | _ => []
def defScope (s : Stmt) : Scope := match s with
  | .FunctionDef _ _ _ _ _ _ sc _ _ _ => sc
  | _ => { kind := .function, names := [], isGenerator := false, isCoroutine := false }
abbrev CX0 : CXT := fun _ _ _ _ _ _ => False
abbrev E0 : XK := fun _ _ _ => False
theorem pass0 {X : Cx} : Passes CX0 X E0 := fun _ _ _ _ _ _ _ h => h.elim
structure Fun (K : PySem.W.Frag) (x qual : Str) (st : Stmt) (f : Addr) (fd : FuncData) : Prop where
  ex : ∃ (oc : Value) (od : Option Addr) (kV doc pm : Value) (an : Option Addr) (cdv ct : Value) (osl : Array (Option Value)),
    fd = PySem.W.fnOf x qual (defArgs st) (defBody st) (defScope st) .none kV doc pm an cdv ct ∧ K.lookup f = some ⟨oc, od, .func fd, osl⟩ ∧ PySem.W.codeIn K cdv qual = true
  kp : PySem.W.keepIn K (.ref f) = true
section
variable {P : Program} {w : World} {K : PySem.W.Frag} {mg : Str → Option Value} {base : Heap}
theorem Fun.ok {x qual : Str} {st : Stmt} {f : Addr} {fd : FuncData} {N ps : List Str} {k : Nat} {sp : Sp} (F : Fun K x qual st f fd) (S : FnScope N ps (defScope st)) (len : ∀ vs H Q E, sp vs H Q E → vs.length = ps.length)
    (hbody : ∀ (cdv : Value) (A : Around) (outer : List Env) (s : Shared) (H : Hp) (vs : List V) (Q : VK) (E : XK), Room k (A.deeper (envOfC qual (defScope st) s.heap.objs.size f cdv)) → sp vs H Q E →
      ∃ t, PSs (cxOf CX0 P w K mg base N qual (defScope st) f cdv A outer s H E).nox (defBody st) t ∧ t { nx := fun _ H' => Q .non H', rt := Q } (start N vs) H) : FnOk P w K mg base CX0 (k + 1) f fd ps sp := by
  obtain ⟨oc, od, kV, doc, pm, an, cdv, ct, osl, rfl, lk, hcd⟩ := F.ex
  refine fn_of lk hcd S len fun A outer s H vs Q E hr hsp => ?_
  obtain ⟨t, h, q⟩ := hbody cdv A outer s H vs Q E hr hsp
  exact ⟨t, h.nox, q⟩
theorem Fun.binds {x qual : Str} {st : Stmt} {f : Addr} {fd : FuncData} {ps : List Str} (F : Fun K x qual st f fd)
    (h : ∀ (kV doc pm : Value) (an : Option Addr) (cdv ct : Value) (us : List Value), us.length = ps.length → bindArgs (PySem.W.fnOf x qual (defArgs st) (defBody st) (defScope st) .none kV doc pm an cdv ct) ⟨us, []⟩ = pure (ps.zip us)) : Binds K fd ps [] := by
  obtain ⟨oc, od, kV, doc, pm, an, cdv, ct, osl, rfl, lk, hcd⟩ := F.ex
  exact .all (h kV doc pm an cdv ct)
theorem fun_mk {x qual : Str} {st : Stmt} {f : Addr} {oc : Value} {od an : Option Addr} {osl : Array (Option Value)} {kV doc pm cdv ct : Value} (l : K.lookup f = some ⟨oc, od, .func (PySem.W.fnOf x qual (defArgs st) (defBody st) (defScope st) .none kV doc pm an cdv ct), osl⟩)
    (c : PySem.W.codeIn K cdv qual = true) (k : PySem.W.keepIn K (.ref f) = true) : Fun K x qual st f (PySem.W.fnOf x qual (defArgs st) (defBody st) (defScope st) .none kV doc pm an cdv ct) := ⟨⟨oc, od, kV, doc, pm, an, cdv, ct, osl, rfl, l, c⟩, k⟩
end
theorem small1000 {n : Nat} (h : n ≤ 1000) : n < sizeLine := Nat.lt_of_le_of_lt h (by decide)
section
variable {X : Cx}
theorem pv (i : Nat) {x : Str} {pos : Pos} (hN : X.N[i]? = some x := by rfl) (hv : Vis X.env.scope x := by first | exact Or.inl rfl | exact Or.inr (Or.inl rfl) | exact Or.inr (Or.inr rfl)) (hd : (x == ("__debug__" : Str)) = false := by decide)
    (hcd : (x == ("__classdict__" : Str)) = false := by decide) : PE X (.Name x pos) (tVar i) := pe_var hN hv hd hcd
end
theorem iteF {A B : Prop} (h : B) : if false = true then A else B := by
  rw [if_neg Bool.false_ne_true]
  exact h
theorem iteT {A B : Prop} (h : A) : if true = true then A else B := by
  rw [if_pos rfl]
  exact h
def Same (H H' : Hp) : Prop := ∀ b o, H b = some o → H' b = some o
theorem Same.refl (H : Hp) : Same H H := fun _ _ h => h
theorem Same.trans {H H1 H2 : Hp} (a : Same H H1) (b : Same H1 H2) : Same H H2 := fun c o h => b c o (a c o h)
theorem Same.seq {K : PySem.W.Frag} {H H' : Hp} {a : Addr} {xs : List V} (e : Same H H') (h : SqL K H a xs) : SqL K H' a xs := by
  rcases h with (h | ⟨o, h⟩) | h
  · exact .inl (.inl (e _ _ h))
  · exact .inl (.inr ⟨o, e _ _ h⟩)
  · exact .inr h
end L2
namespace L2
open PySem PySem.Spec PyProof.Rows
section
variable {κ : Type} [DecidableEq κ]
def valV (kvs : List (κ × V)) (k : κ) : Option V := (kvs.find? fun kv => decide (kv.1 = k)).map (·.2)
def putK (kvs : List (κ × V)) (k : κ) (v : V) : List (κ × V) :=
  if (kvs.any fun kv => decide (kv.1 = k)) = true then kvs.map (fun kv => if kv.1 = k then (kv.1, v) else kv) else kvs ++ [(k, v)]
theorem valV_pos {p : κ × V} {r : List (κ × V)} {k : κ} (e : p.1 = k) : valV (p :: r) k = some p.2 := by simp [valV, List.find?_cons, e]
theorem valV_neg {p : κ × V} {r : List (κ × V)} {k : κ} (e : ¬ p.1 = k) : valV (p :: r) k = valV r k := by simp [valV, List.find?_cons, e]
theorem valV_any (k : κ) : ∀ kvs : List (κ × V), (kvs.any fun kv => decide (kv.1 = k)) = (valV kvs k).isSome
  | [] => rfl
  | p :: r => by
    rw [List.any_cons]
    by_cases e : p.1 = k
    · simp only [valV_pos e, decide_eq_true e, Bool.true_or, Option.isSome_some]
    · rw [valV_neg e, decide_eq_false e, Bool.false_or]; exact valV_any k r
theorem length_putK (kvs : List (κ × V)) (k : κ) (v : V) : (putK kvs k v).length ≤ kvs.length + 1 := by
  unfold putK
  split
  · rw [List.length_map]; omega
  · rw [List.length_append, List.length_cons, List.length_nil]; omega
theorem RelO.isSome_eq {o : Option V} {u : Option Value} (r : RelO o u) : o.isSome = u.isSome := by
  cases o with
  | none => cases u with
    | none => rfl
    | some _ => exact (show False from r).elim
  | some _ => cases u with
    | none => exact (show False from r).elim
    | some _ => rfl
theorem KV.val {kvs : List (κ × V)} {vs : List (κ × Value)} (r : KV kvs vs) (k : κ) : RelO (valV kvs k) (valueAt vs k) := by
  unfold KV at r
  induction r with
  | nil => exact True.intro
  | @cons p q ps qs h t ih =>
    obtain ⟨h1, h2⟩ := h
    by_cases e : p.1 = k
    · have e' : q.1 = k := h1.symm.trans e
      have b : valueAt (q :: qs) k = some q.2 := by simp [valueAt, List.find?_cons, e']
      rw [valV_pos e, b]; exact h2
    · have e' : ¬ q.1 = k := fun z => e (h1.trans z)
      have b : valueAt (q :: qs) k = valueAt qs k := by simp [valueAt, List.find?_cons, e']
      rw [valV_neg e, b]; exact ih
theorem KV.any {kvs : List (κ × V)} {vs : List (κ × Value)} (r : KV kvs vs) (k : κ) : (kvs.any fun kv => decide (kv.1 = k)) = vs.any fun kv => decide (kv.1 = k) := by
  unfold KV at r
  induction r with
  | nil => rfl
  | cons h t ih => rw [List.any_cons, List.any_cons, ih, h.1]
theorem KV.repl {kvs : List (κ × V)} {vs : List (κ × Value)} (r : KV kvs vs) (k : κ) {y : V} {u : Value} (ry : RelV y u) :
    KV (kvs.map fun kv => if kv.1 = k then (kv.1, y) else kv) (vs.map fun kv => if kv.1 = k then (kv.1, u) else kv) := by
  unfold KV at r ⊢
  induction r with
  | nil => exact .nil
  | @cons p q ps qs h t ih =>
    rw [List.map_cons, List.map_cons]
    refine .cons ?_ ih
    obtain ⟨h1, h2⟩ := h
    by_cases e : p.1 = k
    · rw [if_pos e, if_pos (h1.symm.trans e)]; exact ⟨h1, ry⟩
    · rw [if_neg e, if_neg (fun z => e (h1.trans z))]; exact ⟨h1, h2⟩
theorem KV.put {kvs : List (κ × V)} {vs : List (κ × Value)} (r : KV kvs vs) (k : κ) {y : V} {u : Value} (ry : RelV y u) : KV (putK kvs k y) (stored vs k u) := by
  unfold putK stored
  rw [r.any k]
  by_cases e : (vs.any fun kv => decide (kv.1 = k)) = true
  · rw [if_pos e, if_pos e]; exact r.repl k ry
  · rw [if_neg e, if_neg e]; exact Paired.snoc r ⟨rfl, ry⟩
theorem KV.length {kvs : List (κ × V)} {vs : List (κ × Value)} (r : KV kvs vs) : kvs.length = vs.length := Paired.length r
end
theorem kV_is {P : Program} {w : World} {k : Key} {u : Value} (r : RelV (kV k) u) : (mixKind P w).is k u = true := by
  cases k with
  | inl i => obtain ⟨t, e⟩ := (show ∃ t, u = Value.int i t from r); subst e; exact mixKind_int P w i t
  | inr x => obtain ⟨t, e⟩ := (show ∃ t, u = Value.str x t from r); subst e; exact mixKind_str P w x t
theorem items_are {P : Program} {w : World} : ∀ {ks : List Key} {us : List Value}, Vals (ks.map kV) us → ItemsAre (mixKind P w) ks us
  | [], _, r => by rw [List.map_nil] at r; cases r; exact .nil
  | k :: ks, _, r => by
    rw [List.map_cons] at r
    cases r with
    | cons h t => exact .cons (kV_is h) (items_are t)
abbrev KT (H : Hp) : List (List Key × V) → List (List Key × Addr × Value) → Prop := Paired fun p q => p.1 = q.1 ∧ H q.2.1 = some (.tup (p.1.map kV)) ∧ RelV p.2 q.2.2
theorem KT.val {H : Hp} {kvs : List (List Key × V)} {xs : List (List Key × Addr × Value)} (r : KT H kvs xs) (k : List Key) : RelO (valV kvs k) ((atKey xs k).map (·.2)) := by
  induction r with
  | nil => exact True.intro
  | @cons p q ps qs h t ih =>
    obtain ⟨h1, _, h2⟩ := h
    by_cases e : p.1 = k
    · have e' : q.1 = k := h1.symm.trans e
      have b : atKey (q :: qs) k = some q.2 := by simp [atKey, List.find?_cons, e']
      rw [valV_pos e, b]; exact h2
    · have e' : ¬ q.1 = k := fun z => e (h1.trans z)
      have b : atKey (q :: qs) k = atKey qs k := by simp [atKey, List.find?_cons, e']
      rw [valV_neg e, b]; exact ih
theorem KT.repl {H : Hp} {kvs : List (List Key × V)} {xs : List (List Key × Addr × Value)} (r : KT H kvs xs) (k : List Key) {y : V} {u : Value} (ry : RelV y u) :
    KT H (kvs.map fun kv => if kv.1 = k then (kv.1, y) else kv) (xs.map (putAt k u)) := by
  induction r with
  | nil => exact .nil
  | @cons p q ps qs h t ih =>
    rw [List.map_cons, List.map_cons]
    refine .cons ?_ ih
    obtain ⟨h1, h2, h3⟩ := h
    unfold putAt
    by_cases e : p.1 = k
    · rw [if_pos e, if_pos (h1.symm.trans e)]; exact ⟨h1, h2, ry⟩
    · rw [if_neg e, if_neg (fun z => e (h1.trans z))]; exact ⟨h1, h2, h3⟩
theorem KT.put {H : Hp} {kvs : List (List Key × V)} {xs : List (List Key × Addr × Value)} (r : KT H kvs xs) (k : List Key) {b : Addr} {y : V} {u : Value} (hb : H b = some (.tup (k.map kV))) (ry : RelV y u) :
    KT H (putK kvs k y) (storedH xs k b u) := by
  have e : (kvs.any fun kv => decide (kv.1 = k)) = (atKey xs k).isSome := by
    rw [valV_any, (r.val k).isSome_eq, Option.isSome_map]
  unfold putK storedH
  rw [e]
  by_cases q : (atKey xs k).isSome = true
  · rw [if_pos q, if_pos q]; exact r.repl k ry
  · rw [if_neg q, if_neg q]; exact Paired.snoc r ⟨rfl, hb, ry⟩
theorem KT.keeps {H H' : Hp} {kvs : List (List Key × V)} {xs : List (List Key × Addr × Value)} (r : KT H kvs xs) (ht : ∀ b ys, H b = some (.tup ys) → H' b = some (.tup ys)) : KT H' kvs xs :=
  Paired.mapP r fun _ _ z => ⟨z.1, ht _ _ z.2.1, z.2.2⟩
section
variable {P : Program} {w : World} {H : Hp} {h : Heap} {a : Addr}
theorem rd_of {u : HO} (ok : HOk P w H h) (e : Rd H a u) : ObjOk P w H h a u := e.ok ok
theorem dk_rd {kvs : List (Key × V)} (ok : HOk P w H h) (e : Rd H a (.dK kvs)) : kvs.length ≤ sizeLine ∧ (a == sysModules) = false ∧ ∃ vs, KV kvs vs ∧ h.DictOf (mixKind P w) a vs :=
  show ObjOk P w H h a (.dK kvs) from rd_of ok e
theorem dk_of {kvs : List (Key × V)} (ok : HOk P w H h) (e : H a = some (.dK kvs)) : kvs.length ≤ sizeLine ∧ (a == sysModules) = false ∧ ∃ vs, KV kvs vs ∧ h.DictOf (mixKind P w) a vs := dk_rd ok (.inl e)
theorem key_of {ks : List Key} (ok : HOk P w H h) (e : H a = some (.tup (ks.map kV))) : (tupleKind (mixKind P w)).is h ks a := by
  obtain ⟨_, its, r, o, h1, h2, n, h3⟩ := (show ObjOk P w H h a (.tup (ks.map kV)) from ok a _ e)
  exact ⟨o, its.toArray, n, h1, h2, h3, by simpa using items_are r⟩
theorem dt_rd {kvs : List (List Key × V)} (ok : HOk P w H h) (e : Rd H a (.dT kvs)) : kvs.length ≤ sizeLine ∧ (a == sysModules) = false ∧
    ∃ xs, KT H kvs xs ∧ h.DictOfH (tupleKind (mixKind P w)) a xs := by
  obtain ⟨z, y, xs, r, o, es, ep, h1, h2, h3, h4, h5⟩ := (show ObjOk P w H h a (.dT kvs) from rd_of ok e)
  refine ⟨z, y, xs, r, o, es, ep, h1, h2, h3, h4, fun x hx => ?_, h5⟩
  have all : ∀ {l : List (List Key × V)} {m : List (List Key × Addr × Value)}, KT H l m → ∀ x ∈ m, (tupleKind (mixKind P w)).is h x.1 x.2.1 := by
    intro l m q
    induction q with
    | nil => intro x hx; exact nomatch hx
    | @cons p q ps qs hq t ih =>
      intro x hx
      rcases List.mem_cons.mp hx with e | hx
      · subst e
        exact key_of ok (by rw [← hq.1]; exact hq.2.1)
      · exact ih x hx
  exact all r x hx
theorem dt_of {kvs : List (List Key × V)} (ok : HOk P w H h) (e : H a = some (.dT kvs)) : kvs.length ≤ sizeLine ∧ (a == sysModules) = false ∧
    ∃ xs, KT H kvs xs ∧ h.DictOfH (tupleKind (mixKind P w)) a xs := dt_rd ok (.inl e)
end
def DGet (H : Hp) (a : Addr) (y : V) (r : Option V) : Prop :=
  (∃ kvs k, Rd H a (.dK kvs) ∧ y = kV k ∧ r = valV kvs k) ∨ ∃ kvs k b, Rd H a (.dT kvs) ∧ y = .ref b ∧ H b = some (.tup (k.map kV)) ∧ r = valV kvs k
def DPut (H : Hp) (a : Addr) (y v : V) (H' : Hp) : Prop :=
  (∃ kvs k, H a = some (.dK kvs) ∧ y = kV k ∧ kvs.length < sizeLine ∧ H' = upd H a (.dK (putK kvs k v))) ∨
  ∃ kvs k b, H a = some (.dT kvs) ∧ y = .ref b ∧ H b = some (.tup (k.map kV)) ∧ kvs.length < sizeLine ∧ H' = upd H a (.dT (putK kvs k v))
theorem DGet.k {H : Hp} {a : Addr} {kvs : List (Key × V)} {k : Key} (e : H a = some (.dK kvs)) : DGet H a (kV k) (valV kvs k) := .inl ⟨kvs, k, .inl e, rfl, rfl⟩
section
variable {X : Cx} {pins : List (Addr × Obj)} {σ : St} {H : Hp} {s : Shared} {a : Addr} {y v : V} {u r : Value} {o : Option V} {A : Around} {E : Value → Shared → Prop}
theorem d_getItem {Q : Value → Shared → Prop} (hu : A.units + 1 < cLine) (I : Inv X pins σ H s) (g : DGet H a y (some v)) (ry : RelV y u) (h : ∀ w' s', Inv X pins σ H s' → RelV v w' → Q w' s') :
    wpAny (model X.prog X.w) A (getItem (.ref a) u) Q E s := by
  rcases g with ⟨kvs, k, e, ey, l⟩ | ⟨kvs, k, b, e, ey, eb, l⟩
  · subst ey
    obtain ⟨z, hd, vs, rel, dd⟩ := dk_rd I.hok e
    obtain ⟨w', hw, rw'⟩ := RelO.some_of (v := v) (o := valueAt vs k) (by rw [l]; exact rel.val k)
    exact wpAny_getItem_of (kV_is ry) dd.mapOf hw (h w' _ (I.tok _) rw')
  · subst ey
    cases (show u = Value.ref b from ry)
    obtain ⟨z, hd, xs, rel, dd⟩ := dt_rd I.hok e
    obtain ⟨w', hw, rw'⟩ := RelO.some_of (v := v) (o := (atKey xs k).map (·.2)) (by rw [l]; exact rel.val k)
    obtain ⟨p, hp, hp2⟩ := Option.map_eq_some_iff.mp hw
    refine wpAny_getItem_heap (tupleKind_room_in1 hu) (key_of I.hok eb) dd hp ?_
    rw [hp2]
    exact h w' _ (I.tok _) rw'
theorem d_in {Q : Value → Shared → Prop} (hu : A.units + 1 < cLine) (I : Inv X pins σ H s) (g : DGet H a y o) (ry : RelV y u) (h : ∀ s', Inv X pins σ H s' → Q (.bool o.isSome) s') :
    wpAny (model X.prog X.w) A (compareOp .In u (.ref a)) Q E s := by
  rcases g with ⟨kvs, k, e, ey, l⟩ | ⟨kvs, k, b, e, ey, eb, l⟩
  · subst ey
    obtain ⟨z, hd, vs, rel, dd⟩ := dk_rd I.hok e
    refine wpAny_in_of (kV_is ry) hd dd.mapOf ?_
    rw [← (rel.val k).isSome_eq, ← l]
    exact h _ (I.tok _)
  · subst ey
    cases (show u = Value.ref b from ry)
    obtain ⟨z, hd, xs, rel, dd⟩ := dt_rd I.hok e
    refine wpAny_in_heap (tupleKind_room_in1 hu) (key_of I.hok eb) hd dd ?_
    have q := (rel.val k).isSome_eq
    rw [Option.isSome_map] at q
    rw [← q, ← l]
    exact h _ (I.tok _)
theorem d_write {h' : Heap} {t' : Nat} {ob : HO} (I : Inv X pins σ H s) (mu : Mut (H a)) (hs : Heap.SameBut a s.heap h') (he : ∃ q, h'.get? a = some q) (new : ObjOk X.prog X.w (upd H a ob) h' a ob) :
    Inv X pins σ (upd H a ob) { s with heap := h', toks := t' } :=
  I.write (x := a) (e := a) mu (.inl rfl) (fun b q hb z => (hs.2 b hb).trans z) he new
theorem dk_new {P : Program} {w : World} {H' : Hp} {h' : Heap} {kvs : List (Key × V)} {vs : List (Key × Value)} (z : kvs.length ≤ sizeLine) (hd : (a == sysModules) = false) (rel : KV kvs vs) (dd : h'.DictOf (mixKind P w) a vs) :
    ObjOk P w H' h' a (.dK kvs) := ⟨z, hd, vs, rel, dd⟩
theorem d_setItem {H' : Hp} {Q : Unit → Shared → Prop} (hu : A.units + 1 < cLine) (I : Inv X pins σ H s) (g : DPut H a y v H') (ry : RelV y u) (rv : RelV v r) (h : ∀ s', Inv X pins σ H' s' → Q () s') :
    wpAny (model X.prog X.w) A (setItem (.ref a) u r) Q E s := by
  rcases g with ⟨kvs, k, e, ey, l, eH⟩ | ⟨kvs, k, b, e, ey, eb, l, eH⟩
  · subst ey eH
    obtain ⟨z, hd, vs, rel, dd⟩ := dk_of I.hok e
    have hz : vs.length ≤ sizeLine := by rw [← rel.length]; exact z
    have hl : (putK kvs k v).length ≤ sizeLine := by have := length_putK kvs k v; omega
    refine wpAny_setItem_pairs (hsz := hz) (kV_is ry) dd fun h' dd' hs => h _ ?_
    have he : ∃ q, h'.get? a = some q := let ⟨q, _, _, hq, _⟩ := dd'; ⟨q, hq⟩
    exact d_write I (by rw [e]; exact True.intro) hs he (dk_new hl hd (rel.put k rv) dd')
  · subst ey eH
    cases (show u = Value.ref b from ry)
    obtain ⟨z, hd, xs, rel, dd⟩ := dt_of I.hok e
    have hz : xs.length ≤ sizeLine := by rw [← Paired.length rel]; exact z
    have hl : (putK kvs k v).length ≤ sizeLine := by have := length_putK kvs k v; omega
    refine wpAny_setItem_heap (hsz := hz) (tupleKind_room_in1 hu) (key_of I.hok eb) dd fun h' dd' hs => h _ ?_
    obtain ⟨q, es, ep, hq, h2, h3, h4, _, h5⟩ := dd'
    refine d_write I (by rw [e]; exact True.intro) hs ⟨q, hq⟩ ⟨hl, hd, _, (rel.put k eb rv).keeps fun c ys ec => ?_, q, es, ep, hq, h2, h3, h4, h5⟩
    rw [upd_ne (ne_of ec e (fun z => nomatch z))]
    exact ec
end
section
variable {X : Cx} {pins : List (Addr × Obj)} {σ : St} {H : Hp} {s : Shared} {a : Addr} {kvs : List (Key × V)} {k : Key} {u : Value} {A : Around} {E : Value → Shared → Prop}
theorem d_len {Q : Value → Shared → Prop} (I : Inv X pins σ H s) (e : Rd H a (.dK kvs)) (h : ∀ t s', Inv X pins σ H s' → Q (.int kvs.length t) s') : wpAny (model X.prog X.w) A (call (.builtin "len") [.ref a]) Q E s := by
  obtain ⟨z, hd, vs, rel, dd⟩ := dk_rd I.hok e
  refine call_len_dict hd dd (by rw [← rel.length]; rw [sizeLine_eq] at z; omega) ?_
  rw [← rel.length]
  exact h _ _ (I.tok _)
end
theorem dict_typeIs {X : Cx} {pins : List (Addr × Obj)} {σ : St} {H : Hp} {s : Shared} {a : Addr} {y : V} {o : Option V} (I : Inv X pins σ H s) (g : DGet H a y o) : s.TypeIs (.ref a) "dict" := by
  rcases g with ⟨kvs, k, e, _, _⟩ | ⟨kvs, k, b, e, _, _, _⟩
  · obtain ⟨_, _, vs, _, dd⟩ := dk_rd I.hok e
    exact dd.typeIs
  · obtain ⟨_, _, xs, _, dd⟩ := dt_rd I.hok e
    exact dd.typeIs
def sDPut (td ty tv : TE) : TS := fun D σ H => tv σ H fun v H1 => td σ H1 fun x H2 => ty σ H2 fun y H3 => ∃ a H4, x = .ref a ∧ DPut H3 a y v H4 ∧ D.nx σ H4
def tDNewK : TE := fun _ H Q => ∀ p, H p = none → Q (.ref p) (upd H p (.dK []))
end L2
namespace L2
open PySem PySem.Spec PyProof.Rows
section
variable {X : Cx}
theorem call_lenD : CallR X (.builtin "len") (fun xs H Q => ∃ a kvs, xs = [V.ref a] ∧ H a = some (.dK kvs) ∧ Q (.int kvs.length) H) := by
  intro pins s σ H xs us Q I r h
  obtain ⟨a, kvs, rfl, ha, q⟩ := h
  obtain ⟨u, rfl, ru⟩ := vals1 r
  cases ru
  exact d_len I (.inl ha) fun t s' I' => ⟨.int kvs.length, H, I', ⟨t, rfl⟩, q⟩
end
end L2
set_option Elab.async false
set_option linter.all false
set_option maxRecDepth 100000
namespace L2
open PySem PySem.Spec PyProof.Rows
theorem lookup_append' {α : Type} (x : Str) : ∀ (a b : List (Str × α)), (a ++ b).lookup x = match a.lookup x with | some c => some c | none => b.lookup x
  | [], b => rfl
  | (k, v) :: r, b => by
    rw [List.cons_append, List.lookup_cons, List.lookup_cons]
    cases x == k with
    | true => rfl
    | false => exact lookup_append' x r b
theorem cellsFrom_app : ∀ (names : List (Str × NameKind)) (n : Nat) (acc cl : List (Str × Addr)), cellsFrom n names (acc ++ cl) = cellsFrom n names acc ++ cl
  | [], _, _, _ => rfl
  | (y, k) :: r, n, acc, cl => by
    unfold cellsFrom
    split
    · rw [← List.cons_append]; exact cellsFrom_app r _ _ cl
    · exact cellsFrom_app r _ _ cl
theorem cellsFrom_mem {x : Str} {c : Addr} : ∀ (names : List (Str × NameKind)) (n : Nat) (acc : List (Str × Addr)), (x, c) ∈ cellsFrom n names acc → (x, NameKind.cell) ∈ names ∨ (x, c) ∈ acc
  | [], _, _, h => .inr h
  | (y, k) :: r, n, acc, h => by
    unfold cellsFrom at h
    split at h
    · rename_i hk
      have hk : k = .cell := by simpa using hk
      subst hk
      rcases cellsFrom_mem r _ _ h with z | z
      · exact .inl (List.mem_cons_of_mem _ z)
      · rcases List.mem_cons.mp z with z | z
        · cases z; exact .inl List.mem_cons_self
        · exact .inr z
    · rcases cellsFrom_mem r _ _ h with z | z
      · exact .inl (List.mem_cons_of_mem _ z)
      · exact .inr z
theorem closure_go {env : Env} (f : Str × NameKind → List (Str × Addr) → Sem (ForInStep (List (Str × Addr))))
    (hf : ∀ name kind cs, f (name, kind) cs = if kind == .free then (do let a ← cellOf env name; pure (.yield ((name, a) :: cs))) else pure (.yield cs)) :
    ∀ (names : List (Str × NameKind)) (acc : List (Str × Addr)), (∀ x, (x, NameKind.free) ∈ names → ∃ c, env.cells.lookup x = some c) → (∀ x c, acc.lookup x = some c → env.cells.lookup x = some c) →
      ∃ cl, forIn names acc f = (pure cl : Sem _) ∧ (∀ x c, cl.lookup x = some c → env.cells.lookup x = some c) ∧ (∀ x, ((x, NameKind.free) ∈ names ∨ ∃ c, acc.lookup x = some c) → ∃ c, cl.lookup x = some c)
  | [], acc, _, h2 => ⟨acc, rfl, h2, fun x h => h.elim (fun z => nomatch z) id⟩
  | (y, k) :: r, acc, h1, h2 => by
    rw [List.forIn_cons, hf]
    by_cases hk : (k == NameKind.free) = true
    · rw [if_pos hk]
      have hk' : k = .free := by simpa using hk
      subst hk'
      obtain ⟨c, hc⟩ := h1 y List.mem_cons_self
      have e : (cellOf env y : Sem Addr) = pure c := by unfold cellOf; rw [hc]
      rw [e]
      obtain ⟨cl, e1, e2, e3⟩ := closure_go f hf r ((y, c) :: acc) (fun x hx => h1 x (List.mem_cons_of_mem _ hx)) (fun x c' hx => by
        rw [List.lookup_cons] at hx
        cases hb : x == y with
        | true => rw [hb] at hx; cases hx; rw [beq_iff_eq.mp hb]; exact hc
        | false => rw [hb] at hx; exact h2 x c' hx)
      refine ⟨cl, ?_, e2, fun x hx => e3 x ?_⟩
      · exact e1
      · rcases hx with hx | ⟨c', hx⟩
        · rcases List.mem_cons.mp hx with z | z
          · cases z; exact .inr ⟨c, by rw [List.lookup_cons]; simp⟩
          · exact .inl z
        · cases hb : x == y with
          | true => exact .inr ⟨c, by rw [List.lookup_cons, hb]⟩
          | false => exact .inr ⟨c', by rw [List.lookup_cons, hb]; exact hx⟩
    · rw [if_neg hk]
      obtain ⟨cl, e1, e2, e3⟩ := closure_go f hf r acc (fun x hx => h1 x (List.mem_cons_of_mem _ hx)) h2
      refine ⟨cl, e1, e2, fun x hx => e3 x ?_⟩
      rcases hx with hx | hx
      · rcases List.mem_cons.mp hx with z | z
        · cases z; exact absurd rfl hk
        · exact .inl z
      · exact .inr hx
theorem closure_of {scope : Scope} {env : Env} (h : ∀ x, (x, NameKind.free) ∈ scope.names → ∃ c, env.cells.lookup x = some c) :
    ∃ cl, closureFor scope env = pure cl ∧ (∀ x c, cl.lookup x = some c → env.cells.lookup x = some c) ∧ ∀ x, (x, NameKind.free) ∈ scope.names → ∃ c, cl.lookup x = some c := by
  obtain ⟨cl, e1, e2, e3⟩ := closure_go (env := env) (fun x cs => match x with | (name, kind) => if kind == .free then (do let a ← cellOf env name; pure (.yield ((name, a) :: cs))) else pure (.yield cs)) (fun _ _ _ => rfl) scope.names [] h (fun x c hx => nomatch hx)
  refine ⟨cl, ?_, e2, fun x hx => e3 x (.inl hx)⟩
  have : closureFor scope env = (forIn scope.names [] (fun x cs => match x with | (name, kind) => if kind == .free then (do let a ← cellOf env name; pure (.yield ((name, a) :: cs))) else pure (.yield cs)) >>= fun cs => pure cs) := by
    simp only [closureFor]
  rw [this, e1]
  rfl
def blkEnv (scope : Scope) (cl : List (Str × Addr)) (C : Addr) (env : Env) : Env :=
  { newEnv scope C env.globals (cellsFrom (C + 1) scope.names cl) env.qual none .none (some env) builtinsNs with scope := relabel scope env }
theorem nfe_comp {M : Model} {A : Around} {E : Value → Shared → Prop} {s : Shared} {scope : Scope} {cl : List (Str × Addr)} {env : Env} {Q : Env → Shared → Prop}
    (hQ : Q (newEnv scope s.heap.objs.size env.globals (cellsFrom (s.heap.objs.size + 1) scope.names cl) env.qual none .none (some env) builtinsNs) { s with heap := pushCells (s.heap.push { cls := .type "dict", data := .dict #[] }) scope.names }) :
    wpAny M A (newFunctionEnv scope env.globals cl [] env.qual none .none (some env)) Q E s := by
  simp only [newFunctionEnv, Option.isSome_some, if_true]
  refine wpAny_bind (wpAny_alloc ?_)
  refine wpAny_bind (wpAny_layCells _ (fun name kind cells => by cases hkc : kind == NameKind.cell <;> simp [hkc]) _ _ _ _ ?_)
  rw [show ({ s with heap := s.heap.push { cls := .type "dict", data := .dict #[] } } : Shared).heap.objs.size = s.heap.objs.size + 1 from Heap.size_push ..]
  refine wpAny_bind ?_
  rw [List.forIn_nil]
  exact wpAny_pure (wpAny_pure hQ)
section
variable {prog : Program} {w : World} {A : Around} {E : Value → Shared → Prop} {R : Result → Shared → Prop} {s : Shared}
theorem comp_loop {elt target iter : Expr} {ifs : List Expr} {scope : Scope} {pos : Pos} {it acc : Value} {env : Env} (I : Nat → Shared → Prop)
    (turn : ∀ n s, I n s → wpAny (model prog w) A (pyNext it) (fun r s₁ => match r with
      | none => R (.ok .next) s₁
      | some v => wpAny (model prog w) A (letOwnedTupleGo target it v) (fun _ s₁' => wpAny (model prog w) A (assign target env v) (fun _ s₂ =>
          wpAny (model prog w) A (forIn ifs true fun c r => if r = true then do let ok ← isTrue c env (eval c env); pure (ForInStep.yield ok) else pure (ForInStep.yield r)) (fun ok s₃ =>
            if ok = true then wpAny (model prog w) A (eval elt env) (fun x s₄ =>
              wpAny (model prog w) A (call (.builtin "list.append") [acc, x]) (fun _ s₅ => ∃ m, m < n ∧ I m s₅) (notedBy (model prog w) A env fun e s' => R (.error e) s') s₄) (notedBy (model prog w) A env fun e s' => R (.error e) s') s₃
            else ∃ m, m < n ∧ I m s₃) (notedBy (model prog w) A env fun e s' => R (.error e) s') s₂) (notedBy (model prog w) A env fun e s' => R (.error e) s') s₁') (notedBy (model prog w) A env fun e s' => R (.error e) s') s₁) (notedBy (model prog w) A env fun e s' => R (.error e) s') s)
    (n : Nat) (h : I n s) :
    codeAny (model prog w) A (.compLoop (.ListComp elt [⟨target, iter, ifs, 0⟩] scope pos) 0 it acc env) R s := by
  refine codeAny_loop rfl I (fun n s hI => ?_) n h
  show wpAny _ A ((compTurn (.ListComp elt [⟨target, iter, ifs, 0⟩] scope pos) 0 it acc env).onRaise (fun x => do noteFrame x env; theTreesLotGoes x)) _ _ s
  refine wpAny_noted ?_
  rw [compTurn_list]
  refine wpAny_bind (wpAny_standAt (wpAny_bind (wpAny_mono (turn n s hI) (fun r s₁ h₁ => ?_) fun _ _ h' => h')))
  cases r with
  | none => exact wpAny_pure h₁
  | some v =>
    refine wpAny_bind (wpAny_mono h₁ (fun _ s₁' h₁' => ?_) fun _ _ h' => h')
    refine wpAny_bind (wpAny_mono h₁' (fun _ s₂ h₂ => wpAny_bind (wpAny_mono h₂ (fun ok s₃ h₃ => ?_) fun _ _ h' => h')) fun _ _ h' => h')
    cases ok with
    | false => exact wpAny_pure ⟨rfl, h₃⟩
    | true =>
      exact wpAny_bind (wpAny_bind (wpAny_mono h₃ (fun x s₄ h₄ => wpAny_bind (wpAny_mono h₄ (fun _ s₅ h₅ => wpAny_pure (wpAny_pure ⟨rfl, h₅⟩)) fun _ _ h' => h')) fun _ _ h' => h'))
end
end L2
set_option Elab.async false
set_option linter.all false
set_option maxRecDepth 100000
namespace L2
open PySem PySem.Spec PyProof.Rows
theorem relabel_look {scope : Scope} {env : Env} {x : Str} {k : NameKind} (h : (relabel scope env).names.lookup x = some k) : ∃ k', scope.names.lookup x = some k' ∧ (k = k' ∨ (k' = .free ∧ k = .cell)) := by
  unfold relabel at h
  dsimp only at h
  generalize scope.names = names at h ⊢
  induction names with
  | nil => cases h
  | cons p r ih =>
    obtain ⟨n, k0⟩ := p
    rw [List.map_cons] at h
    rw [List.lookup_cons]
    cases hb : x == n with
    | true =>
      refine ⟨k0, rfl, ?_⟩
      dsimp only at h
      split at h
      · rename_i hc
        rw [List.lookup_cons, hb] at h
        cases h
        simp only [Bool.and_eq_true, beq_iff_eq] at hc
        exact .inr ⟨hc.1.1, rfl⟩
      · rw [List.lookup_cons, hb] at h
        cases h
        exact .inl rfl
    | false =>
      dsimp only at h
      refine ih ?_
      split at h
      · rw [List.lookup_cons, hb] at h; exact h
      · rw [List.lookup_cons, hb] at h; exact h
def blkCx (X : Cx) (N : List Str) (scope : Scope) (cl : List (Str × Addr)) (s : Shared) (H : Hp) (fp : List Addr) : Cx where
  prog := X.prog
  w := X.w
  K := X.K
  mg := X.mg
  base := X.base
  A := X.A
  N := N
  s₀ := s
  H₀ := H
  env := blkEnv scope cl (s.heap.objs.size + 1) X.env
  outer := X.stack
  stack := X.stack
  ex := fp
  fn := fun x => scope.names.lookup x == some .cell
  calm := X.calm
  pn := []
  xe := fun e₀ s₁ => (∃ (pins : List (Addr × Obj)) (σ : St), Inv X pins σ H s ∧ ∀ b ∈ fp, FpOk X pins H b) → notedBy (model X.prog X.w) X.A (blkEnv scope cl (s.heap.objs.size + 1) X.env) (fun x s' => ∃ m, s'.heap.Ns (s.heap.objs.size + 1) m ∧ ∀ h', Heap.SameBut (s.heap.objs.size + 1) s'.heap h' → ∀ cenv : Env, cenv.locals = s.heap.objs.size + 1 →
    wpAny (model X.prog X.w) X.A (passOn "comprehension.variables-let-go" x cenv : Sem Value) (fun _ _ => False) X.xe { s' with heap := h' }) e₀ s₁
def subσ (ix : List (Option Nat)) (σ : St) : St := ix.map fun o => match o with | none => none | some i => match σ[i]? with | some v => v | none => none
structure BlkOk (X : Cx) (N : List Str) (ix : List (Option Nat)) (scope : Scope) : Prop where
  kind : scope.kind = .function
  nd : N.Nodup
  len : ix.length = N.length
  names : (scope.names.map (·.1)).Nodup
  free : ∀ x, (x, NameKind.free) ∈ scope.names → X.env.kindOf x = some .cell ∨ X.env.kindOf x = some .free
  at_ : ∀ (j i : Nat) (x : Str), N[j]? = some x → ix[j]? = some (some i) → X.N[i]? = some x ∧ (x, NameKind.free) ∈ scope.names
theorem lookup_of_mem {α : Type} : ∀ {l : List (Str × α)} {x : Str} {k : α}, (l.map (·.1)).Nodup → (x, k) ∈ l → l.lookup x = some k
  | (y, k0) :: r, x, k, nd, h => by
    rw [List.map_cons, List.nodup_cons] at nd
    rw [List.lookup_cons]
    rcases List.mem_cons.mp h with e | e
    · cases e; simp
    · have : x ≠ y := by
        rintro rfl
        exact nd.1 (List.mem_map.mpr ⟨(x, k), e, rfl⟩)
      have hb : (x == y) = false := by simpa using this
      rw [hb]
      exact lookup_of_mem nd.2 e
theorem blk_start {X : Cx} {pins : List (Addr × Obj)} {σ : St} {H : Hp} {s : Shared} {N : List Str} {ix : List (Option Nat)} {scope : Scope} {cl : List (Str × Addr)} {fp : List Addr} (B : BlkOk X N ix scope)
    (I : Inv X pins σ H s) (hcl : ∀ x c, cl.lookup x = some c → X.env.cells.lookup x = some c) (hcf : ∀ x, (x, NameKind.free) ∈ scope.names → ∃ c, cl.lookup x = some c)
    (hfp : ∀ b ∈ fp, FpOk X pins H b) (hob : ∀ b ∈ fp, ∃ o, s.heap.get? b = some o ∧ ∀ v, o.data ≠ .cell v) :
    Inv (blkCx X N scope cl s H fp) [] (subσ ix σ) (upd H s.heap.objs.size (.lst []))
      { s with heap := pushCells ((s.heap.push { cls := .type "list", data := .seq #[] }).push { cls := .type "dict", data := .dict #[] }) scope.names } := by
  have hs2 : (s.heap.push { cls := .type "list", data := .seq #[] }).objs.size = s.heap.objs.size + 1 := Heap.size_push ..
  have hs3 : ((s.heap.push { cls := .type "list", data := .seq #[] }).push { cls := .type "dict", data := .dict #[] }).objs.size = s.heap.objs.size + 2 := by rw [Heap.size_push, hs2]
  have hk : ∀ b o, s.heap.get? b = some o → (pushCells ((s.heap.push { cls := .type "list", data := .seq #[] }).push { cls := .type "dict", data := .dict #[] }) scope.names).get? b = some o :=
    fun b o e => pushCells_keeps _ _ b o (Heap.get?_push_of_some _ (Heap.get?_push_of_some _ e))
  have hl : (pushCells ((s.heap.push { cls := .type "list", data := .seq #[] }).push { cls := .type "dict", data := .dict #[] }) scope.names).get? s.heap.objs.size = some { cls := .type "list", data := .seq #[] } :=
    pushCells_keeps _ _ _ _ (Heap.get?_push_of_some _ (Heap.get?_push_size _ rfl))
  have ok0 := cellsFrom_ok scope.names ((s.heap.push { cls := .type "list", data := .seq #[] }).push { cls := .type "dict", data := .dict #[] }) (s.heap.objs.size + 2) [] ⟨fun _ _ hm => (nomatch hm), List.Pairwise.nil⟩ (by rw [hs3]; exact Nat.le_refl _)
  rw [hs3] at ok0
  have hcells : (blkCx X N scope cl s H fp).env.cells = cellsFrom (s.heap.objs.size + 2) scope.names [] ++ cl := by
    show cellsFrom (s.heap.objs.size + 1 + 1) scope.names cl = _
    rw [← List.nil_append cl, cellsFrom_app]
    simp
  -- a cell of the block: a new one, or one of the closure
  have cases_ : ∀ x c, (blkCx X N scope cl s H fp).env.cells.lookup x = some c → ((x, c) ∈ cellsFrom (s.heap.objs.size + 2) scope.names [] ∧ (x, NameKind.cell) ∈ scope.names) ∨ ((cellsFrom (s.heap.objs.size + 2) scope.names []).lookup x = none ∧ cl.lookup x = some c) := fun x c e => by
    rw [hcells, lookup_append'] at e
    cases q : (cellsFrom (s.heap.objs.size + 2) scope.names []).lookup x with
    | none => rw [q] at e; exact .inr ⟨rfl, e⟩
    | some c' =>
      rw [q] at e
      cases e
      have m := PySem.mem_of_lookup q
      refine .inl ⟨m, ?_⟩
      rcases cellsFrom_mem _ _ _ m with z | z
      · exact z
      · exact nomatch z
  have oldc : ∀ x c, cl.lookup x = some c → c < s.heap.objs.size := fun x c e => by
    obtain ⟨v, q⟩ := I.cell x c (hcl x c e)
    exact q.lt
  have hfree : H s.heap.objs.size = none := I.hok.fresh (Nat.le_refl _)
  have hfix : ∀ b, s.heap.objs.size < b → (upd H s.heap.objs.size (.lst [])) b = none := fun b hb => by
    rw [upd_ne (Nat.ne_of_gt hb)]
    exact I.hok.fresh (Nat.le_of_lt hb)
  have hlt : ∀ b ∈ fp, b < s.heap.objs.size := fun b hb => by
    obtain ⟨o, e, _⟩ := hob b hb
    exact Heap.lt_size e
  have e0 := I.env0
  have isnew : ∀ x c, (x, c) ∈ cellsFrom (s.heap.objs.size + 2) scope.names [] → s.heap.objs.size + 2 ≤ c := fun x c m => (ok0.empty x c m).2
  refine ⟨⟨I.ok.mod, B.kind, I.ok.glob, I.ok.blt, Nat.le_succ _, fun x y c e1 e2 => ?_, fun x hx => ?_, fun x c hx e => ?_, I.ok.hd, I.ok.frames, .inl rfl, fun b hb => ⟨?_, fun x c e => ?_⟩, e0.bs, e0.bsz, fun b o e hb => ?_, fun b hb hb2 => ?_, e0.funs, e0.frf⟩,
    rfl, I.bare, Un.laid hk (Nat.le_refl _) hfree, ⟨fun _ => none, ?_, fun j x v e1 e2 e3 => ?_⟩, fun x c e => ?_, hfix _ (Nat.lt_succ_self _), fun x c e => ?_, fun p hp => absurd (show p ∈ ([] : List (Addr × Obj)) from hp) (by simp), ?_, ?_⟩
  · rcases cases_ x c e1 with ⟨m1, k1⟩ | ⟨n1, q1⟩ <;> rcases cases_ y c e2 with ⟨m2, k2⟩ | ⟨n2, q2⟩
    · exact name_of_addr ok0.apart m1 m2
    · exact absurd (Nat.lt_of_lt_of_le (oldc _ _ q2) (Nat.le_trans (Nat.le_add_right _ _) (isnew _ _ m1))) (Nat.lt_irrefl _)
    · exact absurd (Nat.lt_of_lt_of_le (oldc _ _ q1) (Nat.le_trans (Nat.le_add_right _ _) (isnew _ _ m2))) (Nat.lt_irrefl _)
    · exact I.ok.inj x y c (hcl _ _ q1) (hcl _ _ q2)
  · have hx' : (relabel scope X.env).names.lookup x = some .cell ∨ (relabel scope X.env).names.lookup x = some .free := hx
    have key : scope.names.lookup x = some .cell ∨ scope.names.lookup x = some .free := by
      rcases hx' with z | z
      · obtain ⟨k', e, r | r⟩ := relabel_look z
        · rw [← r] at e; exact .inl e
        · rw [r.1] at e; exact .inr e
      · obtain ⟨k', e, r | r⟩ := relabel_look z
        · rw [← r] at e; exact .inr e
        · cases r.2
    rw [hcells]
    rcases key with z | z
    · obtain ⟨c, q⟩ := cell_has (n := s.heap.objs.size + 2) z
      exact ⟨c, by rw [lookup_append', q]⟩
    · obtain ⟨c, q⟩ := hcf x (PySem.mem_of_lookup z)
      cases q2 : (cellsFrom (s.heap.objs.size + 2) scope.names []).lookup x with
      | none => exact ⟨c, by rw [lookup_append', q2]; exact q⟩
      | some c' => exact ⟨c', by rw [lookup_append', q2]⟩
  · have hx' : scope.names.lookup x = some .cell := by simpa [blkCx] using hx
    rcases cases_ x c e with ⟨m1, k1⟩ | ⟨n1, q1⟩
    · exact Nat.le_trans (Nat.le_add_right _ _) (isnew _ _ m1)
    · obtain ⟨c', q⟩ := cell_has (n := s.heap.objs.size + 2) hx'
      rw [q] at n1; cases n1
  · exact Nat.ne_of_lt (Nat.lt_succ_of_lt (hlt b hb))
  · rcases cases_ x c e with ⟨m1, k1⟩ | ⟨n1, q1⟩
    · exact Nat.ne_of_gt (Nat.lt_of_lt_of_le (hlt b hb) (Nat.le_trans (Nat.le_add_right _ _) (isnew _ _ m1)))
    · exact (hfp b hb).2.2.2.2.1 x c (hcl _ _ q1)
  · rcases (hfp b hb).2.2.2.1 with z | z
    · exact I.ok.noex b o e z
    · exact absurd (Nat.lt_of_lt_of_le (Heap.lt_size e) (Nat.le_trans I.ok.bsz z)) (Nat.lt_irrefl _)
  · rcases List.mem_cons.mp (I.stkSub b hb2) with z | z
    · exact (hfp b hb).2.1 z
    · exact (hfp b hb).2.2.1 z
  · show Heap.Ns _ (s.heap.objs.size + 1) _
    rw [← hs2]
    exact (Heap.Ns.new _ (.type "dict")).keeps (pushCells_keeps _ _)
  · -- a name of the block
    unfold subσ at e2
    rw [List.getElem?_map] at e2
    cases q : ix[j]? with
    | none => rw [q] at e2; cases e2
    | some o =>
      rw [q] at e2
      cases o with
      | none => cases e2
      | some i =>
        simp only [Option.map_some, Option.some.injEq] at e2
        obtain ⟨hN, hm⟩ := B.at_ j i x e1 q
        have hσ : σ[i]? = some (some v) := by
          cases q2 : σ[i]? with
          | none => rw [q2] at e2; cases e2
          | some z => rw [q2] at e2; exact congrArg some e2
        obtain ⟨m, hn, hl'⟩ := I.loc
        have hkind := B.free x hm
        have hvis : Vis X.env.scope x := hkind.elim (fun z => .inr (.inl z)) fun z => .inr (.inr z)
        obtain ⟨u, ru, lk⟩ := hl' i x v hN hσ hvis
        refine ⟨u, ru, ?_⟩
        obtain ⟨c, hc⟩ := hcf x hm
        have hnone : (cellsFrom (s.heap.objs.size + 2) scope.names []).lookup x = none := by
          cases q2 : (cellsFrom (s.heap.objs.size + 2) scope.names []).lookup x with
          | none => rfl
          | some c' =>
            rcases cellsFrom_mem _ _ _ (PySem.mem_of_lookup q2) with z | z
            · have a1 := lookup_of_mem B.names z
              have a2 := lookup_of_mem B.names hm
              rw [a1] at a2; cases a2
            · exact nomatch z
        have hcell : (blkCx X N scope cl s H fp).env.cells.lookup x = some c := by rw [hcells, lookup_append', hnone]; exact hc
        have hkk : (blkCx X N scope cl s H fp).env.kindOf x = some .cell ∨ (blkCx X N scope cl s H fp).env.kindOf x = some .free := by
          rcases e3 with z | z | z
          · obtain ⟨k', e, r | r⟩ := relabel_look (show (relabel scope X.env).names.lookup x = some .local from z)
            · rw [lookup_of_mem B.names hm] at e; cases e; cases r
            · cases r.2
          · exact .inl z
          · exact .inr z
        refine .inr ⟨hkk, c, hcell, ?_⟩
        rcases lk with ⟨k1, _⟩ | ⟨_, c2, e4, z⟩
        · rcases hkind with z | z <;> rw [k1] at z <;> cases z
        · rw [hcl x c hc] at e4; cases e4
          exact z.keeps hk
  · rcases cases_ x c e with ⟨m1, k1⟩ | ⟨n1, q1⟩
    · exact ⟨none, (ok0.empty x c m1).1⟩
    · obtain ⟨v, z⟩ := I.cell x c (hcl _ _ q1)
      exact ⟨v, z.keeps hk⟩
  · rcases cases_ x c e with ⟨m1, k1⟩ | ⟨n1, q1⟩
    · exact hfix c (Nat.lt_of_lt_of_le (Nat.lt_add_of_pos_right (by decide)) (isnew _ _ m1))
    · rw [upd_ne (Nat.ne_of_lt (oldc _ _ q1))]
      exact I.freeC x c (hcl _ _ q1)
  · exact I.hok.laid hk (Nat.le_refl _) ⟨Nat.zero_le _, [], 0, .nil, hl⟩
  · show (subσ ix σ).length = N.length
    unfold subσ
    rw [List.length_map]
    exact B.len
end L2
set_option Elab.async false
set_option linter.all false
set_option maxRecDepth 100000
namespace L2
open PySem PySem.Spec PyProof.Rows
def PTs (X : Cx) (ifs : List Expr) (t : TT) : Prop :=
  ∀ (pins : List (Addr × Obj)) (s : Shared) (σ : St) (H : Hp) (Q : Bool → Hp → Prop), Inv X pins σ H s → t σ H Q →
    wpAny (model X.prog X.w) X.A (forIn ifs true fun c r => if r = true then do let ok ← isTrue c X.env (eval c X.env); pure (ForInStep.yield ok) else pure (ForInStep.yield r)) (TP X pins σ Q) X.xe s
def tTrue : TT := fun _ H Q => Q true H
theorem pts_nil {X : Cx} : PTs X [] tTrue := fun _ _ _ H _ I h => wpAny_tests_nil ⟨H, I, h⟩
def tCompG (ix : List (Option Nat)) (wi : TI) (g : TG) (tt : TT) (te : TE) (fin : Addr → Hp → Prop) : St → Hp → Prop := fun σ H => wi σ H fun J H1 => ∀ l, H1 l = none →
  ∃ W : Nat → Nat → St → Hp → Prop, (∃ m, W 0 m (subσ ix σ) (upd H1 l (.lst []))) ∧ ∀ i m σ' H', W i m σ' H' →
    (J.stop i H' ∧ fin l H') ∨ (J.go i H' ∧ ∃ N : St → Hp → Prop, (∀ σ'' H'', N σ'' H'' → ∃ m', m' < m ∧ W (i + 1) m' σ'' H'') ∧ ∀ x H2, J.yld i H' x H2 → g x σ' H2 fun σ2 H3 => tt σ2 H3 fun b H4 =>
      if b = true then te σ2 H4 fun y H5 => ∃ ys, H5 l = some (.lst ys) ∧ ys.length < sizeLine ∧ N σ2 (upd H5 l (.lst (ys ++ [y]))) else N σ2 H4)
section
variable {X : Cx} {pins : List (Addr × Obj)} {σ σ' : St} {H H' : Hp} {s s' : Shared} {N : List Str} {scope : Scope} {cl : List (Str × Addr)} {fp : List Addr}
theorem blk_end {h' : Heap} (I : Inv X pins σ H s) (J : Inv (blkCx X N scope cl s H fp) [] σ' H' s') (hfp : ∀ b ∈ fp, FpOk X pins H b) (sb : Heap.SameBut (s.heap.objs.size + 1) s'.heap h') : Inv X pins σ H' { s' with heap := h' } := by
  have u : Un (frs X.stack) fp H H' s.heap s'.heap := J.base
  have hC : H' (s.heap.objs.size + 1) = none := J.free
  have ne : ∀ b o, s.heap.get? b = some o → b ≠ s.heap.objs.size + 1 := fun b o e => Nat.ne_of_lt (Nat.lt_succ_of_lt (Heap.lt_size e))
  refine I.call' (s' := { s' with heap := h' }) (ch := fp) J.os ⟨fun b o e n hb hx => ?_, fun b o e n hb hx => ?_, u.free, fun b o e hx => ?_, u.tups, u.frzs, u.tbls⟩ (fun b ob e => ?_) J.bare fun b hb => ?_
  · exact (sb.2 b (ne b o e)).trans (u.keep b o e n hb hx)
  · obtain ⟨sl, q⟩ := u.slot b o e n hb hx
    exact ⟨sl, (sb.2 b (ne b o e)).trans q⟩
  · obtain ⟨o', q⟩ := u.there b o e hx
    exact ⟨o', (sb.2 b (ne b o e)).trans q⟩
  · refine (J.hok b ob e).stay (fun c w' hc q => (sb.2 c ?_).trans q) (fun _ q => q) fun _ _ q => q
    rintro rfl
    rcases hc with rfl | hc
    · rw [hC] at e; cases e
    · rw [hC] at hc; cases hc
  · obtain ⟨f0, f1, f2, f3, f4, f5⟩ := hfp b hb
    exact ⟨f3, f1, f4, f5⟩
theorem comp_run {tg iter elt : Expr} {ifs : List Expr} {pos : Pos} {ix : List (Option Nat)} {wi : TI} {g : TG} {tt : TT} {te : TE} {fin : Addr → Hp → Prop} {RR : Value → Addr → Result → Shared → Prop} (B : BlkOk X N ix scope) (hc : X.calm = true)
    (hi : PI X tg iter wi) (hg : ∀ cl s H fp, PG (blkCx X N scope cl s H fp) tg g) (ht : ∀ cl s H fp, PTs (blkCx X N scope cl s H fp) ifs tt) (he : ∀ cl s H fp, PE (blkCx X N scope cl s H fp) elt te)
    (hcl : ∀ x c, cl.lookup x = some c → X.env.cells.lookup x = some c) (hcf : ∀ x, (x, NameKind.free) ∈ scope.names → ∃ c, cl.lookup x = some c)
    (I : Inv X pins σ H s) (h : tCompG ix wi g tt te fin σ H)
    (ok : ∀ (s2 : Shared) (H2 : Hp) (fp : List Addr) (σ3 : St) (H3 : Hp) (s3 : Shared), Inv X pins σ H2 s2 → (∀ b ∈ fp, FpOk X pins H2 b) → Inv (blkCx X N scope cl s2 H2 fp) [] σ3 H3 s3 → fin s2.heap.objs.size H3 → RR (.ref s2.heap.objs.size) (s2.heap.objs.size + 1) (.ok .next) s3)
    (bad : ∀ (a C : Addr) (x : Value) (s' : Shared), (∃ m, s'.heap.Ns C m ∧ ∀ h', Heap.SameBut C s'.heap h' → ∀ cenv : Env, cenv.locals = C → wpAny (model X.prog X.w) X.A (passOn "comprehension.variables-let-go" x cenv : Sem Value) (fun _ _ => False) X.xe { s' with heap := h' }) → RR (.ref a) C (.error x) s') :
    wpAny (model X.prog X.w) X.A (eval iter X.env) (fun x s₁ => wpAny (model X.prog X.w) X.A (pyIter x) (fun it s₂ => wpAny (model X.prog X.w) X.A (newList []) (fun acc s₃ =>
      wpAny (model X.prog X.w) X.A (newFunctionEnv scope X.env.globals cl [] X.env.qual none .none (some X.env)) (fun cenv s₄ =>
        codeAny (model X.prog X.w) X.A (.compStart (.ListComp elt [⟨tg, iter, ifs, 0⟩] scope pos) 0 it acc { cenv with scope := relabel scope X.env }) (RR acc cenv.locals) s₄) X.xe s₃) X.xe s₂) X.xe s₁) X.xe s := by
  refine thn (hi pins s σ H _ I h) fun v s1 h1 => thn h1 fun itv s2 h2 => ?_
  obtain ⟨it, fp, tn, J, H2, e, I2, T, st2, f2, h2⟩ := h2
  subst e
  refine wpAny_newList (nfe_comp ?_) (Nat.zero_le _)
  have hs2 : (s2.heap.push { cls := .type "list", data := .seq (([] : List Value)).toArray }).objs.size = s2.heap.objs.size + 1 := Heap.size_push ..
  dsimp only
  rw [hs2]
  have I3 := blk_start (fp := fp) B I2 hcl hcf f2 (T.obj _ _ st2)
  obtain ⟨W, ⟨m0, w0⟩, turn⟩ := h2 s2.heap.objs.size I2.fresh
  have hk : ∀ b o, s2.heap.get? b = some o → (pushCells ((s2.heap.push { cls := .type "list", data := .seq #[] }).push { cls := .type "dict", data := .dict #[] }) scope.names).get? b = some o :=
    fun b o e => pushCells_keeps _ _ b o (Heap.get?_push_of_some _ (Heap.get?_push_of_some _ e))
  have st3 := T.keep _ _ _ st2 fun b _ o e => hk b o e
  have fr3 : ∀ b ∈ fp, (upd H2 s2.heap.objs.size (.lst [])) b = none := fun b hb => by
    obtain ⟨o, e, _⟩ := T.obj _ _ st2 b hb
    rw [upd_ne (Nat.ne_of_lt (Heap.lt_size e))]
    exact (f2 b hb).1
  have stat : ∀ {σ5 : St} {H5 : Hp} {s5 : Shared}, Inv (blkCx X N scope cl s2 H2 fp) [] σ5 H5 s5 → (∀ b ∈ fp, H5 b = none) → ∀ b ∈ fp, FpOk (blkCx X N scope cl s2 H2 fp) [] H5 b := fun I5 hn b hb =>
    ⟨hn b hb, (I5.ok.exf b hb).1, I5.ok.exfs b hb, .inl hb, (I5.ok.exf b hb).2, fun p hp => absurd (show p ∈ ([] : List (Addr × Obj)) from hp) (by simp)⟩
  have loop : ∀ s₃ : Shared, s₃ = { s2 with heap := pushCells ((s2.heap.push { cls := .type "list", data := .seq #[] }).push { cls := .type "dict", data := .dict #[] }) scope.names } →
      codeAny (model X.prog X.w) X.A (.compLoop (.ListComp elt [⟨tg, iter, ifs, 0⟩] scope pos) 0 (.ref it) (.ref s2.heap.objs.size) (blkCx X N scope cl s2 H2 fp).env) (RR (.ref s2.heap.objs.size) (s2.heap.objs.size + 1)) s₃ := by
    rintro s₃ rfl
    refine comp_loop (fun n s' => ∃ i σ' H', Inv (blkCx X N scope cl s2 H2 fp) [] σ' H' s' ∧ tn i s'.heap ∧ (∀ b ∈ fp, H' b = none) ∧ W i n σ' H') ?_ m0 ⟨0, _, _, I3, st3, fr3, w0⟩
    rintro n s4 ⟨i, σ4, H4, I4, st4, fr4, w4⟩
    have xe_ : ∀ x s', (blkCx X N scope cl s2 H2 fp).xe x s' → notedBy (model X.prog X.w) X.A (blkCx X N scope cl s2 H2 fp).env (fun e s' => RR (.ref s2.heap.objs.size) (s2.heap.objs.size + 1) (.error e) s') x s' := fun x s' hx =>
      wpAny_mono (hx ⟨pins, σ, I2, f2⟩) (fun _ s'' q => bad _ _ _ _ q) fun e s'' q => bad _ _ _ _ q
    rcases turn i n σ4 H4 w4 with ⟨stop, qn⟩ | ⟨go, Nx, hN, step⟩
    · refine wpAny_mono (T.done (blkCx X N scope cl s2 H2 fp) rfl rfl rfl hc i [] s4 σ4 H4 _ I4 (stat I4 fr4) st4 stop) (fun r s5 ⟨hr, I5⟩ => ?_) xe_
      subst hr
      exact ok s2 H2 fp σ4 H4 s5 I2 f2 I5 qn
    · refine wpAny_mono (T.item (blkCx X N scope cl s2 H2 fp) rfl rfl rfl hc i [] s4 σ4 H4 _ I4 (stat I4 fr4) st4 go) (fun r s5 ⟨u, hr, h5⟩ => ?_) xe_
      subst hr
      refine wpAny_mono h5 (fun _ s6 ⟨x, H6, I6, r6, y6, st6, fr6⟩ => ?_) xe_
      have I6' := I6.pinned (stat I6 fr6) (T.obj _ _ st6)
      refine wpAny_mono (hg cl s2 H2 fp _ s6 σ4 H6 x u _ I6' r6 (step x H6 y6)) (fun _ s7 ⟨σ7, H7, I7, q7⟩ => ?_) xe_
      have again : ∀ {σ8 : St} {H8 : Hp} {s8 : Shared}, Inv (blkCx X N scope cl s2 H2 fp) ([] ++ pinsAt fp s6.heap) σ8 H8 s8 → Nx σ8 H8 → ∃ m, m < n ∧ ∃ i σ' H', Inv (blkCx X N scope cl s2 H2 fp) [] σ' H' s8 ∧ tn i s8.heap ∧ (∀ b ∈ fp, H' b = none) ∧ W i m σ' H' := fun {σ8 H8 s8} I8 n8 => by
        obtain ⟨m', hm, w8⟩ := hN σ8 H8 n8
        refine ⟨m', hm, i + 1, σ8, H8, I8.unpinned, T.keep _ _ _ st6 fun b hb o e => (I8.pin (b, o) (List.mem_append_right _ (List.mem_append_right _ (mem_pinsAt hb e)))).1, fun b hb => ?_, w8⟩
        obtain ⟨o, e, d⟩ := T.obj _ _ st6 b hb
        exact (I8.pin (b, o) (List.mem_append_right _ (List.mem_append_right _ (mem_pinsAt hb e)))).2.1
      refine wpAny_mono (ht cl s2 H2 fp _ s7 σ7 H7 _ I7 q7) (fun okb s8 ⟨H8, I8, q8⟩ => ?_) xe_
      cases okb with
      | false => exact again I8 q8
      | true =>
        refine wpAny_mono (he cl s2 H2 fp _ s8 σ7 H8 _ I8 q8) (fun y s9 ⟨yv, H9, I9, r9, ys, hl, hz, q9⟩ => ?_) xe_
        refine wpAny_mono (mt_append (X := blkCx X N scope cl s2 H2 fp) _ s9 σ7 H9 (.ref s2.heap.objs.size) [yv] (.ref s2.heap.objs.size) [y] (fun _ H10 => Nx σ7 H10) I9 rfl (.cons r9 .nil) ⟨_, ys, yv, rfl, rfl, hl, hz, q9⟩) (fun _ s10 ⟨_, H10, I10, _, q10⟩ => ?_) xe_
        exact again I10 q10
  exact codeAny_compStart_list (loop _ rfl) (T.self _ 0 _ _ _ st3 (loop _ rfl))
def tComp (ix : List (Option Nat)) (wi : TI) (g : TG) (tt : TT) (te : TE) : TE := fun σ H Q => tCompG ix wi g tt te (fun l H' => Q (.ref l) H') σ H
def sComp (k : Nat) (ix : List (Option Nat)) (wi : TI) (g : TG) (tt : TT) (te : TE) : TS := fun D σ H => tCompG ix wi g tt te (fun l H' => D.nx (σ.set k (some (.ref l))) H') σ H
theorem comp_cl (I : Inv X pins σ H s) {ix : List (Option Nat)} (B : BlkOk X N ix scope) : ∃ cl, closureFor scope X.env = pure cl ∧ (∀ x c, cl.lookup x = some c → X.env.cells.lookup x = some c) ∧ ∀ x, (x, NameKind.free) ∈ scope.names → ∃ c, cl.lookup x = some c :=
  closure_of fun x hx => I.ok.has x (B.free x hx)
theorem names_local {ix : List (Option Nat)} (B : BlkOk X N ix scope) : ∀ x ∈ scope.names, x.2 = NameKind.local → scope.names.lookup x.1 = some .local := fun x hx e => by
  obtain ⟨n, k⟩ := x
  cases e
  exact lookup_of_mem B.names hx
theorem pe_comp {tg iter elt : Expr} {ifs : List Expr} {pos : Pos} {ix : List (Option Nat)} {wi : TI} {g : TG} {tt : TT} {te : TE} (N : List Str) (B : BlkOk X N ix scope) (hc : X.calm = true)
    (hi : PI X tg iter wi) (hg : ∀ cl s H fp, PG (blkCx X N scope cl s H fp) tg g) (ht : ∀ cl s H fp, PTs (blkCx X N scope cl s H fp) ifs tt) (he : ∀ cl s H fp, PE (blkCx X N scope cl s H fp) elt te)
    (hs : ∀ x, foldedSetIterable iter X.env x = pure x := by intro _; rfl) : PE X (.ListComp elt [⟨tg, iter, ifs, 0⟩] scope pos) (tComp ix wi g tt te) := by
  intro pins s σ H Q I h
  obtain ⟨cl, e1, e2, e3⟩ := comp_cl I B
  rw [eval_ListComp]
  refine wpAny_comprehension_free (use := none) rfl hs e1 B.kind (names_local B) ?_
  refine comp_run (RR := fun acc C => compPost (model X.prog X.w) X.A X.xe none (EP X pins σ Q) acc C) B hc hi hg ht he e2 e3 I h (fun s2 H2 fp σ3 H3 s3 I2 f2 J q => ?_) (fun a C x s' q => q)
  obtain ⟨m, hn, _⟩ := J.loc
  exact ⟨m, hn, fun h' sb => ⟨.ref _, H3, blk_end I2 J f2 sb, rfl, q⟩⟩
theorem ps_comp {y : Str} {py spos : Pos} {k : Nat} {tg iter elt : Expr} {ifs : List Expr} {pos : Pos} {ix : List (Option Nat)} {wi : TI} {g : TG} {tt : TT} {te : TE} (hN : X.N.Nodup) (hy : X.N[k]? = some y) (hx : Loc X.env.scope y)
    (hsw : swapsWith (.ListComp elt [⟨tg, iter, ifs, 0⟩] scope pos) (some (.Name y py)) spos.line X.env = pure true) (N : List Str) (B : BlkOk X N ix scope) (hc : X.calm = true)
    (hi : PI X tg iter wi) (hg : ∀ cl s H fp, PG (blkCx X N scope cl s H fp) tg g) (ht : ∀ cl s H fp, PTs (blkCx X N scope cl s H fp) ifs tt) (he : ∀ cl s H fp, PE (blkCx X N scope cl s H fp) elt te)
    (hs : ∀ x, foldedSetIterable iter X.env x = pure x := by intro _; rfl) (hf : X.fn y = true ∨ X.env.scope.names.lookup y = some .local := by first | exact .inl rfl | exact .inr rfl | assumption) :
    PS X (.Assign [.Name y py] (.ListComp elt [⟨tg, iter, ifs, 0⟩] scope pos) spos) (sComp k ix wi g tt te) := by
  intro pins s σ H D I h
  obtain ⟨cl, e1, e2, e3⟩ := comp_cl I B
  rw [exec_Assign_Name_used _ _ _ _ hsw]
  refine wpAny_bind (wpAny_standAt (wpAny_bind ?_))
  show wpAny _ X.A (do let _ ← comprehension (.ListComp elt [⟨tg, iter, ifs, 0⟩] scope pos) scope X.env _ (newList []) false (eval iter X.env) (some (assign (.Name y py) X.env))) _ _ s
  refine wpAny_bind (wpAny_mono (wpAny_comprehension_free (use := some (assign (.Name y py) X.env)) (Q := fun _ s' => SP X pins D .next s') rfl hs e1 B.kind (names_local B) ?_) (fun _ s' hq => wpAny_pure (wpAny_pure hq)) fun _ _ e => e)
  refine comp_run (RR := fun acc C => compPost (model X.prog X.w) X.A X.xe (some (assign (.Name y py) X.env)) (fun _ s' => SP X pins D .next s') acc C) B hc hi hg ht he e2 e3 I h (fun s2 H2 fp σ3 H3 s3 I2 f2 J q => ?_) (fun a C x s' q => q)
  obtain ⟨m, hn, _⟩ := J.loc
  have I3 : Inv X pins σ H3 { s3 with heap := s3.heap } := blk_end I2 J f2 (Heap.SameBut.refl _ _)
  show wpAny _ X.A (assign (.Name y py) X.env (.ref _)) _ _ _
  refine wpAny_assign_Name (store_ok2 (v := .ref _) I3 hN hy hx rfl (fun s4 I4 ⟨a, sb4, ha⟩ => ?_) hf)
  have hlt : a < s2.heap.objs.size := by
    rcases ha with rfl | ha
    · exact I2.lt
    · obtain ⟨v, z⟩ := I2.cell _ _ ha
      exact z.lt
  have hCa : s2.heap.objs.size + 1 ≠ a := Nat.ne_of_gt (Nat.lt_succ_of_lt hlt)
  refine ⟨m, hn.sameBut sb4 hCa, fun h' sb => ?_⟩
  refine ⟨_, H3, I4.turned (t' := s4.toks) (it := s2.heap.objs.size + 1) (fun b o hb e => (sb.2 b hb).trans e) J.free (Nat.ne_of_gt (Nat.lt_succ_of_lt I2.lt)) (.inr (Nat.le_trans I2.sz (Nat.le_succ _))) (fun x c e => ?_) (fun p hp => ?_), q⟩
  · obtain ⟨v, z⟩ := I2.cell x c e
    exact Nat.ne_of_lt (Nat.lt_succ_of_lt z.lt)
  · exact Nat.ne_of_lt (Nat.lt_succ_of_lt (Heap.lt_size (I2.pin p hp).1))
end
end L2
set_option Elab.async false
set_option linter.all false
set_option maxRecDepth 100000
namespace L2
open PySem PySem.Spec PyProof.Rows
def bnd {α : Type} : Option α → (α → Prop) → Prop
  | some a, k => k a
  | none, _ => False
theorem bnd_of {α : Type} {o : Option α} {a : α} {k : α → Prop} (h : o = some a) (q : k a) : bnd o k := by subst h; exact q
theorem bnd_ex {α : Type} {o : Option α} {k : α → Prop} (h : bnd o k) : ∃ a, o = some a ∧ k a := by
  cases o with
  | none => exact h.elim
  | some a => exact ⟨a, rfl, h⟩
theorem bnd_some {α : Type} {a : α} {k : α → Prop} : bnd (some a) k = k a := rfl
def unM : Option HO → Option (List V)
  | some (.lst xs) => some xs
  | _ => none
def unL : Option HO → Option (List V)
  | some (.lst xs) => some xs
  | some (.frz _ (.lst xs)) => some xs
  | _ => none
def unS : Option HO → Option (List V)
  | some (.lst xs) => some xs
  | some (.frz _ (.lst xs)) => some xs
  | some (.tup xs) => some xs
  | _ => none
theorem unM_ex {o : Option HO} {xs : List V} (h : unM o = some xs) : o = some (.lst xs) := by
  unfold unM at h; split at h
  · cases h; rfl
  · cases h
theorem unL_sq {K : PySem.W.Frag} {H : Hp} {p : Addr} {xs : List V} (h : unL (H p) = some xs) : SqL K H p xs := by
  unfold unL at h; split at h
  · rename_i e; cases h; exact .inl (.inl e)
  · rename_i o _ e; cases h; exact .inl (.inr ⟨_, e⟩)
  · cases h
theorem unS_sq {K : PySem.W.Frag} {H : Hp} {p : Addr} {xs : List V} (h : unS (H p) = some xs) : SqL K H p xs ∨ SqT K H p xs := by
  unfold unS at h; split at h
  · rename_i e; cases h; exact .inl (.inl (.inl e))
  · rename_i o _ e; cases h; exact .inl (.inl (.inr ⟨_, e⟩))
  · rename_i e; cases h; exact .inr (.inl (.inl e))
  · cases h
mutual
inductive DV (K : PySem.W.Frag) (H : Hp) : V → PyData → Prop
  | non : DV K H .non .none
  | bl (b : Bool) : DV K H (.bl b) (.bool b)
  | int (i : Int) : DV K H (.int i) (.int i)
  | str (x : Str) : DV K H (.str x) (.str x)
  | lst {a : Addr} {xs : List V} {ds : List PyData} : SqL K H a xs → DVs K H xs ds → DV K H (.ref a) (.list ds)
  | tup {a : Addr} {xs : List V} {ds : List PyData} : SqT K H a xs → DVs K H xs ds → DV K H (.ref a) (.tuple ds)
inductive DVs (K : PySem.W.Frag) (H : Hp) : List V → List PyData → Prop
  | nil : DVs K H [] []
  | cons {x : V} {d : PyData} {xs : List V} {ds : List PyData} : DV K H x d → DVs K H xs ds → DVs K H (x :: xs) (d :: ds)
end
section
variable {X : Cx} {pins : List (Addr × Obj)} {σ : St} {H : Hp} {s : Shared}
mutual
theorem DV.reads (I : Inv X pins σ H s) : ∀ {x : V} {d : PyData} {v : Value}, DV X.K H x d → RelV x v → ∃ as, Reads s.heap v d as
  | _, _, _, .non, r => by cases r; exact ⟨_, .none⟩
  | _, _, _, .bl b, r => by cases r; exact ⟨_, .bool b⟩
  | _, _, _, .int i, r => by obtain ⟨t, rfl⟩ := r; exact ⟨_, .int i t⟩
  | _, _, _, .str x, r => by obtain ⟨t, rfl⟩ := r; exact ⟨_, .str x t⟩
  | _, _, _, .lst (a := a) h hs, r => by
    cases r
    obtain ⟨its, rv, p, _⟩ := I.list h
    obtain ⟨as, q⟩ := DVs.reads I hs rv
    obtain ⟨o, h1, h2, n, h3⟩ := p.isList
    exact ⟨_, .list h1 h2 h3 q⟩
  | _, _, _, .tup (a := a) h hs, r => by
    cases r
    obtain ⟨its, rv, p, _⟩ := I.tuple h
    obtain ⟨as, q⟩ := DVs.reads I hs rv
    obtain ⟨o, h1, h2, n, h3⟩ := p
    exact ⟨_, .tuple h1 h2 h3 q⟩
theorem DVs.reads (I : Inv X pins σ H s) : ∀ {xs : List V} {ds : List PyData} {us : List Value}, DVs X.K H xs ds → Vals xs us → ∃ as, ReadsAll s.heap us ds as
  | _, _, _, .nil, .nil => ⟨_, .nil⟩
  | _, _, _, .cons h hs, .cons r rs => by
    obtain ⟨as, q⟩ := DV.reads I h r
    obtain ⟨bs, q2⟩ := DVs.reads I hs rs
    exact ⟨_, .cons q q2⟩
end
end
def cAdd : R2
  | .int i, .int j, H, Q => Q (.int (i + j)) H
  | .str i, .str j, H, Q => i.length + j.length ≤ sizeLine ∧ Q (.str (i ++ j)) H
  | .ref l, .ref b, H, Q => bnd (unM (H l)) fun xs => bnd (unM (H b)) fun zs => xs.length + zs.length ≤ sizeLine ∧ ∀ p, H p = none → Q (.ref p) (upd H p (.lst (xs ++ zs)))
  | _, _, _, _ => False
def cSub : R2
  | .int i, .int j, H, Q => Q (.int (i - j)) H
  | _, _, _, _ => False
def cMul : R2
  | .int i, .int j, H, Q => CMul i j ∧ Q (.int (i * j)) H
  | _, _, _, _ => False
def cDiv : R2
  | .int i, .int j, H, Q => CDiv i j ∧ Q (.int (i / j)) H
  | _, _, _, _ => False
def cMod : R2
  | .int i, .int j, H, Q => 0 < j ∧ Q (.int (i % j)) H
  | _, _, _, _ => False
def cPow : R2
  | .int i, .int j, H, Q => CPow i j ∧ Q (.int (i ^ j.toNat)) H
  | _, _, _, _ => False
def cCmp (g : Int → Int → Bool) : R2
  | .int i, .int j, H, Q => Q (.bl (g i j)) H
  | _, _, _, _ => False
def rEqD (K : PySem.W.Frag) : R2 := fun x y H Q => ∃ d e, DV K H x d ∧ DV K H y e ∧ SeqAt.shaped d = true ∧ SeqAt.shaped e = true ∧ Q (.bl (PyData.eqv d e)) H
def rNeD (K : PySem.W.Frag) : R2 := fun x y H Q => ∃ d e, DV K H x d ∧ DV K H y e ∧ SeqAt.shaped d = true ∧ SeqAt.shaped e = true ∧ Q (.bl (!PyData.eqv d e)) H
def cEq (K : PySem.W.Frag) : R2
  | .int i, .int j, H, Q => Q (.bl (decide (i = j))) H
  | .bl i, .bl j, H, Q => Q (.bl (decide (i = j))) H
  | .str i, .str j, H, Q => Q (.bl (decide (i = j))) H
  | x, y, H, Q => rEqD K x y H Q
def cNe (K : PySem.W.Frag) : R2
  | .int i, .int j, H, Q => Q (.bl (!decide (i = j))) H
  | .bl i, .bl j, H, Q => Q (.bl (!decide (i = j))) H
  | .str i, .str j, H, Q => Q (.bl (!decide (i = j))) H
  | x, y, H, Q => rNeD K x y H Q
def rInD (K : PySem.W.Frag) (neg : Bool) : R2 := fun x y H Q => ∃ d ds, DV K H x d ∧ (DV K H y (.list ds) ∨ DV K H y (.tuple ds)) ∧ PyData.canLayAll0 ds = true ∧ PyData.canLay0 d = true ∧ min (PyData.depthAll ds) d.depth ≤ 62 ∧
  Q (.bl (if neg then !ds.any (fun y => PyData.eqv y d) else ds.any fun y => PyData.eqv y d)) H
def keyOf : V → Option Key
  | .int i => some (.inl i)
  | .str x => some (.inr x)
  | _ => none
def unD : Option HO → Option (List (Key × V))
  | some (.dK kvs) => some kvs
  | _ => none
def cIn (K : PySem.W.Frag) (neg : Bool) : R2
  | .ref a, y, H, Q => rInD K neg (.ref a) y H Q
  | x, .ref p, H, Q => (match unD (H p) with
    | some kvs => bnd (keyOf x) fun k => Q (.bl (if neg then !(valV kvs k).isSome else (valV kvs k).isSome)) H
    | none => bnd (unS (H p)) fun xs => flatV x = true ∧ xs.all flatV = true ∧ Q (.bl (if neg then !inV x xs else inV x xs)) H)
  | .str i, .str j, H, Q => Q (.bl (if neg then !(!(Builtin.Str.occurrences j i 0 j.length 1).isEmpty) else !(Builtin.Str.occurrences j i 0 j.length 1).isEmpty)) H
  | _, _, _, _ => False
def cIx : R2
  | .ref p, y, H, Q => (match unD (H p) with
    | some kvs => bnd (keyOf y) fun k => bnd (valV kvs k) fun v => Q v H
    | none => match y with
      | .int i => bnd (unS (H p)) fun xs => bnd (atI xs i) fun v => Q v H
      | _ => False)
  | .str z, .int i, H, Q => z.length ≤ sizeLine ∧ bnd (atI z.cps.toList i) fun c => Q (.str ⟨#[c]⟩) H
  | _, _, _, _ => False
theorem unD_ex {o : Option HO} {kvs : List (Key × V)} (h : unD o = some kvs) : o = some (.dK kvs) := by
  unfold unD at h; split at h
  · cases h; rfl
  · cases h
theorem keyOf_kV {x : V} {k : Key} (h : keyOf x = some k) : x = kV k := by
  unfold keyOf at h; split at h
  · cases h; rfl
  · cases h; rfl
  · cases h
section
variable {X : Cx} {a b c : Expr} {ta tb tc : TE} {pos : Pos}
theorem op_cAdd : OpR X (binaryOp .Add) cAdd := by
  intro pins s σ H x y v u Q I rx ry h
  unfold cAdd at h
  split at h
  · exact op_add pins s σ H _ _ v u Q I rx ry ⟨_, _, rfl, rfl, h⟩
  · exact op_add_str pins s σ H _ _ v u Q I rx ry ⟨_, _, rfl, rfl, h.1, h.2⟩
  · obtain ⟨xs, e1, h⟩ := bnd_ex h
    obtain ⟨zs, e2, h⟩ := bnd_ex h
    exact op_cat pins s σ H _ _ v u Q I rx ry ⟨_, _, xs, zs, rfl, rfl, unM_ex e1, unM_ex e2, h.1, h.2⟩
  · exact h.elim
theorem op_cSub : OpR X (binaryOp .Sub) cSub := by
  intro pins s σ H x y v u Q I rx ry h
  unfold cSub at h
  split at h
  · exact op_sub pins s σ H _ _ v u Q I rx ry ⟨_, _, rfl, rfl, h⟩
  · exact h.elim
theorem op_cMul : OpR X (binaryOp .Mult) cMul := by
  intro pins s σ H x y v u Q I rx ry h
  unfold cMul at h
  split at h
  · exact op_mul pins s σ H _ _ v u Q I rx ry ⟨_, _, rfl, rfl, h.1, h.2⟩
  · exact h.elim
theorem op_cDiv : OpR X (binaryOp .FloorDiv) cDiv := by
  intro pins s σ H x y v u Q I rx ry h
  unfold cDiv at h
  split at h
  · exact op_fdiv pins s σ H _ _ v u Q I rx ry ⟨_, _, rfl, rfl, h.1, h.2⟩
  · exact h.elim
theorem op_cMod : OpR X (binaryOp .Mod) cMod := by
  intro pins s σ H x y v u Q I rx ry h
  unfold cMod at h
  split at h
  · exact op_mod pins s σ H _ _ v u Q I rx ry ⟨_, _, rfl, rfl, h.1, h.2⟩
  · exact h.elim
theorem op_cCmp {op : CmpOp} {g : Int → Int → Bool} (o : OpR X (compareOp op) (rI0 fun i j => .bl (g i j))) : OpR X (compareOp op) (cCmp g) := by
  intro pins s σ H x y v u Q I rx ry h
  unfold cCmp at h
  split at h
  · exact o pins s σ H _ _ v u Q I rx ry ⟨_, _, rfl, rfl, h⟩
  · exact h.elim
theorem op_cLt : OpR X (compareOp .Lt) (cCmp fun i j => decide (i < j)) := op_cCmp op_lt
theorem op_cGt : OpR X (compareOp .Gt) (cCmp fun i j => decide (j < i)) := op_cCmp op_gt
theorem op_eqD (hu : X.A.units + 64 < cLine) : OpR X (compareOp .Eq) (rEqD X.K) := by
  intro pins s σ H x y v u Q I rx ry h
  obtain ⟨d, e, h1, h2, h3, h4, q⟩ := h
  obtain ⟨as, r1⟩ := h1.reads I rx
  obtain ⟨bs, r2⟩ := h2.reads I ry
  exact eq_dataH r1 r2 h3 h4 hu ⟨.bl _, H, I, rfl, q⟩
theorem op_neD (hu : X.A.units + 64 < cLine) : OpR X (compareOp .NotEq) (rNeD X.K) := by
  intro pins s σ H x y v u Q I rx ry h
  obtain ⟨d, e, h1, h2, h3, h4, q⟩ := h
  obtain ⟨as, r1⟩ := h1.reads I rx
  obtain ⟨bs, r2⟩ := h2.reads I ry
  exact ne_dataH r1 r2 h3 h4 hu ⟨.bl _, H, I, rfl, q⟩
theorem op_cEq (hu : X.A.units + 64 < cLine) : OpR X (compareOp .Eq) (cEq X.K) := by
  intro pins s σ H x y v u Q I rx ry h
  unfold cEq at h
  split at h
  · refine op_eq pins s σ H _ _ v u Q I rx ry ⟨rfl, ?_⟩
    simpa using h
  · refine op_eq pins s σ H _ _ v u Q I rx ry ⟨rfl, ?_⟩
    simpa using h
  · refine op_eq pins s σ H _ _ v u Q I rx ry ⟨rfl, ?_⟩
    simpa using h
  · exact op_eqD hu pins s σ H _ _ v u Q I rx ry h
theorem op_cNe (hu : X.A.units + 64 < cLine) : OpR X (compareOp .NotEq) (cNe X.K) := by
  intro pins s σ H x y v u Q I rx ry h
  unfold cNe at h
  split at h
  · refine op_ne pins s σ H _ _ v u Q I rx ry ⟨rfl, ?_⟩
    simpa using h
  · refine op_ne pins s σ H _ _ v u Q I rx ry ⟨rfl, ?_⟩
    simpa using h
  · refine op_ne pins s σ H _ _ v u Q I rx ry ⟨rfl, ?_⟩
    simpa using h
  · exact op_neD hu pins s σ H _ _ v u Q I rx ry h
theorem op_inD (hu : X.A.units + 64 < cLine) : OpR X (compareOp .In) (rInD X.K false) := by
  intro pins s σ H x y v u Q I rx ry h
  obtain ⟨d, ds, h1, h2, h3, h4, h5, q⟩ := h
  obtain ⟨as, r1⟩ := h1.reads I rx
  rcases h2 with h2 | h2
  · obtain ⟨bs, r2⟩ := h2.reads I ry
    exact SeqAt.in_list_reads r2 r1 h3 h4 (by omega) ⟨.bl _, H, I, rfl, q⟩
  · obtain ⟨bs, r2⟩ := h2.reads I ry
    exact SeqAt.in_tuple_reads r2 r1 h3 h4 (by omega) ⟨.bl _, H, I, rfl, q⟩
theorem op_cIn (hu : X.A.units + 64 < cLine) : OpR X (compareOp .In) (cIn X.K false) := by
  intro pins s σ H x y v u Q I rx ry h
  unfold cIn at h
  split at h
  · exact op_inD hu pins s σ H _ _ v u Q I rx ry h
  · rename_i p hx
    split at h
    · rename_i kvs e
      obtain ⟨k, ek, q⟩ := bnd_ex h
      cases (show u = Value.ref p from ry)
      have g : DGet H p x (valV kvs k) := by rw [keyOf_kV ek]; exact DGet.k (unD_ex e)
      exact d_in (Nat.lt_of_le_of_lt (Nat.add_le_add_left (by decide : 1 ≤ 64) _) hu) I g rx fun s' I' => ⟨.bl _, H, I', rfl, q⟩
    · obtain ⟨xs, e, f1, f2, q⟩ := bnd_ex h
      exact op_in_seq pins s σ H _ _ v u Q I rx ry ⟨p, xs, rfl, unS_sq e, f1, f2, q⟩
  · exact op_in_str pins s σ H _ _ v u Q I rx ry ⟨_, _, rfl, rfl, h⟩
  · exact h.elim
end
end L2
set_option Elab.async false
set_option linter.all false
set_option maxRecDepth 100000
namespace L2
open PySem PySem.Spec PyProof.Rows
section
variable {X : Cx} {a b c : Expr} {ta tb tc : TE} {pos : Pos}
theorem ix_c (hu : X.A.units + 64 < cLine) : IxR X cIx := by
  intro value slice pins s σ H x y v u Q I rx ry h hs
  cases x with
  | ref p =>
    unfold cIx at h
    dsimp only at h
    split at h
    · rename_i kvs e
      obtain ⟨k, ek, h⟩ := bnd_ex h
      obtain ⟨z, ez, q⟩ := bnd_ex h
      cases (show v = Value.ref p from rx)
      have g : DGet H p y (some z) := by rw [keyOf_kV ek, ← ez]; exact DGet.k (unD_ex e)
      exact tail_any (dict_typeIs I g) PySem.F.slot_dict_getitem.lookup (d_getItem (Nat.lt_of_le_of_lt (Nat.add_le_add_left (by decide : 1 ≤ 64) _) hu) I g ry fun w' s3 I3 rw' => ⟨z, H, I3, rw', q⟩) hs
    · split at h
      · obtain ⟨xs, e, h⟩ := bnd_ex h
        obtain ⟨z, ez, q⟩ := bnd_ex h
        rcases unS_sq (K := X.K) e with r | r
        · exact ix_list value slice pins s σ H _ _ v u Q I rx ry ⟨p, xs, _, z, rfl, rfl, r, ez, q⟩ hs
        · exact ix_tup value slice pins s σ H _ _ v u Q I rx ry ⟨p, xs, _, z, rfl, rfl, r, ez, q⟩ hs
      · exact h.elim
  | str zz =>
    cases y with
    | int i =>
      obtain ⟨hz, h⟩ := (show zz.length ≤ sizeLine ∧ bnd (atI zz.cps.toList i) fun c => Q (.str ⟨#[c]⟩) H from h)
      obtain ⟨z, ez, q⟩ := bnd_ex h
      exact ix_str value slice pins s σ H _ _ v u Q I rx ry ⟨_, _, z, rfl, rfl, hz, ez, q⟩ hs
    | _ => exact False.elim h
  | _ => exact False.elim h
def kLen : List V → Hp → VK → Prop
  | [.ref p], H, Q => (match unD (H p) with
    | some kvs => Q (.int kvs.length) H
    | none => bnd (unS (H p)) fun xs => Q (.int xs.length) H)
  | [.str z], H, Q => z.length ≤ sizeLine ∧ Q (.int z.length) H
  | _, _, _ => False
theorem call_kLen : CallR X (.builtin "len") kLen := by
  intro pins s σ H xs us Q I r h
  unfold kLen at h
  split at h
  · split at h
    · rename_i kvs e
      exact call_lenD pins s σ H _ us Q I r ⟨_, kvs, rfl, unD_ex e, h⟩
    · obtain ⟨ys, e, q⟩ := bnd_ex h
      exact call_len_seq pins s σ H _ us Q I r ⟨_, ys, rfl, unS_sq e, q⟩
  · exact call_len_str pins s σ H _ us Q I r ⟨_, rfl, h.1, h.2⟩
  · exact h.elim
def kAbs : List V → Hp → VK → Prop
  | [.int i], H, Q => Q (.int (if i < 0 then -i else i)) H
  | _, _, _ => False
def kMin : List V → Hp → VK → Prop
  | [.int i, .int j], H, Q => Q (.int (if j < i then j else i)) H
  | _, _, _ => False
theorem call_kMin (hc : X.calm = true) : CallR X (.builtin "min") kMin := by
  intro pins s σ H xs us Q I r h
  unfold kMin at h
  split at h
  · exact call_min2 hc pins s σ H _ us Q I r ⟨_, _, rfl, h⟩
  · exact h.elim
def kMax : List V → Hp → VK → Prop
  | [.int i, .int j], H, Q => Q (.int (if j > i then j else i)) H
  | _, _, _ => False
def kList : List V → Hp → VK → Prop
  | [.ref p], H, Q => bnd (unS (H p)) fun ys => ∀ l, H l = none → Q (.ref l) (upd H l (.lst ys))
  | _, _, _ => False
theorem call_kList : CallR X (.type "list") kList := by
  intro pins s σ H xs us Q I r h
  unfold kList at h
  split at h
  · obtain ⟨ys, e, q⟩ := bnd_ex h
    exact call_list_of pins s σ H _ us Q I r ⟨_, ys, rfl, unS_sq e, q⟩
  · exact h.elim
def tyName (H : Hp) : V → Option String
  | .non => some "NoneType"
  | .bl _ => some "bool"
  | .int _ => some "int"
  | .str _ => some "str"
  | .ref p => match H p with
    | some (.lst _) => some "list"
    | some (.frz _ (.lst _)) => some "list"
    | some (.tup _) => some "tuple"
    | some (.dK _) => some "dict"
    | _ => none
  | _ => none
def isTy (t n : String) : Bool := t == n || (t == "bool" && n == "int")
def tyKnown (n : String) : Bool := ["int", "bool", "str", "list", "tuple", "dict"].contains n
theorem tyName_of {K : PySem.W.Frag} {H : Hp} {x : V} {t : String} (h : tyName H x = some t) : TyOf K H x (.type t) ∧ ["NoneType", "int", "bool", "str", "list", "tuple", "dict"].contains t = true := by
  cases x with
  | non => cases h; exact ⟨.non, by decide⟩
  | bl b => cases h; exact ⟨.bl b, by decide⟩
  | int i => cases h; exact ⟨.int i, by decide⟩
  | str i => cases h; exact ⟨.str i, by decide⟩
  | byt _ => cases h
  | flt _ => cases h
  | ty _ => cases h
  | ref p =>
    unfold tyName at h
    dsimp only at h
    split at h
    · rename_i e; cases h; exact ⟨.lst e, by decide⟩
    · rename_i e; cases h; exact ⟨.frz e, by decide⟩
    · rename_i e; cases h; exact ⟨.tup e, by decide⟩
    · rename_i e; cases h; exact ⟨.dK e, by decide⟩
    · cases h
theorem kit_ty (K : PySem.W.Frag) : ∀ t ∈ ["NoneType", "int", "bool", "str", "list", "tuple", "dict"], ∀ n ∈ ["int", "bool", "str", "list", "tuple", "dict"], PySem.W.kitOne K (.type t) (.type n) = some (isTy t n) := by
  intro t ht n hn
  simp only [List.mem_cons, List.not_mem_nil, or_false] at ht hn
  rcases ht with rfl | rfl | rfl | rfl | rfl | rfl | rfl <;> rcases hn with rfl | rfl | rfl | rfl | rfl | rfl <;> rfl
def kIsi : List V → Hp → VK → Prop
  | [x, .ty n], H, Q => tyKnown n = true ∧ bnd (tyName H x) fun t => Q (.bl (isTy t n)) H
  | _, _, _ => False
theorem call_kIsi : CallR X (.builtin "isinstance") kIsi := by
  intro pins s σ H xs us Q I r h
  unfold kIsi at h
  split at h
  · obtain ⟨hn, h⟩ := h
    obtain ⟨t, et, q⟩ := bnd_ex h
    obtain ⟨u, w, rfl, ru, rw'⟩ := vals2 r
    cases rw'
    obtain ⟨ty, ht⟩ := tyName_of (K := X.K) et
    exact isinst_ok I ru ty (kit_ty X.K t (by simpa using ht) _ (by simpa [tyKnown] using hn)) fun tk => ⟨.bl _, H, I.tok tk, rfl, q⟩
  · exact h.elim
def kAppend : V → List V → Hp → VK → Prop
  | .ref l, [y], H, Q => bnd (unM (H l)) fun xs => xs.length < sizeLine ∧ Q .non (upd H l (.lst (xs ++ [y])))
  | _, _, _, _ => False
theorem mt_kAppend : MtR X "list.append" kAppend := by
  intro pins s σ H x vs v us Q I rx rv h
  unfold kAppend at h
  split at h
  · obtain ⟨xs, e, h1, q⟩ := bnd_ex h
    exact mt_append pins s σ H _ _ v us Q I rx rv ⟨_, xs, _, rfl, rfl, unM_ex e, h1, q⟩
  · exact h.elim
theorem tyV_list {K : PySem.W.Frag} {H : Hp} {p : Addr} {xs : List V} (h : H p = some (.lst xs)) : tyV K "list" (.ref p) H := .inl ⟨rfl, _, SqL.of h⟩
def cSl : V → Option Int → Option Int → Hp → VK → Prop
  | .ref p, lo, hi, H, Q => bnd (unL (H p)) fun xs => ∀ l, H l = none → Q (.ref l) (upd H l (.lst (cutV xs lo hi)))
  | _, _, _, _, _ => False
theorem sl_c : SlR X cSl := by
  intro pins s σ H x v vl vu lo hi sl Q I rx hs pl pu h
  unfold cSl at h
  split at h
  · obtain ⟨xs, e, q⟩ := bnd_ex h
    exact sl_list pins s σ H _ v vl vu lo hi sl Q I rx hs pl pu ⟨_, xs, rfl, unL_sq e, q⟩
  · exact h.elim
end
structure Cal (P : Program) (w : World) (K : PySem.W.Frag) (mg : Str → Option Value) (base : Heap) (k : Nat) (x : Str) (ps : List Str) (sp : Sp) : Prop where
  ex : ∃ (f : Addr) (fd : FuncData), FnOk P w K mg base CX0 k f fd ps sp ∧ mg x = some (.ref f) ∧ PySem.W.keepIn K (.ref f) = true ∧ Binds K fd ps []
theorem pe_cal {X : Cx} {k n : Nat} {x : Str} {ps : List Str} {sp : Sp} {p pos : Pos} {e : Expr} {es : List Expr} {t : TA} (C : Cal X.prog X.w X.K X.mg X.base k x ps sp) (hr : Room n X.A) (hk : k ≤ n) (hg : Gl X x) (ha : PA X (e :: es) t)
    (hdb : (x == ("__debug__" : Str)) = false := by decide) (he : starEach (e :: es) X.env = (false, eval e X.env) :: starEach es X.env := by rfl) (hpl : (backTo pos (starEach es X.env)).any (·.1) = false := by rfl) :
    PE X (.Call (.Name x p) (e :: es) [] pos) (tCall sp [] E0 t) := by
  obtain ⟨f, fd, F, hm, hkp, hb⟩ := C.ex
  exact pe_call F (hr.mono hk) hg hm hkp hb .nil pass0 ha hdb he hpl
end L2
set_option Elab.async false
set_option linter.all false
set_option maxRecDepth 100000
namespace L2
open PySem PySem.Spec PyProof.Rows
theorem bt_len : bootBuiltins "len" = some (.builtin "len") := by decide +kernel
theorem bt_min : bootBuiltins "min" = some (.builtin "min") := by decide +kernel
theorem bt_isinstance : bootBuiltins "isinstance" = some (.builtin "isinstance") := by decide +kernel
theorem bt_list : bootBuiltins "list" = some (.type "list") := by decide +kernel
theorem bt_int : bootBuiltins "int" = some (.type "int") := by decide +kernel
theorem bt_str : bootBuiltins "str" = some (.type "str") := by decide +kernel
def compN (scope : Scope) : List Str := (scope.names.filter fun p => p.2 == .local || p.2 == .cell || p.2 == .free).map (·.1)
def compIx (N : List Str) (scope : Scope) : List (Option Nat) := (compN scope).map fun x => if scope.names.lookup x == some .free then N.findIdx? (· == x) else none
def isCF : Option NameKind → Bool
  | some .cell => true
  | some .free => true
  | _ => false
theorem blk_ok {X : Cx} {scope : Scope} (h1 : scope.kind = .function) (h2 : (scope.names.map (·.1)).Nodup) (h3 : (scope.names.all fun p => p.2 != .free || isCF (X.env.kindOf p.1)) = true) : BlkOk X (compN scope) (compIx X.N scope) scope where
  kind := h1
  nd := h2.sublist (List.Sublist.map _ (List.filter_sublist ..))
  len := by unfold compIx; rw [List.length_map]
  names := h2
  free := fun x hx => by
    have := List.all_eq_true.mp h3 (x, .free) hx
    simp only [bne_self_eq_false, Bool.false_or] at this
    unfold isCF at this
    split at this
    · rename_i e; exact .inl e
    · rename_i e; exact .inr e
    · cases this
  at_ := fun j i x e1 e2 => by
    unfold compIx at e2
    rw [List.getElem?_map, e1] at e2
    simp only [Option.map_some, Option.some.injEq] at e2
    split at e2
    · rename_i hf
      obtain ⟨hlt, hp, _⟩ := List.findIdx?_eq_some_iff_getElem.mp e2
      have hx : X.N[i]? = some x := by
        rw [List.getElem?_eq_getElem hlt]
        have : X.N[i] = x := by simpa using hp
        rw [this]
      refine ⟨hx, PySem.mem_of_lookup (by simpa using hf)⟩
    · cases e2
end L2
set_option Elab.async false
set_option linter.all false
set_option maxRecDepth 100000
namespace L2
open PySem PySem.Spec PyProof.Rows
section
variable {t u : TS} {D : Ends} {σ : St} {H : Hp} {Q : VK} {ta tb : TE} {R : Bool → Hp → Prop} {c d : TT}
theorem w_seq : tSeq t u D σ H = t { D with nx := u D } σ H := rfl
theorem w_next : tNext D σ H = D.nx σ H := rfl
theorem w_asg {g : TG} : tAsg ta g D σ H = ta σ H fun x H1 => g x σ H1 D.nx := rfl
theorem w_gname {i : Nat} {v : V} {k : St → Hp → Prop} : gName i v σ H k = k (σ.set i (some v)) H := rfl
theorem w_var0 {v : V} {σ : St} : tVar 0 (some v :: σ) H Q = Q v H := rfl
theorem w_varS {i : Nat} {a : Option V} {σ : St} : tVar (i + 1) (a :: σ) H Q = tVar i σ H Q := rfl
theorem w_c {v : V} : tC v σ H Q = Q v H := rfl
theorem w_op {r : R2} : tOp r ta tb σ H Q = ta σ H fun x H1 => tb σ H1 fun y H2 => r x y H2 Q := rfl
theorem w_ret : tRet ta D σ H = ta σ H D.rt := rfl
theorem w_retN : tRetN D σ H = D.rt .non H := rfl
theorem w_drop : tDrop ta D σ H = ta σ H fun _ H1 => D.nx σ H1 := rfl
theorem w_if : tIfS c t u D σ H = c σ H fun b H1 => if b = true then t D σ H1 else u D σ H1 := rfl
theorem w_test : tTest ta σ H R = ta σ H fun x H' => ∃ k, x = .bl k ∧ R k H' := rfl
theorem w_b : tB ta σ H R = ta σ H fun x H' => ∃ k, x = .bl k ∧ R k H' := rfl
theorem w_not : tNot c σ H R = c σ H fun k H1 => R (!k) H1 := rfl
theorem w_and : tAnd c d σ H R = c σ H fun k H1 => if k = true then d σ H1 R else R false H1 := rfl
theorem w_or : tOr c d σ H R = c σ H fun k H1 => if k = true then R true H1 else d σ H1 R := rfl
theorem w_notV : tNotV ta σ H Q = ta σ H fun x H1 => ∃ c, x = .bl c ∧ Q (.bl (!c)) H1 := rfl
theorem w_andV : tAndV ta tb σ H Q = ta σ H fun x H1 => ∃ c, x = .bl c ∧ if c = true then tb σ H1 Q else Q (.bl false) H1 := rfl
theorem w_orV : tOrV ta tb σ H Q = ta σ H fun x H1 => ∃ c, x = .bl c ∧ if c = true then Q (.bl true) H1 else tb σ H1 Q := rfl
theorem w_nil {k : List V → Hp → Prop} : tNil σ H k = k [] H := rfl
theorem w_cons {tr : TA} {k : List V → Hp → Prop} : tCons ta tr σ H k = ta σ H fun x H1 => tr σ H1 fun xs H2 => k (x :: xs) H2 := rfl
theorem w_cb {r : List V → Hp → VK → Prop} {tr : TA} : tCB r tr σ H Q = tr σ H fun vs H1 => r vs H1 Q := rfl
theorem w_call {sp : Sp} {dvs : List V} {E : XK} {tr : TA} : tCall sp dvs E tr σ H Q = tr σ H fun vs H1 => sp (vs ++ dvs) H1 Q E := rfl
theorem w_tup {tr : TA} : tTup tr σ H Q = tr σ H fun xs H1 => xs.length ≤ sizeLine ∧ ∀ p, H1 p = none → Q (.ref p) (upd H1 p (.tup xs)) := rfl
theorem w_lst {tr : TA} : tLst tr σ H Q = tr σ H fun xs H1 => xs.length ≤ sizeLine ∧ ∀ p, H1 p = none → Q (.ref p) (upd H1 p (.lst xs)) := rfl
theorem w_bm {K : PySem.W.Frag} {T : String} {r : V → List V → Hp → VK → Prop} {tr : TA} : tBM K T r ta tr σ H Q = ta σ H fun x H1 => tyV K T x H1 ∧ tr σ H1 fun xs H2 => r x xs H2 Q := rfl
theorem w_bm0 {K : PySem.W.Frag} {T : String} {r : V → List V → Hp → VK → Prop} : tBM0 K T r ta σ H Q = ta σ H fun x H1 => tyV K T x H1 ∧ r x [] H1 Q := rfl
theorem w_true : tTrue σ H R = R true H := rfl
theorem w_dnew : tDNewK σ H Q = ∀ p, H p = none → Q (.ref p) (upd H p (.dK [])) := rfl
theorem w_dput {td ty tv : TE} : sDPut td ty tv D σ H = tv σ H fun v H1 => td σ H1 fun x H2 => ty σ H2 fun y H3 => ∃ a H4, x = .ref a ∧ DPut H3 a y v H4 ∧ D.nx σ H4 := rfl
theorem w_add {i j : Int} : cAdd (.int i) (.int j) H Q = Q (.int (i + j)) H := rfl
theorem w_sub {i j : Int} : cSub (.int i) (.int j) H Q = Q (.int (i - j)) H := rfl
theorem w_mul {i j : Int} : cMul (.int i) (.int j) H Q = (CMul i j ∧ Q (.int (i * j)) H) := rfl
theorem w_div {i j : Int} : cDiv (.int i) (.int j) H Q = (CDiv i j ∧ Q (.int (i / j)) H) := rfl
theorem w_mod {i j : Int} : cMod (.int i) (.int j) H Q = (0 < j ∧ Q (.int (i % j)) H) := rfl
theorem w_cmp {g : Int → Int → Bool} {i j : Int} : cCmp g (.int i) (.int j) H Q = Q (.bl (g i j)) H := rfl
theorem w_eqI {K : PySem.W.Frag} {i j : Int} : cEq K (.int i) (.int j) H Q = Q (.bl (decide (i = j))) H := rfl
theorem w_neI {K : PySem.W.Frag} {i j : Int} : cNe K (.int i) (.int j) H Q = Q (.bl (!decide (i = j))) H := rfl
theorem w_eqB {K : PySem.W.Frag} {i j : Bool} : cEq K (.bl i) (.bl j) H Q = Q (.bl (decide (i = j))) H := rfl
theorem w_neB {K : PySem.W.Frag} {i j : Bool} : cNe K (.bl i) (.bl j) H Q = Q (.bl (!decide (i = j))) H := rfl
theorem w_ix {p : Addr} {i : Int} {xs : List V} (h : H p = some (.tup xs)) : cIx (.ref p) (.int i) H Q = bnd (atI xs i) fun v => Q v H := by
  unfold cIx; dsimp only; rw [h]; rfl
theorem w_ixL {p : Addr} {i : Int} {xs : List V} (h : H p = some (.lst xs)) : cIx (.ref p) (.int i) H Q = bnd (atI xs i) fun v => Q v H := by
  unfold cIx; dsimp only; rw [h]; rfl
theorem w_abs {i : Int} : kAbs [.int i] H Q = Q (.int (if i < 0 then -i else i)) H := rfl
theorem w_min {i j : Int} : kMin [.int i, .int j] H Q = Q (.int (if j < i then j else i)) H := rfl
theorem w_len {p : Addr} {xs : List V} (h : H p = some (.lst xs)) : kLen [.ref p] H Q = Q (.int xs.length) H := by
  unfold kLen; dsimp only; rw [h]; rfl
theorem w_append {p : Addr} {xs : List V} {y : V} (h : H p = some (.lst xs)) : kAppend (.ref p) [y] H Q = (xs.length < sizeLine ∧ Q .non (upd H p (.lst (xs ++ [y])))) := by
  unfold kAppend; dsimp only; rw [h]; rfl
end
def LoopR (J : It) (g : TG) (tb : TS) (D : Ends) (σ : St) (H1 : Hp) : Prop := ∃ W : Nat → Nat → St → Hp → Prop, (∃ m, W 0 m σ H1) ∧ ∀ i m σ H, W i m σ H →
  (J.stop i H ∧ D.nx σ H) ∨ (J.go i H ∧ ∃ N : St → Hp → Prop, (∀ σ' H', N σ' H' → ∃ m', m' < m ∧ W (i + 1) m' σ' H') ∧ ∀ x H', J.yld i H x H' → g x σ H' fun σ2 H2 => tb { D with nx := N, ct := N, bk := D.nx } σ2 H2)
def CompR (J : It) (g : TG) (tt : TT) (te : TE) (fin : Addr → Hp → Prop) (σ0 : St) (H1 : Hp) : Prop := ∀ l, H1 l = none →
  ∃ W : Nat → Nat → St → Hp → Prop, (∃ m, W 0 m σ0 (upd H1 l (.lst []))) ∧ ∀ i m σ' H', W i m σ' H' →
    (J.stop i H' ∧ fin l H') ∨ (J.go i H' ∧ ∃ N : St → Hp → Prop, (∀ σ'' H'', N σ'' H'' → ∃ m', m' < m ∧ W (i + 1) m' σ'' H'') ∧ ∀ x H2, J.yld i H' x H2 → g x σ' H2 fun σ2 H3 => tt σ2 H3 fun b H4 =>
      if b = true then te σ2 H4 fun y H5 => ∃ ys, H5 l = some (.lst ys) ∧ ys.length < sizeLine ∧ N σ2 (upd H5 l (.lst (ys ++ [y]))) else N σ2 H4)
section
variable {K : PySem.W.Frag} {g : TG} {tb : TS} {D : Ends} {σ : St} {H : Hp} {tl : TE} {ta : TA} {ix : List (Option Nat)} {tt : TT} {te : TE} {k : Nat} {Q : VK}
theorem w_forL : tFor (iList K tl) g tb D σ H = tl σ H fun x H1 => ∃ a, x = .ref a ∧ (∃ xs, SqL K H1 a xs) ∧ LoopR (Itl K a) g tb D σ H1 := rfl
theorem w_forR1 : tFor (iRng1 ta) g tb D σ H = ta σ H fun vs H1 => ∃ j : Int, vs = [.int j] ∧ -(2 ^ 62) ≤ j ∧ j < 2 ^ 62 ∧ LoopR (Itr 0 j.toNat) g tb D σ H1 := rfl
theorem w_forR2 : tFor (iRng2 ta) g tb D σ H = ta σ H fun vs H1 => ∃ i j : Int, vs = [.int i, .int j] ∧ (-(2 ^ 62) ≤ i ∧ i < 2 ^ 62 ∧ -(2 ^ 62) ≤ j ∧ j < 2 ^ 62) ∧ LoopR (Itr i (j - i).toNat) g tb D σ H1 := rfl
theorem w_compL : tComp ix (iList K tl) g tt te σ H Q = tl σ H fun x H1 => ∃ a, x = .ref a ∧ (∃ xs, SqL K H1 a xs) ∧ CompR (Itl K a) g tt te (fun l H' => Q (.ref l) H') (subσ ix σ) H1 := rfl
theorem w_compR1 : tComp ix (iRng1 ta) g tt te σ H Q = ta σ H fun vs H1 => ∃ j : Int, vs = [.int j] ∧ -(2 ^ 62) ≤ j ∧ j < 2 ^ 62 ∧ CompR (Itr 0 j.toNat) g tt te (fun l H' => Q (.ref l) H') (subσ ix σ) H1 := rfl
theorem w_scompL : sComp k ix (iList K tl) g tt te D σ H = tl σ H fun x H1 => ∃ a, x = .ref a ∧ (∃ xs, SqL K H1 a xs) ∧ CompR (Itl K a) g tt te (fun l H' => D.nx (σ.set k (some (.ref l))) H') (subσ ix σ) H1 := rfl
theorem w_scompR1 : sComp k ix (iRng1 ta) g tt te D σ H = ta σ H fun vs H1 => ∃ j : Int, vs = [.int j] ∧ -(2 ^ 62) ≤ j ∧ j < 2 ^ 62 ∧ CompR (Itr 0 j.toNat) g tt te (fun l H' => D.nx (σ.set k (some (.ref l))) H') (subσ ix σ) H1 := rfl
theorem comp_range {lo : Int} {n : Nat} {fin : Addr → Hp → Prop} {σ0 : St} {H1 : Hp} (Pv : Addr → Nat → St → Hp → Prop) (h0 : ∀ l, H1 l = none → Pv l 0 σ0 (upd H1 l (.lst [])))
    (hs : ∀ l i σ H, H1 l = none → i < n → Pv l i σ H → g (.int (lo + i)) σ H fun σ2 H3 => tt σ2 H3 fun b H4 => if b = true then te σ2 H4 fun y H5 => ∃ ys, H5 l = some (.lst ys) ∧ ys.length < sizeLine ∧ Pv l (i + 1) σ2 (upd H5 l (.lst (ys ++ [y]))) else Pv l (i + 1) σ2 H4)
    (hd : ∀ l σ H, H1 l = none → Pv l n σ H → fin l H) : CompR (Itr lo n) g tt te fin σ0 H1 := by
  intro l hl0
  refine ⟨fun i m σ H => m = n - i ∧ i ≤ n ∧ Pv l i σ H, ⟨n, by simp, Nat.zero_le _, h0 l hl0⟩, ?_⟩
  rintro i m σ H ⟨rfl, hi, p⟩
  by_cases hlt : i < n
  · refine .inr ⟨hlt, Pv l (i + 1), fun σ' H' p' => ⟨n - (i + 1), by omega, rfl, hlt, p'⟩, fun x H' y => ?_⟩
    obtain ⟨e, y⟩ := y
    subst e y
    exact hs l i σ _ hl0 hlt p
  · have e : i = n := by omega
    subst e
    exact .inl ⟨Nat.le_refl _, hd l σ H hl0 p⟩
theorem comp_list {a : Addr} {xs : List V} {fin : Addr → Hp → Prop} {σ0 : St} {H1 : Hp} (Pv : Addr → Nat → St → Hp → Prop) (h0 : ∀ l, H1 l = none → Pv l 0 σ0 (upd H1 l (.lst []))) (hq : ∀ l i σ H, H1 l = none → i ≤ xs.length → Pv l i σ H → SqL K H a xs)
    (hs : ∀ l i x σ H, H1 l = none → xs[i]? = some x → Pv l i σ H → g x σ H fun σ2 H3 => tt σ2 H3 fun b H4 => if b = true then te σ2 H4 fun y H5 => ∃ ys, H5 l = some (.lst ys) ∧ ys.length < sizeLine ∧ Pv l (i + 1) σ2 (upd H5 l (.lst (ys ++ [y]))) else Pv l (i + 1) σ2 H4)
    (hd : ∀ l σ H, H1 l = none → Pv l xs.length σ H → fin l H) : CompR (Itl K a) g tt te fin σ0 H1 := by
  intro l hl0
  refine ⟨fun i m σ H => m = xs.length - i ∧ i ≤ xs.length ∧ Pv l i σ H, ⟨xs.length, by simp, Nat.zero_le _, h0 l hl0⟩, ?_⟩
  rintro i m σ H ⟨rfl, hi, p⟩
  have q := hq l i σ H hl0 hi p
  by_cases hlt : i < xs.length
  · refine .inr ⟨⟨xs, xs[i], q, by simp [hlt]⟩, Pv l (i + 1), fun σ' H' p' => ⟨xs.length - (i + 1), by omega, rfl, hlt, p'⟩, fun x H' y => ?_⟩
    obtain ⟨e, y⟩ := y
    subst e
    exact hs l i x σ _ hl0 (y xs q) p
  · have e : i = xs.length := by omega
    subst e
    exact .inl ⟨⟨xs, q, Nat.le_refl _⟩, hd l σ H hl0 p⟩
theorem w_list {p : Addr} {xs : List V} (hp : H p = some (.lst xs)) (h : ∀ l, H l = none → Q (.ref l) (upd H l (.lst xs))) : kList [.ref p] H Q := by
  unfold kList
  dsimp only
  rw [hp]
  exact h
theorem w_cat {p q : Addr} {xs ys : List V} (hp : H p = some (.lst xs)) (hq : H q = some (.lst ys)) (hn : xs.length + ys.length ≤ 1000) (h : ∀ l, H l = none → Q (.ref l) (upd H l (.lst (xs ++ ys)))) : cAdd (.ref p) (.ref q) H Q := by
  show bnd (unM (H p)) _
  rw [hp]
  show bnd (unM (H q)) _
  rw [hq]
  exact ⟨Nat.le_of_lt (small1000 hn), h⟩
end
theorem blk_ok2 {X : Cx} {N : List Str} {ix : List (Option Nat)} {scope : Scope} (h1 : scope.kind = .function) (h2 : (scope.names.map (·.1)).Nodup) (h3 : (scope.names.all fun p => p.2 != .free || isCF (X.env.kindOf p.1)) = true) (h4 : N = compN scope) (h5 : ix = compIx X.N scope) : BlkOk X N ix scope := by
  subst h4 h5
  exact blk_ok h1 h2 h3
def kLenS (K : PySem.W.Frag) : List V → Hp → VK → Prop := fun xs H Q => ∃ p ys, xs = [.ref p] ∧ (SqL K H p ys ∨ SqT K H p ys) ∧ Q (.int ys.length) H
structure Bt (mg : Str → Option Value) : Prop where
  len_ : mg "len" = none
  abs_ : mg "abs" = none
  min_ : mg "min" = none
  max_ : mg "max" = none
  sorted_ : mg "sorted" = none
  any_ : mg "any" = none
  isinstance_ : mg "isinstance" = none
  list_ : mg "list" = none
  int_ : mg "int" = none
  bool_ : mg "bool" = none
  str_ : mg "str" = none
  tuple_ : mg "tuple" = none
  reversed_ : mg "reversed" = none
  set_ : mg "set" = none
  range_ : mg "range" = none
  zip_ : mg "zip" = none
end L2
set_option Elab.async false
set_option linter.all false
set_option maxRecDepth 100000
namespace L2
open PySem PySem.Spec PyProof.Rows
theorem Vals.get' : ∀ {xs : List V} {us : List Value} {i : Nat} {u : Value}, Vals xs us → us[i]? = some u → ∃ x, xs[i]? = some x ∧ RelV x u
  | _, _, _, _, .nil, h => by simp at h
  | _, _, 0, _, .cons r _, h => by simp at h; subst h; exact ⟨_, rfl, r⟩
  | _, _, i + 1, _, .cons _ t, h => by
    obtain ⟨x, hx, r⟩ := Vals.get' (i := i) t (by simpa using h)
    exact ⟨x, by simpa using hx, r⟩
section
variable {X : Cx} {pins : List (Addr × Obj)} {σ : St} {H : Hp} {s s' : Shared}
theorem Inv.kept' (I : Inv X pins σ H s) (k : ∀ b u, s.heap.get? b = some u → s'.heap.get? b = some u) (ho : s'.os = s.os) (hg : AllBare s'.gens) : Inv X pins σ H s' :=
  I.call' (ch := []) ho (Un.kept k) (I.hok.kept k) hg fun b z => absurd z (by simp)
theorem Inv.walked {l : Addr} {o : Obj} (I : Inv X pins σ H s) (hm : Moved [s.heap.objs.size] (fun a b => b = a) { s with heap := s.heap.push o } s') : Inv X pins σ H s' := by
  refine I.kept' (fun b u e => hm.heap b u (fun z => ?_) (Heap.get?_push_of_some _ e)) hm.os (by rw [show s'.gens = s.gens from hm.gens]; exact I.bare)
  have : b = s.heap.objs.size := by simpa using z
  exact absurd (Heap.lt_size e) (by rw [this]; exact Nat.lt_irrefl _)
end
end L2
set_option Elab.async false
set_option linter.all false
set_option maxRecDepth 100000
namespace L2
open PySem PySem.Spec PyProof.Rows
open Builtin Builtin.Str
theorem strs_of : ∀ {ts : List Str} {us : List Value}, Vals (ts.map V.str) us → ∃ l : List (Str × Tok), us = strValues l ∧ l.map (·.1) = ts
  | [], _, .nil => ⟨[], rfl, rfl⟩
  | t :: ts, _, .cons r rs => by
    obtain ⟨l, rfl, e⟩ := strs_of (ts := ts) rs
    obtain ⟨u, rfl⟩ := r
    exact ⟨(t, u) :: l, rfl, by rw [List.map_cons, e]⟩
theorem vals_strs : ∀ (l : List (Str × Tok)), Vals ((l.map (·.1)).map V.str) (strValues l)
  | [] => .nil
  | (t, u) :: l => .cons ⟨u, rfl⟩ (vals_strs l)
section
variable {X : Cx}
def kJoin : V → List V → Hp → VK → Prop
  | .str sep, [.ref p], H, Q => bnd (unL (H p)) fun ys => ∃ ts : List Str, ys = ts.map V.str ∧ JoinOk sep ts = true ∧ Q (.str (Txt.join sep ts)) H
  | _, _, _, _ => False
theorem mt_kJoin : MtR X "str.join" kJoin := by
  intro pins s σ H x vs v us Q I rx rv h
  unfold kJoin at h
  split at h
  · rename_i sep p
    obtain ⟨ys, e, ts, rfl, hok, q⟩ := bnd_ex h
    obtain ⟨t, rfl⟩ := rx
    obtain ⟨u, rfl, ru⟩ := vals1 rv
    cases ru
    obtain ⟨its, rvv, pl, hz⟩ := I.list (unL_sq e)
    obtain ⟨l, rfl, hl⟩ := strs_of rvv
    exact SC.join pl.isList hl hok fun t' k => ⟨.str _, H, I.tok k, ⟨t', rfl⟩, q⟩
  · exact h.elim
def kFind : V → List V → Hp → VK → Prop
  | .str x, [.str y], H, Q => Q (.int (Txt.find x y)) H
  | _, _, _, _ => False
def kSplit : V → List V → Hp → VK → Prop
  | .str x, [.str y], H, Q => (y.length == 0) = false ∧ x.length ≤ sizeLine ∧ (Txt.split x y).length ≤ sizeLine ∧ ∀ l, H l = none → Q (.ref l) (upd H l (.lst ((Txt.split x y).map V.str)))
  | _, _, _, _ => False
theorem mt_kSplit : MtR X "str.split" kSplit := by
  intro pins s σ H x vs v us Q I rx rv h
  unfold kSplit at h
  split at h
  · rename_i x y
    obtain ⟨t, rfl⟩ := rx
    obtain ⟨u, rfl, ru⟩ := vals1 rv
    obtain ⟨t2, rfl⟩ := ru
    obtain ⟨hy, hx, hn, q⟩ := h
    have fin : ∀ (l : List (Str × Tok)) (k : Nat), l.map (·.1) = Txt.split x y → EP X pins σ Q (.ref s.heap.objs.size) { s with heap := s.heap.push { cls := .type "list", data := .seq (strValues l).toArray }, toks := k } := fun l k e => by
      refine ⟨.ref s.heap.objs.size, _, I.lnew (t' := k) (ys := (Txt.split x y).map V.str) (its := strValues l) ?_ (by rw [List.length_map]; exact hn), rfl, q _ I.fresh⟩
      rw [← e]
      exact vals_strs l
    cases h1 : (decide (x.length < y.length) || decide (strKind x < strKind y))
    · cases hf : (occurrences x y 0 x.length (x.length + 1)).isEmpty
      · have e3 : Txt.split x y = partsBetween x (occurrences x y 0 x.length (x.length + 1)) y.length := (if_neg (ne_true_of_eq_false h1)).trans (if_neg (ne_true_of_eq_false hf))
        refine call_meets F.slot_str_split (typeIs_str _ _ _) F.entry_str_split (F.args_str_split_2 _ _) (meets_str_split_sep x y t t2 h1 hy hf hx (by rw [← e3]; exact hn)) ?_
        show wants _ _ _ { s with toks := _, heap := s.heap.push { cls := .type "list", data := .seq (strsFrom s.toks (partsBetween x (occurrences x y 0 x.length (x.length + 1)) y.length)).toArray } }
        rw [strsFrom_eq]
        exact fin (numbered s.toks _) _ ((numbered_texts _ _).trans e3.symm)
      · exact call_meets F.slot_str_split (typeIs_str _ _ _) F.entry_str_split (F.args_str_split_2 _ _) (meets_str_split_not_found x y t t2 h1 hy hf)
          (fin [(x, t)] s.toks ((if_neg (ne_true_of_eq_false h1)).trans (if_pos hf)).symm)
    · exact call_meets F.slot_str_split (typeIs_str _ _ _) F.entry_str_split (F.args_str_split_2 _ _) (meets_str_split_cannot_occur x y t t2 h1)
        (fin [(x, t)] s.toks (if_pos h1).symm)
  · exact h.elim
def cSl2 : V → Option Int → Option Int → Hp → VK → Prop
  | .ref p, lo, hi, H, Q => cSl (.ref p) lo hi H Q
  | .str z, lo, hi, H, Q => z.length ≤ sizeLine ∧ Q (.str (Txt.slice z lo hi)) H
  | _, _, _, _, _ => False
theorem sl_c2 : SlR X cSl2 := by
  intro pins s σ H x v vl vu lo hi sl Q I rx hs pl pu h
  cases x with
  | ref p => exact sl_c pins s σ H _ v vl vu lo hi sl Q I rx hs pl pu h
  | str z =>
    obtain ⟨hz, q⟩ := (show z.length ≤ sizeLine ∧ Q (.str (Txt.slice z lo hi)) H from h)
    obtain ⟨t, rfl⟩ := rx
    have fin : ∀ t' k, EP X pins σ Q (.str (Txt.slice z lo hi) t') { s with toks := k } := fun t' k => ⟨.str _, H, I.tok k, ⟨t', rfl⟩, q⟩
    refine ⟨"str", _, F.slot_str_getitem.lookup, typeIs_str _ _ _, ?_⟩
    cases pl with
    | none =>
      cases pu with
      | none => exact wpAny_getItem_str_slice (l := none) (u := none) (st := none) hs rfl (post_val_or_str ⟨Nat.le_trans (Txt.slice_le z _ _) hz, fin⟩)
      | int j tj => exact wpAny_getItem_str_slice (l := none) (u := some (j, tj)) (st := none) hs rfl (post_val_or_str ⟨Nat.le_trans (Txt.slice_le z _ _) hz, fin⟩)
    | int i ti =>
      cases pu with
      | none => exact wpAny_getItem_str_slice (l := some (i, ti)) (u := none) (st := none) hs rfl (post_val_or_str ⟨Nat.le_trans (Txt.slice_le z _ _) hz, fin⟩)
      | int j tj => exact wpAny_getItem_str_slice (l := some (i, ti)) (u := some (j, tj)) (st := none) hs rfl (post_val_or_str ⟨Nat.le_trans (Txt.slice_le z _ _) hz, fin⟩)
  | _ => exact False.elim h
def Its (x : Str) : It := ⟨fun i _ => i < x.cps.size, fun i H v H' => H' = H ∧ ∃ c, x.cps[i]? = some c ∧ v = .str ⟨#[c]⟩, fun i _ => x.cps.size ≤ i⟩
theorem turn_str {P : Program} {w : World} {K : PySem.W.Frag} {tg : Expr} {x : Str} {t : Tok} (it : Addr) (ty : String) (hty : ["enumerate", "zip", "dict_itemiterator", "dict_reverseitemiterator", "odict_iterator", "itertools.zip_longest", "itertools.pairwise"].contains ty = false)
    (W : ∀ A : Around, A.handled = none → Walks P w A it [it] [it] x.cps.size (SignAt x) (fun i h => h.IsStrIter it ty x t i))
    (slf : ∀ (A : Around) (i : Nat) (s : Shared) (Q : Value → Shared → Prop) (E : Value → Shared → Prop), s.heap.IsStrIter it ty x t i → Q (.ref it) s → wpAny (model P w) A (pyIter (.ref it)) Q E s) :
    Turn P w K tg (Its x) [it] it (fun i h => i ≤ x.cps.size ∧ h.IsStrIter it ty x t i) where
  mem := by simp
  obj := fun i h st b hb => by
    have e : b = it := by simpa using hb
    subst e
    obtain ⟨_, o, e, c, d⟩ := st
    exact ⟨o, e, fun v z => by rw [d] at z; cases z⟩
  keep := fun i h h' st k => by
    obtain ⟨hi, o, e, c, d⟩ := st
    exact ⟨hi, o, k it (by simp) o e, c, d⟩
  item := by
    intro X hP hw hK hc i pins s σ H E I hf st hg
    subst hP hw hK
    obtain ⟨f0, f1, f2, f3, f4, f5⟩ := hf it (by simp)
    have hlt : i < x.cps.size := hg
    refine (W X.A (I.ok.hd hc)).item i s _ _ hlt st.2 fun v h' tk hv st' kk => ?_
    obtain ⟨c, u, hcu, rfl⟩ := hv
    have I1 : Inv X pins σ H { s with heap := h', toks := tk } := I.turned (fun b o hb e => kk b o (by simpa using hb) e) f0 f1 f3 f4 f5
    obtain ⟨o, e, c', d⟩ := id st'
    exact ⟨_, rfl, go_of (s := { s with heap := h', toks := tk }) e c' d hty ⟨.str ⟨#[c]⟩, H, I1, ⟨u, rfl⟩, ⟨rfl, c, hcu, rfl⟩, ⟨hlt, st'⟩, fun b hb => (hf b hb).1⟩⟩
  done := by
    intro X hP hw hK hc i pins s σ H E I hf st hg
    subst hP hw hK
    obtain ⟨f0, f1, f2, f3, f4, f5⟩ := hf it (by simp)
    have hle : x.cps.size ≤ i := hg
    have e : i = x.cps.size := Nat.le_antisymm st.1 hle
    subst e
    exact (W X.A (I.ok.hd hc)).done s _ _ st.2 fun h' tk kk => ⟨rfl, I.turned (fun b o hb e => kk b o (by simpa using hb) e) f0 f1 f3 f4 f5⟩
  self := fun A i s Q E st h => slf A i s Q E st.2 h
def iStr (tl : TE) : TI := fun σ H R => tl σ H fun x H1 => ∃ z, x = .str z ∧ R (Its z) H1
theorem pi_str {tg l : Expr} {tl : TE} (hl : PE X l tl) : PI X tg l (iStr tl) := by
  intro pins s σ H R I h
  refine thn (hl pins s σ H _ I h) fun v s1 ⟨x, H1, I1, r1, q1⟩ => ?_
  obtain ⟨z, rfl, q⟩ := q1
  obtain ⟨t, rfl⟩ := r1
  have fin : ∀ b ∈ [s1.heap.objs.size], FpOk X pins H1 b := fun b hb => by
    have e : b = s1.heap.objs.size := by simpa using hb
    subst e
    exact I1.fpOk (Nat.le_refl _) (I1.hok.fresh (Nat.le_refl _))
  cases ha : z.cps.all (· < 128)
  · refine wpAny_pyIter_wide ha ⟨s1.heap.objs.size, [s1.heap.objs.size], _, Its z, H1, rfl, I1.kept (t' := s1.toks) fun b o e => Heap.get?_push_of_some _ e, turn_str (t := t) _ "str_iterator" (by decide) (fun A' hA => Walks.strWide hA _ z t) (fun A i s Q E st hq => wpAny_pyIter_striter_wide st hq), ⟨Nat.zero_le _, _, Heap.get?_push_size _ rfl, rfl, rfl⟩, fin, q⟩
  · refine wpAny_pyIter_ascii ha ⟨s1.heap.objs.size, [s1.heap.objs.size], _, Its z, H1, rfl, I1.kept (t' := s1.toks) fun b o e => Heap.get?_push_of_some _ e, turn_str (t := t) _ "str_ascii_iterator" (by decide) (fun A' hA => Walks.strAscii hA _ z t) (fun A i s Q E st hq => wpAny_pyIter_striter_ascii st hq), ⟨Nat.zero_le _, _, Heap.get?_push_size _ rfl, rfl, rfl⟩, fin, q⟩
theorem setItem_lst {prog : Program} {w : World} {A : Around} {E : Value → Shared → Prop} {s : Shared} {l : Addr} {items : Array Value} {k : Int} {t : Tok} {v : Value} {Q : Unit → Shared → Prop} (hl : s.heap.IsList l items)
    (h0 : 0 ≤ k) (hfit : k < 2 ^ 63) (hn : k < items.size)
    (hQ : Q () { s with heap := s.heap.update l (Obj.mapSeq (·.setIfInBounds k.toNat v)) }) :
    wpAny (model prog w) A (setItem (.ref l) (.int k t) v) Q E s := by
  obtain ⟨o, ho, hc, ne, hd⟩ := id hl
  unfold setItem
  try with_reducible refine wpAny_holding ?_
  first | refine wpAny_bind (wpAny_pure ?_) | skip
  refine wpAny_bind (wpAny_sequenceKey hl.typeIs (by decide) ?_)
  refine wpAny_bind (wpAny_callSpecial?_slot (name := Str.ofString "__setitem__") hl.typeIs slot_list_setitem
    (wpAny_call_entry slot_list_setitem hl.typeIs entry_list_setitem ?_ (args_list_setitem _ _ _)))
  show wpAny _ _ (Builtin.List.listSubscript? (.int k t) >>= _) _ _ s
  refine wpAny_bind (wpAny_listSubscript_int (fitsIndex_of h0 hfit) ?_)
  clear hfit
  obtain ⟨j, rfl⟩ := Int.eq_ofNat_of_zero_le h0
  have hj : j < items.size := by omega
  have hx' : items[j]? = some items[j] := Array.getElem?_eq_getElem hj
  show wpAny _ _ ((seqItemAt l j >>= fun r => pure (r.map (j, ·))) >>= _) _ _ s
  refine wpAny_bind (wpAny_bind (wpAny_seqItemAt ho hd (wpAny_pure ?_)))
  rw [hx']
  show wpAny _ _ (setSeqItemAt l j v >>= _) _ _ s
  refine wpAny_bind (wpAny_setSeqItemAt ho hd ?_)
  first
    | exact wpAny_bind (wpAny_pure (wpAny_pure ⟨.none, rfl, wpAny_pure hQ⟩))
    | exact wpAny_pure ⟨.none, rfl, wpAny_pure hQ⟩
theorem vals_set : ∀ {xs : List V} {us : List Value} {x : V} {u : Value} (i : Nat), Vals xs us → RelV x u → Vals (xs.set i x) (us.set i u)
  | _, _, _, _, _, .nil, _ => .nil
  | _, _, _, _, 0, .cons _ t, r => .cons r t
  | _, _, _, _, i + 1, .cons q t, r => .cons q (vals_set i t r)
def cPut : TSet
  | .ref p, y, v, H, Q => (match unD (H p) with
    | some _ => ∃ H', DPut H p y v H' ∧ Q H'
    | none => match y with
      | .int i => bnd (unM (H p)) fun xs => 0 ≤ i ∧ i < xs.length ∧ Q (upd H p (.lst (xs.set i.toNat v)))
      | _ => False)
  | _, _, _, _, _ => False
theorem set_c (hu : X.A.units + 64 < cLine) : PSet X cPut := by
  intro pins s σ H o i v ov iv u Q I ro ri rv h
  cases o with
  | ref p =>
    cases ro
    unfold cPut at h
    dsimp only at h
    split at h
    · obtain ⟨H', g, q⟩ := h
      exact d_setItem (Nat.lt_of_le_of_lt (Nat.add_le_add_left (by decide : 1 ≤ 64) _) hu) I g ri rv fun s' I' => ⟨H', I', q⟩
    · split at h
      · rename_i i
        obtain ⟨xs, e, h0, h1, q⟩ := bnd_ex h
        obtain ⟨t, rfl⟩ := ri
        have hH := unM_ex e
        obtain ⟨z, its, n, r, hl, eo⟩ := I.lstM hH
        have hs : s.heap.IsList p its.toArray := ⟨_, eo, rfl, n, rfl⟩
        have hz : its.length ≤ sizeLine := by rw [← hl]; exact z
        refine setItem_lst hs h0 ?_ (by rw [List.size_toArray, ← hl]; exact h1) ⟨_, I.lset (t' := s.toks) (ys := xs.set i.toNat v) (its' := its.set i.toNat u) hH eo (by simp) (vals_set _ r rv) (by rw [List.length_set]; exact z), q⟩
        have : (sizeLine : Int) < 2 ^ 63 := by decide
        omega
      · exact h.elim
  | _ => exact False.elim h
end
section
variable {K : PySem.W.Frag} {g : TG} {tb : TS} {D : Ends} {σ : St} {H : Hp} {tl : TE} {ix : List (Option Nat)} {tt : TT} {te ta : TE} {k : Nat} {Q : VK}
theorem w_sl {r : V → Option Int → Option Int → Hp → VK → Prop} {a b : TO} : tSl r te a b σ H Q = te σ H fun x H1 => a σ H1 fun l H2 => b σ H2 fun u H3 => r x l u H3 Q := rfl
theorem w_part {R : Option Int → Hp → Prop} : tPart te σ H R = te σ H fun x H1 => ∃ i, x = .int i ∧ R (some i) H1 := rfl
theorem w_nopart {R : Option Int → Hp → Prop} : tNoPart σ H R = R none H := rfl
theorem w_gsub {to ti : TE} {t : TSet} {v : V} {R : St → Hp → Prop} : gSub to ti t v σ H R = to σ H fun o H1 => ti σ H1 fun i H2 => t o i v H2 fun H3 => R σ H3 := rfl
theorem w_un {r : V → Hp → VK → Prop} : tUn r te σ H Q = te σ H fun x H1 => r x H1 Q := rfl
theorem w_forS : tFor (iStr tl) g tb D σ H = tl σ H fun x H1 => ∃ z, x = .str z ∧ LoopR (Its z) g tb D σ H1 := rfl
theorem w_compS : tComp ix (iStr tl) g tt te σ H Q = tl σ H fun x H1 => ∃ z, x = .str z ∧ CompR (Its z) g tt te (fun l H' => Q (.ref l) H') (subσ ix σ) H1 := rfl
theorem w_scompS : sComp k ix (iStr tl) g tt te D σ H = tl σ H fun x H1 => ∃ z, x = .str z ∧ CompR (Its z) g tt te (fun l H' => D.nx (σ.set k (some (.ref l))) H') (subσ ix σ) H1 := rfl
theorem w_tyS {x : Str} : tyV K "str" (.str x) H := rfl
theorem w_eqS {i j : Str} : cEq K (.str i) (.str j) H Q = Q (.bl (decide (i = j))) H := rfl
theorem w_neS {i j : Str} : cNe K (.str i) (.str j) H Q = Q (.bl (!decide (i = j))) H := rfl
theorem w_lenS {z : Str} : kLen [.str z] H Q = (z.length ≤ sizeLine ∧ Q (.int z.length) H) := rfl
theorem w_addS {i j : Str} : cAdd (.str i) (.str j) H Q = (i.length + j.length ≤ sizeLine ∧ Q (.str (i ++ j)) H) := rfl
theorem w_ixS {z : Str} {i : Int} : cIx (.str z) (.int i) H Q = (z.length ≤ sizeLine ∧ bnd (atI z.cps.toList i) fun c => Q (.str ⟨#[c]⟩) H) := rfl
theorem w_find {x y : Str} : kFind (.str x) [.str y] H Q = Q (.int (Txt.find x y)) H := rfl
theorem w_split {x y : Str} : kSplit (.str x) [.str y] H Q = ((y.length == 0) = false ∧ x.length ≤ sizeLine ∧ (Txt.split x y).length ≤ sizeLine ∧ ∀ l, H l = none → Q (.ref l) (upd H l (.lst ((Txt.split x y).map V.str)))) := rfl
theorem w_join {sep : Str} {p : Addr} {ts : List Str} (hp : H p = some (.lst (ts.map V.str))) (hok : JoinOk sep ts = true) (h : Q (.str (Txt.join sep ts)) H) : kJoin (.str sep) [.ref p] H Q := by
  unfold kJoin
  dsimp only
  rw [hp]
  exact ⟨ts, rfl, hok, h⟩
theorem w_put {p : Addr} {i : Int} {v : V} {xs : List V} {R : Hp → Prop} (hp : H p = some (.lst xs)) (h0 : 0 ≤ i) (h1 : i < xs.length) (h : R (upd H p (.lst (xs.set i.toNat v)))) : cPut (.ref p) (.int i) v H R := by
  unfold cPut
  dsimp only
  rw [hp]
  exact ⟨h0, h1, h⟩
theorem w_slL {p : Addr} {lo hi : Option Int} {xs : List V} (hp : H p = some (.lst xs)) (h : ∀ l, H l = none → Q (.ref l) (upd H l (.lst (cutV xs lo hi)))) : cSl2 (.ref p) lo hi H Q := by
  show bnd (unL (H p)) _
  rw [hp]
  exact h
end
end L2
set_option Elab.async false
set_option linter.all false
set_option maxRecDepth 100000
namespace L2
open PySem PySem.Spec PyProof.Rows
def cBitI (g : Int → Int → Int) : R2
  | .int i, .int j, H, Q => Q (.int (g i j)) H
  | _, _, _, _ => False
def cShr : R2
  | .int i, .int j, H, Q => 0 ≤ j ∧ Q (.int (i / 2 ^ j.toNat)) H
  | _, _, _, _ => False
section
variable {H : Hp} {Q : VK} {i j : Int}
theorem w_bitI {g : Int → Int → Int} : cBitI g (.int i) (.int j) H Q = Q (.int (g i j)) H := rfl
theorem w_shr : cShr (.int i) (.int j) H Q = (0 ≤ j ∧ Q (.int (i / 2 ^ j.toNat)) H) := rfl
end
end L2
set_option Elab.async false
set_option linter.all false
set_option maxRecDepth 100000
namespace L2
open PySem PySem.Spec PyProof.Rows
section
variable {X : Cx}
def kInt : List V → Hp → VK → Prop
  | [.int i], H, Q => Q (.int i) H
  | [.bl k], H, Q => Q (.int (if k then 1 else 0)) H
  | _, _, _ => False
def kBitLen : V → List V → Hp → VK → Prop
  | .int i, [], H, Q => Q (.int (Builtin.Int.intBits i : Nat)) H
  | _, _, _, _ => False
def kAll : List V → Hp → VK → Prop
  | [.ref p], H, Q => bnd (unL (H p)) fun ys => ∃ bs : List Bool, ys = bs.map V.bl ∧ Q (.bl (bs.all id)) H
  | _, _, _ => False
theorem all_range (bs : List Bool) : (List.range bs.length).all (fun i => bs.getD i false) = bs.all id := by
  rw [Bool.eq_iff_iff, List.all_eq_true, List.all_eq_true]
  constructor
  · intro h b hb
    obtain ⟨i, hi, e⟩ := List.mem_iff_getElem.mp hb
    have := h i (List.mem_range.mpr hi)
    rw [List.getD, List.getElem?_eq_getElem hi, e] at this
    exact this
  · intro h i hi
    have hi' : i < bs.length := List.mem_range.mp hi
    have := h bs[i] (List.getElem_mem hi')
    simpa [List.getD, hi'] using this
theorem bt_all : bootBuiltins "all" = some (.builtin "all") := by decide +kernel
theorem call_kAll (hc : X.calm = true) : CallR X (.builtin "all") kAll := by
  intro pins s σ H xs us Q I r h
  unfold kAll at h
  split at h
  · rename_i p
    obtain ⟨ys, e, bs, rfl, q⟩ := bnd_ex h
    obtain ⟨u, rfl, ru⟩ := vals1 r
    cases ru
    obtain ⟨its, rv, pl, hz⟩ := I.list (unL_sq e)
    have hl := rv.length
    rw [List.length_map] at hl
    have hlt : p < s.heap.objs.size := by
      obtain ⟨o, h1, _⟩ := pl.isList
      exact Heap.lt_size h1
    refine call_all_walkS (wpAny_pyIter_list pl.isList ?_)
    refine ⟨s.heap.objs.size, _, _, _, its.toArray.size, _, _, fun i => bs.getD i false, rfl, (Walks.list (A := X.A.in1) (I.ok.hd hc) s.heap.objs.size p (Nat.ne_of_lt hlt) its.toArray).toS, ⟨⟨_, Heap.get?_push_size _ rfl, rfl, rfl⟩, pl.isList.push _⟩, ?_, fun s' hm => ?_⟩
    · intro i v s1 Q1 E1 hP hQ
      have hv : its[i]? = some v := by simpa using hP
      obtain ⟨x, hx, rx⟩ := rv.get' hv
      obtain ⟨b, hb, rfl⟩ : ∃ b, bs[i]? = some b ∧ V.bl b = x := by simpa using hx
      cases rx
      refine wpAny_truthy_bool ?_
      have e3 : bs.getD i false = b := by simp [List.getD, hb]
      rw [← e3]
      exact hQ
    · refine ⟨.bl _, H, I.walked (l := p) hm, ?_, q⟩
      have e2 : its.toArray.size = bs.length := by rw [List.size_toArray]; exact hl.symm
      rw [e2, all_range]
      rfl
  · exact h.elim
def Itd (hi : Int) (n : Nat) : It := ⟨fun i _ => i < n, fun i H x H' => H' = H ∧ x = .int (hi - i), fun i _ => n ≤ i⟩
def iRngD (ta : TA) : TI := fun σ H R => ta σ H fun vs H1 => ∃ i j : Int, vs = [.int i, .int j, .int (-1)] ∧ (-(2 ^ 60) ≤ i ∧ i < 2 ^ 60 ∧ -(2 ^ 60) ≤ j ∧ j < 2 ^ 60) ∧ R (Itd i (i - j).toNat) H1
end
section
variable {K : PySem.W.Frag} {g : TG} {tb : TS} {D : Ends} {σ : St} {H : Hp} {ta : TA} {Q : VK}
theorem w_intB {k : Bool} : kInt [.bl k] H Q = Q (.int (if k then 1 else 0)) H := rfl
theorem w_intI {i : Int} : kInt [.int i] H Q = Q (.int i) H := rfl
theorem w_bitlen {i : Int} : kBitLen (.int i) [] H Q = Q (.int (Builtin.Int.intBits i : Nat)) H := rfl
theorem w_all {p : Addr} {bs : List Bool} (hp : H p = some (.lst (bs.map V.bl))) (h : Q (.bl (bs.all id)) H) : kAll [.ref p] H Q := by
  show bnd (unL (H p)) _
  rw [hp]
  exact bnd_of (a := bs.map V.bl) rfl ⟨bs, rfl, h⟩
theorem w_forRD : tFor (iRngD ta) g tb D σ H = ta σ H fun vs H1 => ∃ i j : Int, vs = [.int i, .int j, .int (-1)] ∧ (-(2 ^ 60) ≤ i ∧ i < 2 ^ 60 ∧ -(2 ^ 60) ≤ j ∧ j < 2 ^ 60) ∧ LoopR (Itd i (i - j).toNat) g tb D σ H1 := rfl
end
end L2
set_option Elab.async false
set_option linter.all false
set_option maxRecDepth 100000
namespace L2
open PySem PySem.Spec PyProof.Rows
section
variable {X : Cx}
def Ite (K : PySem.W.Frag) (a : Addr) : It :=
  ⟨fun i H => ∃ xs x, SqL K H a xs ∧ xs[i]? = some x,
   fun i H v H' => ∃ T x, v = .ref T ∧ H T = none ∧ H' = upd H T (.tup [.int i, x]) ∧ ∀ xs, SqL K H a xs → xs[i]? = some x,
   fun i H => ∃ xs, SqL K H a xs ∧ xs.length ≤ i⟩
def iEnum (K : PySem.W.Frag) (ta : TA) : TI := fun σ H R => ta σ H fun vs H1 => ∃ a, vs = [.ref a] ∧ (∃ xs, SqL K H1 a xs) ∧ R (Ite K a) H1
end
section
variable {K : PySem.W.Frag} {g : TG} {tb : TS} {D : Ends} {σ : St} {H : Hp} {ta : TA} {Q : VK} {ix : List (Option Nat)} {tt : TT} {te : TE} {k : Nat}
theorem w_forE : tFor (iEnum K ta) g tb D σ H = ta σ H fun vs H1 => ∃ a, vs = [.ref a] ∧ (∃ xs, SqL K H1 a xs) ∧ LoopR (Ite K a) g tb D σ H1 := rfl
theorem w_compE : tComp ix (iEnum K ta) g tt te σ H Q = ta σ H fun vs H1 => ∃ a, vs = [.ref a] ∧ (∃ xs, SqL K H1 a xs) ∧ CompR (Ite K a) g tt te (fun l H' => Q (.ref l) H') (subσ ix σ) H1 := rfl
theorem w_scompE : sComp k ix (iEnum K ta) g tt te D σ H = ta σ H fun vs H1 => ∃ a, vs = [.ref a] ∧ (∃ xs, SqL K H1 a xs) ∧ CompR (Ite K a) g tt te (fun l H' => D.nx (σ.set k (some (.ref l))) H') (subσ ix σ) H1 := rfl
end
end L2
set_option Elab.async false
set_option linter.all false
set_option maxRecDepth 100000
namespace L2
open PySem PySem.Spec PyProof.Rows
end L2
set_option Elab.async false
set_option linter.all false
set_option maxRecDepth 100000
namespace L2
open PySem PySem.Spec PyProof.Rows
end L2
set_option Elab.async false
set_option linter.all false
set_option maxRecDepth 100000
namespace L2
open PySem PySem.Spec PyProof.Rows
def rngL (i j : Int) : List Int := (List.range (j - i).toNat).map fun (k : Nat) => i + (k : Int)
section
variable {X : Cx}
def tListRng1 (ta : TA) : TE := fun σ H Q => ta σ H fun vs H1 => ∃ j : Int, vs = [.int j] ∧ -(2 ^ 60) ≤ j ∧ j ≤ 1000 ∧ ∀ l, H1 l = none → Q (.ref l) (upd H1 l (.lst ((rngL 0 j).map V.int)))
def tListRng2 (ta : TA) : TE := fun σ H Q => ta σ H fun vs H1 => ∃ i j : Int, vs = [.int i, .int j] ∧ (0 ≤ i ∧ i ≤ 1000 ∧ -(2 ^ 60) ≤ j ∧ j ≤ 1000) ∧ ∀ l, H1 l = none → Q (.ref l) (upd H1 l (.lst ((rngL i j).map V.int)))
end
section
variable {σ : St} {H : Hp} {Q : VK} {ta : TA}
theorem w_lrng1 : tListRng1 ta σ H Q = ta σ H fun vs H1 => ∃ j : Int, vs = [.int j] ∧ -(2 ^ 60) ≤ j ∧ j ≤ 1000 ∧ ∀ l, H1 l = none → Q (.ref l) (upd H1 l (.lst ((rngL 0 j).map V.int))) := rfl
theorem w_lrng2 : tListRng2 ta σ H Q = ta σ H fun vs H1 => ∃ i j : Int, vs = [.int i, .int j] ∧ (0 ≤ i ∧ i ≤ 1000 ∧ -(2 ^ 60) ≤ j ∧ j ≤ 1000) ∧ ∀ l, H1 l = none → Q (.ref l) (upd H1 l (.lst ((rngL i j).map V.int))) := rfl
end
end L2
namespace L2
end L2
set_option Elab.async false
set_option linter.all false
set_option maxRecDepth 100000
namespace L2
open PySem PySem.Spec PyProof.Rows
local macro_rules | `(tactic| walk_at "w") => `(tactic| (first | simp only [w_seq, w_next, w_asg, w_gname, w_var0, w_varS, w_c, w_op, w_ret, w_retN, w_drop, w_test, w_b, w_not, w_and, w_or, w_notV, w_andV, w_orV, w_nil, w_cons, w_cb, w_call, w_tup, w_lst, w_bm, w_bm0, w_true, w_dnew, w_dput, w_forL, w_forR1, w_forR2, w_compL, w_compR1, w_scompL, w_scompR1, w_add, w_sub, w_mul, w_div, w_mod, w_cmp, w_eqI, w_neI, w_eqB, w_neB, w_abs, w_min, w_sl, w_part, w_nopart, w_gsub, w_un, w_forS, w_compS, w_scompS, w_eqS, w_neS, w_lenS, w_addS, w_find,
  List.getElem?_cons_zero, List.getElem?_cons_succ, Option.some.injEq, exists_eq_left', exists_eq_left, List.set_cons_zero, List.set_cons_succ, bnd_some, V.int.injEq, V.bl.injEq, V.ref.injEq, V.str.injEq, List.nil_append, List.cons_append] | dsimp only | skip))
theorem len_le {n : Nat} (h : n ≤ 1000) : n ≤ sizeLine := Nat.le_of_lt (small1000 h)
theorem Same.laid {H H' : Hp} {p : Addr} {o : HO} (s : Same H H') (h : H' p = none) : Same H (upd H' p o) := fun b u e => by
  rw [upd_ne (ne_of_none (s b u e) h)]
  exact s b u e
theorem Same.own {H H' : Hp} {p : Addr} {o : HO} (s : Same H H') (h : H p = none) : Same H (upd H' p o) := fun b u e => by
  rw [upd_ne (ne_of_none e h)]
  exact s b u e
theorem atI_ints {ns : List Int} {k : Int} (h0 : 0 ≤ k) (h1 : k < ns.length) : atI (ns.map V.int) k = some (.int (ns.getD k.toNat 0)) := by
  have e : ((k.toNat : Nat) : Int) = k := Int.toNat_of_nonneg h0
  have hlt : k.toNat < ns.length := by omega
  have : (ns.map V.int)[k.toNat]? = some (.int (ns.getD k.toNat 0)) := by
    rw [List.getElem?_map, List.getElem?_eq_getElem hlt]
    simp [List.getD, hlt]
  have q := atI_nat this
  rw [e] at q
  exact q
theorem filter_tt {α : Type} (l : List α) : l.filter (fun _ => true) = l := List.filter_eq_self.mpr fun _ _ => rfl
section
variable {k : Nat} {lo : Int} {n : Nat} {tt : TT} {te : TE} {fin : Addr → Hp → Prop} {σ0 : St} {H1 : Hp} {K : PySem.W.Frag} {a : Addr}
theorem filt_len {n i : Nat} (b : Nat → Bool) (h : i < n) (hn : n ≤ 900) : ((List.range i).filter b).length ≤ 900 := by
  have := List.length_filter_le b (List.range i)
  rw [List.length_range] at this
  omega
theorem compV_range (b : Nat → Bool) (f : Nat → V) (hn : n ≤ 900)
    (ht : ∀ i H R, i < n → Same H1 H → (∀ H', Same H H' → R (b i) H') → tt (σ0.set k (some (.int (lo + i)))) H R)
    (he : ∀ i H Q, i < n → b i = true → Same H1 H → (∀ H', Same H H' → Q (f i) H') → te (σ0.set k (some (.int (lo + i)))) H Q)
    (hd : ∀ l H, H1 l = none → Same H1 H → H l = some (.lst (((List.range n).filter b).map f)) → fin l H) :
    CompR (Itr lo n) (gName k) tt te fin σ0 H1 := by
  refine comp_range (fun l i σ H => (σ = σ0 ∨ ∃ cv, σ = σ0.set k cv) ∧ Same H1 H ∧ H l = some (.lst (((List.range i).filter b).map f))) (fun l hl => ⟨.inl rfl, (Same.refl H1).laid hl, by rw [upd_same]; rfl⟩) ?_ (fun l σ H hl p => hd l H hl p.2.1 p.2.2)
  rintro l i σ H hl hi ⟨hσ, s1, el⟩
  rw [w_gname]
  have e : σ.set k (some (.int (lo + i))) = σ0.set k (some (.int (lo + i))) := by
    rcases hσ with rfl | ⟨cv, rfl⟩
    · rfl
    · exact List.set_set ..
  rw [e]
  refine ht i H _ hi s1 fun H2 s2 => ?_
  have el2 := s2 _ _ el
  cases hb : b i with
  | false =>
    rw [if_neg Bool.false_ne_true]
    refine ⟨.inr ⟨_, rfl⟩, s1.trans s2, ?_⟩
    rw [List.range_succ, List.filter_append, List.filter_cons, hb]
    simpa using el2
  | true =>
    rw [if_pos rfl]
    refine he i H2 _ hi hb (s1.trans s2) fun H3 s3 => ⟨_, s3 _ _ el2, by rw [List.length_map]; exact small1000 (Nat.le_trans (filt_len b hi hn) (by decide)), .inr ⟨_, rfl⟩, ((s1.trans s2).trans s3).own hl, ?_⟩
    rw [upd_same, List.range_succ, List.filter_append, List.filter_cons, hb]
    simp
theorem compV_list {xs : List V} (b : Nat → Bool) (f : Nat → V) (hn : xs.length ≤ 900) (hq : SqL K H1 a xs)
    (ht : ∀ i x H R, xs[i]? = some x → Same H1 H → (∀ H', Same H H' → R (b i) H') → tt (σ0.set k (some x)) H R)
    (he : ∀ i x H Q, xs[i]? = some x → b i = true → Same H1 H → (∀ H', Same H H' → Q (f i) H') → te (σ0.set k (some x)) H Q)
    (hd : ∀ l H, H1 l = none → Same H1 H → H l = some (.lst (((List.range xs.length).filter b).map f)) → fin l H) :
    CompR (Itl K a) (gName k) tt te fin σ0 H1 := by
  refine comp_list (xs := xs) (fun l i σ H => (σ = σ0 ∨ ∃ cv, σ = σ0.set k cv) ∧ Same H1 H ∧ H l = some (.lst (((List.range i).filter b).map f))) (fun l hl => ⟨.inl rfl, (Same.refl H1).laid hl, by rw [upd_same]; rfl⟩) (fun l i σ H _ _ p => p.2.1.seq hq) ?_ (fun l σ H hl p => hd l H hl p.2.1 p.2.2)
  rintro l i x σ H hl hx ⟨hσ, s1, el⟩
  have hi : i < xs.length := (List.getElem?_eq_some_iff.mp hx).1
  rw [w_gname]
  have e : σ.set k (some x) = σ0.set k (some x) := by
    rcases hσ with rfl | ⟨cv, rfl⟩
    · rfl
    · exact List.set_set ..
  rw [e]
  refine ht i x H _ hx s1 fun H2 s2 => ?_
  have el2 := s2 _ _ el
  cases hb : b i with
  | false =>
    rw [if_neg Bool.false_ne_true]
    refine ⟨.inr ⟨_, rfl⟩, s1.trans s2, ?_⟩
    rw [List.range_succ, List.filter_append, List.filter_cons, hb]
    simpa using el2
  | true =>
    rw [if_pos rfl]
    refine he i x H2 _ hx hb (s1.trans s2) fun H3 s3 => ⟨_, s3 _ _ el2, by rw [List.length_map]; exact small1000 (Nat.le_trans (filt_len b hi hn) (by decide)), .inr ⟨_, rfl⟩, ((s1.trans s2).trans s3).own hl, ?_⟩
    rw [upd_same, List.range_succ, List.filter_append, List.filter_cons, hb]
    simp
end
end L2
set_option Elab.async false
set_option linter.all false
namespace L2
theorem catL_snoc (c : Nat) : ∀ (xs : List (List Nat)) (y : List Nat), xs ≠ [] → catL c (xs ++ [y]) = catL c xs ++ c :: y
  | [], _, h => absurd rfl h
  | [x], y, _ => rfl
  | x :: z :: r, y, _ => by
    show x ++ c :: catL c ((z :: r) ++ [y]) = (x ++ c :: catL c (z :: r)) ++ c :: y
    rw [catL_snoc c (z :: r) y (by simp), List.append_assoc]
    rfl
end L2
set_option Elab.async false
set_option linter.all false
set_option maxRecDepth 100000
namespace L2
open PySem PySem.Spec PyProof.Rows
local macro_rules | `(tactic| walk_at "w") => `(tactic| (first | simp only [w_seq, w_next, w_asg, w_gname, w_var0, w_varS, w_c, w_op, w_ret, w_retN, w_drop, w_test, w_b, w_not, w_and, w_or, w_notV, w_andV, w_orV, w_nil, w_cons, w_cb, w_call, w_tup, w_lst, w_bm, w_bm0, w_true, w_dnew, w_dput, w_forL, w_forR1, w_forR2, w_compL, w_compR1, w_scompL, w_scompR1, w_add, w_sub, w_mul, w_div, w_mod, w_cmp, w_eqI, w_neI, w_eqB, w_neB, w_abs, w_min, w_sl, w_part, w_nopart, w_gsub, w_un, w_forS, w_compS, w_scompS, w_eqS, w_neS, w_lenS, w_addS, w_find,
  List.getElem?_cons_zero, List.getElem?_cons_succ, Option.some.injEq, exists_eq_left', exists_eq_left, List.set_cons_zero, List.set_cons_succ, bnd_some, V.int.injEq, V.bl.injEq, V.ref.injEq, V.str.injEq, List.nil_append, List.cons_append] | dsimp only | skip))
section
variable {k : Nat} {tt : TT} {te : TE} {fin : Addr → Hp → Prop} {σ0 : St} {H1 : Hp}
theorem compV_str {cs : List Nat} (b : Nat → Bool) (f : Nat → V) (hn : cs.length ≤ 900)
    (ht : ∀ i c H R, cs[i]? = some c → Same H1 H → (∀ H', Same H H' → R (b i) H') → tt (σ0.set k (some (.str (tx [c])))) H R)
    (he : ∀ i c H Q, cs[i]? = some c → b i = true → Same H1 H → (∀ H', Same H H' → Q (f i) H') → te (σ0.set k (some (.str (tx [c])))) H Q)
    (hd : ∀ l H, H1 l = none → Same H1 H → H l = some (.lst (((List.range cs.length).filter b).map f)) → fin l H) :
    CompR (Its (tx cs)) (gName k) tt te fin σ0 H1 := by
  intro l hl
  have hsz : (tx cs).cps.size = cs.length := by simp [tx]
  refine ⟨fun i m σ H => m = cs.length - i ∧ i ≤ cs.length ∧ (σ = σ0 ∨ ∃ cv, σ = σ0.set k cv) ∧ Same H1 H ∧ H l = some (.lst (((List.range i).filter b).map f)), ⟨cs.length, by simp, Nat.zero_le _, .inl rfl, (Same.refl H1).laid hl, by rw [upd_same]; rfl⟩, ?_⟩
  rintro i m σ H ⟨rfl, hi, hσ, s1, el⟩
  by_cases hlt : i < cs.length
  · refine .inr ⟨by show i < (tx cs).cps.size; rw [hsz]; exact hlt, fun σ H => (σ = σ0 ∨ ∃ cv, σ = σ0.set k cv) ∧ Same H1 H ∧ H l = some (.lst (((List.range (i + 1)).filter b).map f)), fun σ' H' p' => ⟨cs.length - (i + 1), by omega, rfl, hlt, p'⟩, ?_⟩
    rintro x H' ⟨rfl, c, hc, rfl⟩
    have hc' : cs[i]? = some c := by simpa [tx] using hc
    show gName k (.str (tx [c])) σ H' _
    rw [w_gname]
    have e : σ.set k (some (.str (tx [c]))) = σ0.set k (some (.str (tx [c]))) := by
      rcases hσ with rfl | ⟨cv, rfl⟩
      · rfl
      · exact List.set_set ..
    rw [e]
    refine ht i c H' _ hc' s1 fun H2 s2 => ?_
    have el2 := s2 _ _ el
    cases hb : b i with
    | false =>
      rw [if_neg Bool.false_ne_true]
      refine ⟨.inr ⟨_, rfl⟩, s1.trans s2, ?_⟩
      rw [List.range_succ, List.filter_append, List.filter_cons, hb]
      simpa using el2
    | true =>
      rw [if_pos rfl]
      refine he i c H2 _ hc' hb (s1.trans s2) fun H3 s3 => ⟨_, s3 _ _ el2, by rw [List.length_map]; exact small1000 (Nat.le_trans (filt_len b hlt hn) (by decide)), .inr ⟨_, rfl⟩, ((s1.trans s2).trans s3).own hl, ?_⟩
      rw [upd_same, List.range_succ, List.filter_append, List.filter_cons, hb]
      simp
  · have e : i = cs.length := by omega
    subst e
    exact .inl ⟨by show (tx cs).cps.size ≤ _; rw [hsz]; exact Nat.le_refl _, hd l H hl s1 el⟩
end
end L2
set_option Elab.async false
set_option linter.all false
set_option maxRecDepth 100000
namespace L2
open PySem PySem.Spec PyProof.Rows
abbrev rIsN : R2 := fun x y H Q => y = .non ∧ Q (.bl (decide (x = .non))) H
abbrev rNotN : R2 := fun x y H Q => y = .non ∧ Q (.bl (!decide (x = .non))) H
def kStr : List V → Hp → VK → Prop
  | [.int i], H, Q => i.natAbs.log2 < 1920 ∧ Q (.str (Str.ofString (toString i))) H
  | _, _, _ => False
def cRep : R2
  | .str z, .int n, H, Q => MulOk z n ∧ Q (.str (Txt.mul z n)) H
  | _, _, _, _ => False
section
variable {X : Cx}
theorem call_kStr : CallR X (.type "str") kStr := by
  intro pins s σ H xs us Q I r h
  unfold kStr at h
  split at h
  · obtain ⟨hi, q⟩ := h
    cases r with
    | cons r0 rr =>
      cases rr
      obtain ⟨t, rfl⟩ := r0
      exact PySem.P.str_of_int hi ⟨.str _, H, I.tok _, ⟨_, rfl⟩, q⟩
  · exact h.elim
theorem op_cRep : OpR X (binaryOp .Mult) cRep := by
  intro pins s σ H x y v u Q I rx ry h
  unfold cRep at h
  split at h
  · obtain ⟨t, rfl⟩ := rx
    obtain ⟨t', rfl⟩ := ry
    exact SB.mul h.1 fun t' k => ⟨.str _, H, I.tok _, ⟨_, rfl⟩, h.2⟩
  · exact h.elim
end
section
variable {K : PySem.W.Frag} {H : Hp} {Q : VK}
theorem w_isN {x : V} : rIsN x .non H Q = Q (.bl (decide (x = .non))) H := by simp [rIsN]
theorem w_notN {x : V} : rNotN x .non H Q = Q (.bl (!decide (x = .non))) H := by simp [rNotN]
theorem w_slS {z : Str} {lo hi : Option Int} : cSl2 (.str z) lo hi H Q = (z.length ≤ sizeLine ∧ Q (.str (Txt.slice z lo hi)) H) := rfl
theorem w_rep {z : Str} {n : Int} : cRep (.str z) (.int n) H Q = (MulOk z n ∧ Q (.str (Txt.mul z n)) H) := rfl
theorem w_str {i : Int} : kStr [.int i] H Q = (i.natAbs.log2 < 1920 ∧ Q (.str (Str.ofString (toString i))) H) := rfl
end
end L2
set_option Elab.async false
set_option linter.all false
set_option maxRecDepth 100000
namespace L2
open PySem PySem.Spec PyProof.Rows
structure Bt2 (mg : Str → Option Value) : Prop extends Bt mg where
  all_ : mg "all" = none
  sum_ : mg "sum" = none
  enumerate_ : mg "enumerate" = none
section
variable {K : PySem.W.Frag} {H : Hp} {Q : VK} {D : Ends} {σ : St} {g : TG} {tb : TS} {ta : TA} {ix : List (Option Nat)} {tt : TT} {te tf : TE} {k : Nat}
theorem w_ifE : tIf tt te tf σ H Q = tt σ H fun c H1 => if c = true then te σ H1 Q else tf σ H1 Q := rfl
theorem w_compR2 : tComp ix (iRng2 ta) g tt te σ H Q = ta σ H fun vs H1 => ∃ i j : Int, vs = [.int i, .int j] ∧ (-(2 ^ 62) ≤ i ∧ i < 2 ^ 62 ∧ -(2 ^ 62) ≤ j ∧ j < 2 ^ 62) ∧ CompR (Itr i (j - i).toNat) g tt te (fun l H' => Q (.ref l) H') (subσ ix σ) H1 := rfl
theorem w_scompR2 : sComp k ix (iRng2 ta) g tt te D σ H = ta σ H fun vs H1 => ∃ i j : Int, vs = [.int i, .int j] ∧ (-(2 ^ 62) ≤ i ∧ i < 2 ^ 62 ∧ -(2 ^ 62) ≤ j ∧ j < 2 ^ 62) ∧ CompR (Itr i (j - i).toNat) g tt te (fun l H' => D.nx (σ.set k (some (.ref l))) H') (subσ ix σ) H1 := rfl
theorem isiE {x : V} {n t : String} {b : Bool} (hx : tyName H x = some t) (hn : tyKnown n = true) (hb : isTy t n = b) : kIsi [x, .ty n] H Q = Q (.bl b) H := by
  subst hb
  show (tyKnown n = true ∧ bnd (tyName H x) fun t => Q (.bl (isTy t n)) H) = _
  rw [hx]
  simp only [hn, true_and, bnd_some]
theorem w_isi_ii {i : Int} : kIsi [.int i, .ty "int"] H Q = Q (.bl true) H := isiE (t := "int") rfl (by decide) (by decide)
theorem w_isi_ib {i : Int} : kIsi [.int i, .ty "bool"] H Q = Q (.bl false) H := isiE (t := "int") rfl (by decide) (by decide)
theorem w_isi_is {i : Int} : kIsi [.int i, .ty "str"] H Q = Q (.bl false) H := isiE (t := "int") rfl (by decide) (by decide)
theorem w_isi_bb {i : Bool} : kIsi [.bl i, .ty "bool"] H Q = Q (.bl true) H := isiE (t := "bool") rfl (by decide) (by decide)
theorem w_isi_bi {i : Bool} : kIsi [.bl i, .ty "int"] H Q = Q (.bl true) H := isiE (t := "bool") rfl (by decide) (by decide)
theorem w_isi_ss {i : Str} : kIsi [.str i, .ty "str"] H Q = Q (.bl true) H := isiE (t := "str") rfl (by decide) (by decide)
theorem w_isi_bs {i : Bool} : kIsi [.bl i, .ty "str"] H Q = Q (.bl false) H := isiE (t := "bool") rfl (by decide) (by decide)
theorem w_iteT {A B : Prop} : (if true = true then A else B) = A := if_pos rfl
theorem w_iteF {A B : Prop} : (if false = true then A else B) = B := if_neg Bool.false_ne_true
theorem w_negE {i : Int} : rU (fun i => .int (-i)) (.int i) H Q = Q (.int (-i)) H := by
  refine propext ⟨?_, fun h => ⟨i, rfl, h⟩⟩
  rintro ⟨j, e, h⟩
  cases e
  exact h
theorem ixT {p : Addr} {i : Int} {xs : List V} {v : V} (h : H p = some (.tup xs)) (e : atI xs i = some v) (q : Q v H) : cIx (.ref p) (.int i) H Q := by
  rw [w_ix h]; exact bnd_of e q
theorem ixL {p : Addr} {i : Int} {xs : List V} {v : V} (h : H p = some (.lst xs)) (e : atI xs i = some v) (q : Q v H) : cIx (.ref p) (.int i) H Q := by
  rw [w_ixL h]; exact bnd_of e q
end
end L2
set_option Elab.async false
set_option linter.all false
set_option maxRecDepth 100000
namespace L2
open PySem PySem.Spec PyProof.Rows
theorem ObjOk.ob {P : Program} {w : World} {H : Hp} {h : Heap} {a : Addr} {o : HO} (x : ObjOk P w H h a o) : ∃ u, h.get? a = some u := by
  cases o with
  | lst xs => obtain ⟨_, _, _, _, e⟩ := x; exact ⟨_, e⟩
  | tup xs => obtain ⟨_, _, _, ob, e, _⟩ := x; exact ⟨_, e⟩
  | dK kvs => obtain ⟨_, _, _, _, o, _, _, e, _⟩ := x; exact ⟨_, e⟩
  | dT kvs => obtain ⟨_, _, _, _, o, _, _, e, _⟩ := x; exact ⟨_, e⟩
  | set S n => obtain ⟨o, _, _, _, e, _⟩ := x; exact ⟨_, e⟩
  | ins C dx fs => obtain ⟨_, _, _, e, _⟩ := x; exact ⟨_, e⟩
  | own y => exact x
  | xd fs => obtain ⟨_, ⟨_, _, _, e, _⟩, _⟩ := x; exact ⟨_, e⟩
  | rng lo hi => obtain ⟨_, _, _, e⟩ := x; exact ⟨_, e⟩
  | frz ob u => obtain ⟨e, _⟩ := x; exact ⟨_, e⟩
  | tbl ps => exact ⟨_, (show h.get? a = some _ from x)⟩
  | met f y => exact ⟨_, (show h.get? a = some _ from x)⟩
  | ext φ => obtain ⟨_, e, _⟩ := x; exact e
def Tr (h : Heap) (x T C : Addr) (fl : Value) : Prop := ∃ oe vs oT ts a0, h.get? x = some oe ∧ oe.cls = .ref C ∧ vs[0]? = some a0 ∧ oe.data = .fields vs ∧ vs[1]? = some (.ref T) ∧ T ≠ x ∧ h.get? T = some oT ∧ oT.data = .fields ts ∧ ts[3]? = some fl
structure Fly (P : Program) (w : World) (outer : List Env) (H : Hp) (s : Shared) (x T C : Addr) (H' : Hp) (s' : Shared) : Prop where
  os : s'.os = s.os
  bare : AllBare s'.gens
  un : Un (frs outer) [] H H' s.heap s'.heap
  hok : HOk P w H' s'.heap
  fx : H' x = none
  fT : H' T = none
  nx : s.heap.get? x = none
  nT : s.heap.get? T = none
  tr : Tr s'.heap x T C .none
def CX1 (P : Program) (w : World) : CXT := fun outer H s E e s' => ∃ x T C H', e = .ref x ∧ Fly P w outer H s x T C H' s' ∧ E (.ref C) none H'
theorem fly_left {P : Program} {w : World} {env : Env} {outer : List Env} {base : Heap} {H₀ H H' : Hp} {s₀ s sA : Shared} {x T' C L : Addr} {h' : Heap} {ex : List Addr}
    (hos : sA.os = s₀.os) (hbare : AllBare sA.gens) (hL : env.frame = some L) (nL : s₀.heap.get? L = none)
    (U0 : Un (frs outer) [] H₀ H s₀.heap s.heap) (fun0 : s.heap.FunFrames base (env :: outer)) (hfr : ∀ b ∈ frs (env :: outer), H b = none)
    (UA : Un (frs (env :: outer)) [] H H' s.heap sA.heap) (okA : HOk P w H' sA.heap)
    (exn : ∀ b ∈ ex, s.heap.get? b = none ∧ H' b = none)
    (keepAll : ∀ b o, sA.heap.get? b = some o → b ∉ frs (env :: outer) → b ∉ ex → h'.get? b = some o) (up : sA.heap.UpToSlots h')
    (nx : s.heap.get? x = none) (fx : H' x = none) (hT : ∀ o, sA.heap.get? T' = some o → T' ∈ frs (env :: outer) ∨ T' ∈ ex)
    (tr : Tr h' x T' C .none) : Fly P w outer H₀ s₀ x T' C H' { sA with heap := h' } := by
  have frD : ∀ b ∈ frs (env :: outer), ∃ o, s.heap.get? b = some o ∧ ∀ vs, o.data ≠ .fields vs := fun b hb => (fun0.mem hb).2
  have frA : ∀ b ∈ frs (env :: outer), ∃ o, sA.heap.get? b = some o ∧ ∀ vs, o.data ≠ .fields vs := fun b hb => by
    obtain ⟨o, e, d⟩ := frD b hb
    obtain ⟨sl, e2⟩ := UA.slot b o e (hfr b hb) hb (by simp)
    exact ⟨_, e2, d⟩
  have frH : ∀ b ∈ frs (env :: outer), H' b = none := fun b hb => by
    obtain ⟨o, e, d⟩ := frD b hb
    exact UA.free b o e (hfr b hb) (by simp)
  have Tfr : T' ∉ frs (env :: outer) := fun hb => by
    obtain ⟨o, e, d⟩ := frA T' hb
    obtain ⟨sl, e2⟩ := up T' o e d
    obtain ⟨_, _, oT, ts, _, _, _, _, _, _, _, e3, d3, _⟩ := tr
    rw [e2] at e3
    cases e3
    exact d _ d3
  have sub : ∀ b, b ∈ frs outer → b ∈ frs (env :: outer) := fun b hb => by
    unfold frs at hb ⊢
    rw [List.filterMap_cons, hL]
    exact List.mem_cons_of_mem _ hb
  have isL : ∀ b, b ∈ frs (env :: outer) → b = L ∨ b ∈ frs outer := fun b hb => by
    unfold frs at hb ⊢
    rw [List.filterMap_cons, hL] at hb
    exact List.mem_cons.mp hb
  have thereA : ∀ b o, sA.heap.get? b = some o → b ∉ ex → ∃ o', h'.get? b = some o' := fun b o e hx => by
    by_cases hb : b ∈ frs (env :: outer)
    · obtain ⟨o1, e1, d1⟩ := frA b hb
      rw [e] at e1; cases e1
      obtain ⟨sl, e2⟩ := up b o e d1
      exact ⟨_, e2⟩
    · exact ⟨o, keepAll b o e hb hx⟩
  have nex : ∀ b o, s.heap.get? b = some o → b ∉ ex := fun b o e hx => by rw [(exn b hx).1] at e; cases e
  refine ⟨hos, hbare, ⟨fun b o e n hb _ => ?_, fun b o e n hb _ => ?_, fun b o e n _ => ?_, fun b o e _ => ?_, fun b xs e => UA.tups b xs (U0.tups b xs e), fun b o u e => UA.frzs b o u (U0.frzs b o u e), fun b ps e => ?_⟩, ?_, fx, ?_, ?_, ?_, tr⟩
  · have e1 := U0.keep b o e n hb (by simp)
    have n1 := U0.free b o e n (by simp)
    have nb : b ∉ frs (env :: outer) := fun z => by
      rcases isL b z with z | z
      · rw [z, nL] at e; cases e
      · exact hb z
    exact keepAll b o (UA.keep b o e1 n1 nb (by simp)) nb (nex b o e1)
  · obtain ⟨sl, e1⟩ := U0.slot b o e n hb (by simp)
    have n1 := U0.free b o e n (by simp)
    obtain ⟨sl2, e2⟩ := UA.slot b _ e1 n1 (sub b hb) (by simp)
    obtain ⟨o3, e3, d3⟩ := frA b (sub b hb)
    rw [e2] at e3; cases e3
    obtain ⟨sl4, e4⟩ := up b _ e2 d3
    exact ⟨sl4, e4⟩
  · have n1 := U0.free b o e n (by simp)
    obtain ⟨o1, e1⟩ := U0.there b o e (by simp)
    exact UA.free b o1 e1 n1 (by simp)
  · obtain ⟨o1, e1⟩ := U0.there b o e (by simp)
    obtain ⟨o2, e2⟩ := UA.there b o1 e1 (by simp)
    exact thereA b o2 e2 (nex b o1 e1)
  · obtain ⟨m1, e1⟩ := U0.tbls b ps e
    obtain ⟨m2, e2⟩ := UA.tbls b _ e1
    exact ⟨m1 ++ m2, by rw [e2, Array.append_assoc]⟩
  · intro a o e
    have key : ∀ b, H' b ≠ none → b ∉ frs (env :: outer) ∧ b ∉ ex := fun b hb => ⟨fun z => hb (frH b z), fun z => hb (exn b z).2⟩
    refine (okA a o e).stay (fun b u hb q => ?_) (fun _ q => q) fun _ _ q => q
    have hb' : H' b ≠ none := by
      rcases hb with rfl | hb
      · rw [e]; simp
      · rw [hb]; simp
    exact keepAll b u q (key b hb').1 (key b hb').2
  · cases q : H' T' with
    | none => rfl
    | some o =>
      obtain ⟨u, e⟩ := (okA T' o q).ob
      rcases hT u e with z | z
      · exact absurd z Tfr
      · rw [(exn T' z).2] at q; cases q
  · cases q : s₀.heap.get? x with
    | none => rfl
    | some o =>
      obtain ⟨o1, e1⟩ := U0.there x o q (by simp)
      rw [nx] at e1; cases e1
  · cases q : s₀.heap.get? T' with
    | none => rfl
    | some o =>
      obtain ⟨o1, e1⟩ := U0.there T' o q (by simp)
      obtain ⟨o2, e2⟩ := UA.there T' o1 e1 (by simp)
      rcases hT o2 e2 with z | z
      · exact absurd z Tfr
      · rw [(exn T' z).1] at e1; cases e1
theorem funs_hid {h base : Heap} {as : List Addr} : ∀ {l : List Env}, h.FunFrames base l → (∀ b ∈ frs l, b ∈ as) → h.FunFrames (PySem.W.hideAll h as) l
  | [], _, _ => trivial
  | env :: r, ⟨hk, ⟨L, o, hf, _, ho, hd⟩, hr⟩, hin => ⟨hk, ⟨L, o, hf, PySem.W.hideAll_none as (hin L (by unfold frs; rw [List.filterMap_cons, hf]; exact List.mem_cons_self)), ho, hd⟩, funs_hid hr fun b hb => hin b (by
      unfold frs at hb ⊢; rw [List.filterMap_cons, hf]; exact List.mem_cons_of_mem _ hb)⟩
theorem funs_un {h h1 base : Heap} {H H' : Hp} {fs : List Addr} : ∀ {l : List Env}, h.FunFrames base l → (∀ b ∈ frs l, b ∈ fs ∧ H b = none) → Un fs [] H H' h h1 → h1.FunFrames base l
  | [], _, _, _ => trivial
  | env :: r, ⟨hk, ⟨L, o, hf, hn, ho, hd⟩, hr⟩, hin, u => by
    obtain ⟨h1, h2⟩ := hin L (by unfold frs; rw [List.filterMap_cons, hf]; exact List.mem_cons_self)
    obtain ⟨sl, e⟩ := u.slot L o ho h2 h1 (by simp)
    exact ⟨hk, ⟨L, _, hf, hn, e, hd⟩, funs_un hr (fun b hb => hin b (by unfold frs at hb ⊢; rw [List.filterMap_cons, hf]; exact List.mem_cons_of_mem _ hb)) u⟩
section
variable {P : Program} {w : World} {K : PySem.W.Frag} {mg : Str → Option Value} {base : Heap} {N : List Str} {qual : Str} {scope : Scope} {f : Addr} {cd : Value} {A : Around} {outer : List Env} {s₀ : Shared} {H₀ : Hp} {E : XK}
abbrev cx1 (P : Program) (w : World) (K : PySem.W.Frag) (mg : Str → Option Value) (base : Heap) (N : List Str) (qual : Str) (scope : Scope) (f : Addr) (cd : Value) (A : Around) (outer : List Env) (s : Shared) (H : Hp) (E : XK) : Cx :=
  cxOf (CX1 P w) P w K mg base N qual scope f cd A outer s H E
theorem xe_pass {E' : XK} (himp : ∀ c d H, E' c d H → E c d H) : Passes (CX1 P w) (cx1 P w K mg base N qual scope f cd A outer s₀ H₀ E) E' := by
  intro pins σ H s e s' I h
  obtain ⟨x, T, C, H', rfl, F, q⟩ := h
  obtain ⟨oe, vs, oT, ts, a0, he, hc, h0, hd, h1, hTx, hT, hdT, h3⟩ := F.tr
  have hstk : ∀ b ∈ frs (envOfC qual scope s₀.heap.objs.size f cd :: outer), H b = none := I.stkFree
  have ff : s'.heap.FunFrames base (envOfC qual scope s₀.heap.objs.size f cd :: outer) := funs_un I.stack (fun b hb => ⟨hb, hstk b hb⟩) F.un
  show wpAny (model P w) (A.deeper (envOfC qual scope s₀.heap.objs.size f cd)) (leaving (envOfC qual scope s₀.heap.objs.size f cd) (.ref x)) _ _ s'
  have hin : ∀ b ∈ frs (envOfC qual scope s₀.heap.objs.size f cd :: outer), b ∈ frs (envOfC qual scope s₀.heap.objs.size f cd :: outer) ++ [x, T] := fun b hb => List.mem_append_left _ hb
  refine wpAny_leaves_onW (base := PySem.W.hideAll s'.heap (frs (envOfC qual scope s₀.heap.objs.size f cd :: outer) ++ [x, T])) (cls := .ref C) (a0 := a0) (L := s₀.heap.objs.size) I.ok.frames rfl
    ⟨fun b o e => PySem.W.of_hideAll _ e, PySem.W.hideAll_none _ (by simp), funs_hid ff hin, oe, vs, T, oT, ts, he, ⟨hc, h0⟩, hd, h1, PySem.W.hideAll_none _ (by simp), hTx, hT, hdT, h3⟩ fun h' fl up => ?_
  obtain ⟨k1, k2, k3, oe', vs', T', oT', ts', a1, a2, a3, a4, a5, a6, a7, a8, a9⟩ := fl
  have keepAll : ∀ b o, s'.heap.get? b = some o → b ∉ frs (envOfC qual scope s₀.heap.objs.size f cd :: outer) → b ∉ [x, T] → h'.get? b = some o := fun b o e hb hx => k1 b o (PySem.W.hideAll_get _ e fun z => (List.mem_append.mp z).elim hb hx)
  refine ⟨x, T', C, H', rfl, fly_left (env := envOfC qual scope s₀.heap.objs.size f cd) (base := base) (s := s) (sA := s') (L := s₀.heap.objs.size) (ex := [x, T]) (F.os.trans I.os) F.bare rfl (Heap.get?_none_of_le (Nat.le_refl _)) I.base I.stack hstk F.un F.hok (fun b hb => ?_) keepAll up F.nx F.fx (fun o e => ?_) ⟨oe', vs', oT', ts', a0, a1, a2.1, a2.2, a3, a4, a6, a7, a8, a9⟩, himp _ _ _ q⟩
  · simp only [List.mem_cons, List.not_mem_nil, or_false] at hb
    rcases hb with rfl | rfl
    · exact ⟨F.nx, F.fx⟩
    · exact ⟨F.nT, F.fT⟩
  · by_cases z : T' ∈ frs (envOfC qual scope s₀.heap.objs.size f cd :: outer) ++ [x, T]
    · exact List.mem_append.mp z
    · rw [PySem.W.hideAll_get _ e z] at a5; cases a5
theorem xe_raise {pins : List (Addr × Obj)} {σ : St} {H : Hp} {s : Shared} {h1 : Heap} {x C : Addr} {args : List Value} (I : Inv (cx1 P w K mg base N qual scope f cd A outer s₀ H₀ E) pins σ H s) (hm : Heap.MadeExcOf s.heap h1 x (.ref C) args) (q : E (.ref C) none H) :
    (cx1 P w K mg base N qual scope f cd A outer s₀ H₀ E).xe (.ref x) { s with heap := h1 } := by
  have hstk : ∀ b ∈ frs (envOfC qual scope s₀.heap.objs.size f cd :: outer), H b = none := I.stkFree
  have ff : s.heap.FunFrames base (envOfC qual scope s₀.heap.objs.size f cd :: outer) := I.stack
  show wpAny (model P w) (A.deeper (envOfC qual scope s₀.heap.objs.size f cd)) (leaving (envOfC qual scope s₀.heap.objs.size f cd) (.ref x)) _ _ { s with heap := h1 }
  refine wpAny_leaves_madeW (s := { s with heap := h1 }) (base := PySem.W.hideAll s.heap (frs (envOfC qual scope s₀.heap.objs.size f cd :: outer))) (h := s.heap) (L := s₀.heap.objs.size) I.ok.frames rfl (fun b o e => PySem.W.of_hideAll _ e) (funs_hid ff fun b hb => hb) hm fun h' t fl _ _ up => ?_
  obtain ⟨k1, k2, k3, oe', vs', T', oT', ts', a1, a2, a3, a4, a5, a6, a7, a8, a9⟩ := fl
  have keepAll : ∀ b o, s.heap.get? b = some o → b ∉ frs (envOfC qual scope s₀.heap.objs.size f cd :: outer) → b ∉ ([] : List Addr) → h'.get? b = some o := fun b o e hb _ => k1 b o (PySem.W.hideAll_get _ e hb)
  refine ⟨x, T', C, H, rfl, fly_left (env := envOfC qual scope s₀.heap.objs.size f cd) (base := base) (s := s) (sA := s) (L := s₀.heap.objs.size) (ex := []) I.os I.bare rfl (Heap.get?_none_of_le (Nat.le_refl _)) I.base ff hstk Un.refl I.hok (fun b hb => nomatch hb) keepAll ((Heap.UpToSlots.of_keeps hm.keeps).trans up) hm.new ?_ (fun o e => ?_) ⟨oe', vs', oT', ts', _, a1, a2.1, a2.2, a3, a4, a6, a7, a8, a9⟩, q⟩
  · cases z : H x with
    | none => rfl
    | some o =>
      obtain ⟨u, e⟩ := (I.hok x o z).ob
      rw [hm.new] at e; cases e
  · by_cases z : T' ∈ frs (envOfC qual scope s₀.heap.objs.size f cd :: outer)
    · exact .inl z
    · rw [PySem.W.hideAll_get _ e z] at a5; cases a5
end
end L2
set_option Elab.async false
set_option linter.all false
set_option maxRecDepth 100000
namespace L2
open PySem PySem.Spec PyProof.Rows
section
variable {prog : Program} {w : World} {A : Around} {E : Value → Shared → Prop} {h : Heap} {g : Array GenState} {d : Drawn} {t : Nat} {os : OsState} {K : PySem.W.Frag} {a C : Addr} {o : Obj}
structure XIs (K : PySem.W.Frag) (C : Addr) : Prop where
  ga : PySem.W.findIn K (.ref C) "__getattribute__" = some (some (.builtin "BaseException.__getattribute__"))
  gx : PySem.W.findIn K (.ref C) "__getattr__" = some none
  cl : PySem.W.findIn K (.ref C) "__class__" = some (some (.builtin "object.__class__"))
  mo : PySem.W.mroIn K C (.type "object") = some true
  mb : PySem.W.mroIn K C (.type "BaseException") = some true
theorem xis_sub {M : Model} {T : Value} {v : Bool} (X : K.In h) (hm : PySem.W.mroIn K C T = some v) : PySem.W.Looks M h (isSubtype (.ref C) T) v := PySem.W.looks_mroIn X hm
theorem x_get {R : Result → Shared → Prop} (X : K.In h) (Z : XIs K C) (hx : h.get? a = some o) (hc : o.cls = .ref C) (hq : R (.ok (.ret (.ref C))) ⟨h, g, d, t, os⟩) :
    codeAny (model prog w) A (.call (.builtin "getset_descriptor.__get__") ⟨[.builtin "object.__class__", .ref a, .ref C], []⟩) R ⟨h, g, d, t, os⟩ := by
  have hT5 : (⟨h, g, d, t, os⟩ : Shared).TypeIs (.builtin "object.__class__") "getset_descriptor" := F.typeOf_object_class
  have L1 : PySem.W.Looks (model prog w) h (isSubtype (.ref C) (.type (".".intercalate ("object.__class__".cutAt '.').dropLast))) true := by rw [F.owner_object_class]; exact xis_sub X Z.mo
  refine codeAny_call_builtin F.slot_gs_get.plain F.entry_gs_get (F.slot_gs_get.check _ _ _ _ _ _ _ _ hT5 (F.args_gs_get _ _ _) ?_)
  repeat (any_goals (first | assumption | (with_reducible refine wpAny_loadPart_at hx ?_; rw [hc]) | with_reducible refine L1.at ?_ | wp_step))
  refine ⟨Code.quiet_builtin _ (by decide +kernel), codeAny_builtin F.entry_object_class ?_⟩
  repeat (any_goals (first | assumption | (with_reducible refine wpAny_loadPart_at hx ?_; rw [hc]) | wp_step))
theorem x_entry {tk : Tok} {Q : Fin → Shared → Prop} (X : K.In h) (Z : XIs K C) (hx : h.get? a = some o) (hc : o.cls = .ref C) (hq : Q (.done (.ret (.ref C))) ⟨h, g, d, t, os⟩) :
    wpAny (model prog w) A (Builtin.«object.__getattribute__» ⟨[.ref a, .str "__class__" tk], []⟩) Q E ⟨h, g, d, t, os⟩ := by
  have hT5 : (⟨h, g, d, t, os⟩ : Shared).TypeIs (.builtin "object.__class__") "getset_descriptor" := F.typeOf_object_class
  have f5 := F.typeOf_object_class
  have f6 := F.slot_gs_get.lookup
  have f7 := F.slot_gs_set.lookup
  have L1 := PySem.W.looks_findIn (M := model prog w) X Z.cl
  repeat (any_goals (first | assumption | (with_reducible refine wpAny_loadPart_at hx ?_; rw [hc]) | with_reducible refine L1.at ?_ | wp_step))
  refine x_get X Z hx hc ?_
  repeat (any_goals (first | assumption | wp_step))
theorem x_check {M : Model} {nameV : Value} {Q : Unit → Shared → Prop} (X : K.In h) (Z : XIs K C) (hx : h.get? a = some o) (hc : o.cls = .ref C) (hq : Q () ⟨h, g, d, t, os⟩) : wpAny M A (checkBuiltinCall "BaseException.__getattribute__" ⟨[.ref a, nameV], []⟩) Q E ⟨h, g, d, t, os⟩ := by
  have hk : builtinKind "BaseException.__getattribute__" = some .slot := by decide +kernel
  have hsplit : splitId "BaseException.__getattribute__" = some ("BaseException", "__getattribute__") := by decide +kernel
  have L1 := xis_sub (M := M) X Z.mb
  have ha := F.args_bexc_ga (.ref a) nameV
  simp only [checkBuiltinCall, hk, hsplit]
  refine wpAny_bind ?_
  · unfold isInstance
    repeat (first | (with_reducible refine wpAny_loadPart_at hx ?_; rw [hc]) | with_reducible refine L1.at ?_ | wp_step)
    exact hq
theorem x_call {tk : Tok} {R : Result → Shared → Prop} (X : K.In h) (Z : XIs K C) (hx : h.get? a = some o) (hc : o.cls = .ref C) (hq : R (.ok (.ret (.ref C))) ⟨h, g, d, t, os⟩) :
    codeAny (model prog w) A (.call (.builtin "BaseException.__getattribute__") ⟨[.ref a, .str "__class__" tk], []⟩) R ⟨h, g, d, t, os⟩ :=
  codeAny_call_builtin F.attr_ValueError.ga.plain F.entry_bexc_ga (x_check X Z hx hc (x_entry X Z hx hc hq))
theorem x_by {tk : Tok} {fill expr : Bool} {Q : Value → Shared → Prop} (X : K.In h) (Z : XIs K C) (hx : h.get? a = some o) (hc : o.cls = .ref C) (hq : Q (.ref C) ⟨h, g, d, t, os⟩) :
    wpAny (model prog w) A (getAttrBy (.ref a) (.str "__class__" tk) fill expr) Q E ⟨h, g, d, t, os⟩ := by
  have f3 := F.attr_ValueError.ga.bind (.ref a)
  have hx0 : (expr && onTheHeap (Value.builtin "BaseException.__getattribute__")) = false := by cases expr <;> rfl
  have hx2 : (Value.builtin "BaseException.__getattribute__" == Value.builtin "object.__getattribute__") = false := by decide +kernel
  have hx1 : (onTheHeap (Value.ref C) && Value.builtin "BaseException.__getattribute__" == Value.builtin "object.__getattribute__") = false := by rw [hx2]; rfl
  have L1 := PySem.W.looks_findIn (M := model prog w) X Z.ga
  have L2 := PySem.W.looks_findIn (M := model prog w) X Z.gx
  repeat (any_goals (first | assumption | (with_reducible refine wpAny_loadPart_at hx ?_; rw [hc]) | with_reducible refine L1.at ?_ | with_reducible refine L2.at ?_ | wp_step))
  refine x_call X Z hx hc ?_
  repeat (any_goals (first | assumption | wp_step))
theorem x_attr {Q : Option Value → Shared → Prop} (X : K.In h) (Z : XIs K C) (hx : h.get? a = some o) (hc : o.cls = .ref C) (hq : Q (some (.ref C)) ⟨h, g, d, t + 1, os⟩) :
    wpAny (model prog w) A (getAttr? (.ref a) "__class__") Q E ⟨h, g, d, t, os⟩ := by
  unfold getAttr? getAttrBy?
  repeat (any_goals (first | assumption | with_reducible apply x_by X Z hx hc | wp_step))
def XO (a C : Addr) : Heap → Prop := fun h => ∃ o vs, h.get? a = some o ∧ o.cls = .ref C ∧ o.data = .fields vs
theorem xis_cls (Z : XIs K C) : ∃ c' d' cd sl, K.lookup C = some ⟨c', d', .cls cd, sl⟩ := by
  have := Z.mo
  unfold PySem.W.mroIn PySem.W.clsIn at this
  split at this
  · rename_i c' d' cd' sl' ho
    exact ⟨_, _, _, _, ho⟩
  · cases this
theorem kitx_exc (Z : XIs K C) : PySem.W.KitX K (.ref a) (.ref C) (XO a C) where
  ty := fun M h _ ⟨o, vs, hx, hc, _⟩ => by
    intro A Q E s k q
    unfold typeOf
    refine wpAny_bind (wpAny_loadPart (k _ _ hx) ?_)
    rw [hc]
    exact wpAny_pure q
  it := fun M h X _ => by
    obtain ⟨c', d', cd, sl, ho⟩ := xis_cls Z
    intro A Q E s k q
    unfold isType loadHead
    exact wpAny_bind (wpAny_loadPart (k _ _ (X _ _ ho)) (wpAny_pure q))
  ne := fun h tp dd its n sl X htp => by
    obtain ⟨c', d', cd, sl', ho⟩ := xis_cls Z
    refine Bool.eq_false_iff.mpr fun q => ?_
    have e : C = tp := Value.ref.inj (beq_iff_eq.mp q)
    subst e
    have z := (X _ _ ho).symm.trans htp
    cases z
  ca := fun {prog w A E Q s} X ⟨o, vs, hx, hc, _⟩ hq => by
    obtain ⟨h, g, d, t, os⟩ := s
    exact x_attr X Z hx hc hq
end
def cvOf : V → Option Value
  | .ref p => some (.ref p)
  | .ty n => some (.type n)
  | _ => none
theorem cvOf_rel {c : V} {cv u : Value} (h : cvOf c = some cv) (r : RelV c u) : u = cv := by
  cases c with
  | ref p => cases h; cases r; rfl
  | ty n => cases h; cases r; rfl
  | _ => cases h
def kIsX (K : PySem.W.Frag) : List V → Hp → VK → Prop := fun vs H Q => ∃ a C c cv b, vs = [.ref a, c] ∧ H a = some (.ext (XO a C)) ∧ XIs K C ∧ cvOf c = some cv ∧ PySem.W.kitOne K (.ref C) cv = some b ∧ Q (.bl b) H
theorem call_kIsX {X : Cx} : CallR X (.builtin "isinstance") (kIsX X.K) := by
  intro pins s σ H xs us Q I r h
  obtain ⟨a, C, c, cv, b, rfl, hH, Z, rc, hk, q⟩ := h
  obtain ⟨u, w', rfl, ru, rw'⟩ := vals2 r
  cases ru
  have e : w' = cv := cvOf_rel rc rw'
  subst e
  obtain ⟨p, _⟩ := I.hok a _ hH
  exact PySem.W.kia_one (kitx_exc Z) I.kIn p hk (fun z => nomatch z) fun tk => ⟨.bl b, H, I.tok tk, rfl, q⟩
end L2
set_option Elab.async false
set_option linter.all false
set_option maxRecDepth 100000
namespace L2
open PySem PySem.Spec PyProof.Rows
abbrev VE : List Value := [.type "ValueError", .type "Exception", .type "BaseException", .type "object"]
def isStrKey (e : DictEntry) : Bool := match e.key with | .str _ _ => true | _ => false
def noInit (K : PySem.W.Frag) (N : Addr) : Bool := match K.lookup N with
  | some ⟨_, _, .dict es _, _⟩ => es.toList.all isStrKey && (nsFind es "__init__").isNone
  | _ => false
theorem noInit_ns {K : PySem.W.Frag} {N : Addr} {h : Heap} (X : K.In h) (e : noInit K N = true) : ∃ mN, h.Ns N mN ∧ mN "__init__" = none := by
  unfold noInit at e
  split at e
  · rename_i c d es ep sl ho
    simp only [Bool.and_eq_true] at e
    refine ⟨nsFind es, ⟨_, es, ep, X _ _ ho, rfl, fun en hm => ?_, fun _ => rfl⟩, Option.isNone_iff_eq_none.mp e.2⟩
    have := List.all_eq_true.mp e.1 en (Array.mem_def.mp hm)
    unfold isStrKey at this
    split at this
    · rename_i n t q; exact ⟨n, t, q⟩
    · cases this
  · cases e
structure XC (K : PySem.W.Frag) (C D : Addr) : Prop where
  oC : ∃ nm q N bs hdct sn sub ab col dd k0 k1 k2 k3 k5, K.lookup C = some (excClassObj nm q C N bs (.ref D :: VE) hdct sn sub ab col dd k0 k1 k2 k3 k5 "ValueError.__new__") ∧ noInit K N = true
  oD : ∃ c0 dd cd sl, K.lookup D = some ⟨c0, dd, .cls cd, sl⟩ ∧ noInit K cd.ns = true
theorem XC.mk' {K : PySem.W.Frag} {C D : Addr} {nm q : Str} {N : Addr} {bs : List Value} {hdct : Bool} {sn : List Str} {sub : List Value} {ab : Bool} {col : Option Bool} {dd : Option Addr} {k0 k1 k2 k3 k5 : Option Value} {c0 : Value} {dD : Option Addr} {cd : ClassData} {sl : Array (Option Value)}
    (l1 : K.lookup C = some (excClassObj nm q C N bs (.ref D :: VE) hdct sn sub ab col dd k0 k1 k2 k3 k5 "ValueError.__new__")) (n1 : noInit K N = true) (l2 : K.lookup D = some ⟨c0, dD, .cls cd, sl⟩) (n2 : noInit K cd.ns = true) : XC K C D :=
  ⟨⟨_, _, _, _, _, _, _, _, _, _, _, _, _, _, _, l1, n1⟩, ⟨_, _, _, _, l2, n2⟩⟩
def tRaise (E : XK) (C : Addr) (t : TA) : TS := fun _ σ H => t σ H fun vs H1 => vs.length ≤ sizeLine ∧ E (.ref C) none H1
section
variable {P : Program} {w : World} {K : PySem.W.Frag} {mg : Str → Option Value} {base : Heap} {N : List Str} {qual : Str} {scope : Scope} {f : Addr} {cd : Value} {A : Around} {outer : List Env} {s₀ : Shared} {H₀ : Hp} {E : XK}
theorem ps_raise {C D : Addr} {x : Str} {np cpos pos : Pos} {e₀ : Expr} {rest : List Expr} {t : TA} (Z : XC K C D) (hg : Gl (cx1 P w K mg base N qual scope f cd A outer s₀ H₀ E) x) (hm : mg x = some (.ref C))
    (ha : PA (cx1 P w K mg base N qual scope f cd A outer s₀ H₀ E) (e₀ :: rest) t) (hdb : (x == ("__debug__" : Str)) = false := by decide)
    (he : starEach (e₀ :: rest) (envOfC qual scope s₀.heap.objs.size f cd) = (false, eval e₀ (envOfC qual scope s₀.heap.objs.size f cd)) :: starEach rest (envOfC qual scope s₀.heap.objs.size f cd) := by rfl)
    (hplain : (backTo cpos (starEach rest (envOfC qual scope s₀.heap.objs.size f cd))).any (·.1) = false := by rfl) :
    PS (cx1 P w K mg base N qual scope f cd A outer s₀ H₀ E) (.Raise (some (.Call (.Name x np) (e₀ :: rest) [] cpos)) none pos) (tRaise E C t) := by
  intro pins s σ H D' I h
  obtain ⟨⟨nm, q, Nc, bs, hdct, sn, sub, ab, col, dd, k0, k1, k2, k3, k5, l1, n1⟩, ⟨c0, dD, cdD, sl, l2, n2⟩⟩ := Z
  obtain ⟨mN, hN, hni⟩ := noInit_ns I.kIn n1
  obtain ⟨mD, hD, hnd⟩ := noInit_ns I.kIn n2
  have hb := I.ok.hd rfl
  refine wpAny_Raise_call_subU (C := C) (nm := nm) (q := q) (N := Nc) (bs := bs) (bm := .ref D :: VE) (bmB := VE) (hdct := hdct) (sn := sn) (sub := sub) (ab := ab) (col := col) (dd := dd) (k0 := k0) (k1 := k1) (k2 := k2) (k3 := k3) (k5 := k5)
    F.excBase_ValueError (by decide +kernel) F.excBase_ValueError (mN := mN) (by rw [List.contains_cons, show VE.contains (.type "BaseException") = true by decide +kernel, Bool.or_true]) hb (by rw [show starEach (e₀ :: rest) (cx1 P w K mg base N qual scope f cd A outer s₀ H₀ E).env = _ from he]; show (false || (backTo cpos (starEach rest (envOfC qual scope s₀.heap.objs.size f cd))).any (·.1)) = false; rw [hplain]; rfl) hni (ld_glob I hg hm ⟨rfl, ?_⟩ hdb)
  have h1 := ha cpos pins s σ H _ I h
  rw [show starEach (e₀ :: rest) (cx1 P w K mg base N qual scope f cd A outer s₀ H₀ E).env = _ from he] at h1 ⊢
  refine Calls.evalArgs_plain (wpAny_mono h1 (fun vs s₂ h₂ => ?_) fun _ _ y => y)
  obtain ⟨xs, H2, I2, rv, hl, hE⟩ := h₂
  obtain ⟨mN2, hN2, hni2⟩ := noInit_ns I2.kIn n1
  obtain ⟨mD2, hD2, hnd2⟩ := noInit_ns I2.kIn n2
  have kk : s.heap.Ns Nc mN → s₂.heap.Ns Nc mN := fun ⟨o, es, ep, a1, a2⟩ => by
    obtain ⟨o2, es2, ep2, b1, b2⟩ := hN2
    unfold noInit at n1
    split at n1
    · rename_i c d es' ep' sl' ho
      have e1 := I.kIn _ _ ho
      have e2 := I2.kIn _ _ ho
      rw [a1] at e1; cases e1
      exact ⟨_, es, ep, e2, a2⟩
    · cases n1
  refine ⟨rfl, by rw [← rv.length]; exact hl, I2.kIn _ _ l1, kk hN, .own (I2.kIn _ _ l2) hD2 hnd2 .base, fun h' e hm' => ?_⟩
  exact xe_raise I2 hm' hE
end
end L2
set_option Elab.async false
set_option linter.all false
set_option maxRecDepth 100000
namespace L2
open PySem PySem.Spec PyProof.Rows
theorem pass1 {P : Program} {w : World} {X : Cx} : Passes (CX1 P w) X E0 := fun _ _ _ _ _ _ _ h => by obtain ⟨_, _, _, _, _, _, q⟩ := h; exact (show False from q).elim
section
variable {P : Program} {w : World} {K : PySem.W.Frag} {mg : Str → Option Value} {base : Heap}
theorem Fun.ok1 {x qual : Str} {st : Stmt} {f : Addr} {fd : FuncData} {N ps : List Str} {k : Nat} {sp : Sp} (F : Fun K x qual st f fd) (S : FnScope N ps (defScope st)) (len : ∀ vs H Q E, sp vs H Q E → vs.length = ps.length)
    (hbody : ∀ (cdv : Value) (A : Around) (outer : List Env) (s : Shared) (H : Hp) (vs : List V) (Q : VK) (E : XK), Room k (A.deeper (envOfC qual (defScope st) s.heap.objs.size f cdv)) → sp vs H Q E →
      ∃ t, PSs (cx1 P w K mg base N qual (defScope st) f cdv A outer s H E) (defBody st) t ∧ t { nx := fun _ H' => Q .non H', rt := Q } (start N vs) H) : FnOk P w K mg base (CX1 P w) (k + 1) f fd ps sp := by
  obtain ⟨oc, od, kV, doc, pm, an, cdv, ct, osl, rfl, lk, hcd⟩ := F.ex
  exact fn_of lk hcd S len fun A outer s H vs Q E hr hsp => hbody cdv A outer s H vs Q E hr hsp
end
section
variable {X : Cx} {pins : List (Addr × Obj)} {σ : St} {H : Hp} {s s' : Shared}
theorem landed {H' : Hp} {x T C : Addr} {a0 : Value} {h5 : Heap} (I : Inv X pins σ H s) (F : Fly X.prog X.w X.stack H s x T C H' s') (fl : Heap.FlyingW (PySem.W.hideAll s'.heap (frs X.stack ++ [x, T])) X.stack x (.ref C) a0 h5) (up : s'.heap.UpToSlots h5) :
    Inv X pins σ (upd H' x (.ext (XO x C))) { s' with heap := h5 } := by
  obtain ⟨k1, _, _, oe, vs, T', oT, ts, he, hc, hd, _⟩ := fl
  have keepAll : ∀ b o, s'.heap.get? b = some o → b ∉ frs X.stack → b ∉ [x, T] → h5.get? b = some o := fun b o e hb hx => k1 b o (PySem.W.hideAll_get _ e fun z => (List.mem_append.mp z).elim hb hx)
  have frD : ∀ b ∈ frs X.stack, ∃ o, s.heap.get? b = some o ∧ ∀ vs, o.data ≠ .fields vs := fun b hb => (I.stack.mem hb).2
  have hstk := I.stkFree
  have nxT : ∀ b o, s.heap.get? b = some o → b ∉ [x, T] := fun b o e z => by
    simp only [List.mem_cons, List.not_mem_nil, or_false] at z
    rcases z with rfl | rfl
    · rw [F.nx] at e; cases e
    · rw [F.nT] at e; cases e
  have slots : ∀ b o, s.heap.get? b = some o → H b = none → b ∈ frs X.stack → ∃ sl, h5.get? b = some { o with slots := sl } := fun b o e n hb => by
    obtain ⟨sl, e1⟩ := F.un.slot b o e n hb (by simp)
    obtain ⟨o2, e2, d2⟩ := frD b hb
    rw [e] at e2; cases e2
    obtain ⟨sl2, e3⟩ := up b _ e1 d2
    exact ⟨sl2, e3⟩
  have frH : ∀ b ∈ frs X.stack, H' b = none := fun b hb => by
    obtain ⟨o, e, d⟩ := frD b hb
    exact F.un.free b o e (hstk b hb) (by simp)
  have ne : ∀ b o, H' b = some o → b ≠ x := fun b o e z => by rw [z, F.fx] at e; cases e
  have okx : ObjOk X.prog X.w (upd H' x (.ext (XO x C))) h5 x (.ext (XO x C)) := ⟨⟨oe, vs, he, hc.1, hd⟩, ⟨oe, he⟩, fun h1 h2 ⟨o, vs, q, r⟩ k => ⟨o, vs, k o q, r⟩⟩
  refine I.call' (ch := []) F.os ⟨fun b o e n hb _ => ?_, fun b o e n hb _ => ?_, fun b o e n _ => ?_, fun b o e _ => ?_, fun b xs e => ?_, fun b o u e => ?_, fun b ps e => ?_⟩ (fun a o e => ?_) F.bare fun b z => absurd z (by simp)
  · exact keepAll b o (F.un.keep b o e n hb (by simp)) hb (nxT b o e)
  · exact slots b o e n hb
  · have n1 := F.un.free b o e n (by simp)
    rw [upd_ne fun z => nxT b o e (by rw [z]; simp)]
    exact n1
  · by_cases hb : b ∈ frs X.stack
    · obtain ⟨sl, e1⟩ := slots b o e (hstk b hb) hb
      exact ⟨_, e1⟩
    · obtain ⟨o', e1⟩ := F.un.there b o e (by simp)
      exact ⟨o', keepAll b o' e1 hb (nxT b o e)⟩
  · have q := F.un.tups b xs e
    rw [upd_ne (ne b _ q)]; exact q
  · have q := F.un.frzs b o u e
    rw [upd_ne (ne b _ q)]; exact q
  · obtain ⟨m, q⟩ := F.un.tbls b ps e
    exact ⟨m, by rw [upd_ne (ne b _ q)]; exact q⟩
  · by_cases ha : a = x
    · subst ha
      rw [upd_same] at e; cases e
      exact okx
    · rw [upd_ne ha] at e
      refine (F.hok a o e).stay (fun b u hb q => ?_) (fun b q => ?_) fun b xs q => ?_
      · have hb' : H' b ≠ none := by
          rcases hb with rfl | hb
          · rw [e]; simp
          · rw [hb]; simp
        refine keepAll b u q (fun z => hb' (frH b z)) fun z => ?_
        simp only [List.mem_cons, List.not_mem_nil, or_false] at z
        rcases z with rfl | rfl
        · exact hb' F.fx
        · exact hb' F.fT
      · rw [upd_ne (ne b _ q)]; exact q
      · rw [upd_ne (ne b _ q)]; exact q
theorem gone_ok {M : Model} {A : Around} {E : Value → Shared → Prop} {i : Nat} {x : Str} {pos : Pos} {Q : Unit → Shared → Prop} (I : Inv X pins σ H s) (hN : X.N.Nodup) (hi : X.N[i]? = some x) (hk : X.env.kindOf x = some .local)
    (h : ∀ s', Inv X pins (σ.set i none) H s' → Q () s') : wpAny M A (do bindName X.env x .none; unbindBehindTheSuite X.env x pos) Q E s := by
  obtain ⟨m, hn, hl⟩ := id I.loc
  have hcls : (X.env.scope.kind == .class || (X.env.scope.kind == .module && X.env.locals != X.env.globals)) = false := by rw [I.ok.kind]; rfl
  have hiσ : i < σ.length := by rw [I.len]; exact (List.getElem?_eq_some_iff.mp hi).1
  have cne := I.cne
  refine wpAny_nameGoes_keeps hk hn hcls fun h' v hn' hs => ?_
  obtain ⟨oL, _, _, hoL, _⟩ := id hn
  have tracked : HOk X.prog X.w H h' := fun b ob e => by
    refine (I.hok b ob e).stay (fun c w' hc q => (hs.2 c ?_).trans q) (fun _ q => q) fun _ _ q => q
    rintro rfl
    rcases hc with rfl | hc
    · rw [I.free] at e; cases e
    · rw [I.free] at hc; cases hc
  refine h _ ⟨I.ok, I.os, I.bare, ⟨fun b o e n hb hx => ?_, fun b o e n hb hx => ?_, I.base.free, fun b o e hx => ?_, I.base.tups, I.base.frzs, I.base.tbls⟩, ⟨_, hn', fun j y v' e1 e2 e3 => ?_⟩, fun y c e => ?_, I.free, I.freeC, fun p hp => ?_, tracked, by simpa using I.len⟩
  · exact (hs.2 b (Nat.ne_of_lt (Nat.lt_of_lt_of_le (Heap.lt_size e) I.ok.above))).trans (I.base.keep b o e n hb hx)
  · obtain ⟨sl, e1⟩ := I.base.slot b o e n hb hx
    exact ⟨sl, (hs.2 b (Nat.ne_of_lt (Nat.lt_of_lt_of_le (Heap.lt_size e) I.ok.above))).trans e1⟩
  · obtain ⟨o', e1⟩ := I.base.there b o e hx
    exact ⟨o', (hs.2 b (Nat.ne_of_lt (Nat.lt_of_lt_of_le (Heap.lt_size e) I.ok.above))).trans e1⟩
  · by_cases hj : j = i
    · subst hj
      rw [List.getElem?_set_self hiσ] at e2
      cases e2
    · rw [List.getElem?_set_ne (Ne.symm hj)] at e2
      obtain ⟨u', r', q⟩ := hl j y v' e1 e2 e3
      refine ⟨u', r', ?_⟩
      rcases q with ⟨k, e⟩ | ⟨k, c, e, z⟩
      · refine .inl ⟨k, ?_⟩
        have : y ≠ x := fun e => hj (nodup_ix hN e1 (e ▸ hi))
        simp [this, e]
      · exact .inr ⟨k, c, e, z.sameBut hs (cne y c e)⟩
  · obtain ⟨w', z⟩ := I.cell y c e
    exact ⟨w', z.sameBut hs (cne y c e)⟩
  · obtain ⟨e, n, ne, nf, d⟩ := I.pin p hp
    exact ⟨(hs.2 p.1 ne).trans e, n, ne, nf, d⟩
end
abbrev Cx.caught (X : Cx) (x : Addr) : Cx := { X with A := X.A.mark (some (.ref x)), calm := false, xe := fun _ _ => False }
section
variable {X : Cx} {pins : List (Addr × Obj)} {σ : St} {H : Hp} {s : Shared} {x : Addr}
theorem Cx.Ok.caught (ok : X.Ok) : (X.caught x).Ok :=
  ⟨ok.mod, ok.kind, ok.glob, ok.blt, ok.above, ok.inj, ok.has, ok.cab, (fun z => nomatch z), ok.frames, ok.stk, ok.exf, ok.bs, ok.bsz, ok.noex, ok.exfs, ok.funs, ok.frf⟩
theorem Inv.caught (I : Inv X pins σ H s) : Inv (X.caught x) pins σ H s := ⟨I.ok.caught, I.os, I.bare, I.base, I.loc, I.cell, I.free, I.freeC, I.pin, I.hok, I.len⟩
theorem Inv.uncaught (ok : X.Ok) (I : Inv (X.caught x) pins σ H s) : Inv X pins σ H s := ⟨ok, I.os, I.bare, I.base, I.loc, I.cell, I.free, I.freeC, I.pin, I.hok, I.len⟩
end
def Came (X : Cx) (pins : List (Addr × Obj)) (σ : St) (E : XK) (e : Value) (s' : Shared) : Prop := ∃ H1 s1, Inv X pins σ H1 s1 ∧ CX1 X.prog X.w X.stack H1 s1 E e s'
section
variable {X : Cx} {k : Nat} {f : Addr} {fd : FuncData} {ps : List Str} {sp : Sp} {x : Str} {p pos : Pos} {e : Expr} {es : List Expr} {t : TA}
theorem px_call {pins : List (Addr × Obj)} {s : Shared} {σ : St} {H : Hp} {Q : VK} (E : XK) (hnx : ∀ e s, X.xe e s → False) (F : FnOk X.prog X.w X.K X.mg X.base (CX1 X.prog X.w) k f fd ps sp) (hr : Room k X.A) (hg : Gl X x) (hm : X.mg x = some (.ref f)) (hk : PySem.W.keepIn X.K (.ref f) = true) (hb : Binds X.K fd ps [])
    (ha : PA X (e :: es) t) (I : Inv X pins σ H s) (h : t σ H fun vs H1 => sp vs H1 Q E) (hdb : (x == ("__debug__" : Str)) = false := by decide) (he : starEach (e :: es) X.env = (false, eval e X.env) :: starEach es X.env := by rfl) (hpl : (backTo pos (starEach es X.env)).any (·.1) = false := by rfl) :
    wpAny (model X.prog X.w) X.A (eval (.Call (.Name x p) (e :: es) [] pos) X.env) (EP X pins σ Q) (Came X pins σ E) s := by
  refine wpAny_Call_Name_kw (ld_glob I hg hm ?_ hdb)
  refine PySem.W.callWith_K (h₀ := X.base) I.ok.mod.kin hk (wpAny_mono (ha pos pins s σ H _ I h) (fun us s1 ⟨vs, H1, I1, r, q⟩ => ⟨I1.kIn, ?_⟩) fun e s z => (hnx e s z).elim) he hpl
  have r2 : Vals vs (us ++ []) := by simpa using r
  have hl : (us ++ []).length = ps.length := by rw [← r2.length]; exact F.len _ _ _ _ q
  refine wpAny_call (codeAny_mono (F.run X.A X.stack s1 H1 ⟨us, []⟩ (us ++ []) vs Q E hr I1.env0 (hb s1 us I1.kIn hl) r2 q) fun r s' hq => ?_)
  cases r with
  | error e => exact ⟨H1, s1, I1, hq⟩
  | ok fl =>
    cases fl with
    | ret u => exact I1.after hq
    | next => exact False.elim hq
    | brk => exact False.elim hq
    | cont => exact False.elim hq
def tCatch (K : PySem.W.Frag) (cv : Value) (i : Nat) (E : XK) (th : TS) : TS := fun D σ _ => ∀ C H2, E (.ref C) none H2 → PySem.W.exmOne K (.ref C) cv = some true ∧ ∀ x, H2 x = none →
  th { nx := fun σ' H' => D.nx (σ'.set i none) H', rt := D.rt, bk := fun σ' H' => D.bk (σ'.set i none) H', ct := fun σ' H' => D.ct (σ'.set i none) H' } (σ.set i (some (.ref x))) (upd H2 x (.ext (XO x C)))
theorem xo_type {M : Model} {a C : Addr} {h : Heap} (z : XO a C h) : PySem.W.Looks M h (typeOf (.ref a)) (.ref C) := by
  obtain ⟨o, vs, hx, hc, _⟩ := z
  intro A Q E s k q
  unfold typeOf
  refine wpAny_bind (wpAny_loadPart (k _ _ hx) ?_)
  rw [hc]
  exact wpAny_pure q
theorem catch_ok {pins : List (Addr × Obj)} {s' : Shared} {σ : St} {H : Hp} {D : Ends} {E : XK} {i : Nat} {n cn : Str} {cv e : Value} {np hpos : Pos} {b₀ : Stmt} {suite : List Stmt} {th : TS} (hN : X.N.Nodup) (hi : X.N[i]? = some n) (hkn : X.env.kindOf n = some .local) (hg : Gl X cn) (hm : X.mg cn = some cv)
    (hst : X.stack = X.env :: X.outer) (hf : X.env.frame = some X.env.locals) (hs : ∀ x, PSs (X.caught x) (b₀ :: suite) th) (hc : Came X pins σ E e s') (h : tCatch X.K cv i E th D σ H) (hdb : (cn == ("__debug__" : Str)) = false := by decide) :
    wpAny (model X.prog X.w) X.A (noteFrame e X.env) (fun _ s₂ => wpAny (model X.prog X.w) X.A (setFlight e none) (fun _ s₃ => wpAny (model X.prog X.w) X.A (handleBy e X.env [.ExceptHandler (some (.Name cn np)) (some n) (b₀ :: suite) hpos]) (SP X pins D) X.xe s₃) X.xe s₂) X.xe s' := by
  obtain ⟨H1, s1, I, x, T, C, H', rfl, F, q⟩ := hc
  obtain ⟨hC, hth⟩ := h C H' q
  obtain ⟨oe, vs, oT, ts, a0, he, hcl, h0, hd, h1, hTx, hT, hdT, h3⟩ := F.tr
  have ff : s'.heap.FunFrames X.base X.stack := funs_un I.stack (fun b hb => ⟨hb, I.stkFree b hb⟩) F.un
  have fl : Heap.FlyingW (PySem.W.hideAll s'.heap (frs X.stack ++ [x, T])) X.stack x (.ref C) a0 s'.heap :=
    ⟨fun b o e => PySem.W.of_hideAll _ e, PySem.W.hideAll_none _ (by simp), funs_hid ff fun b hb => List.mem_append_left _ hb, oe, vs, T, oT, ts, he, ⟨hcl, h0⟩, hd, h1, PySem.W.hideAll_none _ (by simp), hTx, hT, hdT, h3⟩
  have fl' := fl
  rw [hst] at fl'
  have hfr : X.A.frames = some (X.env :: X.outer) := by rw [I.ok.frames, hst]
  refine wpAny_looks_onW hfr hf fl' fun h4 held up4 => ?_
  refine wpAny_landsW held fun h5 fl5 up5 => ?_
  have I5 := landed (a0 := a0) (h5 := h5) I F (by rw [hst]; exact fl5) (up4.trans up5)
  refine wpAny_handleBy_cons (codeAny_handlers_test (ld_glob (X := X.caught x) I5.caught hg hm ?_ hdb)) (by intro q; cases q)
  have hx5 : XO x C h5 := (I5.hok x _ upd_same).1
  refine (PySem.W.exm_one (M := model X.prog X.w) (h := h5) I5.kIn (xo_type hx5) hC).here ?_
  refine codeAny_handlers_suite_as ?_
  refine lands_againW fl5 fun h6 fl6 up6 => ?_
  have I6 := landed (a0 := a0) (h5 := h6) I F (by rw [hst]; exact fl6) ((up4.trans up5).trans up6)
  refine store_ok (X := X.caught x) (v := .ref x) I6.caught hN hi (.inl hkn) rfl (fun s7 I7 => ?_) (.inr hkn)
  refine wpAny_mono (hs x pins s7 _ _ _ I7 (hth x F.fx)) (fun fw s8 h8 => ?_) fun _ _ z => z.elim
  cases fw with
  | next => obtain ⟨σ', H9, I9, q9⟩ := h8; exact gone_ok (I9.uncaught I.ok) hN hi hkn fun s' I' => ⟨_, H9, I', q9⟩
  | brk => obtain ⟨σ', H9, I9, q9⟩ := h8; exact gone_ok (I9.uncaught I.ok) hN hi hkn fun s' I' => ⟨_, H9, I', q9⟩
  | cont => obtain ⟨σ', H9, I9, q9⟩ := h8; exact gone_ok (I9.uncaught I.ok) hN hi hkn fun s' I' => ⟨_, H9, I', q9⟩
  | ret u => obtain ⟨v, σ', H9, I9, r9, q9⟩ := h8; exact gone_ok (I9.uncaught I.ok) hN hi hkn fun s' I' => ⟨v, _, H9, I', r9, q9⟩
def tTryE (K : PySem.W.Frag) (sp : Sp) (t : TA) (cv : Value) (i : Nat) (th : TS) : TS := fun D σ H => ∃ E : XK, (t σ H fun vs H1 => sp vs H1 (fun _ H2 => D.nx σ H2) E) ∧ tCatch K cv i E th D σ H
theorem ps_tryE {i : Nat} {n cn : Str} {cv : Value} {np hpos epos tpos : Pos} {b₀ : Stmt} {suite : List Stmt} {th : TS} (hnx : ∀ e s, X.xe e s → False) (F : FnOk X.prog X.w X.K X.mg X.base (CX1 X.prog X.w) k f fd ps sp) (hr : Room k X.A) (hgf : Gl X x) (hmf : X.mg x = some (.ref f)) (hk : PySem.W.keepIn X.K (.ref f) = true) (hb : Binds X.K fd ps [])
    (ha : PA X (e :: es) t) (hN : X.N.Nodup) (hi : X.N[i]? = some n) (hkn : X.env.kindOf n = some .local) (hg : Gl X cn) (hm : X.mg cn = some cv)
    (hst : X.stack = X.env :: X.outer) (hf : X.env.frame = some X.env.locals) (hs : ∀ x, PSs (X.caught x) (b₀ :: suite) th) (hdb : (x == ("__debug__" : Str)) = false := by decide) (hdc : (cn == ("__debug__" : Str)) = false := by decide)
    (he : starEach (e :: es) X.env = (false, eval e X.env) :: starEach es X.env := by rfl) (hpl : (backTo pos (starEach es X.env)).any (·.1) = false := by rfl) (hsw : swapsWith (.Call (.Name x p) (e :: es) [] pos) none epos.line X.env = pure false := by rfl) :
    PS X (.Try [.Expr (.Call (.Name x p) (e :: es) [] pos) epos] [.ExceptHandler (some (.Name cn np)) (some n) (b₀ :: suite) hpos] [] [] tpos) (tTryE X.K sp t cv i th) := by
  intro pins s σ H D I h
  obtain ⟨E, h1, h2⟩ := h
  refine wpAny_Try_except (wpAny_execs_cons (wpAny_Expr_any (wpAny_mono (px_call E hnx F hr hgf hmf hk hb ha I h1 hdb he hpl) (fun v s1 ⟨y, H1, I1, r1, q1⟩ => ?_) fun e s' hc => ?_) I.quiet hsw))
  · exact wpAny_execs_nil (wpAny_execs_nil ⟨σ, H1, I1, q1⟩)
  · exact catch_ok hN hi hkn hg hm hst hf hs hc h2 hdc
end
end L2
set_option Elab.async false
set_option linter.all false
set_option maxRecDepth 100000
namespace L2
open PySem PySem.Spec PyProof.Rows
def noInitE (es : Array DictEntry) : Bool := es.toList.all isStrKey && (nsFind es "__init__").isNone
theorem noInit_of {K : PySem.W.Frag} {N : Addr} {c : Value} {d : Option Addr} {es : Array DictEntry} {n : Nat} {sl : Array (Option Value)} (l : K.lookup N = some ⟨c, d, .dict es n, sl⟩) (h : noInitE es = true) : noInit K N = true := by
  unfold noInit
  rw [l]
  exact h
structure EA where
  ClueError : Addr
  NoFloor : Addr
  NoFilling : Addr
  NoRule : Addr
  NoPuzzle : Addr
  TooMany : Addr
  NotOne : Addr
  NoMove : Addr
  NoText : Addr
  NoName : Addr
  NoRow : Addr
  BadThought : Addr
abbrev Glb (K : PySem.W.Frag) (x : Str) (C : Addr) : Prop := PySem.W.nsIn K mainGlobals x = some (some (.ref C))
theorem Glb.eq {K : PySem.W.Frag} {x : Str} {C D : Addr} (h : Glb K x C) (h' : Glb K x D) : C = D := by
  have := h.symm.trans h'
  cases this
  rfl
structure Ref1 (K : PySem.W.Frag) (a : EA) (x : Str) (C : Addr) (os : List Addr) : Prop where
  g : Glb K x C
  xc : XC K C a.ClueError
  xis : XIs K C
  ve : PySem.W.kitOne K (.ref C) (.type "ValueError") = some true
  ex : PySem.W.exmOne K (.ref C) (.ref a.ClueError) = some true
  no : ∀ y ∈ os, PySem.W.kitOne K (.ref C) (.ref y) = some false
theorem kit_self {K : PySem.W.Frag} {C : Addr} : PySem.W.kitOne K (.ref C) (.ref C) = some true := by
  unfold PySem.W.kitOne
  rw [if_pos (by simp)]
theorem w_isX {K : PySem.W.Frag} {x C y : Addr} {b : Bool} {H : Hp} {Q : VK} (Z : XIs K C) (hx : H x = some (.ext (XO x C))) (hk : PySem.W.kitOne K (.ref C) (.ref y) = some b) (h : Q (.bl b) H) : kIsX K [.ref x, .ref y] H Q := ⟨x, C, _, _, b, rfl, hx, Z, rfl, hk, h⟩
theorem w_isXt {K : PySem.W.Frag} {x C : Addr} {n : String} {b : Bool} {H : Hp} {Q : VK} (Z : XIs K C) (hx : H x = some (.ext (XO x C))) (hk : PySem.W.kitOne K (.ref C) (.type n) = some b) (h : Q (.bl b) H) : kIsX K [.ref x, .ty n] H Q := ⟨x, C, _, _, b, rfl, hx, Z, rfl, hk, h⟩
theorem xc_of {K : PySem.W.Frag} {C D : Addr} {nm q : Str} {N ND : Addr} {bs : List Value} {hdct : Bool} {sn : List Str} {sub : List Value} {ab : Bool} {col : Option Bool} {dd : Option Addr} {k0 k1 k2 k3 k5 : Option Value} {c0 : Value} {dD : Option Addr} {cd : ClassData} {sl : Array (Option Value)}
    {cN cE : Value} {dN dE : Option Addr} {es es' : Array DictEntry} {n n' : Nat} {sN sE : Array (Option Value)}
    (l1 : K.lookup C = some (excClassObj nm q C N bs (.ref D :: VE) hdct sn sub ab col dd k0 k1 k2 k3 k5 "ValueError.__new__")) (m1 : K.lookup N = some ⟨cN, dN, .dict es n, sN⟩) (n1 : noInitE es = true)
    (l2 : K.lookup D = some ⟨c0, dD, .cls cd, sl⟩) (e2 : cd.ns = ND) (m2 : K.lookup ND = some ⟨cE, dE, .dict es' n', sE⟩) (n2 : noInitE es' = true) : XC K C D := .mk' l1 (noInit_of m1 n1) l2 (noInit_of (by rw [e2]; exact m2) n2)
theorem bt_ValueError : bootBuiltins "ValueError" = some (.type "ValueError") := by decide +kernel
structure Cal1 (P : Program) (w : World) (K : PySem.W.Frag) (mg : Str → Option Value) (base : Heap) (k : Nat) (x : Str) (ps : List Str) (sp : Sp) : Prop where
  ex : ∃ (f : Addr) (fd : FuncData), FnOk P w K mg base (CX1 P w) k f fd ps sp ∧ mg x = some (.ref f) ∧ PySem.W.keepIn K (.ref f) = true ∧ Binds K fd ps []
theorem pe_cal1 {X : Cx} {k n : Nat} {x : Str} {ps : List Str} {sp : Sp} {p pos : Pos} {e : Expr} {es : List Expr} {t : TA} {E : XK} (hE : Passes (CX1 X.prog X.w) X E) (C : Cal1 X.prog X.w X.K X.mg X.base k x ps sp) (hr : Room n X.A) (hk : k ≤ n) (hg : Gl X x) (ha : PA X (e :: es) t)
    (hdb : (x == ("__debug__" : Str)) = false := by decide) (he : starEach (e :: es) X.env = (false, eval e X.env) :: starEach es X.env := by rfl) (hpl : (backTo pos (starEach es X.env)).any (·.1) = false := by rfl) :
    PE X (.Call (.Name x p) (e :: es) [] pos) (tCall sp [] E t) := by
  obtain ⟨f, fd, F, hm, hkp, hb⟩ := C.ex
  exact pe_call F (hr.mono hk) hg hm hkp hb .nil hE ha hdb he hpl
section
variable {X : Cx} {k nn : Nat} {ps : List Str} {sp : Sp} {x : Str} {p pos : Pos} {e : Expr} {es : List Expr} {t : TA}
theorem ps_trye {i : Nat} {n cn : Str} {cv : Value} {np hpos epos tpos : Pos} {b₀ : Stmt} {suite : List Stmt} {th : TS} (hnx : ∀ e s, X.xe e s → False) (C : Cal1 X.prog X.w X.K X.mg X.base k x ps sp) (hr : Room nn X.A) (hk : k ≤ nn) (hgf : Gl X x)
    (ha : PA X (e :: es) t) (hN : X.N.Nodup) (hi : X.N[i]? = some n) (hkn : X.env.kindOf n = some .local) (hg : Gl X cn) (hm : X.mg cn = some cv)
    (hst : X.stack = X.env :: X.outer) (hf : X.env.frame = some X.env.locals) (hs : ∀ x, PSs (X.caught x) (b₀ :: suite) th) (hdb : (x == ("__debug__" : Str)) = false := by decide) (hdc : (cn == ("__debug__" : Str)) = false := by decide)
    (he : starEach (e :: es) X.env = (false, eval e X.env) :: starEach es X.env := by rfl) (hpl : (backTo pos (starEach es X.env)).any (·.1) = false := by rfl) (hsw : swapsWith (.Call (.Name x p) (e :: es) [] pos) none epos.line X.env = pure false := by rfl) :
    PS X (.Try [.Expr (.Call (.Name x p) (e :: es) [] pos) epos] [.ExceptHandler (some (.Name cn np)) (some n) (b₀ :: suite) hpos] [] [] tpos) (tTryE X.K sp t cv i th) := by
  obtain ⟨f, fd, F, hm', hkp, hb⟩ := C.ex
  exact ps_tryE hnx F (hr.mono hk) hgf hm' hkp hb ha hN hi hkn hg hm hst hf hs hdb hdc he hpl hsw
end
end L2
set_option Elab.async false
set_option linter.all false
set_option maxRecDepth 100000
namespace L2
open PySem PySem.Spec PyProof.Rows
def cMulB : R2
  | .int i, .int j, H, Q => IntMulOk i j ∧ Q (.int (i * j)) H
  | _, _, _, _ => False
end L2
namespace Att
open PySem PySem.W PySem.Calls PyProof.Rows
end Att
namespace L2
open PySem PySem.Spec PyProof.Rows
section
variable {K : PySem.W.Frag} {H : Hp} {Q : VK} {D : Ends} {σ : St}
theorem w_mulB {i j : Int} : cMulB (.int i) (.int j) H Q = (IntMulOk i j ∧ Q (.int (i * j)) H) := rfl
theorem w_pow {i j : Int} : cPow (.int i) (.int j) H Q = (CPow i j ∧ Q (.int (i ^ j.toNat)) H) := rfl
theorem w_raise {E : XK} {C : Addr} {t : TA} : tRaise E C t D σ H = t σ H fun vs H1 => vs.length ≤ sizeLine ∧ E (.ref C) none H1 := rfl
end
end L2
set_option Elab.async false
set_option linter.all false
set_option maxRecDepth 100000
namespace L2
open PySem PySem.Spec PyProof.Rows
inductive RK where
  | Rule | Unlike | Sum | Rising | Seen | Count | Joined | NoSquare | Ring
  deriving DecidableEq
structure RCl (ι : Type) where
  A : ι → Addr
  ok : ι → Bool
def tInG (ws : List Str) (neg : Bool) (te : TE) : TE := fun σ H Q => te σ H fun x H1 => ∃ z, x = .str z ∧ Q (.bl (if neg then !decide (z ∈ ws) else decide (z ∈ ws))) H1
structure GTup (K : PySem.W.Frag) (mg : Str → Option Value) (x : Str) (ws : List Str) : Prop where
  ex : ∃ (p : Addr) (o : Obj) (its : Array Value) (n : Nat), mg x = some (.ref p) ∧ K.lookup p = some o ∧ o.cls = .type "tuple" ∧ o.data = .seq its n ∧ its.size ≤ sizeLine ∧ Vals (ws.map V.str) its.toList
theorem flat_strs : ∀ ns : List Str, (ns.map V.str).all flatV = true
  | [] => rfl
  | n :: r => by rw [List.map_cons, List.all_cons, flat_strs r]; rfl
theorem inV_strs (i : Str) : ∀ ns : List Str, inV (.str i) (ns.map V.str) = decide (i ∈ ns)
  | [] => by simp [inV]
  | n :: r => by
    have ih := inV_strs i r
    unfold inV at ih ⊢
    rw [List.map_cons, List.any_cons, ih]
    show ((n == i) || decide (i ∈ r)) = decide (i ∈ n :: r)
    rw [Bool.eq_iff_iff, Bool.or_eq_true, beq_iff_eq, decide_eq_true_eq, decide_eq_true_eq, List.mem_cons]
    exact ⟨fun h => h.elim (fun e => .inl e.symm) .inr, fun h => h.elim (fun e => .inl e.symm) .inr⟩
section
variable {X : Cx} {a : Expr} {ta : TE} {pos p : Pos} {x : Str} {ws : List Str}
theorem op_ninG {ws : List Str} {q : Addr} (hq : ∃ (o : Obj) (its : Array Value) (n : Nat), X.K.lookup q = some o ∧ o.cls = .type "tuple" ∧ o.data = .seq its n ∧ its.size ≤ sizeLine ∧ Vals (ws.map V.str) its.toList) :
    OpR X (compareOp .NotIn) (fun x y H Q => ∃ z, x = .str z ∧ y = .ref q ∧ Q (.bl (!decide (z ∈ ws))) H) := by
  intro pins s σ H x y v u Q I rx ry h
  obtain ⟨z, rfl, rfl, h⟩ := h
  refine op_notIn_seq pins s σ H _ _ v u Q I rx ry ⟨q, ws.map V.str, rfl, .inr (.inr hq), rfl, flat_strs ws, ?_⟩
  rw [inV_strs]
  exact h
end
section
variable {ι : Type} {c : RCl ι} {ta tv : TE} {t : TA} {f m : Str} {σ : St} {H : Hp} {Q : VK} {D : Ends} {okm : ι → Bool} {sp : ι → Sp} {sp1 : Sp} {C : Addr} {K : PySem.W.Frag}
theorem w_make : tMake C sp1 [] E0 t σ H Q = t σ H fun vs H1 => ∀ x dx, H1 x = none → H1 dx = none → dx ≠ x → sp1 (.ref x :: (vs ++ [])) (upd (upd H1 dx (.own x)) x (.ins C dx [])) (fun v H2 => v = .non ∧ Q (.ref x) H2) E0 := rfl
theorem w_inG {ws : List Str} {neg : Bool} {te : TE} : tInG ws neg te σ H Q = te σ H fun x H1 => ∃ z, x = .str z ∧ Q (.bl (if neg then !decide (z ∈ ws) else decide (z ∈ ws))) H1 := rfl
end
end L2
set_option Elab.async false
set_option linter.all false
set_option maxRecDepth 100000
namespace L2
open PySem PySem.Spec PyProof.Rows
def cntD (ns : List Int) : Nat := (firstMet (fun i => ns.getD i 0) ns.length).length
def tLenSet (te : TE) : TE := fun σ H Q => te σ H fun x H1 => ∃ p ns, x = .ref p ∧ H1 p = some (.lst (ns.map V.int)) ∧ ns.length ≤ 900 ∧ Q (.int (cntD ns : Nat)) H1
theorem w_lenset {te : TE} {σ : St} {H : Hp} {Q : VK} : tLenSet te σ H Q = te σ H fun x H1 => ∃ p ns, x = .ref p ∧ H1 p = some (.lst (ns.map V.int)) ∧ ns.length ≤ 900 ∧ Q (.int (cntD ns : Nat)) H1 := rfl
end L2
set_option Elab.async false
set_option linter.all false
set_option maxRecDepth 100000
namespace L2
open PySem PySem.Spec PyProof.Rows
section
variable {X : Cx} {e : Expr} {te : TE} {p2 p3 p4 pos : Pos} {z0 : Nat}
def tRevL (te : TE) : TE := fun σ H Q => te σ H fun x H1 => ∃ p xs, x = .ref p ∧ H1 p = some (.lst xs) ∧ ∀ l, H1 l = none → Q (.ref l) (upd H1 l (.lst xs.reverse))
end
section
variable {σ : St} {H : Hp} {Q : VK} {te : TE}
theorem w_max {i j : Int} {H : Hp} {Q : VK} : kMax [.int i, .int j] H Q = Q (.int (if j > i then j else i)) H := rfl
theorem w_revL : tRevL te σ H Q = te σ H fun x H1 => ∃ p xs, x = .ref p ∧ H1 p = some (.lst xs) ∧ ∀ l, H1 l = none → Q (.ref l) (upd H1 l (.lst xs.reverse)) := rfl
end
end L2
set_option Elab.async false
set_option linter.all false
set_option maxRecDepth 100000
namespace L2
open PySem PySem.Spec PyProof.Rows
theorem str_no_int : typeLookup (.type "str") (Str.ofString "__int__") = pure none := by rw [typeLookup_type, builtinLookup_eq_fast]; kernel_rfl
theorem str_no_index : typeLookup (.type "str") (Str.ofString "__index__") = pure none := by rw [typeLookup_type, builtinLookup_eq_fast]; kernel_rfl
theorem str_no_trunc : typeLookup (.type "str") (Str.ofString "__trunc__") = pure none := by rw [typeLookup_type, builtinLookup_eq_fast]; kernel_rfl
def numC (n : Nat) : List Nat := if n < 10 then [48 + n] else [48 + n / 10, 48 + n % 10]
theorem num_ascii {n : Nat} (h : n < 100) : ((tx (numC n)).cps.all fun x => decide (x < 128)) = true := by
  have t : ((List.range 100).all fun n => (tx (numC n)).cps.all fun x => decide (x < 128)) = true := by decide +kernel
  exact List.all_eq_true.mp t n (List.mem_range.mpr h)
theorem wpAny_eqm {α : Type} {M : Model} {A : Around} {E : Value → Shared → Prop} {s : Shared} {Q : α → Shared → Prop} {m m' : Sem α} (e : m = m') (h : wpAny M A m' Q E s) : wpAny M A m Q E s := e ▸ h
set_option maxHeartbeats 4000000 in
theorem gis (n : Nat) (hn : n < 100) (u : Tok) : Gives (Builtin.«int.__new__» ⟨[.type "int", .str (tx (numC n)) u], []⟩) (.int n) :=
  .of_wp fun M A E s Q h => by
    obtain ⟨hp, g, d, tk, os⟩ := s
    have f1 := PySem.F.conv_sub_int
    have f2 := PySem.F.madeHere_int
    have f3 := str_no_int
    have f4 := str_no_index
    have f5 := str_no_trunc
    iterate 44 (any_goals (first | assumption | wp_step))
    refine wpAny_bind (wpAny_of_eq (a := some (tx (numC n))) rfl ?_)
    refine wpAny_of_eq (a := some (numC n)) ?e1 ?_
    case e1 =>
      show (pure (some (if ((tx (numC n)).cps.all fun x => decide (x < 128)) = true then (tx (numC n)).cps.toList else _)) : Sem _) = _
      rw [if_pos (num_ascii hn), tx_cps]
    refine wpAny_eqm (m' := mkInt (n : Int)) ?e2 ?_
    case e2 =>
      clear h f1 f2 f3 f4 f5
      match n, hn with | 0, _ => kernel_rfl | 1, _ => kernel_rfl | 2, _ => kernel_rfl | 3, _ => kernel_rfl | 4, _ => kernel_rfl | 5, _ => kernel_rfl | 6, _ => kernel_rfl | 7, _ => kernel_rfl | 8, _ => kernel_rfl | 9, _ => kernel_rfl | 10, _ => kernel_rfl | 11, _ => kernel_rfl | 12, _ => kernel_rfl | 13, _ => kernel_rfl | 14, _ => kernel_rfl | 15, _ => kernel_rfl | 16, _ => kernel_rfl | 17, _ => kernel_rfl | 18, _ => kernel_rfl | 19, _ => kernel_rfl | 20, _ => kernel_rfl | 21, _ => kernel_rfl | 22, _ => kernel_rfl | 23, _ => kernel_rfl | 24, _ => kernel_rfl | 25, _ => kernel_rfl | 26, _ => kernel_rfl | 27, _ => kernel_rfl | 28, _ => kernel_rfl | 29, _ => kernel_rfl | 30, _ => kernel_rfl | 31, _ => kernel_rfl | 32, _ => kernel_rfl | 33, _ => kernel_rfl | 34, _ => kernel_rfl | 35, _ => kernel_rfl | 36, _ => kernel_rfl | 37, _ => kernel_rfl | 38, _ => kernel_rfl | 39, _ => kernel_rfl | 40, _ => kernel_rfl | 41, _ => kernel_rfl | 42, _ => kernel_rfl | 43, _ => kernel_rfl | 44, _ => kernel_rfl | 45, _ => kernel_rfl | 46, _ => kernel_rfl | 47, _ => kernel_rfl | 48, _ => kernel_rfl | 49, _ => kernel_rfl | 50, _ => kernel_rfl | 51, _ => kernel_rfl | 52, _ => kernel_rfl | 53, _ => kernel_rfl | 54, _ => kernel_rfl | 55, _ => kernel_rfl | 56, _ => kernel_rfl | 57, _ => kernel_rfl | 58, _ => kernel_rfl | 59, _ => kernel_rfl | 60, _ => kernel_rfl | 61, _ => kernel_rfl | 62, _ => kernel_rfl | 63, _ => kernel_rfl | 64, _ => kernel_rfl | 65, _ => kernel_rfl | 66, _ => kernel_rfl | 67, _ => kernel_rfl | 68, _ => kernel_rfl | 69, _ => kernel_rfl | 70, _ => kernel_rfl | 71, _ => kernel_rfl | 72, _ => kernel_rfl | 73, _ => kernel_rfl | 74, _ => kernel_rfl | 75, _ => kernel_rfl | 76, _ => kernel_rfl | 77, _ => kernel_rfl | 78, _ => kernel_rfl | 79, _ => kernel_rfl | 80, _ => kernel_rfl | 81, _ => kernel_rfl | 82, _ => kernel_rfl | 83, _ => kernel_rfl | 84, _ => kernel_rfl | 85, _ => kernel_rfl | 86, _ => kernel_rfl | 87, _ => kernel_rfl | 88, _ => kernel_rfl | 89, _ => kernel_rfl | 90, _ => kernel_rfl | 91, _ => kernel_rfl | 92, _ => kernel_rfl | 93, _ => kernel_rfl | 94, _ => kernel_rfl | 95, _ => kernel_rfl | 96, _ => kernel_rfl | 97, _ => kernel_rfl | 98, _ => kernel_rfl | 99, _ => kernel_rfl | (m + 100), hm => exact absurd hm (by omega)
    repeat (any_goals (first | assumption | wp_step))
    all_goals first | exact ⟨_, rfl, h⟩ | skip
def kInt2 : List V → Hp → VK → Prop
  | [.int i], H, Q => Q (.int i) H
  | [.bl k], H, Q => Q (.int (if k then 1 else 0)) H
  | [.str z], H, Q => ∃ n : Nat, n < 100 ∧ z = tx (numC n) ∧ Q (.int n) H
  | _, _, _ => False
theorem w_int2B {k : Bool} {H : Hp} {Q : VK} : kInt2 [.bl k] H Q = Q (.int (if k then 1 else 0)) H := rfl
theorem w_int2I {i : Int} {H : Hp} {Q : VK} : kInt2 [.int i] H Q = Q (.int i) H := rfl
end L2
set_option Elab.async false
set_option linter.all false
set_option maxRecDepth 100000
namespace L2
open PySem PySem.Spec PyProof.Rows
local macro_rules | `(tactic| walk_at "w") => `(tactic| (first | simp only [w_seq, w_next, w_asg, w_gname, w_var0, w_varS, w_c, w_op, w_ret, w_retN, w_drop, w_test, w_b, w_not, w_and, w_or, w_notV, w_andV, w_orV, w_nil, w_cons, w_cb, w_call, w_tup, w_lst, w_bm, w_bm0, w_true, w_dnew, w_dput, w_forL, w_forR1, w_forR2, w_compL, w_compR1, w_scompL, w_scompR1, w_add, w_sub, w_mul, w_div, w_mod, w_cmp, w_eqI, w_neI, w_eqB, w_neB, w_abs, w_min, w_sl, w_part, w_nopart, w_gsub, w_un, w_forS, w_compS, w_scompS, w_eqS, w_neS, w_lenS, w_addS, w_find,
  List.getElem?_cons_zero, List.getElem?_cons_succ, Option.some.injEq, exists_eq_left', exists_eq_left, List.set_cons_zero, List.set_cons_succ, bnd_some, V.int.injEq, V.bl.injEq, V.ref.injEq, V.str.injEq, List.nil_append, List.cons_append] | dsimp only | skip))
end L2
set_option Elab.async false
set_option linter.all false
set_option maxRecDepth 100000
namespace L2
open PySem PySem.Spec PyProof.Rows
local macro_rules | `(tactic| walk_at "w") => `(tactic| (first | simp only [w_seq, w_make, w_inG, w_lenset, w_revL, w_int2B, w_int2I, w_max, w_isN, w_notN, w_pow, if_true, if_false, Bool.false_eq_true, decide_true, decide_false, w_lrng1, w_lrng2, w_ifE, w_compR2, w_scompR2, w_forRD, w_forE, w_compE, w_scompE, w_intB, w_intI, w_bitlen, w_shr, w_isi_ii, w_isi_ib, w_isi_bb, w_isi_bi, w_isi_ss, w_isi_bs, w_isi_is, w_iteT, w_iteF, w_negE, w_bitI, w_str, Bool.not_true, Bool.not_false, w_next, w_asg, w_gname, w_var0, w_varS, w_c, w_op, w_ret, w_retN, w_drop, w_test, w_b, w_not, w_and, w_or, w_notV, w_andV, w_orV, w_nil, w_cons, w_cb, w_call, w_tup, w_lst, w_bm, w_bm0, w_true, w_dnew, w_dput, w_forL, w_forR1, w_forR2, w_compL, w_compR1, w_scompL, w_scompR1, w_add, w_sub, w_mul, w_div, w_mod, w_cmp, w_eqI, w_neI, w_eqB, w_neB, w_abs, w_min, w_sl, w_part, w_nopart, w_gsub, w_un, w_forS, w_compS, w_scompS, w_eqS, w_neS, w_lenS, w_addS, w_find,
  List.getElem?_cons_zero, List.getElem?_cons_succ, Option.some.injEq, exists_eq_left', exists_eq_left, List.set_cons_zero, List.set_cons_succ, bnd_some, V.int.injEq, V.bl.injEq, V.ref.injEq, V.str.injEq, List.nil_append, List.cons_append] | dsimp only | skip))
theorem cut_tail (xs : List V) : cutV xs (some 1) none = xs.drop 1 := by
  unfold cutV
  have h1 : HT.sIx xs.length 0 (some 1) = min 1 xs.length := HT.sIx_nat ..
  have h2 : HT.sIx xs.length xs.length none = xs.length := rfl
  rw [h1, h2]
  cases xs with
  | nil => rfl
  | cons x r =>
    have : min 1 (x :: r).length = 1 := by simp
    rw [this]
    show (r).take _ = r
    rw [List.take_of_length_le (by simp)]
theorem sl_tail {H : Hp} {Q : VK} {p : Addr} {x : Str} {xs : List Str} (hp : H p = some (.lst ((x :: xs).map V.str))) (q : ∀ l, H l = none → Q (.ref l) (upd H l (.lst (xs.map V.str)))) : cSl2 (.ref p) (some 1) none H Q := by
  refine w_slL hp fun l hl => ?_
  rw [cut_tail]
  exact q l hl
end L2
set_option Elab.async false
set_option linter.all false
set_option maxRecDepth 100000
namespace L2
open PySem PySem.Spec PyProof.Rows
end L2
set_option Elab.async false
set_option linter.all false
set_option maxRecDepth 100000
namespace L2
open PySem PySem.Spec PyProof.Rows
end L2
set_option Elab.async false
set_option linter.all false
set_option maxRecDepth 100000
namespace L2
open PySem PySem.Spec PyProof.Rows
end L2
set_option Elab.async false
set_option linter.all false
set_option maxRecDepth 100000
namespace L2
open PySem PySem.Spec PyProof.Rows
section
variable {ι : Type}
def tMethE (c : RCl ι) (okm : ι → Bool) (m : Str) (sp : ι → Sp) (E : XK) (ta : TE) (t : TA) : TE := fun σ H Q => ta σ H fun x H1 => ∃ a k dx fs, x = .ref a ∧ okm k = true ∧ H1 a = some (.ins (c.A k) dx fs) ∧ fs.lookup m = none ∧
  t σ H1 fun vs H2 => sp k (x :: vs) H2 Q E
end
section
variable {ι : Type} {c : RCl ι} {ta : TE} {t : TA} {m : Str} {σ : St} {H : Hp} {Q : VK} {okm : ι → Bool} {sp : ι → Sp} {sp1 : Sp} {C : Addr} {E : XK}
theorem w_methE : tMethE c okm m sp E ta t σ H Q = ta σ H fun x H1 => ∃ a k dx fs, x = .ref a ∧ okm k = true ∧ H1 a = some (.ins (c.A k) dx fs) ∧ fs.lookup m = none ∧ t σ H1 fun vs H2 => sp k (x :: vs) H2 Q E := rfl
theorem w_make1 : tMake C sp1 [] E t σ H Q = t σ H fun vs H1 => ∀ x dx, H1 x = none → H1 dx = none → dx ≠ x → sp1 (.ref x :: (vs ++ [])) (upd (upd H1 dx (.own x)) x (.ins C dx [])) (fun v H2 => v = .non ∧ Q (.ref x) H2) E := rfl
end
end L2
set_option Elab.async false
set_option linter.all false
set_option maxRecDepth 100000
namespace L2
open PySem PySem.Spec PyProof.Rows
local macro_rules | `(tactic| walk_at "p") => do
  let nm (s : Lean.Name) : Lean.Ident := Lean.mkIdent (Lean.Name.num (`_private.PySem.Builtin.Int.W0All) 0 ++ s)
  `(tactic| unfold $(nm `PySem.Builtin.intFromText):ident $(nm `PySem.Builtin.readNumeral):ident)
local macro_rules | `(tactic| walk_at "b") => do
  let nm (s : Lean.Name) : Lean.Ident := Lean.mkIdent (Lean.Name.num (`_private.PySem.Builtin.Int.W0All) 0 ++ s)
  `(tactic| unfold $(nm `PySem.Builtin.isBlank):ident)
local macro_rules | `(tactic| walk_at "n") => do
  let nm (s : Lean.Name) : Lean.Ident := Lean.mkIdent (Lean.Name.num (`_private.PySem.Builtin.Int.W0All) 0 ++ s)
  `(tactic| unfold $(nm `PySem.Builtin.numeralDigits?):ident)
local macro_rules | `(tactic| walk_at "d") => do
  let nm (s : Lean.Name) : Lean.Ident := Lean.mkIdent (Lean.Name.num (`_private.PySem.Builtin.Int.W0All) 0 ++ s)
  `(tactic| unfold $(nm `PySem.Builtin.digitValue?):ident)
local macro_rules | `(tactic| walk_at "x") => do
  let nm (s : Lean.Name) : Lean.Ident := Lean.mkIdent (Lean.Name.num (`_private.PySem.Builtin.Int.W0All) 0 ++ s)
  `(tactic| unfold $(nm `PySem.Builtin.prefixBase?):ident)
def digW (c : Nat) : Bool := decide (48 ≤ c) && decide (c ≤ 57)
theorem takeW {p : Nat → Bool} : ∀ {w : List Nat}, (∀ c ∈ w, p c = true) → w.takeWhile p = w
  | [], _ => rfl
  | c :: r, h => by rw [List.takeWhile_cons, if_pos (h c List.mem_cons_self), takeW fun x hx => h x (List.mem_cons_of_mem _ hx)]
theorem dropW {p : Nat → Bool} : ∀ {w : List Nat}, (∀ c ∈ w, p c = false) → w.dropWhile p = w
  | [], _ => rfl
  | c :: r, h => by rw [List.dropWhile_cons, if_neg (by rw [h c List.mem_cons_self]; exact Bool.false_ne_true)]
theorem foldD {f : Array Nat × Bool → Nat → Option (Array Nat × Bool)} : ∀ {w : List Nat} {a : Array Nat} {b : Bool}, (∀ a b c, c ∈ w → f (a, b) c = some (a.push (c - 48), true)) → w.foldlM f (a, b) = some (a ++ (w.map fun c => c - 48).toArray, b || !w.isEmpty)
  | [], a, b, _ => by simp
  | c :: r, a, b, h => by
    rw [List.foldlM_cons, h a b c List.mem_cons_self]
    show r.foldlM f (a.push (c - 48), true) = _
    rw [foldD (a := a.push (c - 48)) (b := true) fun a b x hx => h a b x (List.mem_cons_of_mem _ hx)]
    simp
set_option maxHeartbeats 4000000 in
theorem gisG (n : Nat) (w : List Nat) (hd : w.all digW = true) (h1 : w ≠ []) (h9 : w.length ≤ 9) (hz : w.head? ≠ some 48) (hn : n = w.foldl (fun a c => 10 * a + (c - 48)) 0) (u : Tok) : Gives (Builtin.«int.__new__» ⟨[.type "int", .str (tx w) u], []⟩) (.int n) :=
  .of_wp fun M A E s Q h => by
    have ha : ((tx w).cps.all fun x => decide (x < 128)) = true := by
      have hc : ∀ c ∈ w, c < 128 := fun c hc => by have := List.all_eq_true.mp hd c hc; simp [digW] at this; omega
      simpa [tx] using hc
    obtain ⟨hp, g, d, tk, os⟩ := s
    have f1 := PySem.F.conv_sub_int
    have f2 := PySem.F.madeHere_int
    have f3 := str_no_int
    have f4 := str_no_index
    have f5 := str_no_trunc
    iterate 44 (any_goals (first | assumption | wp_step))
    refine wpAny_bind (wpAny_of_eq (a := some (tx w)) rfl ?_)
    refine wpAny_of_eq (a := some w) ?e1 ?_
    case e1 =>
      show (pure (some (if ((tx w).cps.all fun x => decide (x < 128)) = true then (tx w).cps.toList else _)) : Sem _) = _
      rw [if_pos ha, tx_cps]
    refine wpAny_eqm (m' := mkInt (n : Int)) ?e2 ?_
    case e2 =>
      clear h f1 f2 f3 f4 f5
      have hc : ∀ c ∈ w, 48 ≤ c ∧ c ≤ 57 := fun c hc => by have := List.all_eq_true.mp hd c hc; simpa [digW] using this
      show _ = mkInt (n : Int)
      dsimp only
      walk_at "p"
      dsimp only
      rw [takeW (fun c hcc => by have := hc c hcc; simp; omega)]
      rw [if_pos (by omega)]
      rw [pure_bind]
      rw [dropW (fun c hcc => by have := hc c hcc; walk_at "b"; simp; omega)]
      obtain ⟨c0, r0, rfl⟩ : ∃ c0 r0, w = c0 :: r0 := by
        cases w with
        | nil => exact absurd rfl h1
        | cons a b => exact ⟨a, b, rfl⟩
      have hcs : c0 = 49 ∨ c0 = 50 ∨ c0 = 51 ∨ c0 = 52 ∨ c0 = 53 ∨ c0 = 54 ∨ c0 = 55 ∨ c0 = 56 ∨ c0 = 57 := by
        have h1 := hc c0 List.mem_cons_self
        have h2 : c0 ≠ 48 := fun z => hz (by rw [z]; rfl)
        omega
      have hsz : ∀ x : Nat, decide ((#[] ++ (List.map (fun c => c - 48) (x :: r0)).toArray : Array Nat).size > 6000) = false := fun x => by
        rw [decide_eq_false_iff_not]
        simp
        simp at h9
        omega
      have hfo : ∀ x : Nat, n = List.foldl (fun a c => 10 * a + (c - 48)) 0 (x :: r0) → Array.foldl (fun acc d => acc * 10 + d) 0 (#[] ++ (List.map (fun c => c - 48) (x :: r0)).toArray : Array Nat) = n := fun x hx => by
        rw [hx]
        have e : ∀ (l : List Nat) (a : Nat), List.foldl (fun acc d => acc * 10 + d) a (l.map fun c => c - 48) = List.foldl (fun a c => 10 * a + (c - 48)) a l := fun l => by
          induction l with
          | nil => intro a; rfl
          | cons y r ih => intro a; rw [List.map_cons, List.foldl_cons, List.foldl_cons, ih, Nat.mul_comm a 10]
        rw [← e (x :: r0) 0]
        simp
      clear hz ha h1 hd
      rcases hcs with rfl | rfl | rfl | rfl | rfl | rfl | rfl | rfl | rfl
      all_goals
        simp only
        walk_at "x"
        simp only [show ((10 : Nat) == 0) = false from rfl, Bool.false_eq_true, if_false]
        rw [dropW (fun c hcc => by have := hc c (List.mem_reverse.mp hcc); walk_at "b"; simp; omega), List.reverse_reverse]
        walk_at "n"
        rw [foldD (fun a b c hcc => by
          have hh := hc c hcc
          walk_at "d"
          have e1 : (c == 95) = false := by simp; omega
          have e2 : (decide (48 ≤ c) && decide (c ≤ 57)) = true := by simp; omega
          simp only [e1, e2, Bool.false_eq_true, if_false, if_true]
          rw [if_pos (by omega)])]
        simp only [Option.bind_eq_bind, Option.bind_some, List.isEmpty_cons, Bool.not_false, Bool.or_true, if_true, show ((0 : Nat) != 0) = false from rfl, Bool.and_false, Bool.false_and, Bool.false_eq_true, if_false, hsz]
        rw [hfo _ hn, if_pos (by simp)]
    repeat (any_goals (first | assumption | wp_step))
    all_goals first | exact ⟨_, rfl, h⟩ | skip
def IntG (w : List Nat) (n : Nat) : Prop := w.all digW = true ∧ w ≠ [] ∧ w.length ≤ 9 ∧ (w.head? = some 48 → w = [48]) ∧ n = w.foldl (fun a c => 10 * a + (c - 48)) 0
def kInt4 : List V → Hp → VK → Prop
  | [.int i], H, Q => Q (.int i) H
  | [.bl k], H, Q => Q (.int (if k then 1 else 0)) H
  | [.str z], H, Q => ∃ (n : Nat) (w : List Nat), IntG w n ∧ z = tx w ∧ Q (.int n) H
  | _, _, _ => False
theorem call_kInt4 {X : Cx} : CallR X (.type "int") kInt4 := by
  intro pins s σ H xs us Q I r h
  unfold kInt4 at h
  split at h
  · exact call_int1 pins s σ H _ us Q I r (.inl ⟨_, rfl, h⟩)
  · exact call_int1 pins s σ H _ us Q I r (.inr ⟨_, rfl, h⟩)
  · obtain ⟨n, w, ⟨h1, h2, h3, h4, h5⟩, rfl, q⟩ := h
    obtain ⟨u, rfl, ru⟩ := vals1 r
    obtain ⟨t, rfl⟩ := ru
    by_cases hz : w.head? = some 48
    · have e := h4 hz
      subst e
      have e5 : n = 0 := h5
      subst e5
      exact call_int_1 (gis 0 (by decide) t).meets (show (Made.int ((0 : Nat) : Int)).post _ s from ⟨rfl, ⟨.int ((0 : Nat) : Int), H, I.tok _, ⟨_, rfl⟩, q⟩⟩)
    · exact call_int_1 (gisG n w h1 h2 h3 hz h5 t).meets (show (Made.int (n : Int)).post _ s from ⟨rfl, ⟨.int n, H, I.tok _, ⟨_, rfl⟩, q⟩⟩)
  · exact h.elim
end L2
set_option Elab.async false
set_option linter.all false
set_option maxRecDepth 100000
namespace L2
open PySem PySem.Spec PyProof.Rows
end L2
set_option Elab.async false
set_option linter.all false
set_option maxRecDepth 100000
namespace L2
open PySem PySem.Spec PyProof.Rows
section
variable {X : Cx}
def upC (c : Nat) : Nat := if 97 ≤ c ∧ c ≤ 122 then c - 32 else c
theorem upC_tab : ((List.range 128).all fun c => decide (Unicode.upperOf c = [upC c])) = true := by decide +kernel
theorem upC_lt {c : Nat} (h : c < 128) : upC c < 128 := by unfold upC; split <;> omega
def kUpper : V → List V → Hp → VK → Prop
  | .str x, [], H, Q => ∃ l : List Nat, x = tx l ∧ l.length ≤ 1000 ∧ (∀ c ∈ l, c < 128) ∧ Q (.str (tx (l.map upC))) H
  | _, _, _, _ => False
theorem up_flat : ∀ {l : List Nat}, (∀ c ∈ l, c < 128) → (l.map fun c => Unicode.upperOf c).flatten = l.map upC
  | [], _ => rfl
  | c :: r, h => by
    have e := of_decide_eq_true (List.all_eq_true.mp upC_tab c (List.mem_range.mpr (h c List.mem_cons_self)))
    rw [List.map_cons, List.flatten_cons, e, up_flat fun x hx => h x (List.mem_cons_of_mem _ hx)]
    rfl
theorem up_tx {l : List Nat} (h : ∀ c ∈ l, c < 128) : Txt.upper (tx l) = tx (l.map upC) := by
  refine Str.ext' ?_
  show placed (tx l) (fun _ c => Unicode.upperOf c) = (l.map upC).toArray
  rw [← up_flat h]
  apply Array.toList_inj.mp
  unfold placed tx
  simp
  congr 1
  refine List.ext_getElem? fun i => ?_
  rw [List.getElem?_map, List.getElem?_mapIdx, List.getElem?_map]
  cases l[i]? <;> rfl
theorem mt_kUpper : MtR X "str.upper" kUpper := by
  intro pins s σ H x vs v us Q I rx rv h
  unfold kUpper at h
  split at h
  · obtain ⟨t, rfl⟩ := rx
    cases rv
    obtain ⟨l, rfl, hl, ha, q⟩ := h
    refine SC.upper ?_ ?_
    · rw [up_tx ha, tx_len, List.length_map]
      show decide (_ > sizeLine) = false
      have hs : 1000 ≤ sizeLine := by decide
      exact decide_eq_false (by omega)
    · rw [up_tx ha]
      exact ⟨.str _, H, I.tok _, ⟨_, rfl⟩, q⟩
  · exact h.elim
theorem w_upper {l : List Nat} {H : Hp} {Q : VK} (h1 : l.length ≤ 1000) (h2 : ∀ c ∈ l, c < 128) (q : Q (.str (tx (l.map upC))) H) : kUpper (.str (tx l)) [] H Q := ⟨l, rfl, h1, h2, q⟩
end
end L2
set_option Elab.async false
set_option linter.all false
set_option maxRecDepth 100000
namespace L2
open PySem PySem.Spec PyProof.Rows
section
variable {X : Cx} {a : Expr} {ta : TE} {pos p : Pos} {x : Str} {ws : List Str}
theorem pt_ninG (G : GTup X.K X.mg x ws) (ha : PE X a ta) (hg : Gl X x) (hdb : (x == ("__debug__" : Str)) = false := by decide) (hm : behindInMarks .NotIn (.Name x p) = false := by with_unfolding_all rfl) : PT X (.Compare a [.NotIn] [.Name x p] pos) (tB (tInG ws true ta)) := by
  obtain ⟨q, o, its, n, h1, h2⟩ := G.ex
  have h0 := pt_cmpR (pos := pos) (op_ninG ⟨o, its, n, h2⟩) ha (pe_glob (v := V.ref q) hg h1 rfl hdb) hm
  intro pins s σ H Q I h
  refine h0 pins s σ H Q I ?_
  have e : (fun (x : V) (H1 : Hp) => ∃ z, x = .str z ∧ ∃ k, V.bl (if true = true then !decide (z ∈ ws) else decide (z ∈ ws)) = .bl k ∧ Q k H1) = fun x H1 => ∃ z, x = .str z ∧ (V.ref q = V.ref q) ∧ ∃ k, V.bl (!decide (z ∈ ws)) = .bl k ∧ Q k H1 := by
    funext x H1; simp
  have h' : ta σ H (fun (x : V) (H1 : Hp) => ∃ z, x = .str z ∧ ∃ k, V.bl (if true = true then !decide (z ∈ ws) else decide (z ∈ ws)) = .bl k ∧ Q k H1) := h
  rw [e] at h'
  exact h'
end
end L2
set_option Elab.async false
set_option linter.all false
set_option maxRecDepth 100000
namespace L2
open PySem PySem.Spec PyProof.Rows
end L2
set_option Elab.async false
set_option linter.all false
set_option maxRecDepth 100000
namespace L2
open PySem PySem.Spec PyProof.Rows
end L2
set_option Elab.async false
set_option linter.all false
set_option maxRecDepth 100000
namespace L2
open PySem PySem.Spec PyProof.Rows
end L2
set_option Elab.async false
set_option linter.all false
set_option maxRecDepth 100000
namespace L2
open PySem PySem.Spec PyProof.Rows
local macro_rules | `(tactic| walk_at "w") => `(tactic| (first | simp only [w_seq, w_make1, w_methE, w_inG, w_lenset, w_revL, w_int2B, w_int2I, w_max, w_isN, w_notN, w_pow, if_true, if_false, Bool.false_eq_true, decide_true, decide_false, w_lrng1, w_lrng2, w_ifE, w_compR2, w_scompR2, w_forRD, w_forE, w_compE, w_scompE, w_intB, w_intI, w_bitlen, w_shr, w_isi_ii, w_isi_ib, w_isi_bb, w_isi_bi, w_isi_ss, w_isi_bs, w_isi_is, w_iteT, w_iteF, w_negE, w_bitI, w_str, Bool.not_true, Bool.not_false, w_next, w_asg, w_gname, w_var0, w_varS, w_c, w_op, w_ret, w_retN, w_drop, w_test, w_b, w_not, w_and, w_or, w_notV, w_andV, w_orV, w_nil, w_cons, w_cb, w_call, w_tup, w_lst, w_bm, w_bm0, w_true, w_dnew, w_dput, w_forL, w_forR1, w_forR2, w_compL, w_compR1, w_scompL, w_scompR1, w_add, w_sub, w_mul, w_div, w_mod, w_cmp, w_eqI, w_neI, w_eqB, w_neB, w_abs, w_min, w_sl, w_part, w_nopart, w_gsub, w_un, w_forS, w_compS, w_scompS, w_eqS, w_neS, w_lenS, w_addS, w_find,
  List.getElem?_cons_zero, List.getElem?_cons_succ, Option.some.injEq, exists_eq_left', exists_eq_left, List.set_cons_zero, List.set_cons_succ, bnd_some, V.int.injEq, V.bl.injEq, V.ref.injEq, V.str.injEq, List.nil_append, List.cons_append] | dsimp only | skip))
def os18 (a : EA) : List Addr := [a.BadThought, a.NoFilling, a.NoMove, a.NoName, a.NoRow, a.NoText, a.NotOne, a.TooMany, a.NoFloor, a.NoPuzzle]
def digB (c : Nat) : Bool := decide (48 ≤ c) && decide (c ≤ 57)
def badH (w : List Nat) : Bool := decide (w = []) || decide (9 < w.length) || (decide (w.head? = some 48) && !decide (w = [48]))
def numW (w : List Nat) : Option Nat := if badH w = true then none else if w.all digB = true then some (w.foldl (fun a c => 10 * a + (c - 48)) 0) else none
def nV : Option Nat → V
  | none => .non
  | some n => .int n
structure WdOk (w : List Nat) : Prop where
  len : w.length ≤ 400
  asc : ∀ c ∈ w, c < 128
theorem numG {w : List Nat} {n : Nat} (h : numW w = some n) : IntG w n := by
  unfold numW at h
  cases hb : badH w with
  | true => rw [if_pos hb] at h; cases h
  | false =>
    rw [if_neg (by rw [hb]; exact Bool.false_ne_true)] at h
    cases hd : w.all digB with
    | false => rw [hd, if_neg Bool.false_ne_true] at h; cases h
    | true =>
      rw [hd, if_pos rfl] at h
      cases h
      unfold badH at hb
      simp at hb
      exact ⟨hd, hb.1.1, by omega, hb.2, rfl⟩
def sp_number_in18 (K : PySem.W.Frag) : Sp := fun vs H Q _ => ∃ w : List Nat, vs = [.str (tx w)] ∧ WdOk w ∧ ∀ H', Same H H' → Q (nV (numW w)) H'
def rd_number_in18_t1 (K : PySem.W.Frag) : TS :=
  (tSeq (tIfS (tNot (tB (tCB kAll (tCons (tComp [none, none] (iStr (tVar 0)) (gName 1) tTrue (tOp (cIn K false) (tVar 1) (tC (.str (tx [48, 49, 50, 51, 52, 53, 54, 55, 56, 57]))))) tNil)))) (tRet (tC .non)) tNext)
    (tRet (tCB kInt4 (tCons (tVar 0) tNil))))
def rd_number_in18 (K : PySem.W.Frag) : TS :=
  (tSeq (tIfS (tOr (tTest (tOp (cEq K) (tVar 0) (tC (.str (tx []))))) (tOr (tTest (tOp (cCmp fun i j => decide (j < i)) (tCB kLen (tCons (tVar 0) tNil)) (tC (.int 9)))) (tAnd (tTest (tOp (cEq K) (tOp cIx (tVar 0) (tC (.int 0))) (tC (.str (tx [48]))))) (tTest (tOp (cNe K) (tVar 0) (tC (.str (tx [48])))))))) (tRet (tC .non)) tNext)
    (rd_number_in18_t1 K))
theorem dig_occ {c : Nat} (h : c < 128) : (!(Builtin.Str.occurrences (tx [48, 49, 50, 51, 52, 53, 54, 55, 56, 57]) (tx [c]) 0 (tx [48, 49, 50, 51, 52, 53, 54, 55, 56, 57]).length 1).isEmpty) = digB c := by
  have t : ((List.range 128).all fun c => decide ((!(Builtin.Str.occurrences (tx [48, 49, 50, 51, 52, 53, 54, 55, 56, 57]) (tx [c]) 0 (tx [48, 49, 50, 51, 52, 53, 54, 55, 56, 57]).length 1).isEmpty) = digB c)) = true := by decide +kernel
  exact of_decide_eq_true (List.all_eq_true.mp t c (List.mem_range.mpr h))
theorem rk_number_in18_t1 {K : PySem.W.Frag} {H : Hp} {Q : VK} {w : List Nat} (W : WdOk w) (hb : badH w = false) (q : ∀ H', Same H H' → Q (nV (numW w)) H') : rd_number_in18_t1 K { nx := fun _ H' => Q .non H', rt := Q } [some (.str (tx w))] H := by
  have hw := W.asc
  have hl := W.len
  unfold rd_number_in18_t1
  rw [w_seq, w_if]
  walk_at "w"
  refine compV_str (cs := w) (fun _ => true) (fun i => .bl (digB (w.getD i 0))) (by omega) ?_ ?_ ?_
  · intro i c H1 R hc s1 k1
    exact k1 _ (Same.refl _)
  · intro i c H1 Q1 hc hb s1 k1
    show tOp (cIn K false) _ _ [none, some (.str (tx [c]))] H1 Q1
    walk_at "w"
    have q1 := k1 _ (Same.refl H1)
    show Q1 (.bl (if false = true then _ else !(Builtin.Str.occurrences (tx [48, 49, 50, 51, 52, 53, 54, 55, 56, 57]) (tx [c]) 0 (tx [48, 49, 50, 51, 52, 53, 54, 55, 56, 57]).length 1).isEmpty)) H1
    rw [if_neg Bool.false_ne_true, dig_occ (hw c (List.mem_of_getElem? hc))]
    have eg : w.getD i 0 = c := by rw [List.getD, hc]; rfl
    rw [eg] at q1
    exact q1
  · intro l H1 hl1 s1 el
    have eb : ((List.range w.length).filter fun _ => true).map (fun i => V.bl (digB (w.getD i 0))) = (w.map digB).map V.bl := by
      rw [filter_tt]
      refine List.ext_getElem? fun i => ?_
      rw [List.getElem?_map, List.getElem?_map, List.getElem?_map]
      by_cases h : i < w.length
      · rw [List.getElem?_range h, List.getElem?_eq_getElem h]
        simp [List.getD, h]
      · rw [List.getElem?_eq_none (by simpa using h), List.getElem?_eq_none (by omega)]; rfl
    rw [eb] at el
    refine w_all el ?_
    have ea : (w.map digB).all id = w.all digB := by rw [List.all_map]; rfl
    rw [ea]
    have q1 := q _ s1
    unfold numW at q1
    rw [hb, if_neg Bool.false_ne_true] at q1
    cases hd : w.all digB with
    | false =>
      rw [hd, if_neg Bool.false_ne_true] at q1
      walk_at "w"
      exact q1
    | true =>
      rw [hd, if_pos rfl] at q1
      walk_at "w"
      refine ⟨_, w, numG ?_, rfl, q1⟩
      unfold numW
      rw [hb, if_neg Bool.false_ne_true, hd, if_pos rfl]
theorem rk_number_in18 {K : PySem.W.Frag} {vs : List V} {H : Hp} {Q : VK} {E : XK} (h : sp_number_in18 K vs H Q E) : rd_number_in18 K { nx := fun _ H' => Q .non H', rt := Q } (start ["word"] vs) H := by
  obtain ⟨w, rfl, W, q⟩ := h
  have hl := W.len
  have qn : badH w = true → Q .non H := fun hb => by
    have q1 := q _ (Same.refl H)
    unfold numW at q1
    rw [if_pos hb] at q1
    exact q1
  show rd_number_in18 K _ [some (.str (tx w))] H
  unfold rd_number_in18
  rw [w_seq, w_if]
  walk_at "w"
  rw [tx_dec]
  by_cases h0 : w = []
  · rw [decide_eq_true h0]
    exact iteT (qn (by rw [h0]; rfl))
  rw [decide_eq_false h0]
  refine iteF ⟨by rw [tx_len]; exact len_le (by omega), ?_⟩
  walk_at "w"
  rw [tx_len]
  by_cases h9 : 9 < w.length
  · rw [decide_eq_true (show (9 : Int) < ((w.length : Nat) : Int) by omega)]
    exact iteT (qn (by unfold badH; rw [decide_eq_true h9]; simp))
  rw [decide_eq_false (show ¬ (9 : Int) < ((w.length : Nat) : Int) by omega)]
  refine iteF ?_
  rw [w_ixS, tx_len, tx_cps]
  obtain ⟨c, r, ec⟩ : ∃ c r, w = c :: r := by
    cases e : w with
    | nil => exact absurd e h0
    | cons c r => exact ⟨c, r, rfl⟩
  refine ⟨len_le (by omega), bnd_of (a := c) (by rw [ec]; exact atI_nat (j := 0) rfl) ?_⟩
  walk_at "w"
  have e1 : decide ((⟨#[c]⟩ : Str) = tx [48]) = decide (c = 48) := by
    have : (⟨#[c]⟩ : Str) = tx [c] := rfl
    rw [this, tx_dec]
    simp
  rw [e1, tx_dec]
  have eh : badH w = (decide (c = 48) && !decide (w = [48])) := by
    unfold badH
    rw [decide_eq_false h0, decide_eq_false h9, ec]
    simp
  cases hc : decide (c = 48) with
  | false =>
    refine iteF ?_
    exact rk_number_in18_t1 W (by rw [eh, hc]; rfl) q
  | true =>
    refine iteT ?_
    cases hw : decide (w = [48]) with
    | false => exact iteT (qn (by rw [eh, hc, hw]; rfl))
    | true => exact iteF (rk_number_in18_t1 W (by rw [eh, hc, hw]; rfl) q)
section
variable {K : PySem.W.Frag} {a : EA} {vs : List V} {H : Hp} {Q : VK} {E : XK} (RR : Ref1 K a "NoRule" a.NoRule (os18 a))
include RR
end
end L2
set_option Elab.async false
set_option linter.all false
set_option maxRecDepth 100000
namespace L2
open PySem PySem.Spec PyProof.Rows
local macro_rules | `(tactic| walk_at "w") => `(tactic| (first | simp only [w_seq, w_make, w_inG, w_lenset, w_revL, w_int2B, w_int2I, w_max, w_isN, w_notN, w_pow, if_true, if_false, Bool.false_eq_true, decide_true, decide_false, w_lrng1, w_lrng2, w_ifE, w_compR2, w_scompR2, w_forRD, w_forE, w_compE, w_scompE, w_intB, w_intI, w_bitlen, w_shr, w_isi_ii, w_isi_ib, w_isi_bb, w_isi_bi, w_isi_ss, w_isi_bs, w_isi_is, w_iteT, w_iteF, w_negE, w_bitI, w_str, Bool.not_true, Bool.not_false, w_next, w_asg, w_gname, w_var0, w_varS, w_c, w_op, w_ret, w_retN, w_drop, w_test, w_b, w_not, w_and, w_or, w_notV, w_andV, w_orV, w_nil, w_cons, w_cb, w_call, w_tup, w_lst, w_bm, w_bm0, w_true, w_dnew, w_dput, w_forL, w_forR1, w_forR2, w_compL, w_compR1, w_scompL, w_scompR1, w_add, w_sub, w_mul, w_div, w_mod, w_cmp, w_eqI, w_neI, w_eqB, w_neB, w_abs, w_min, w_sl, w_part, w_nopart, w_gsub, w_un, w_forS, w_compS, w_scompS, w_eqS, w_neS, w_lenS, w_addS, w_find,
  List.getElem?_cons_zero, List.getElem?_cons_succ, Option.some.injEq, exists_eq_left', exists_eq_left, List.set_cons_zero, List.set_cons_succ, bnd_some, V.int.injEq, V.bl.injEq, V.ref.injEq, V.str.injEq, List.nil_append, List.cons_append] | dsimp only | skip))
def nC (n : Nat) : List Nat := (Nat.toDigits 10 n).map Char.toNat
theorem nC_str (n : Nat) : Str.ofString (toString (n : Int)) = tx (nC n) := text_ofNat n
theorem nC_dig {n : Nat} : ∀ c ∈ nC n, 48 ≤ c ∧ c ≤ 57 := fun c hc => by
  obtain ⟨d, hd, rfl⟩ := List.mem_map.mp hc
  have := Nat.isDigit_of_mem_toDigits (by decide) (by decide) hd
  simp [Char.isDigit] at this
  obtain ⟨a, b⟩ := this
  have a' : '0'.toNat ≤ d.toNat := a
  have b' : d.toNat ≤ '9'.toNat := b
  exact ⟨a', b'⟩
theorem nC_ne {n : Nat} : nC n ≠ [] := by
  unfold nC
  intro h
  have h1 := List.map_eq_nil_iff.mp h
  have h2 := Nat.length_toDigits_pos (b := 10) (n := n)
  rw [h1] at h2
  exact absurd h2 (by decide)
theorem nC_len {n : Nat} (h : n < 1000000000) : (nC n).length ≤ 9 := by
  unfold nC
  rw [List.length_map]
  exact (Nat.length_toDigits_le_iff (by decide) (by decide)).mpr h
theorem nC_len1 {n : Nat} (h : n < 10) : nC n = [48 + n] := by
  unfold nC
  rw [Nat.toDigits_of_lt_base h]
  match n, h with
  | 0, _ => rfl
  | 1, _ => rfl
  | 2, _ => rfl
  | 3, _ => rfl
  | 4, _ => rfl
  | 5, _ => rfl
  | 6, _ => rfl
  | 7, _ => rfl
  | 8, _ => rfl
  | 9, _ => rfl
theorem nC_more {n : Nat} (h : ¬ n < 10) : nC n = nC (n / 10) ++ [48 + n % 10] := by
  have e := nC_len1 (n := n % 10) (Nat.mod_lt _ (by decide))
  have t := Nat.toDigits_eq_if (b := 10) (n := n) (by decide)
  rw [if_neg h] at t
  have d := Nat.toDigits_of_lt_base (b := 10) (n := n % 10) (Nat.mod_lt _ (by decide))
  unfold nC at e ⊢
  rw [d] at e
  rw [t, List.map_append, e]
theorem nC_head : ∀ {n : Nat}, (nC n).head? = some 48 → nC n = [48] := by
  intro n
  induction n using Nat.strongRecOn with
  | ind n ih =>
    intro h
    by_cases hn : n < 10
    · rw [nC_len1 hn] at h ⊢
      simp at h
      rw [h]
    · rw [nC_more hn] at h
      have hd : (nC (n / 10)).head? = some 48 := by
        cases e : nC (n / 10) with
        | nil => exact absurd e nC_ne
        | cons x r => rw [e] at h; exact h
      have := ih (n / 10) (by omega) hd
      have v : (nC (n / 10)).foldl (fun a c => 10 * a + (c - 48)) 0 = n / 10 := by
        unfold nC
        rw [List.foldl_map]
        exact Nat.ofDigitChars_toDigits (b := 10) (n := n / 10) (by decide) (by decide)
      rw [this] at v
      simp at v
      omega
theorem nC_val {n : Nat} : (nC n).foldl (fun a c => 10 * a + (c - 48)) 0 = n := by
  unfold nC
  rw [List.foldl_map]
  exact Nat.ofDigitChars_toDigits (b := 10) (n := n) (by decide) (by decide)
theorem numW_nC {n : Nat} (h : n < 1000000000) : numW (nC n) = some n := by
  unfold numW
  have h1 : badH (nC n) = false := by
    unfold badH
    rw [decide_eq_false nC_ne, decide_eq_false (show ¬ 9 < (nC n).length by have := nC_len h; omega)]
    by_cases e : (nC n).head? = some 48
    · rw [nC_head e]; rfl
    · rw [decide_eq_false e]; rfl
  rw [h1, if_neg Bool.false_ne_true, if_pos (List.all_eq_true.mpr fun c hc => by unfold digB; have := nC_dig c hc; simp [this]), nC_val]
theorem nC_not {n c : Nat} (h : c < 48) : c ∉ nC n := fun hc => by have := nC_dig c hc; omega
theorem n_log {n : Nat} (h : n < 1000000000) : ((n : Int)).natAbs.log2 < 1920 := by
  rw [Int.natAbs_natCast]
  by_cases h0 : n = 0
  · rw [h0]; decide
  · rw [Nat.log2_lt h0]
    exact Nat.lt_of_lt_of_le h (by decide +kernel)
inductive Th7 where
  | pl (w : List Nat) (a b c : Nat) (m : List Nat)
  | su (a b c : Nat) (bk : List Th7)
def supW : List Nat := [115, 117, 112, 112, 111, 115, 101]
def KW : List (List Nat) := [[99, 108, 117, 101], [111, 110, 108, 121], [112, 108, 97, 99, 101], [99, 111, 117, 110, 116], [115, 116, 101, 112], [115, 117, 109], [115, 113, 117, 97, 114, 101], [114, 101, 97, 99, 104], [116, 117, 114, 110], [112, 97, 105, 114], [119, 97, 121, 115]]
def Th7.w : Th7 → List Nat
  | .pl w _ _ _ _ => w
  | .su _ _ _ _ => supW
def Th7.a : Th7 → Nat
  | .pl _ a _ _ _ => a
  | .su a _ _ _ => a
def Th7.b : Th7 → Nat
  | .pl _ _ b _ _ => b
  | .su _ b _ _ => b
def Th7.c : Th7 → Nat
  | .pl _ _ _ c _ => c
  | .su _ _ c _ => c
def txI (T : List Th7 → List Nat) : Th7 → List Nat
  | .pl w a b c m => catL 32 (w :: (a :: b :: c :: m).map nC)
  | .su a b c bk => catL 32 [supW, nC a, nC b, nC c] ++ ([32, 40] ++ (T bk ++ [41]))
def txB : Nat → List Th7 → List Nat
  | 0, _ => []
  | n + 1, l => catS [59, 32] (l.map (txI (txB n)))
def OkI (P : List Th7 → Prop) : Th7 → Prop
  | .pl w a b c m => w ∈ KW ∧ a < 1000000000 ∧ b < 1000000000 ∧ c < 1000000000 ∧ m.length ≤ 4 ∧ ∀ x ∈ m, x < 1000000000
  | .su a b c bk => a < 1000000000 ∧ b < 1000000000 ∧ c < 1000000000 ∧ P bk
def OkB : Nat → List Th7 → Prop
  | 0, _ => False
  | n + 1, l => l.length ≤ 900 ∧ ∀ x ∈ l, OkI (OkB n) x
theorem OkI.ns {P : List Th7 → Prop} {x : Th7} (h : OkI P x) : x.a < 1000000000 ∧ x.b < 1000000000 ∧ x.c < 1000000000 := by
  cases x with
  | pl w a b c m => exact ⟨h.2.1, h.2.2.1, h.2.2.2.1⟩
  | su a b c bk => exact ⟨h.1, h.2.1, h.2.2.1⟩
theorem OkI.imp {P P' : List Th7 → Prop} {x : Th7} (f : ∀ l, P l → P' l) (h : OkI P x) : OkI P' x := by
  cases x with
  | pl w a b c m => exact h
  | su a b c bk => exact ⟨h.1, h.2.1, h.2.2.1, f _ h.2.2.2⟩
theorem OkB.up : ∀ {n : Nat} {l : List Th7}, OkB n l → OkB (n + 1) l
  | 0, _, h => h.elim
  | n + 1, l, h => ⟨h.1, fun x hx => (h.2 x hx).imp fun _ => OkB.up⟩
theorem txI_up {n : Nat} (ih : ∀ l, OkB n l → txB (n + 1) l = txB n l) {x : Th7} (h : OkI (OkB n) x) : txI (txB (n + 1)) x = txI (txB n) x := by
  cases x with
  | pl w a b c m => rfl
  | su a b c bk => show _ ++ (_ ++ (txB (n + 1) bk ++ _)) = _ ++ (_ ++ (txB n bk ++ _)); rw [ih _ h.2.2.2]
theorem txB_up : ∀ {n : Nat} {l : List Th7}, OkB n l → txB (n + 1) l = txB n l
  | 0, _, h => h.elim
  | n + 1, l, h => by
    show catS _ (l.map (txI (txB (n + 1)))) = catS _ (l.map (txI (txB n)))
    rw [List.map_congr_left fun x hx => txI_up (fun _ => txB_up) (h.2 x hx)]
theorem OkB.le {n m : Nat} {l : List Th7} (h : OkB n l) (k : n ≤ m) : OkB m l := by
  induction m with
  | zero => have : n = 0 := by omega
            subst this; exact h
  | succ m ih => by_cases e : n = m + 1
                 · subst e; exact h
                 · exact (ih (by omega)).up
theorem txB_le {n m : Nat} {l : List Th7} (h : OkB n l) (k : n ≤ m) : txB m l = txB n l := by
  induction m with
  | zero => have : n = 0 := by omega
            subst this; rfl
  | succ m ih => by_cases e : n = m + 1
                 · subst e; rfl
                 · rw [txB_up (h.le (by omega)), ih (by omega)]
def LowS (l : List Nat) : Prop := 40 ∉ l ∧ 41 ∉ l ∧ 59 ∉ l
instance {l : List Nat} : Decidable (LowS l) := by unfold LowS; infer_instance
theorem KW_low : ∀ w ∈ supW :: KW, LowS w ∧ 32 ∉ w ∧ w ≠ [] := by decide
theorem kw_low {w : List Nat} (h : w ∈ KW) : LowS w ∧ 32 ∉ w ∧ w ≠ [] := KW_low w (List.mem_cons_of_mem _ h)
theorem sup_low : LowS supW ∧ 32 ∉ supW ∧ supW ≠ [] := KW_low supW List.mem_cons_self
theorem nC_low {n : Nat} : LowS (nC n) := ⟨nC_not (by decide), nC_not (by decide), fun h => by have := nC_dig _ h; omega⟩
theorem LowS.cat {rows : List (List Nat)} (h : ∀ r ∈ rows, LowS r) : LowS (catL 32 rows) := by
  have key : ∀ (c : Nat), c ≠ 32 → (∀ r ∈ rows, c ∉ r) → c ∉ catL 32 rows := by
    intro c hc hr
    clear h
    induction rows with
    | nil => exact fun h => by cases h
    | cons x r ih =>
      cases r with
      | nil => exact hr x List.mem_cons_self
      | cons y r =>
        intro h
        rcases List.mem_append.mp (show c ∈ x ++ 32 :: catL 32 (y :: r) from h) with h | h
        · exact hr x List.mem_cons_self h
        · rcases List.mem_cons.mp h with h | h
          · exact hc h
          · exact ih (fun z hz => hr z (List.mem_cons_of_mem _ hz)) h
  exact ⟨key 40 (by decide) fun r hr => (h r hr).1, key 41 (by decide) fun r hr => (h r hr).2.1, key 59 (by decide) fun r hr => (h r hr).2.2⟩
theorem hd_low {w : List Nat} {ns : List Nat} (h : LowS w) : LowS (catL 32 (w :: ns.map nC)) := LowS.cat fun r hr => by
  rcases List.mem_cons.mp hr with rfl | hr
  · exact h
  · obtain ⟨n, _, rfl⟩ := List.mem_map.mp hr
    exact nC_low
theorem sup_hd_low {a b c : Nat} : LowS (catL 32 [supW, nC a, nC b, nC c]) := hd_low (ns := [a, b, c]) sup_low.1
def cnt9 (l : List Nat) : Int := (l.count 40 : Int) - (l.count 41 : Int)
theorem cnt9_app (a b : List Nat) : cnt9 (a ++ b) = cnt9 a + cnt9 b := by unfold cnt9; rw [List.count_append, List.count_append]; omega
theorem cnt9_low {l : List Nat} (h : LowS l) : cnt9 l = 0 := by unfold cnt9; rw [List.count_eq_zero.mpr h.1, List.count_eq_zero.mpr h.2.1]; rfl
def Gp : Int → List (List Nat) → Prop
  | _, [] => False
  | u, [p] => u + cnt9 p = 0
  | u, p :: q :: r => 0 < u + cnt9 p ∧ Gp (u + cnt9 p) (q :: r)
def Nn9 : Int → List (List Nat) → Prop
  | u, [] => u = 0
  | u, p :: r => 0 ≤ u + cnt9 p ∧ Nn9 (u + cnt9 p) r
theorem Gp.nn : ∀ {u : Int} {P : List (List Nat)}, Gp u P → Nn9 u P
  | _, [], h => h.elim
  | u, [p], h => ⟨by have : u + cnt9 p = 0 := h; omega, h⟩
  | u, p :: q :: r, h => ⟨by have := h.1; omega, Gp.nn h.2⟩
theorem Nn9.app : ∀ {u : Int} {A B : List (List Nat)}, Nn9 u A → Nn9 0 B → Nn9 u (A ++ B)
  | u, [], B, h, k => by have : u = 0 := h; subst this; exact k
  | u, p :: r, B, h, k => ⟨h.1, Nn9.app h.2 k⟩
def sufL (s : List Nat) : List (List Nat) → List (List Nat)
  | [] => []
  | [p] => [p ++ s]
  | p :: q :: r => p :: sufL s (q :: r)
def preL (h : List Nat) : List (List Nat) → List (List Nat)
  | [] => []
  | p :: r => (h ++ p) :: r
theorem sufL_ne {s : List Nat} : ∀ {L : List (List Nat)}, L ≠ [] → sufL s L ≠ []
  | [], h => absurd rfl h
  | [p], _ => by simp [sufL]
  | p :: q :: r, _ => by simp [sufL]
theorem preL_ne {s : List Nat} {L : List (List Nat)} (h : L ≠ []) : preL s L ≠ [] := by cases L with
  | nil => exact absurd rfl h
  | cons p r => simp [preL]
theorem suf_gp {s : List Nat} (hs : cnt9 s = -1) : ∀ {u : Int} {L : List (List Nat)}, L ≠ [] → Nn9 u L → Gp (u + 1) (sufL s L)
  | _, [], h, _ => absurd rfl h
  | u, [p], _, k => by
    have k2 : u + cnt9 p = 0 := k.2
    show u + 1 + cnt9 (p ++ s) = 0
    rw [cnt9_app]; omega
  | u, p :: q :: r, _, k => by
    have ih := suf_gp hs (L := q :: r) (by simp) k.2
    have k1 := k.1
    have e : sufL s (p :: q :: r) = p :: sufL s (q :: r) := rfl
    rw [e]
    cases e2 : sufL s (q :: r) with
    | nil => exact absurd e2 (sufL_ne (by simp))
    | cons x t =>
      rw [e2] at ih
      refine ⟨by omega, ?_⟩
      rw [show u + 1 + cnt9 p = u + cnt9 p + 1 by omega]
      exact ih
theorem pre_gp {h : List Nat} (hh : cnt9 h = 1) {u : Int} {L : List (List Nat)} (k : Gp (u + 1) L) : Gp u (preL h L) := by
  match L, k with
  | [p], k =>
    have k' : u + 1 + cnt9 p = 0 := k
    show u + cnt9 (h ++ p) = 0
    rw [cnt9_app]; omega
  | p :: q :: r, k =>
    have k1 : 0 < u + 1 + cnt9 p := k.1
    have k2 := k.2
    refine ⟨by rw [cnt9_app]; omega, ?_⟩
    rw [cnt9_app, show u + (cnt9 h + cnt9 p) = u + 1 + cnt9 p by omega]
    exact k2
def PcI (T : List Th7 → List (List Nat)) : Th7 → List (List Nat)
  | .pl w a b c m => [catL 32 (w :: (a :: b :: c :: m).map nC)]
  | .su a b c bk => preL (catL 32 [supW, nC a, nC b, nC c] ++ [32, 40]) (sufL [41] (T bk))
def PcB : Nat → List Th7 → List (List Nat)
  | 0, _ => [[]]
  | _ + 1, [] => [[]]
  | n + 1, x :: r => ((x :: r).map (PcI (PcB n))).flatten
theorem PcI_ne {T : List Th7 → List (List Nat)} (h : ∀ l, T l ≠ []) {x : Th7} : PcI T x ≠ [] := by
  cases x with
  | pl w a b c m => simp [PcI]
  | su a b c bk => exact preL_ne (sufL_ne (h bk))
theorem PcB_ne : ∀ {n : Nat} {l : List Th7}, PcB n l ≠ []
  | 0, _ => by simp [PcB]
  | _ + 1, [] => by simp [PcB]
  | n + 1, x :: r => by
    show ((x :: r).map (PcI (PcB n))).flatten ≠ []
    rw [List.map_cons, List.flatten_cons]
    intro h
    exact PcI_ne (T := PcB n) (fun l => PcB_ne) (List.append_eq_nil_iff.mp h).1
theorem catS_suf {s t : List Nat} : ∀ {L : List (List Nat)}, L ≠ [] → catS s (sufL t L) = catS s L ++ t
  | [], h => absurd rfl h
  | [p], _ => rfl
  | p :: q :: r, _ => by
    have ih := catS_suf (s := s) (t := t) (L := q :: r) (by simp)
    have e : sufL t (p :: q :: r) = p :: sufL t (q :: r) := rfl
    rw [e]
    cases e2 : sufL t (q :: r) with
    | nil => exact absurd e2 (sufL_ne (by simp))
    | cons x y =>
      rw [e2] at ih
      show p ++ (s ++ catS s (x :: y)) = (p ++ (s ++ catS s (q :: r))) ++ t
      rw [ih]; simp
theorem catS_pre {s t : List Nat} {L : List (List Nat)} (h : L ≠ []) : catS s (preL t L) = t ++ catS s L := by
  match L, h with
  | [p], _ => rfl
  | p :: q :: r, _ => show (t ++ p) ++ (s ++ catS s (q :: r)) = t ++ (p ++ (s ++ catS s (q :: r))); simp
theorem catS_app {s : List Nat} : ∀ {A B : List (List Nat)}, A ≠ [] → B ≠ [] → catS s (A ++ B) = catS s A ++ (s ++ catS s B)
  | [], _, h, _ => absurd rfl h
  | [p], b :: B, _, _ => rfl
  | [p], [], _, h => absurd rfl h
  | p :: q :: r, B, _, hb => by
    have ih := catS_app (s := s) (A := q :: r) (B := B) (by simp) hb
    show p ++ (s ++ catS s ((q :: r) ++ B)) = (p ++ (s ++ catS s (q :: r))) ++ (s ++ catS s B)
    rw [ih]; simp
theorem catS_flat {s : List Nat} : ∀ {LL : List (List (List Nat))}, (∀ L ∈ LL, L ≠ []) → catS s LL.flatten = catS s (LL.map (catS s))
  | [], _ => rfl
  | [L], h => by simp [catS]
  | L :: M :: r, h => by
    have ih := catS_flat (s := s) (LL := M :: r) fun x hx => h x (List.mem_cons_of_mem _ hx)
    have hm : (M :: r).flatten ≠ [] := by rw [List.flatten_cons]; intro e; exact h M (by simp) (List.append_eq_nil_iff.mp e).1
    rw [List.flatten_cons, catS_app (h L List.mem_cons_self) hm, ih]
    rfl
theorem PcI_cat {T : List Th7 → List (List Nat)} {U : List Th7 → List Nat} (hne : ∀ l, T l ≠ []) (h : ∀ l, catS [59, 32] (T l) = U l) {x : Th7} : catS [59, 32] (PcI T x) = txI U x := by
  cases x with
  | pl w a b c m => rfl
  | su a b c bk =>
    show catS _ (preL _ (sufL _ _)) = _ ++ (_ ++ (U bk ++ _))
    rw [catS_pre (sufL_ne (hne bk)), catS_suf (hne bk), h]; simp
theorem PcB_cat : ∀ {n : Nat} {l : List Th7}, catS [59, 32] (PcB n l) = txB n l
  | 0, _ => rfl
  | _ + 1, [] => rfl
  | n + 1, x :: r => by
    show catS _ ((x :: r).map (PcI (PcB n))).flatten = catS _ ((x :: r).map (txI (txB n)))
    rw [catS_flat (fun L hL => by obtain ⟨y, _, rfl⟩ := List.mem_map.mp hL; exact PcI_ne fun l => PcB_ne), List.map_map]
    congr 1
    exact List.map_congr_left fun y _ => PcI_cat (fun l => PcB_ne) fun l => PcB_cat
theorem PcI_gp {T : List Th7 → List (List Nat)} (hne : ∀ l, T l ≠ []) {P : List Th7 → Prop} (h : ∀ l, P l → Nn9 0 (T l)) {x : Th7} (o : OkI P x) : Gp 0 (PcI T x) := by
  cases x with
  | pl w a b c m => show (0 : Int) + cnt9 _ = 0; rw [cnt9_low (hd_low (kw_low o.1).1)]; rfl
  | su a b c bk =>
    refine pre_gp ?_ (suf_gp (by decide) (hne bk) (h bk o.2.2.2))
    rw [cnt9_app, cnt9_low sup_hd_low]; decide
theorem PcB_nn : ∀ {n : Nat} {l : List Th7}, OkB n l → Nn9 0 (PcB n l)
  | 0, _, h => h.elim
  | _ + 1, [], _ => ⟨by decide, rfl⟩
  | n + 1, x :: r, h => by
    show Nn9 0 ((x :: r).map (PcI (PcB n))).flatten
    have key : ∀ l : List Th7, (∀ y ∈ l, OkI (OkB n) y) → Nn9 0 (l.map (PcI (PcB n))).flatten := by
      intro l
      induction l with
      | nil => exact fun _ => rfl
      | cons y t ih =>
        intro hy
        rw [List.map_cons, List.flatten_cons]
        exact (PcI_gp (fun l => PcB_ne) (fun l => PcB_nn) (hy y List.mem_cons_self)).nn.app (ih fun z hz => hy z (List.mem_cons_of_mem _ hz))
    exact key _ h.2
theorem suf_free {c : Nat} {s : List Nat} (hs : c ∉ s) : ∀ {L : List (List Nat)}, (∀ p ∈ L, c ∉ p) → ∀ p ∈ sufL s L, c ∉ p
  | [], _, p, hp => by cases hp
  | [q], h, p, hp => by
    rw [List.mem_singleton.mp hp]
    intro e
    rcases List.mem_append.mp e with e | e
    · exact h q List.mem_cons_self e
    · exact hs e
  | q :: q2 :: r, h, p, hp => by
    rcases List.mem_cons.mp (show p ∈ q :: sufL s (q2 :: r) from hp) with rfl | hp
    · exact h _ List.mem_cons_self
    · exact suf_free hs (fun z hz => h z (List.mem_cons_of_mem _ hz)) p hp
theorem pre_free {c : Nat} {s : List Nat} (hs : c ∉ s) {L : List (List Nat)} (h : ∀ p ∈ L, c ∉ p) : ∀ p ∈ preL s L, c ∉ p := by
  cases L with
  | nil => intro p hp; cases hp
  | cons q r =>
    intro p hp e
    rcases List.mem_cons.mp (show p ∈ (s ++ q) :: r from hp) with rfl | hp
    · rcases List.mem_append.mp e with e | e
      · exact hs e
      · exact h q List.mem_cons_self e
    · exact h p (List.mem_cons_of_mem _ hp) e
theorem PcI_free {T : List Th7 → List (List Nat)} {P : List Th7 → Prop} (h : ∀ l, P l → ∀ p ∈ T l, 59 ∉ p) {x : Th7} (o : OkI P x) : ∀ p ∈ PcI T x, 59 ∉ p := by
  cases x with
  | pl w a b c m => intro p hp; rw [List.mem_singleton.mp hp]; exact (hd_low (ns := a :: b :: c :: m) (kw_low o.1).1).2.2
  | su a b c bk =>
    refine pre_free ?_ (suf_free (by decide) (h bk o.2.2.2))
    intro e
    rcases List.mem_append.mp e with e | e
    · exact sup_hd_low.2.2 e
    · revert e; decide
theorem PcB_free : ∀ {n : Nat} {l : List Th7}, OkB n l → ∀ p ∈ PcB n l, 59 ∉ p
  | 0, _, h => h.elim
  | _ + 1, [], _ => fun p hp => by rw [List.mem_singleton.mp hp]; decide
  | n + 1, x :: r, h => fun p hp => by
    obtain ⟨L, hL, hp⟩ := List.mem_flatten.mp (show p ∈ ((x :: r).map (PcI (PcB n))).flatten from hp)
    obtain ⟨y, hy, rfl⟩ := List.mem_map.mp hL
    exact PcI_free (fun l => PcB_free) (h.2 y hy) p hp
def tt9 (s : List (List Nat) × List (List Nat) × Int) (p : List Nat) : List (List Nat) × List (List Nat) × Int :=
  if s.2.2 + cnt9 p = 0 then (s.1 ++ [catS [59, 32] (s.2.1 ++ [p])], [], 0) else (s.1, s.2.1 ++ [p], s.2.2 + cnt9 p)
theorem tt9_gp : ∀ {P : List (List Nat)} {f h : List (List Nat)} {u : Int}, Gp u P → P.foldl tt9 (f, h, u) = (f ++ [catS [59, 32] (h ++ P)], [], 0)
  | [], _, _, _, g => g.elim
  | [p], f, h, u, g => by
    have g' : u + cnt9 p = 0 := g
    show tt9 (f, h, u) p = _
    unfold tt9
    rw [if_pos g']
  | p :: q :: r, f, h, u, g => by
    have g1 : 0 < u + cnt9 p := g.1
    show (q :: r).foldl tt9 (tt9 (f, h, u) p) = _
    have e : tt9 (f, h, u) p = (f, h ++ [p], u + cnt9 p) := by unfold tt9; rw [if_neg (show ¬ u + cnt9 p = 0 by omega)]
    rw [e, tt9_gp g.2]
    simp
theorem tt9_all {n : Nat} : ∀ {l : List Th7} {f : List (List Nat)}, (∀ x ∈ l, OkI (OkB n) x) → ((l.map (PcI (PcB n))).flatten).foldl tt9 (f, [], 0) = (f ++ l.map (txI (txB n)), [], 0)
  | [], f, _ => by simp
  | x :: r, f, h => by
    rw [List.map_cons, List.flatten_cons, List.foldl_append, tt9_gp (PcI_gp (fun l => PcB_ne) (fun l => PcB_nn) (h x List.mem_cons_self)), tt9_all fun y hy => h y (List.mem_cons_of_mem _ hy)]
    rw [List.nil_append, PcI_cat (fun l => PcB_ne) fun l => PcB_cat]
    simp
theorem txI_ne {T : List Th7 → List Nat} {P : List Th7 → Prop} {x : Th7} (o : OkI P x) : txI T x ≠ [] := by
  cases x with
  | pl w a b c m =>
    have := (kw_low o.1).2.2
    intro e
    have e' : w ++ 32 :: catL 32 (nC a :: nC b :: nC c :: m.map nC) = [] := e
    simp at e'
  | su a b c bk =>
    intro e
    have e' : catL 32 [supW, nC a, nC b, nC c] ++ ([32, 40] ++ (T bk ++ [41])) = [] := e
    simp at e'
theorem txB_nil {n : Nat} {l : List Th7} (h : OkB n l) : txB n l = [] ↔ l = [] := by
  match n, l, h with
  | n + 1, [], h => exact ⟨fun _ => rfl, fun _ => rfl⟩
  | n + 1, [x], h => exact ⟨fun e => absurd e (txI_ne (h.2 x List.mem_cons_self)), fun e => by cases e⟩
  | n + 1, x :: y :: r, h =>
    refine ⟨fun e => ?_, fun e => by cases e⟩
    have e' : txI (txB n) x ++ ([59, 32] ++ catS [59, 32] ((y :: r).map (txI (txB n)))) = [] := e
    simp at e'
end L2
set_option Elab.async false
set_option linter.all false
set_option maxRecDepth 100000
namespace L2
open PySem PySem.Spec PyProof.Rows
open Builtin Builtin.Str
section
variable {X : Cx}
def kStarts : V → List V → Hp → VK → Prop
  | .str x, [.str y], H, Q => Q (.bl (Txt.startswith x y)) H
  | _, _, _, _ => False
theorem mt_kStarts : MtR X "str.startswith" kStarts := by
  intro pins s σ H x vs v us Q I rx rv h
  unfold kStarts at h
  split at h
  · obtain ⟨t, rfl⟩ := rx
    obtain ⟨u, rfl, ru⟩ := vals1 rv
    obtain ⟨t2, rfl⟩ := ru
    exact SC.startswith ⟨.bl _, H, I, rfl, h⟩
  · exact h.elim
def kEnds : V → List V → Hp → VK → Prop
  | .str x, [.str y], H, Q => Q (.bl (Txt.endswith x y)) H
  | _, _, _, _ => False
theorem mt_kEnds : MtR X "str.endswith" kEnds := by
  intro pins s σ H x vs v us Q I rx rv h
  unfold kEnds at h
  split at h
  · obtain ⟨t, rfl⟩ := rx
    obtain ⟨u, rfl, ru⟩ := vals1 rv
    obtain ⟨t2, rfl⟩ := ru
    exact SC.endswith ⟨.bl _, H, I, rfl, h⟩
  · exact h.elim
def kCountS : V → List V → Hp → VK → Prop
  | .str x, [.str y], H, Q => Q (.int (Txt.count x y)) H
  | _, _, _, _ => False
theorem mt_kCountS : MtR X "str.count" kCountS := by
  intro pins s σ H x vs v us Q I rx rv h
  unfold kCountS at h
  split at h
  · obtain ⟨t, rfl⟩ := rx
    obtain ⟨u, rfl, ru⟩ := vals1 rv
    obtain ⟨t2, rfl⟩ := ru
    exact SC.count ⟨.int _, H, I.tok _, ⟨_, rfl⟩, h⟩
  · exact h.elim
def kPart : V → List V → Hp → VK → Prop
  | .str x, [.str y], H, Q => (y.length == 0) = false ∧ x.length ≤ sizeLine ∧ ∀ l, H l = none → Q (.ref l) (upd H l (.tup [.str (Txt.partition x y).1, .str (Txt.partition x y).2.1, .str (Txt.partition x y).2.2]))
  | _, _, _, _ => False
theorem mt_kPart : MtR X "str.partition" kPart := by
  intro pins s σ H x vs v us Q I rx rv h
  unfold kPart at h
  split at h
  · rename_i x y
    obtain ⟨t, rfl⟩ := rx
    obtain ⟨u, rfl, ru⟩ := vals1 rv
    obtain ⟨t2, rfl⟩ := ru
    obtain ⟨hy, hx, q⟩ := h
    obtain ⟨raising, htree⟩ := partition_tree x y t t2
    refine wpAny_call_entry F.slot_str_partition (show s.TypeIs (.str x t) "str" from rfl) F.entry_str_partition ?_ (F.args_str_partition_2 _ _)
    rw [htree, hy]
    show wpAny _ _ (match occurrences x y 0 x.length 1 with
     | i :: _ => (do ret (← newTuple [← mkStr (strSub x 0 i), .str y t2, ← mkStr (strSub x (i + y.length) x.length)]))
     | [] => (do rule "str.partition.not-found"; let empty ← mkStr Str.empty; ret (← newTuple [.str x t, empty, empty]))) _ _ s
    have fin : ∀ (a b c : Str) (ta tb tc : Tok) (k : Nat), Txt.partition x y = (a, b, c) → EP X pins σ Q (.ref s.heap.objs.size) { s with heap := s.heap.push { cls := .type "tuple", data := .seq [.str a ta, .str b tb, .str c tc].toArray }, toks := k } := fun a b c ta tb tc k e => by
      rw [e] at q
      refine ⟨.ref s.heap.objs.size, _, I.laid (t' := k) (o := .tup [.str a, .str b, .str c]) (fun b ob q => Heap.get?_push_of_some _ q) (Nat.le_refl _) ?_, rfl, q _ (I.hok.fresh (Nat.le_refl _))⟩
      exact ⟨by show 3 ≤ sizeLine; decide, _, .cons ⟨ta, rfl⟩ (.cons ⟨tb, rfl⟩ (.cons ⟨tc, rfl⟩ .nil)), IsTup.new _ _⟩
    have ep : ∀ l, occurrences x y 0 x.length 1 = l → Txt.partition x y = (match l with | i :: _ => (strSub x 0 i, y, strSub x (i + y.length) x.length) | [] => (x, Str.empty, Str.empty)) := fun l e => by unfold Txt.partition; rw [e]; cases l <;> rfl
    cases ho : occurrences x y 0 x.length 1 with
    | nil =>
      have e := ep _ ho
      exact wpAny_bind (wpAny_rule (wpAny_bind (wpAny_mkStr (wpAny_bind (wpAny_newTuple (wpAny_pure ⟨_, rfl, fin _ _ _ _ _ _ _ e⟩) (by show 3 ≤ sizeLine; decide))) (by decide))))
    | cons i r =>
      have e := ep _ ho
      exact wpAny_bind (wpAny_mkStr (wpAny_bind (wpAny_mkStr (wpAny_bind (wpAny_newTuple (wpAny_pure ⟨_, rfl, fin _ _ _ _ _ _ _ e⟩) (by show 3 ≤ sizeLine; decide))) (Nat.le_trans (strSub_length_le ..) hx))) (Nat.le_trans (strSub_length_le ..) hx))
  · exact h.elim
end
end L2
set_option Elab.async false
set_option linter.all false
set_option maxRecDepth 100000
namespace L2
open PySem PySem.Spec PyProof.Rows
local macro_rules | `(tactic| walk_at "w") => `(tactic| (first | simp only [w_seq, w_make, w_inG, w_lenset, w_revL, w_int2B, w_int2I, w_max, w_isN, w_notN, w_pow, if_true, if_false, Bool.false_eq_true, decide_true, decide_false, w_lrng1, w_lrng2, w_ifE, w_compR2, w_scompR2, w_forRD, w_forE, w_compE, w_scompE, w_intB, w_intI, w_bitlen, w_shr, w_isi_ii, w_isi_ib, w_isi_bb, w_isi_bi, w_isi_ss, w_isi_bs, w_isi_is, w_iteT, w_iteF, w_negE, w_bitI, w_str, Bool.not_true, Bool.not_false, w_next, w_asg, w_gname, w_var0, w_varS, w_c, w_op, w_ret, w_retN, w_drop, w_test, w_b, w_not, w_and, w_or, w_notV, w_andV, w_orV, w_nil, w_cons, w_cb, w_call, w_tup, w_lst, w_bm, w_bm0, w_true, w_dnew, w_dput, w_forL, w_forR1, w_forR2, w_compL, w_compR1, w_scompL, w_scompR1, w_add, w_sub, w_mul, w_div, w_mod, w_cmp, w_eqI, w_neI, w_eqB, w_neB, w_abs, w_min, w_sl, w_part, w_nopart, w_gsub, w_un, w_forS, w_compS, w_scompS, w_eqS, w_neS, w_lenS, w_addS, w_find,
  List.getElem?_cons_zero, List.getElem?_cons_succ, Option.some.injEq, exists_eq_left', exists_eq_left, List.set_cons_zero, List.set_cons_succ, bnd_some, V.int.injEq, V.bl.injEq, V.ref.injEq, V.str.injEq, List.nil_append, List.cons_append] | dsimp only | skip))
inductive PzK where
  | Puzzle
  deriving DecidableEq
end L2
set_option Elab.async false
set_option linter.all false
set_option maxRecDepth 100000
namespace L2
open PySem PySem.Spec PyProof.Rows
local macro_rules | `(tactic| walk_at "w") => `(tactic| (first | simp only [w_seq, if_true, if_false, Bool.false_eq_true, decide_true, decide_false, w_lrng1, w_lrng2, w_ifE, w_compR2, w_scompR2, w_forRD, w_forE, w_compE, w_scompE, w_intB, w_intI, w_bitlen, w_shr, w_isi_ii, w_isi_ib, w_isi_bb, w_isi_bi, w_isi_ss, w_isi_bs, w_isi_is, w_iteT, w_iteF, w_negE, w_bitI, w_str, Bool.not_true, Bool.not_false, w_next, w_asg, w_gname, w_var0, w_varS, w_c, w_op, w_ret, w_retN, w_drop, w_test, w_b, w_not, w_and, w_or, w_notV, w_andV, w_orV, w_nil, w_cons, w_cb, w_call, w_tup, w_lst, w_bm, w_bm0, w_true, w_dnew, w_dput, w_forL, w_forR1, w_forR2, w_compL, w_compR1, w_scompL, w_scompR1, w_add, w_sub, w_mul, w_div, w_mod, w_cmp, w_eqI, w_neI, w_eqB, w_neB, w_abs, w_min, w_sl, w_part, w_nopart, w_gsub, w_un, w_forS, w_compS, w_scompS, w_eqS, w_neS, w_lenS, w_addS, w_find,
  List.getElem?_cons_zero, List.getElem?_cons_succ, Option.some.injEq, exists_eq_left', exists_eq_left, List.set_cons_zero, List.set_cons_succ, bnd_some, V.int.injEq, V.bl.injEq, V.ref.injEq, V.str.injEq, List.nil_append, List.cons_append] | dsimp only | skip))
end L2
set_option Elab.async false
set_option linter.all false
set_option maxRecDepth 100000
namespace L2
open PySem PySem.Spec PyProof.Rows
local macro_rules | `(tactic| walk_at "w") => `(tactic| (first | simp only [w_seq, w_make, w_inG, w_lenset, w_revL, w_int2B, w_int2I, w_max, w_isN, w_notN, w_pow, if_true, if_false, Bool.false_eq_true, decide_true, decide_false, w_lrng1, w_lrng2, w_ifE, w_compR2, w_scompR2, w_forRD, w_forE, w_compE, w_scompE, w_intB, w_intI, w_bitlen, w_shr, w_isi_ii, w_isi_ib, w_isi_bb, w_isi_bi, w_isi_ss, w_isi_bs, w_isi_is, w_iteT, w_iteF, w_negE, w_bitI, w_str, Bool.not_true, Bool.not_false, w_next, w_asg, w_gname, w_var0, w_varS, w_c, w_op, w_ret, w_retN, w_drop, w_test, w_b, w_not, w_and, w_or, w_notV, w_andV, w_orV, w_nil, w_cons, w_cb, w_call, w_tup, w_lst, w_bm, w_bm0, w_true, w_dnew, w_dput, w_forL, w_forR1, w_forR2, w_compL, w_compR1, w_scompL, w_scompR1, w_add, w_sub, w_mul, w_div, w_mod, w_cmp, w_eqI, w_neI, w_eqB, w_neB, w_abs, w_min, w_sl, w_part, w_nopart, w_gsub, w_un, w_forS, w_compS, w_scompS, w_eqS, w_neS, w_lenS, w_addS, w_find,
  List.getElem?_cons_zero, List.getElem?_cons_succ, Option.some.injEq, exists_eq_left', exists_eq_left, List.set_cons_zero, List.set_cons_succ, bnd_some, V.int.injEq, V.bl.injEq, V.ref.injEq, V.str.injEq, List.nil_append, List.cons_append] | dsimp only | skip))
def gt_KINDS : List Str := [tx [99, 108, 117, 101], tx [111, 110, 108, 121], tx [112, 108, 97, 99, 101], tx [99, 111, 117, 110, 116], tx [115, 116, 101, 112], tx [115, 117, 109], tx [115, 113, 117, 97, 114, 101], tx [114, 101, 97, 99, 104], tx [116, 117, 114, 110], tx [112, 97, 105, 114], tx [119, 97, 121, 115]]
def lawCA (ns : List Int) (k : Int) : Int := if (ns.length : Int) = 0 then (k * k * 40692 + 7 * k) % 2147483647 else
  if k < (ns.length : Int) then ns.getD (k % ns.length).toNat 0 % 2305843009213693951 else (ns.getD (k % ns.length).toNat 0 % 2305843009213693951 * 48271 + k * k * 40692) % 2305843009213693951
theorem lawCA_nn (ns : List Int) (k : Int) : 0 ≤ lawCA ns k := by
  unfold lawCA
  split
  · exact Int.emod_nonneg _ (by decide)
  · split
    · exact Int.emod_nonneg _ (by decide)
    · exact Int.emod_nonneg _ (by decide)
def sp__law_cell_at (K : PySem.W.Frag) : Sp := fun vs H Q _ => ∃ (a : Addr) (ns : List Int) (k : Int), vs = [.ref a, .int k] ∧ SqL K H a (ns.map V.int) ∧ ns.length ≤ 63 ∧ 0 ≤ k ∧ k ≤ 10000 ∧ Q (.int (lawCA ns k)) H
def rd__law_cell_at (K : PySem.W.Frag) : TS :=
  (tSeq (tIfS (tTest (tOp (cEq K) (tCB (kLenS K) (tCons (tVar 0) tNil)) (tC (.int 0)))) (tRet (tOp cMod (tOp cAdd (tOp cMul (tOp cMul (tVar 1) (tVar 1)) (tC (.int 40692))) (tOp cMul (tC (.int 7)) (tVar 1))) (tC (.int 2147483647)))) tNext)
    (tSeq (tAsg (tOp cMod (tOp (rIxL K) (tVar 0) (tOp cMod (tVar 1) (tCB (kLenS K) (tCons (tVar 0) tNil)))) (tC (.int 2305843009213693951))) (gName 2))
    (tSeq (tIfS (tTest (tOp (cCmp fun i j => decide (i < j)) (tVar 1) (tCB (kLenS K) (tCons (tVar 0) tNil)))) (tRet (tVar 2)) tNext)
    (tRet (tOp cMod (tOp cAdd (tOp cMul (tVar 2) (tC (.int 48271))) (tOp cMul (tOp cMul (tVar 1) (tVar 1)) (tC (.int 40692)))) (tC (.int 2305843009213693951)))))))
theorem rk__law_cell_at {K : PySem.W.Frag} {vs : List V} {H : Hp} {Q : VK} {E : XK} (h : sp__law_cell_at K vs H Q E) : rd__law_cell_at K { nx := fun _ H' => Q .non H', rt := Q } (start ["_law_script", "_law_k", "_law_number_here"] vs) H := by
  obtain ⟨a, ns, k, rfl, hS, hn, k0, k1, q⟩ := h
  have kk : k * k ≤ 10000 * 10000 := Int.mul_le_mul k1 k1 k0 (by decide)
  have kk0 : 0 ≤ k * k := Int.mul_nonneg k0 k0
  show rd__law_cell_at K _ [some (.ref a), some (.int k), none] H
  unfold rd__law_cell_at
  rw [w_seq, w_if]
  walk_at "w"
  refine ⟨a, _, rfl, .inl hS, ?_⟩
  walk_at "w"
  rw [List.length_map]
  unfold lawCA at q
  by_cases hl : (ns.length : Int) = 0
  · rw [if_pos hl] at q
    rw [decide_eq_true hl]
    refine iteT ⟨.inl ⟨by omega, by omega⟩, .inr ⟨by decide, by decide⟩, .inl ⟨by decide, by decide⟩, ?_⟩
    walk_at "w"
    exact ⟨by decide, q⟩
  · rw [if_neg hl] at q
    rw [decide_eq_false hl]
    have hpos : 0 < (ns.length : Int) := by omega
    refine iteF ⟨a, _, rfl, .inl hS, ?_⟩
    walk_at "w"
    rw [List.length_map]
    have m0 := Int.emod_nonneg k (Int.ne_of_gt hpos)
    have m1 := Int.emod_lt_of_pos k hpos
    refine ⟨hpos, a, _, _, _, rfl, rfl, hS, atI_ints m0 m1, ?_⟩
    walk_at "w"
    refine ⟨by decide, ?_⟩
    rw [w_if]
    walk_at "w"
    refine ⟨a, _, rfl, .inl hS, ?_⟩
    walk_at "w"
    rw [List.length_map]
    by_cases hk : k < (ns.length : Int)
    · rw [if_pos hk] at q
      rw [decide_eq_true hk]
      exact iteT q
    · rw [if_neg hk] at q
      rw [decide_eq_false hk]
      refine iteF ⟨.inr ⟨by decide, by decide⟩, .inl ⟨by omega, by omega⟩, .inr ⟨by decide, by decide⟩, ?_⟩
      walk_at "w"
      exact ⟨by decide, q⟩
end L2
set_option Elab.async false
set_option linter.all false
set_option maxRecDepth 100000
namespace L2
open PySem PySem.Spec PyProof.Rows
local macro_rules | `(tactic| walk_at "w") => `(tactic| (first | simp only [w_seq, w_next, w_asg, w_gname, w_var0, w_varS, w_c, w_op, w_ret, w_retN, w_drop, w_test, w_b, w_not, w_and, w_or, w_notV, w_andV, w_orV, w_nil, w_cons, w_cb, w_call, w_tup, w_lst, w_bm, w_bm0, w_true, w_dnew, w_dput, w_forL, w_forR1, w_forR2, w_compL, w_compR1, w_scompL, w_scompR1, w_add, w_sub, w_mul, w_div, w_mod, w_cmp, w_eqI, w_neI, w_eqB, w_neB, w_abs, w_min, w_sl, w_part, w_nopart, w_gsub, w_un, w_forS, w_compS, w_scompS, w_eqS, w_neS, w_lenS, w_addS, w_find,
  List.getElem?_cons_zero, List.getElem?_cons_succ, Option.some.injEq, exists_eq_left', exists_eq_left, List.set_cons_zero, List.set_cons_succ, bnd_some, V.int.injEq, V.bl.injEq, V.ref.injEq, V.str.injEq, List.nil_append, List.cons_append] | dsimp only | skip))
end L2
set_option Elab.async false
set_option linter.all false
set_option maxRecDepth 100000
namespace L2
open PySem PySem.Spec PyProof.Rows
local macro_rules | `(tactic| walk_at "w") => `(tactic| (first | simp only [w_seq, w_make, w_inG, w_lenset, w_revL, w_int2B, w_int2I, w_max, w_isN, w_notN, w_pow, if_true, if_false, Bool.false_eq_true, decide_true, decide_false, w_lrng1, w_lrng2, w_ifE, w_compR2, w_scompR2, w_forRD, w_forE, w_compE, w_scompE, w_intB, w_intI, w_bitlen, w_shr, w_isi_ii, w_isi_ib, w_isi_bb, w_isi_bi, w_isi_ss, w_isi_bs, w_isi_is, w_iteT, w_iteF, w_negE, w_bitI, w_str, Bool.not_true, Bool.not_false, w_next, w_asg, w_gname, w_var0, w_varS, w_c, w_op, w_ret, w_retN, w_drop, w_test, w_b, w_not, w_and, w_or, w_notV, w_andV, w_orV, w_nil, w_cons, w_cb, w_call, w_tup, w_lst, w_bm, w_bm0, w_true, w_dnew, w_dput, w_forL, w_forR1, w_forR2, w_compL, w_compR1, w_scompL, w_scompR1, w_add, w_sub, w_mul, w_div, w_mod, w_cmp, w_eqI, w_neI, w_eqB, w_neB, w_abs, w_min, w_sl, w_part, w_nopart, w_gsub, w_un, w_forS, w_compS, w_scompS, w_eqS, w_neS, w_lenS, w_addS, w_find,
  List.getElem?_cons_zero, List.getElem?_cons_succ, Option.some.injEq, exists_eq_left', exists_eq_left, List.set_cons_zero, List.set_cons_succ, bnd_some, V.int.injEq, V.bl.injEq, V.ref.injEq, V.str.injEq, List.nil_append, List.cons_append] | dsimp only | skip))
theorem catS_len {s : List Nat} {b : Nat} : ∀ {rs : List (List Nat)}, (∀ r ∈ rs, r.length ≤ b) → (catS s rs).length ≤ rs.length * (b + s.length)
  | [], _ => by simp [catS]
  | [x], h => by have := h x List.mem_cons_self; simp [catS]; omega
  | x :: y :: r, h => by
    have h1 := h x List.mem_cons_self
    have h2 := catS_len (s := s) (rs := y :: r) fun z hz => h z (List.mem_cons_of_mem _ hz)
    show (x ++ (s ++ catS s (y :: r))).length ≤ _
    rw [List.length_append, List.length_append, List.length_cons, Nat.succ_mul]
    omega
abbrev natV (m : List Nat) : List V := m.map fun (k : Nat) => V.int (k : Int)
def Th7.tl (P : Addr → List Th7 → Prop) (H : Hp) (q : Addr) : Th7 → Prop
  | .pl _ _ _ _ m => H q = some (.lst (natV m))
  | .su _ _ _ bk => P q bk
def IsI (D : Addr → Prop) (P : Addr → List Th7 → Prop) (H : Hp) (r : Addr) (x : Th7) : Prop :=
  D r ∧ ∃ q, D q ∧ H r = some (.tup [.str (tx x.w), .int (x.a : Nat), .int (x.b : Nat), .int (x.c : Nat), .ref q]) ∧ x.tl P H q
def IsB : Nat → (Addr → Prop) → Hp → Addr → List Th7 → Prop
  | 0, _, _, _, _ => False
  | n + 1, D, H, p, l => D p ∧ ∃ rs : List Addr, H p = some (.lst (rs.map V.ref)) ∧ rs.length = l.length ∧ ∀ (i : Nat) (r : Addr) (x : Th7), rs[i]? = some r → l[i]? = some x → IsI D (IsB n D H) H r x
abbrev IsJ (n : Nat) (D : Addr → Prop) (H : Hp) (r : Addr) (x : Th7) : Prop := IsI D (IsB n D H) H r x
abbrev DT : Addr → Prop := fun _ => True
abbrev DF (H : Hp) : Addr → Prop := fun b => H b = none
theorem IsI.frame {D D' : Addr → Prop} {H H' : Hp} {P P' : Addr → List Th7 → Prop} (d : ∀ b, D b → (∃ u, H b = some u) → D' b) (f : ∀ b u, D b → H b = some u → H' b = some u) (g : ∀ q l, P q l → P' q l) (lv : ∀ q l, P q l → ∃ u, H q = some u) {r : Addr} {x : Th7} (h : IsI D P H r x) : IsI D' P' H' r x := by
  obtain ⟨dr, q, dq, e, t⟩ := h
  cases x with
  | pl w a b c m => exact ⟨d r dr ⟨_, e⟩, q, d q dq ⟨_, t⟩, f _ _ dr e, f _ _ dq t⟩
  | su a b c bk => exact ⟨d r dr ⟨_, e⟩, q, d q dq (lv q bk t), f _ _ dr e, g q bk t⟩
theorem IsB.lv : ∀ {n : Nat} {D : Addr → Prop} {H : Hp} {p : Addr} {l : List Th7}, IsB n D H p l → ∃ u, H p = some u
  | 0, _, _, _, _, h => h.elim
  | n + 1, _, _, _, _, ⟨_, rs, e, _⟩ => ⟨_, e⟩
theorem IsB.fr : ∀ {n : Nat} {D D' : Addr → Prop} {H H' : Hp} {p : Addr} {l : List Th7}, (∀ b, D b → (∃ u, H b = some u) → D' b) → (∀ b u, D b → H b = some u → H' b = some u) → IsB n D H p l → IsB n D' H' p l
  | 0, _, _, _, _, _, _, _, _, h => h.elim
  | n + 1, D, D', H, H', p, l, d, f, ⟨dp, rs, e, el, k⟩ => ⟨d p dp ⟨_, e⟩, rs, f _ _ dp e, el, fun i r x hr hx => (k i r x hr hx).frame d f (fun q l' z => IsB.fr d f z) (fun q l' z => z.lv)⟩
theorem IsJ.fr {n : Nat} {D D' : Addr → Prop} {H H' : Hp} {r : Addr} {x : Th7} (d : ∀ b, D b → (∃ u, H b = some u) → D' b) (f : ∀ b u, D b → H b = some u → H' b = some u) (h : IsJ n D H r x) : IsJ n D' H' r x :=
  IsI.frame d f (fun q l' z => IsB.fr d f z) (fun q l' z => z.lv) h
theorem IsB.same {n : Nat} {D : Addr → Prop} {H H' : Hp} {p : Addr} {l : List Th7} (h : IsB n D H p l) (s : Same H H') : IsB n D H' p l := h.fr (fun _ z _ => z) fun b u _ e => s b u e
theorem IsJ.same {n : Nat} {D : Addr → Prop} {H H' : Hp} {p : Addr} {x : Th7} (h : IsJ n D H p x) (s : Same H H') : IsJ n D H' p x := IsJ.fr (fun _ z _ => z) (fun b u _ e => s b u e) h
theorem IsJ.top {n : Nat} {D : Addr → Prop} {H : Hp} {p : Addr} {x : Th7} (h : IsJ n D H p x) : IsJ n DT H p x := IsJ.fr (fun _ _ _ => trivial) (fun b u _ e => e) h
theorem IsI.up {D : Addr → Prop} {H : Hp} {P P' : Addr → List Th7 → Prop} (g : ∀ q l, P q l → P' q l) {r : Addr} {x : Th7} (h : IsI D P H r x) : IsI D P' H r x := by
  obtain ⟨dr, q, dq, e, t⟩ := h
  cases x with
  | pl w a b c m => exact ⟨dr, q, dq, e, t⟩
  | su a b c bk => exact ⟨dr, q, dq, e, g q bk t⟩
theorem IsB.up : ∀ {n : Nat} {D : Addr → Prop} {H : Hp} {p : Addr} {l : List Th7}, IsB n D H p l → IsB (n + 1) D H p l
  | 0, _, _, _, _, h => h.elim
  | n + 1, D, H, p, l, ⟨dp, rs, e, el, k⟩ => ⟨dp, rs, e, el, fun i r x hr hx => (k i r x hr hx).up fun q l' z => IsB.up z⟩
def IsT (n : Nat) (D : Addr → Prop) (H : Hp) (p : Addr) (l : List Th7) : Prop :=
  D p ∧ ∃ rs : List Addr, H p = some (.lst (rs.map V.ref)) ∧ rs.length = l.length ∧ ∀ (i : Nat) (r : Addr) (x : Th7), rs[i]? = some r → l[i]? = some x → IsJ n (fun b => D b ∧ b ≠ p) H r x
theorem IsT.b {n : Nat} {D : Addr → Prop} {H : Hp} {p : Addr} {l : List Th7} (h : IsT n D H p l) : IsB (n + 1) D H p l := by
  obtain ⟨dp, rs, e, el, k⟩ := h
  exact ⟨dp, rs, e, el, fun i r x hr hx => IsJ.fr (fun _ z _ => z.1) (fun b u _ e => e) (k i r x hr hx)⟩
def dI (T : List Th7 → PyData) : Th7 → PyData
  | .pl w a b c m => .tuple [.str (tx w), .int (a : Nat), .int (b : Nat), .int (c : Nat), .list (m.map fun (k : Nat) => PyData.int (k : Int))]
  | .su a b c bk => .tuple [.str (tx supW), .int (a : Nat), .int (b : Nat), .int (c : Nat), T bk]
def dB : Nat → List Th7 → PyData
  | 0, _ => .none
  | n + 1, l => .list (l.map (dI (dB n)))
theorem DVs.of {K : PySem.W.Frag} {H : Hp} : ∀ {xs : List V} {ds : List PyData}, xs.length = ds.length → (∀ (i : Nat) (x : V) (d : PyData), xs[i]? = some x → ds[i]? = some d → DV K H x d) → DVs K H xs ds
  | [], [], _, _ => .nil
  | [], _ :: _, h, _ => by cases h
  | _ :: _, [], h, _ => by cases h
  | x :: xs, d :: ds, h, k => .cons (k 0 x d rfl rfl) (DVs.of (Nat.succ.inj h) fun i x d hx hd => k (i + 1) x d hx hd)
theorem nat_dv {K : PySem.W.Frag} {H : Hp} : ∀ {m : List Nat}, DVs K H (natV m) (m.map fun (k : Nat) => PyData.int (k : Int))
  | [] => .nil
  | k :: r => .cons (.int _) nat_dv
theorem IsI.dv {K : PySem.W.Frag} {D : Addr → Prop} {H : Hp} {P : Addr → List Th7 → Prop} {T : List Th7 → PyData} (g : ∀ q l, P q l → DV K H (.ref q) (T l)) {r : Addr} {x : Th7} (h : IsI D P H r x) : DV K H (.ref r) (dI T x) := by
  obtain ⟨dr, q, dq, e, t⟩ := h
  cases x with
  | pl w a b c m => exact .tup (SqT.of e) (.cons (.str _) (.cons (.int _) (.cons (.int _) (.cons (.int _) (.cons (.lst (SqL.of t) nat_dv) .nil)))))
  | su a b c bk => exact .tup (SqT.of e) (.cons (.str _) (.cons (.int _) (.cons (.int _) (.cons (.int _) (.cons (g q bk t) .nil)))))
theorem IsB.dv {K : PySem.W.Frag} : ∀ {n : Nat} {D : Addr → Prop} {H : Hp} {p : Addr} {l : List Th7}, IsB n D H p l → DV K H (.ref p) (dB n l)
  | 0, _, _, _, _, h => h.elim
  | n + 1, D, H, p, l, ⟨dp, rs, e, el, k⟩ => by
    refine .lst (SqL.of e) (DVs.of (by simpa using el) fun i x d hx hd => ?_)
    rw [List.getElem?_map] at hx hd
    cases er : rs[i]? with
    | none => rw [er] at hx; cases hx
    | some r =>
      cases ex : l[i]? with
      | none => rw [ex] at hd; cases hd
      | some y =>
        rw [er] at hx; rw [ex] at hd
        cases hx; cases hd
        exact IsI.dv (fun q l' z => IsB.dv z) (k i r y er ex)
theorem eqvAll_refl : ∀ {ds : List PyData}, (∀ d ∈ ds, PyData.eqv d d = true) → PyData.eqvAll ds ds = true
  | [], _ => rfl
  | d :: r, h => by rw [PyData.eqvAll, h d List.mem_cons_self, eqvAll_refl fun x hx => h x (List.mem_cons_of_mem _ hx)]; rfl
theorem canAll : ∀ {ds : List PyData}, (∀ d ∈ ds, PyData.canLay0 d = true) → PyData.canLayAll0 ds = true
  | [], _ => rfl
  | d :: r, h => by rw [PyData.canLayAll0, h d List.mem_cons_self, canAll fun x hx => h x (List.mem_cons_of_mem _ hx)]; rfl
theorem depAll {k : Nat} : ∀ {ds : List PyData}, (∀ d ∈ ds, PyData.depth d ≤ k) → PyData.depthAll ds ≤ k
  | [], _ => Nat.zero_le _
  | d :: r, h => by rw [PyData.depthAll]; exact Nat.max_le.mpr ⟨h d List.mem_cons_self, depAll fun x hx => h x (List.mem_cons_of_mem _ hx)⟩
structure GoodD (k : Nat) (d : PyData) : Prop where
  q : PyData.eqv d d = true
  c : PyData.canLay0 d = true
  d : PyData.depth d ≤ k
theorem GoodD.shaped {k : Nat} {d : PyData} (g : GoodD k d) (h : k ≤ 64) : SeqAt.shaped d = true := by
  unfold SeqAt.shaped
  rw [g.c, decide_eq_true (Nat.le_trans g.d h)]; rfl
theorem GoodD.int {k : Nat} {i : Int} : GoodD k (.int i) := ⟨by simp [PyData.eqv], rfl, by simp [PyData.depth]⟩
theorem GoodD.str {k : Nat} {s : Str} (hs : PyData.canLay0 (.str s) = true) : GoodD k (.str s) := ⟨by simp [PyData.eqv], hs, by simp [PyData.depth]⟩
theorem GoodD.list {k : Nat} {ds : List PyData} (h : ∀ d ∈ ds, GoodD k d) : GoodD (k + 1) (.list ds) := ⟨by rw [PyData.eqv]; exact eqvAll_refl fun d hd => (h d hd).q, by rw [PyData.canLay0]; exact canAll fun d hd => (h d hd).c, by rw [PyData.depth]; have := depAll fun d hd => (h d hd).d; omega⟩
theorem GoodD.tuple {k : Nat} {ds : List PyData} (h : ∀ d ∈ ds, GoodD k d) : GoodD (k + 1) (.tuple ds) := ⟨by rw [PyData.eqv]; exact eqvAll_refl fun d hd => (h d hd).q, by rw [PyData.canLay0]; exact canAll fun d hd => (h d hd).c, by rw [PyData.depth]; have := depAll fun d hd => (h d hd).d; omega⟩
theorem good5 {k : Nat} {s : Str} {a b c : Int} {d : PyData} (hs : PyData.canLay0 (.str s) = true) (h : GoodD k d) : GoodD (k + 1) (.tuple [.str s, .int a, .int b, .int c, d]) := GoodD.tuple fun x hx => by
  rcases List.mem_cons.mp hx with rfl | hx
  · exact .str hs
  rcases List.mem_cons.mp hx with rfl | hx
  · exact .int
  rcases List.mem_cons.mp hx with rfl | hx
  · exact .int
  rcases List.mem_cons.mp hx with rfl | hx
  · exact .int
  rw [List.mem_singleton.mp hx]; exact h
theorem kw_lay : ∀ w ∈ supW :: KW, PyData.canLay0 (.str (tx w)) = true := by decide +kernel
theorem good_I {k : Nat} {P : List Th7 → Prop} {T : List Th7 → PyData} (h : ∀ l, P l → GoodD (k + 1) (T l)) {x : Th7} (o : OkI P x) : GoodD (k + 2) (dI T x) := by
  cases x with
  | pl w a b c m => exact good5 (kw_lay _ (List.mem_cons_of_mem _ o.1)) (GoodD.list fun d hd => by obtain ⟨_, _, rfl⟩ := List.mem_map.mp hd; exact .int)
  | su a b c bk => exact good5 (kw_lay _ List.mem_cons_self) (h bk o.2.2.2)
theorem good_B : ∀ {n : Nat} {l : List Th7}, OkB n l → GoodD (2 * n + 1) (dB n l)
  | 0, _, h => h.elim
  | n + 1, l, h => by
    have : GoodD (2 * n + 2 + 1) (.list (l.map (dI (dB n)))) := GoodD.list fun d hd => by
      obtain ⟨x, hx, rfl⟩ := List.mem_map.mp hd
      exact good_I (fun l' z => good_B z) (h.2 x hx)
    exact this
theorem w_eqB70 {K : PySem.W.Frag} {n : Nat} {D D' : Addr → Prop} {H : Hp} {Q : VK} {p q : Addr} {l : List Th7} (o : OkB n l) (hn : n ≤ 16) (hp : IsB n D H p l) (hq : IsB n D' H q l) (k : Q (.bl true) H) : cEq K (.ref p) (.ref q) H Q := by
  have g := good_B o
  refine ⟨_, _, hp.dv, hq.dv, g.shaped (by omega), g.shaped (by omega), ?_⟩
  rw [g.q]; exact k
theorem w_neB70 {K : PySem.W.Frag} {n : Nat} {D D' : Addr → Prop} {H : Hp} {Q : VK} {p q : Addr} {l : List Th7} (o : OkB n l) (hn : n ≤ 16) (hp : IsB n D H p l) (hq : IsB n D' H q l) (k : Q (.bl false) H) : cNe K (.ref p) (.ref q) H Q := by
  have g := good_B o
  refine ⟨_, _, hp.dv, hq.dv, g.shaped (by omega), g.shaped (by omega), ?_⟩
  rw [g.q]; exact k
theorem compG_list {K : PySem.W.Frag} {a : Addr} {k : Nat} {te : TE} {fin : Addr → Hp → Prop} {σ0 : St} {H1 : Hp} {xs : List V} (R : Nat → (Addr → Prop) → Hp → Addr → Prop) (hf : ∀ i D D' H H' v, (∀ b, D b → (∃ u, H b = some u) → D' b) → (∀ b u, D b → H b = some u → H' b = some u) → R i D H v → R i D' H' v) (hn : xs.length ≤ 900) (hq : SqL K H1 a xs)
    (he : ∀ (i : Nat) (x : V) (H : Hp) (Q : VK), xs[i]? = some x → Same H1 H → (∀ r H', Same H H' → R i (DF H) H' r → Q (.ref r) H') → te (σ0.set k (some x)) H Q)
    (hd : ∀ (l : Addr) (rs : List Addr) (H : Hp), H1 l = none → Same H1 H → H l = some (.lst (rs.map V.ref)) → rs.length = xs.length → (∀ (i : Nat) (r : Addr), rs[i]? = some r → R i (fun b => H1 b = none ∧ b ≠ l) H r) → fin l H) :
    CompR (Itl K a) (gName k) tTrue te fin σ0 H1 := by
  refine comp_list (xs := xs) (fun l i σ H => (σ = σ0 ∨ ∃ cv, σ = σ0.set k cv) ∧ Same H1 H ∧ ∃ rs : List Addr, H l = some (.lst (rs.map V.ref)) ∧ rs.length = i ∧ ∀ (j : Nat) (r : Addr), rs[j]? = some r → R j (fun b => H1 b = none ∧ b ≠ l) H r) (fun l hl => ⟨.inl rfl, (Same.refl H1).laid hl, [], by rw [upd_same]; rfl, rfl, fun j r h => by cases h⟩) (fun l i σ H _ _ p => p.2.1.seq hq) ?_ (fun l σ H hl ⟨_, s1, rs, el, en, x⟩ => hd l rs H hl s1 el en x)
  rintro l i y σ H hl hy ⟨hσ, s1, rs, el, en, x⟩
  have hi : i < xs.length := (List.getElem?_eq_some_iff.mp hy).1
  rw [w_gname]
  have e : σ.set k (some y) = σ0.set k (some y) := by
    rcases hσ with rfl | ⟨cv, rfl⟩
    · rfl
    · exact List.set_set ..
  rw [e, w_true, if_pos rfl]
  refine he i y H _ hy s1 fun r H3 s3 hr => ⟨_, s3 _ _ el, ?_, .inr ⟨_, rfl⟩, (s1.trans s3).own hl, rs ++ [r], ?_, ?_, ?_⟩
  · rw [List.length_map, en]; exact small1000 (by omega)
  · rw [upd_same]; simp
  · simp [en]
  · intro j r' hj
    have fr : ∀ b u, (H1 b = none ∧ b ≠ l) → H3 b = some u → upd H3 l (.lst (rs.map V.ref ++ [V.ref r])) b = some u := fun b u z e => by rw [upd_ne z.2]; exact e
    by_cases h : j < rs.length
    · rw [List.getElem?_append_left h] at hj
      exact hf _ _ _ _ _ _ (fun _ z _ => z) (fun b u z e => fr b u z (s3 _ _ e)) (x j r' hj)
    · rw [List.getElem?_append_right (by omega)] at hj
      have h0 : j - rs.length = 0 := by
        cases e9 : j - rs.length with
        | zero => rfl
        | succ m => rw [e9] at hj; cases hj
      rw [h0] at hj
      cases hj
      have : j = i := by omega
      subst this
      refine hf _ _ _ _ _ _ (fun b z _ => ⟨?_, ?_⟩) (fun b u z e => ?_) hr
      · cases e1 : H1 b with
        | none => rfl
        | some u => have z' : H b = none := z; rw [s1 _ _ e1] at z'; cases z'
      · intro e; subst e; have z' : H b = none := z; rw [el] at z'; cases z'
      · refine fr b u ⟨?_, ?_⟩ e
        · cases e1 : H1 b with
          | none => rfl
          | some u => have z' : H b = none := z; rw [s1 _ _ e1] at z'; cases z'
        · intro e; subst e; have z' : H b = none := z; rw [el] at z'; cases z'
theorem compG_range {k : Nat} {lo : Int} {n : Nat} {te : TE} {fin : Addr → Hp → Prop} {σ0 : St} {H1 : Hp} (R : Nat → (Addr → Prop) → Hp → Addr → Prop) (hf : ∀ i D D' H H' v, (∀ b, D b → (∃ u, H b = some u) → D' b) → (∀ b u, D b → H b = some u → H' b = some u) → R i D H v → R i D' H' v) (hn : n ≤ 900)
    (he : ∀ (i : Nat) (H : Hp) (Q : VK), i < n → Same H1 H → (∀ r H', Same H H' → R i (DF H) H' r → Q (.ref r) H') → te (σ0.set k (some (.int (lo + i)))) H Q)
    (hd : ∀ (l : Addr) (rs : List Addr) (H : Hp), H1 l = none → Same H1 H → H l = some (.lst (rs.map V.ref)) → rs.length = n → (∀ (i : Nat) (r : Addr), rs[i]? = some r → R i (fun b => H1 b = none ∧ b ≠ l) H r) → fin l H) :
    CompR (Itr lo n) (gName k) tTrue te fin σ0 H1 := by
  refine comp_range (fun l i σ H => (σ = σ0 ∨ ∃ cv, σ = σ0.set k cv) ∧ Same H1 H ∧ ∃ rs : List Addr, H l = some (.lst (rs.map V.ref)) ∧ rs.length = i ∧ ∀ (j : Nat) (r : Addr), rs[j]? = some r → R j (fun b => H1 b = none ∧ b ≠ l) H r) (fun l hl => ⟨.inl rfl, (Same.refl H1).laid hl, [], by rw [upd_same]; rfl, rfl, fun j r h => by cases h⟩) ?_ (fun l σ H hl ⟨_, s1, rs, el, en, x⟩ => hd l rs H hl s1 el en x)
  rintro l i σ H hl hi ⟨hσ, s1, rs, el, en, x⟩
  rw [w_gname]
  have e : σ.set k (some (.int (lo + i))) = σ0.set k (some (.int (lo + i))) := by
    rcases hσ with rfl | ⟨cv, rfl⟩
    · rfl
    · exact List.set_set ..
  rw [e, w_true, if_pos rfl]
  refine he i H _ hi s1 fun r H3 s3 hr => ⟨_, s3 _ _ el, ?_, .inr ⟨_, rfl⟩, (s1.trans s3).own hl, rs ++ [r], ?_, ?_, ?_⟩
  · rw [List.length_map, en]; exact small1000 (by omega)
  · rw [upd_same]; simp
  · simp [en]
  · intro j r' hj
    have fr : ∀ b u, (H1 b = none ∧ b ≠ l) → H3 b = some u → upd H3 l (.lst (rs.map V.ref ++ [V.ref r])) b = some u := fun b u z e => by rw [upd_ne z.2]; exact e
    by_cases h : j < rs.length
    · rw [List.getElem?_append_left h] at hj
      exact hf _ _ _ _ _ _ (fun _ z _ => z) (fun b u z e => fr b u z (s3 _ _ e)) (x j r' hj)
    · rw [List.getElem?_append_right (by omega)] at hj
      have h0 : j - rs.length = 0 := by
        cases e9 : j - rs.length with
        | zero => rfl
        | succ m => rw [e9] at hj; cases hj
      rw [h0] at hj
      cases hj
      have : j = i := by omega
      subst this
      refine hf _ _ _ _ _ _ (fun b z _ => ⟨?_, ?_⟩) (fun b u z e => ?_) hr
      · cases e1 : H1 b with
        | none => rfl
        | some u => have z' : H b = none := z; rw [s1 _ _ e1] at z'; cases z'
      · intro e; subst e; have z' : H b = none := z; rw [el] at z'; cases z'
      · refine fr b u ⟨?_, ?_⟩ e
        · cases e1 : H1 b with
          | none => rfl
          | some u => have z' : H b = none := z; rw [s1 _ _ e1] at z'; cases z'
        · intro e; subst e; have z' : H b = none := z; rw [el] at z'; cases z'
theorem cnt_list (c : Nat) : ∀ l : List Nat, cnt c l = (l.count c : Int)
  | [] => rfl
  | x :: r => by
    rw [cnt_cons, cnt_list c r, List.count_cons]
    by_cases h : x = c
    · subst h; simp; omega
    · simp [h]
theorem count_tx (l : List Nat) (c : Nat) : Txt.count (tx l) (tx [c]) = (l.count c : Int) := by
  rw [show tx [c] = { cps := #[c] } from rfl, count_cnt, tx_cps, cnt_list]
theorem start_tx (l p : List Nat) : Txt.startswith (tx l) (tx p) = decide (l.take p.length = p) := by
  have e : Txt.startswith (tx l) (tx p) = true ↔ l.take p.length = p := by
    have a := at_iff (x := l) (s := p) (k := 0)
    unfold StrLaws.At at a
    rw [Txt.startswith, Bool.and_eq_true, decide_eq_true_eq]
    rw [a, List.drop_zero]
    constructor
    · exact fun h => h.2
    · intro h
      refine ⟨?_, h⟩
      have := congrArg List.length h
      rw [List.length_take] at this
      omega
  by_cases h : l.take p.length = p
  · rw [decide_eq_true h]; exact e.mpr h
  · rw [decide_eq_false h]
    cases k : Txt.startswith (tx l) (tx p) with
    | false => rfl
    | true => exact absurd (e.mp k) h
theorem ends_tx (l s : List Nat) : Txt.endswith (tx (l ++ s)) (tx s) = true := by
  rw [← tx_app]; exact PySem.W.KT.ends_app _ _
theorem part_tx {h r : List Nat} (hh : 40 ∉ h) : Txt.partition (tx (h ++ ([32, 40] ++ r))) (tx [32, 40]) = (tx h, tx [32, 40], tx r) := by
  have at0 : StrLaws.At (tx (h ++ ([32, 40] ++ r))) (tx [32, 40]) (tx (h ++ ([32, 40] ++ r))).length h.length := by
    refine at_iff.mpr ⟨by simp, ?_⟩
    rw [List.drop_left]; rfl
  have early : ∀ k, k < h.length → ¬ StrLaws.At (tx (h ++ ([32, 40] ++ r))) (tx [32, 40]) (tx (h ++ ([32, 40] ++ r))).length k := by
    intro k hk a
    have m := at_mark (c := 40) (j := 1) rfl a
    by_cases h1 : k + 1 < h.length
    · rw [List.getElem?_append_left h1] at m
      exact hh (List.mem_of_getElem? m)
    · rw [List.getElem?_append_right (by omega), show k + 1 - h.length = 0 by omega] at m
      simp at m
  rcases partition_whole (tx (h ++ ([32, 40] ++ r))) (tx [32, 40]) with ⟨_, k⟩ | ⟨i, e, a, k⟩
  · exact absurd at0 (k _)
  · have hi : i = h.length := by
      rcases Nat.lt_trichotomy i h.length with z | z | z
      · exact absurd a (early i z)
      · exact z
      · exact absurd at0 (k _ z)
    subst hi
    rw [e, sub_tx, sub_tx]
    congr 2
    · simp
    · congr 1
      rw [tx_len, tx_len]
      simp
      exact List.take_of_length_le (by omega)
theorem cut_last (l : List Nat) (c : Nat) : Txt.slice (tx (l ++ [c])) none (some (-1)) = tx l := by
  have e2 : Builtin.Str.strSliceIndices none (some (-1)) 1 (l.length + 1) = List.range l.length := by
    have e := StrLaws.strSliceIndices_plain (a := 0) (b := l.length) (len := l.length + 1) (by omega) (by omega)
    have e3 : Builtin.Str.strSliceIndices none (some (-1)) 1 (l.length + 1) = Builtin.Str.strSliceIndices (some ((0 : Nat) : Int)) (some ((l.length : Nat) : Int)) 1 (l.length + 1) := by
      unfold Builtin.Str.strSliceIndices
      simp only [show (1 : Int) > 0 by decide, if_true, show (-1 : Int) < 0 by decide]
      congr 1
      · first | (simp; done) | (simp; omega)
    rw [e3, e]
    simp
  unfold Txt.slice
  rw [tx_len, List.length_append, List.length_singleton, e2]
  rw [if_neg (by simp)]
  show tx _ = tx _
  congr 1
  rw [show (tx (l ++ [c])).cps = (l ++ [c]).toArray from rfl]
  have : ∀ k, k ≤ l.length → List.filterMap (fun x => (l ++ [c]).toArray[x]?) (List.range k) = l.take k := by
    intro k
    induction k with
    | zero => exact fun _ => by simp
    | succ k ih =>
      intro hk
      rw [List.range_succ, List.filterMap_append, ih (by omega), List.take_succ]
      congr 1
      have : (l ++ [c]).toArray[k]? = l[k]? := by rw [List.getElem?_toArray, List.getElem?_append_left (by omega)]
      simp only [List.filterMap_cons, List.filterMap_nil, this]
      rw [List.getElem?_eq_getElem (by omega)]
      rfl
  rw [this l.length (Nat.le_refl _), List.take_length]
theorem catL_S (c : Nat) : ∀ rows : List (List Nat), catL c rows = catS [c] rows
  | [] => rfl
  | [x] => rfl
  | x :: y :: r => by show x ++ c :: catL c (y :: r) = x ++ ([c] ++ catS [c] (y :: r)); rw [catL_S c (y :: r)]; rfl
theorem fold70 {s : Str} : ∀ {ts : List Str} {a : Nat}, ts.foldl (fun x1 x2 => x1 + x2.length + s.length) a = a + (ts.map fun t => t.length + s.length).sum
  | [], a => by simp
  | t :: r, a => by rw [List.foldl_cons, fold70, List.map_cons, List.sum_cons]; omega
theorem sum70 {s : List Nat} : ∀ {rows : List (List Nat)}, ((rows.map tx).map fun t => t.length + (tx s).length).sum ≤ (catS s rows).length + s.length
  | [] => by simp
  | [x] => by simp [catS, tx_len]
  | x :: y :: r => by
    have ih := sum70 (s := s) (rows := y :: r)
    rw [List.map_cons, List.map_cons, List.sum_cons]
    show _ ≤ (x ++ (s ++ catS s (y :: r))).length + s.length
    rw [List.length_append, List.length_append, tx_len, tx_len] at *
    omega
theorem joinOk_cat {s : List Nat} {rows : List (List Nat)} (h : (catS s rows).length + s.length ≤ 1000000) : JoinOk (tx s) (rows.map tx) = true := by
  unfold JoinOk
  rw [← Array.foldl_toList, fold70]
  have := sum70 (s := s) (rows := rows)
  show (!Builtin.Str.tooLong (0 + (((rows.map tx).map fun t => t.length + (tx s).length).sum))) = true
  unfold Builtin.Str.tooLong
  rw [decide_eq_false]
  · rfl
  · rw [sizeLine_eq]; omega
theorem w_join70 {H : Hp} {Q : VK} {s : List Nat} {p : Addr} {rows : List (List Nat)} (hp : H p = some (.lst ((rows.map tx).map V.str))) (hl : (catS s rows).length + s.length ≤ 1000000) (h : Q (.str (tx (catS s rows))) H) : kJoin (.str (tx s)) [.ref p] H Q := by
  refine w_join hp (joinOk_cat hl) ?_
  rw [Txt_join, joinS_tx]; exact h
theorem catS_le {s x : List Nat} : ∀ {rows : List (List Nat)}, x ∈ rows → x.length ≤ (catS s rows).length
  | [y], h => by rw [List.mem_singleton.mp h]; exact Nat.le_refl _
  | y :: z :: r, h => by
    show _ ≤ (y ++ (s ++ catS s (z :: r))).length
    rw [List.length_append, List.length_append]
    rcases List.mem_cons.mp h with rfl | h
    · omega
    · have := catS_le (s := s) h; omega
theorem kw_sup : ∀ w ∈ KW, decide (tx w = tx [115, 117, 112, 112, 111, 115, 101]) = false := by decide +kernel
theorem sup_sup : decide (tx supW = tx [115, 117, 112, 112, 111, 115, 101]) = true := decide_eq_true rfl
def tlN (ns : List Nat) : List Nat := (ns.map fun n => 32 :: nC n).flatten
theorem tlN_snoc (ns : List Nat) (n : Nat) : tlN (ns ++ [n]) = tlN ns ++ 32 :: nC n := by unfold tlN; simp
theorem cat_tl : ∀ {w : List Nat} {ns : List Nat}, catL 32 (w :: ns.map nC) = w ++ tlN ns
  | w, [] => by simp [catL, tlN]
  | w, n :: r => by
    show w ++ 32 :: catL 32 (nC n :: r.map nC) = w ++ tlN (n :: r)
    rw [cat_tl]; simp [tlN]
theorem tlN_len : ∀ {ns : List Nat}, (∀ n ∈ ns, n < 1000000000) → (tlN ns).length ≤ 10 * ns.length
  | [], _ => by simp [tlN]
  | n :: r, h => by
    have ih := tlN_len (ns := r) fun x hx => h x (List.mem_cons_of_mem _ hx)
    have := nC_len (h n List.mem_cons_self)
    have e : tlN (n :: r) = 32 :: nC n ++ tlN r := by simp [tlN]
    rw [e, List.length_append, List.length_cons, List.length_cons]
    omega
theorem kw_len : ∀ w ∈ supW :: KW, w.length ≤ 7 := by decide
theorem w_len7 {P : List Th7 → Prop} {x : Th7} (o : OkI P x) : x.w.length ≤ 7 := by
  cases x with
  | pl w a b c m => exact kw_len _ (List.mem_cons_of_mem _ o.1)
  | su a b c bk => exact kw_len _ List.mem_cons_self
theorem z70 : (1000000 : Nat) ≤ sizeLine := by rw [sizeLine_eq]; decide
theorem nil_tx {l : List Nat} : decide (tx l = tx []) = decide (l = []) := by
  by_cases h : l = []
  · subst h; rfl
  · rw [decide_eq_false h, decide_eq_false]
    intro e
    have := congrArg (fun s : Str => s.cps.toList) e
    exact h this
theorem w_forT70 {K : PySem.W.Frag} {tl : TE} {g : TG} {tb : TS} {D : Ends} {σ : St} {H : Hp} : tFor (iTup K tl) g tb D σ H = tl σ H fun x H1 => ∃ a, x = .ref a ∧ (∃ xs, SqT K H1 a xs) ∧ LoopR (Itt K a) g tb D σ H1 := rfl
theorem pcs_len : ∀ {L : List (List Nat)}, L.length ≤ (catS [59, 32] L).length + 1
  | [] => by simp
  | [x] => by simp
  | x :: y :: r => by
    have ih := pcs_len (L := y :: r)
    show (y :: r).length + 1 ≤ (x ++ ([59, 32] ++ catS [59, 32] (y :: r))).length + 1
    rw [List.length_append, List.length_append]
    show _ ≤ _ + (2 + _) + 1
    omega
theorem catS_left {s : List Nat} {A B : List (List Nat)} : (catS s A).length ≤ (catS s (A ++ B)).length := by
  by_cases ha : A = []
  · subst ha; simp [catS]
  by_cases hb : B = []
  · subst hb; rw [List.append_nil]; exact Nat.le_refl _
  · rw [catS_app ha hb, List.length_append]; omega
theorem catS_right {s : List Nat} {A B : List (List Nat)} : (catS s B).length ≤ (catS s (A ++ B)).length := by
  by_cases ha : A = []
  · subst ha; rw [List.nil_append]; exact Nat.le_refl _
  by_cases hb : B = []
  · subst hb; simp [catS]
  · rw [catS_app ha hb, List.length_append, List.length_append]; omega
theorem w_cntS {x y : Str} {H : Hp} {Q : VK} : kCountS (.str x) [.str y] H Q = Q (.int (Txt.count x y)) H := rfl
structure TT70 (H H' : Hp) (t : List Nat) (L : Addr) (P : List (List Nat)) (i : Nat) (s : List (List Nat) × List (List Nat) × Int) (σ : St) : Prop where
  ex : ∃ (F G : Addr) (v : Option V), σ = [some (.str (tx t)), some (.ref F), some (.ref G), some (.int s.2.2), v] ∧ H F = none ∧ H G = none ∧ F ≠ G ∧ F ≠ L ∧ G ≠ L ∧ H' F = some (.lst ((s.1.map tx).map V.str)) ∧ H' G = some (.lst ((s.2.1.map tx).map V.str)) ∧ H' L = some (.lst ((P.map tx).map V.str)) ∧ Same H H'
  bd : s.1.length + s.2.1.length ≤ i
  mid : ∃ A, P.take i = A ++ s.2.1
def IsU : Nat → (Addr → Prop) → Hp → Addr → List Th7 → Prop
  | 0, _, _, _, _ => False
  | n + 1, D, H, p, l => IsT n D H p l
theorem IsU.b : ∀ {n : Nat} {D : Addr → Prop} {H : Hp} {p : Addr} {l : List Th7}, IsU n D H p l → IsB n D H p l
  | 0, _, _, _, _, h => h.elim
  | n + 1, _, _, _, _, h => IsT.b h
theorem ws_free {w : List Nat} {ns : List Nat} (h : 32 ∉ w) : ∀ r ∈ w :: ns.map nC, 32 ∉ r := fun r hr => by
  rcases List.mem_cons.mp hr with rfl | hr
  · exact h
  · obtain ⟨n, _, rfl⟩ := List.mem_map.mp hr
    exact nC_not (by decide)
theorem kw_inG : ∀ w ∈ KW, decide (tx w ∈ gt_KINDS) = true := by decide +kernel
theorem none_of_same {H H' : Hp} {p : Addr} (s : Same H H') (h : H' p = none) : H p = none := by
  cases e : H p with
  | none => rfl
  | some u => rw [s _ _ e] at h; cases h
theorem cut3 {x y u : V} {r : List V} : cutV (x :: y :: u :: r) (some 3) none = r := by
  unfold cutV
  have e1 : HT.sIx (x :: y :: u :: r).length 0 (some 3) = 3 := by
    show HT.sIx (r.length + 3) 0 (some 3) = 3
    simp [HT.sIx]
    try omega
  have e2 : HT.sIx (x :: y :: u :: r).length (x :: y :: u :: r).length none = r.length + 3 := rfl
  rw [e1, e2]
  show r.take (r.length + 3 - 3) = r
  rw [Nat.add_sub_cancel, List.take_length]
theorem w_starts {x y : Str} {H : Hp} {Q : VK} : kStarts (.str x) [.str y] H Q = Q (.bl (Txt.startswith x y)) H := rfl
theorem w_ends {x y : Str} {H : Hp} {Q : VK} : kEnds (.str x) [.str y] H Q = Q (.bl (Txt.endswith x y)) H := rfl
theorem kw_start {w : List Nat} (h : w ∈ KW) (t : List Nat) : decide ((w ++ 32 :: t).take 8 = supW ++ [32]) = false := by
  have key : ∀ w ∈ KW, w.take 3 ≠ supW.take 3 ∧ 3 ≤ w.length := by decide
  obtain ⟨k, k3⟩ := key w h
  refine decide_eq_false fun e => k ?_
  have := congrArg (List.take 3) e
  rw [List.take_take, show min 3 8 = 3 from rfl, List.take_append_of_le_length k3] at this
  exact this
theorem su_start (a b c : Nat) (t : List Nat) : decide ((catL 32 [supW, nC a, nC b, nC c] ++ t).take 8 = supW ++ [32]) = true := by
  refine decide_eq_true ?_
  show ((supW ++ 32 :: catL 32 [nC a, nC b, nC c]) ++ t).take 8 = _
  rfl
theorem w_part9 {x y : Str} {H : Hp} {Q : VK} : kPart (.str x) [.str y] H Q = ((y.length == 0) = false ∧ x.length ≤ sizeLine ∧ ∀ l, H l = none → Q (.ref l) (upd H l (.tup [.str (Txt.partition x y).1, .str (Txt.partition x y).2.1, .str (Txt.partition x y).2.2]))) := rfl
def Fr9 (r : List Nat) : Prop := ∀ k : Nat, r[k]? = some 59 → r[k + 1]? ≠ some 32
theorem at9 {x : List Nat} {k : Nat} : StrLaws.At (tx x) (tx [59, 32]) (tx x).length k ↔ x[k]? = some 59 ∧ x[k + 1]? = some 32 := by
  rw [at_iff]
  constructor
  · rintro ⟨h1, h2⟩
    have a : ((x.drop k).take 2)[0]? = some 59 := by rw [show (2 : Nat) = ([59, 32] : List Nat).length from rfl, h2]; rfl
    have b : ((x.drop k).take 2)[1]? = some 32 := by rw [show (2 : Nat) = ([59, 32] : List Nat).length from rfl, h2]; rfl
    rw [List.getElem?_take_of_lt (by decide), List.getElem?_drop] at a b
    exact ⟨a, b⟩
  · rintro ⟨h1, h2⟩
    have hl := (List.getElem?_eq_some_iff.mp h2).1
    refine ⟨by show k + 2 ≤ _; omega, ?_⟩
    show (x.drop k).take 2 = [59, 32]
    refine List.ext_getElem? fun i => ?_
    match i with
    | 0 => rw [List.getElem?_take_of_lt (by decide), List.getElem?_drop]; exact h1
    | 1 => rw [List.getElem?_take_of_lt (by decide), List.getElem?_drop]; exact h2
    | i + 2 => rw [List.getElem?_eq_none (by rw [List.length_take]; omega)]; rfl
theorem parts9 {x : List Nat} : ∀ (rows : List (List Nat)) (a f : Nat) (cuts : List Nat), rows ≠ [] → (∀ r ∈ rows, Fr9 r) → x.drop a = catS [59, 32] rows → a ≤ x.length → StrLaws.ChainG (tx x) (tx [59, 32]) (tx x).length a cuts f → (∀ k, f ≤ k → ¬ StrLaws.At (tx x) (tx [59, 32]) (tx x).length k) → StrLaws.partsFrom (tx x) (tx [59, 32]).length a cuts = rows.map tx
  | [], _, _, _, h, _, _, _, _, _ => absurd rfl h
  | [r], a, f, cuts, _, hr, e, ha, hc, hn => by
    have e : x.drop a = r := e
    match cuts, hc with
    | [], hc =>
      show [Builtin.Str.strSub (tx x) a (tx x).length] = [tx r]
      rw [sub_tx, e, tx_len, List.take_of_length_le (by rw [← e, List.length_drop]; omega)]
    | d :: t, hc =>
      have m := at9.mp hc.2.1
      have h1 : r[d - a]? = some 59 := by rw [← e, List.getElem?_drop, show a + (d - a) = d by have := hc.1; omega]; exact m.1
      have h2 : r[d - a + 1]? = some 32 := by rw [← e, List.getElem?_drop, show a + (d - a + 1) = d + 1 by have := hc.1; omega]; exact m.2
      exact absurd h2 (hr r List.mem_cons_self _ h1)
  | r :: r2 :: t, a, f, cuts, _, hr, e, ha, hc, hn => by
    have e : x.drop a = r ++ ([59, 32] ++ catS [59, 32] (r2 :: t)) := e
    have hlen : x.length - a = r.length + (2 + (catS [59, 32] (r2 :: t)).length) := by
      have := congrArg List.length e
      rw [List.length_drop, List.length_append, List.length_append] at this
      exact this
    have here : StrLaws.At (tx x) (tx [59, 32]) (tx x).length (a + r.length) := at_iff.mpr ⟨by show _ + 2 ≤ _; omega, by rw [← List.drop_drop, e, List.drop_left]; rfl⟩
    have none_before : ∀ k, a ≤ k → k < a + r.length → ¬ StrLaws.At (tx x) (tx [59, 32]) (tx x).length k := fun k h1 h2 hA => by
      have m := at9.mp hA
      have h3 : (x.drop a)[k - a]? = some 59 := by rw [List.getElem?_drop, show a + (k - a) = k by omega]; exact m.1
      have h4 : (x.drop a)[k - a + 1]? = some 32 := by rw [List.getElem?_drop, show a + (k - a + 1) = k + 1 by omega]; exact m.2
      rw [e, List.getElem?_append_left (by omega)] at h3
      rw [e] at h4
      by_cases hk : k - a + 1 < r.length
      · rw [List.getElem?_append_left hk] at h4
        exact hr r List.mem_cons_self _ h3 h4
      · rw [List.getElem?_append_right (by omega), show k - a + 1 - r.length = 0 by omega] at h4
        cases h4
    match cuts, hc with
    | [], hc =>
      have ef : f = a := hc
      exact absurd here (hn _ (by omega))
    | d :: u, hc =>
      have hd : d = a + r.length := by
        by_cases h1 : d < a + r.length
        · exact absurd hc.2.1 (none_before d hc.1 h1)
        · by_cases h2 : a + r.length < d
          · exact absurd here (hc.2.2.1 _ (by omega) h2)
          · omega
      subst hd
      have ih := parts9 (r2 :: t) (a + r.length + 2) f u (by simp) (fun z hz => hr z (List.mem_cons_of_mem _ hz)) (by rw [← List.drop_drop, ← List.drop_drop, e, List.drop_left]; rfl) (by omega) hc.2.2.2 hn
      show Builtin.Str.strSub (tx x) a (a + r.length) :: StrLaws.partsFrom (tx x) (tx [59, 32]).length (a + r.length + (tx [59, 32]).length) u = tx r :: (r2 :: t).map tx
      have e2 : (tx [59, 32]).length = 2 := tx_len _
      rw [e2] at ih ⊢
      rw [ih, sub_tx, e, show a + r.length - a = r.length by omega, List.take_left]
theorem split9 {rows : List (List Nat)} (hne : rows ≠ []) (hr : ∀ r ∈ rows, Fr9 r) : Txt.split (tx (catS [59, 32] rows)) (tx [59, 32]) = rows.map tx := by
  obtain ⟨f, hG, hn⟩ := StrLaws.occ_tight (tx (catS [59, 32] rows)) (tx [59, 32]) (by rw [tx_len]; decide)
  have key := parts9 (x := catS [59, 32] rows) rows 0 f _ hne hr (by simp) (by omega) hG hn
  unfold Txt.split
  split
  · rename_i hc
    rw [Bool.or_eq_true, decide_eq_true_eq, decide_eq_true_eq] at hc
    match rows, hne, hr with
    | [r], _, _ => rfl
    | r :: r2 :: t, _, _ =>
      exfalso
      rcases hc with h | h
      · rw [tx_len, tx_len] at h
        have : (catS [59, 32] (r :: r2 :: t)).length = (r ++ ([59, 32] ++ catS [59, 32] (r2 :: t))).length := rfl
        rw [this, List.length_append, List.length_append] at h
        omega
      · have : 1 ≤ PySem.Builtin.Str.strKind (tx (catS [59, 32] (r :: r2 :: t))) := by
          unfold PySem.Builtin.Str.strKind
          split
          · exact Nat.le_refl _
          · split <;> decide
        have h2 : PySem.Builtin.Str.strKind (tx [59, 32]) ≤ 1 := by decide +kernel
        omega
  · split
    · rename_i he
      rw [List.isEmpty_iff.mp he] at key
      have : StrLaws.partsFrom (tx (catS [59, 32] rows)) (tx [59, 32]).length 0 [] = [tx (catS [59, 32] rows)] := by
        show [Builtin.Str.strSub (tx (catS [59, 32] rows)) 0 (tx (catS [59, 32] rows)).length] = _
        rw [StrLaws.sub_whole]
      rw [← key, this]
    · rw [StrLaws.partsBetween_eq]
      exact key
def unS9 (S : List Str) : List (List Nat) := S.map (·.cps.toList)
theorem unS9_tx (rows : List (List Nat)) : unS9 (rows.map tx) = rows := by
  unfold unS9
  rw [List.map_map]
  conv => rhs; rw [← List.map_id rows]
  exact List.map_congr_left fun r _ => rfl
theorem tx_unS9 (S : List Str) : (unS9 S).map tx = S := by
  unfold unS9
  rw [List.map_map]
  conv => rhs; rw [← List.map_id S]
  exact List.map_congr_left fun x _ => tx_of x
def wdsOf (t : List Nat) : List (List Nat) := unS9 (Txt.split (tx t) (tx [32]))
def pcsOf (t : List Nat) : List (List Nat) := unS9 (Txt.split (tx t) (tx [59, 32]))
theorem wdsOf_eq {rows : List (List Nat)} (hne : rows ≠ []) (hf : ∀ r ∈ rows, 32 ∉ r) : wdsOf (catL 32 rows) = rows := by
  unfold wdsOf; rw [split_tx hne hf, unS9_tx]
theorem pcsOf_eq {rows : List (List Nat)} (hne : rows ≠ []) (hf : ∀ r ∈ rows, Fr9 r) : pcsOf (catS [59, 32] rows) = rows := by
  unfold pcsOf; rw [split9 hne hf, unS9_tx]
theorem wdsOf_ex (t : List Nat) : wdsOf t ≠ [] ∧ (∀ r ∈ wdsOf t, 32 ∉ r) ∧ catL 32 (wdsOf t) = t := by
  obtain ⟨rows, h1, h2, h3, h4⟩ := split_parts 32 t
  have : wdsOf t = rows := by unfold wdsOf; rw [h4, unS9_tx]
  rw [this]; exact ⟨h1, h2, h3⟩
def numsM (ws : List (List Nat)) : Option (List Nat) := if none ∈ ws.map numW then none else some (ws.filterMap numW)
def plM (t : List Nat) : Option Th7 :=
  if (wdsOf t).headD [] ∈ KW ∧ 4 ≤ (wdsOf t).length then
    match numsM (wdsOf t).tail with
    | some (a :: b :: c :: m) => some (.pl ((wdsOf t).headD []) a b c m)
    | _ => none
  else none
def p0 (t : List Nat) : List Nat := (Txt.partition (tx t) (tx [32, 40])).1.cps.toList
def p2 (t : List Nat) : List Nat := (Txt.partition (tx t) (tx [32, 40])).2.2.cps.toList
def suM (R : List Nat → Option (List Th7)) (t : List Nat) : Option Th7 :=
  if (wdsOf (p0 t)).length = 4 ∧ (p2 t).getLast? = some 41 then
    match numsM (wdsOf (p0 t)).tail with
    | some [a, b, c] => (R (p2 t).dropLast).map (.su a b c)
    | _ => none
  else none
def thM (R : List Nat → Option (List Th7)) (t : List Nat) : Option Th7 := if t.take 8 = supW ++ [32] then suM R t else plM t
def inM : Nat → List Nat → Option (List Th7)
  | 0, _ => none
  | n + 1, t => if t = [] then some [] else if ((pcsOf t).foldl tt9 ([], [], 0)).2.1 = [] then ((pcsOf t).foldl tt9 ([], [], 0)).1.mapM (thM (inM n)) else none
theorem numsM_nC {ns : List Nat} (h : ∀ n ∈ ns, n < 1000000000) : numsM (ns.map nC) = some ns := by
  have e : (ns.map nC).map numW = ns.map some := by
    rw [List.map_map]
    exact List.map_congr_left fun n hn => numW_nC (h n hn)
  unfold numsM
  rw [e, if_neg (by simp)]
  congr 1
  have : ∀ l : List (List Nat), l.filterMap numW = (l.map numW).filterMap id := fun l => by rw [List.filterMap_map]; rfl
  rw [this, e, List.filterMap_map]
  simp
theorem plM_pl {P : List Th7 → Prop} {w : List Nat} {a b c : Nat} {m : List Nat} (o : OkI P (.pl w a b c m)) : plM (catL 32 (w :: (a :: b :: c :: m).map nC)) = some (.pl w a b c m) := by
  have hns : ∀ y ∈ a :: b :: c :: m, y < 1000000000 := fun y hy => by
    simp at hy
    rcases hy with rfl | rfl | rfl | hy
    · exact o.2.1
    · exact o.2.2.1
    · exact o.2.2.2.1
    · exact o.2.2.2.2.2 y hy
  unfold plM
  rw [wdsOf_eq (by simp) (ws_free (kw_low o.1).2.1)]
  rw [if_pos ⟨o.1, by simp⟩]
  show (match numsM ((a :: b :: c :: m).map nC) with | some (a :: b :: c :: m) => some (Th7.pl w a b c m) | _ => none) = _
  rw [numsM_nC hns]
theorem p0_su {h r : List Nat} (hh : 40 ∉ h) : p0 (h ++ ([32, 40] ++ r)) = h := by unfold p0; rw [part_tx hh]; rfl
theorem p2_su {h r : List Nat} (hh : 40 ∉ h) : p2 (h ++ ([32, 40] ++ r)) = r := by unfold p2; rw [part_tx hh]; rfl
theorem thM_tx {n : Nat} (ih : ∀ l, OkB n l → inM n (txB n l) = some l) {x : Th7} (o : OkI (OkB n) x) : thM (inM n) (txI (txB n) x) = some x := by
  cases x with
  | pl w a b c m =>
    unfold thM
    have e : ¬ (txI (txB n) (.pl w a b c m)).take 8 = supW ++ [32] := of_decide_eq_false (kw_start o.1 _)
    rw [if_neg e]
    exact plM_pl o
  | su a b c bk =>
    unfold thM
    have e : (txI (txB n) (.su a b c bk)).take 8 = supW ++ [32] := of_decide_eq_true (su_start a b c _)
    rw [if_pos e]
    unfold suM
    have e0 : p0 (txI (txB n) (.su a b c bk)) = catL 32 (supW :: [a, b, c].map nC) := p0_su sup_hd_low.1
    have e2 : p2 (txI (txB n) (.su a b c bk)) = txB n bk ++ [41] := p2_su sup_hd_low.1
    rw [e0, e2, wdsOf_eq (by simp) (ws_free sup_low.2.1)]
    rw [if_pos ⟨rfl, by simp⟩]
    show (match numsM ([a, b, c].map nC) with | some [a, b, c] => (inM n (txB n bk ++ [41]).dropLast).map (Th7.su a b c) | _ => none) = _
    rw [numsM_nC (fun y hy => by simp at hy; rcases hy with rfl | rfl | rfl; exact o.1; exact o.2.1; exact o.2.2.1)]
    rw [List.dropLast_concat, ih bk o.2.2.2]
    rfl
theorem free_Fr9 {r : List Nat} (h : 59 ∉ r) : Fr9 r := fun k hk => absurd (List.mem_of_getElem? hk) h
theorem mapM_all {f : List Nat → Option Th7} {g : Th7 → List Nat} : ∀ {l : List Th7}, (∀ x ∈ l, f (g x) = some x) → (l.map g).mapM f = some l
  | [], _ => rfl
  | x :: r, h => by
    rw [List.map_cons, List.mapM_cons, h x List.mem_cons_self, mapM_all fun y hy => h y (List.mem_cons_of_mem _ hy)]
    rfl
theorem inM_tx : ∀ {n : Nat} {l : List Th7}, OkB n l → inM n (txB n l) = some l
  | 0, _, h => h.elim
  | n + 1, l, h => by
    unfold inM
    by_cases hl : l = []
    · rw [if_pos ((txB_nil h).mpr hl), hl]
    · rw [if_neg fun e => hl ((txB_nil h).mp e)]
      have ep : pcsOf (txB (n + 1) l) = PcB (n + 1) l := by
        rw [← PcB_cat]; exact pcsOf_eq PcB_ne fun r hr => free_Fr9 (PcB_free h r hr)
      have ef : (PcB (n + 1) l).foldl tt9 ([], [], 0) = (l.map (txI (txB n)), [], 0) := by
        cases l with
        | nil => exact absurd rfl hl
        | cons x r => have := tt9_all (n := n) (l := x :: r) (f := []) h.2; rw [List.nil_append] at this; exact this
      rw [ep, ef, if_pos rfl]
      exact mapM_all fun x hx => thM_tx (fun l' z => inM_tx z) (h.2 x hx)
end L2
set_option Elab.async false
set_option linter.all false
set_option maxRecDepth 100000
namespace L2
open PySem PySem.Spec PyProof.Rows
open Builtin Builtin.Str
def repl1 (x y z : Str) : Str := if (occurrences x y 0 x.length 1).isEmpty = true then x else glued z (partsBetween x (occurrences x y 0 x.length 1) y.length)
theorem is3 {y z : Str} {u v : Tok} (hu : u ≠ 0) (hv : v ≠ 0) (huv : u ≠ v) (hyz : (y == z) = false) : isSame (.str y u) (.str z v) = pure false := by
  show isSame.created (y == z) u v = pure false
  unfold isSame.created
  have e1 : (u == 0 || v == 0) = false := by simp [hu, hv]
  have e2 : (u == v) = false := by simp [huv]
  rw [hyz, e1, e2]
  rfl
theorem repl_tree {x y z : Str} {t u v k : Tok} (hu : u ≠ 0) (hv : v ≠ 0) (huv : u ≠ v) (hyz : (y == z) = false) (hy : (y.length == 0) = false) :
    «str.replace» { pos := [.str x t, .str y u, .str z v, .int 1 k] } = (if (occurrences x y 0 x.length 1).isEmpty = true then (do rule "str.replace.nothing"; ret (.str x t)) else (if tooLong (x.length + (occurrences x y 0 x.length 1).length * z.length) = true then (do let r : PUnit ← unsupported "str.replace:memory"; retStr (glued z (partsBetween x (occurrences x y 0 x.length 1) y.length))) else retStr (glued z (partsBetween x (occurrences x y 0 x.length 1) y.length)))) := by
  have e : «str.replace» { pos := [.str x t, .str y u, .str z v, .int 1 k] } = (if ((occurrences x y 0 x.length 1).isEmpty || y.length == 0 && z.length == 0) = true then (do rule "str.replace.nothing"; ret (.str x t)) else (do let same ← isSame (.str y u) (.str z v); if same = true then (do rule "str.replace.old-is-new"; ret (.str x t)) else (if tooLong (x.length + (occurrences x y 0 x.length 1).length * z.length) = true then (do let r : PUnit ← unsupported "str.replace:memory"; retStr (glued z (partsBetween x (occurrences x y 0 x.length 1) y.length))) else retStr (glued z (partsBetween x (occurrences x y 0 x.length 1) y.length))))) := by rfl
  rw [e, hy, is3 hu hv huv hyz]
  simp only [Bool.false_and, Bool.or_false]
  rfl
theorem occ_len1 {x y : Str} : (occurrences x y 0 x.length 1).length ≤ 1 := StrLaws.occ_length_le ..
theorem repl_run {P : Program} {w : World} {A : Around} {E : Value → Shared → Prop} {s : Shared} {x y z : Str} {t u v k : Tok} {Q : Value → Shared → Prop} (hu : u ≠ 0) (hv : v ≠ 0) (huv : u ≠ v) (hyz : (y == z) = false) (hy : (y.length == 0) = false) (hx : x.length + z.length ≤ 1000000) (hr : (repl1 x y z).length ≤ sizeLine)
    (h : ∀ (t' : Tok) (k' : Nat), Q (.str (repl1 x y z) t') { s with toks := k' }) :
    wpAny (model P w) A (call (.builtin "str.replace") [.str x t, .str y u, .str z v, .int 1 k]) Q E s := by
  refine wpAny_call_entry F.slot_str_replace (show s.TypeIs (.str x t) "str" from rfl) F.entry_str_replace ?_ (F.args_str_replace_4 _ _ _ _)
  rw [repl_tree hu hv huv hyz hy]
  unfold repl1 at h hr
  by_cases hc : (occurrences x y 0 x.length 1).isEmpty = true
  · rw [if_pos hc] at h ⊢
    exact wpAny_bind (wpAny_rule (wpAny_pure ⟨_, rfl, h t s.toks⟩))
  · rw [if_neg hc] at h hr ⊢
    have ht : tooLong (x.length + (occurrences x y 0 x.length 1).length * z.length) = false := by
      unfold tooLong
      rw [decide_eq_false]
      have := occ_len1 (x := x) (y := y)
      have := Nat.mul_le_mul_right z.length this
      rw [sizeLine_eq]; omega
    rw [ht, if_neg Bool.false_ne_true]
    show wpAny _ _ (do ret (← mkStr (glued z (partsBetween x (occurrences x y 0 x.length 1) y.length)))) _ _ s
    exact wpAny_bind (wpAny_mkStr (wpAny_pure ⟨_, rfl, h _ _⟩) hr)
section
variable {X : Cx}
def PEt (X : Cx) (e : Expr) (te : TE) : Prop :=
  ∀ (pins : List (Addr × Obj)) (s : Shared) (σ : St) (H : Hp) (Q : VK), Inv X pins σ H s → te σ H Q → wpAny (model X.prog X.w) X.A (eval e X.env) (fun u s' => s'.toks ≠ 0 ∧ EP X pins σ Q u s') X.xe s
def PE0 (X : Cx) (e : Expr) (te : TE) : Prop :=
  ∀ (pins : List (Addr × Obj)) (s : Shared) (σ : St) (H : Hp) (Q : VK), Inv X pins σ H s → s.toks ≠ 0 → te σ H Q → wpAny (model X.prog X.w) X.A (eval e X.env) (EP X pins σ Q) X.xe s
theorem pa_t3 {e1 e2 e3 : Expr} {es : List Expr} {t1 t2 t3 : TE} {t : TA} (h1 : PE X e1 t1) (h2 : PEt X e2 t2) (h3 : PE0 X e3 t3) (hr : PA X es t) (hs1 : starEach (e1 :: e2 :: e3 :: es) X.env = (false, eval e1 X.env) :: (false, eval e2 X.env) :: (false, eval e3 X.env) :: starEach es X.env := by rfl) : PA X (e1 :: e2 :: e3 :: es) (tCons t1 (tCons t2 (tCons t3 t))) := by
  intro pos pins s σ H Q I h
  rw [hs1]
  show wpAny _ _ (spliced ((false, eval e1 X.env) :: (false, eval e2 X.env) :: (false, eval e3 X.env) :: backTo pos (starEach es X.env))) _ _ s
  refine Calls.spliced_cons (thn (h1 pins s σ H _ I h) fun u1 s1 ⟨x1, H1, I1, r1, q1⟩ => ?_)
  refine Calls.spliced_cons (thn (h2 pins s1 σ H1 _ I1 q1) fun u2 s2 ⟨tk, x2, H2, I2, r2, q2⟩ => ?_)
  refine Calls.spliced_cons (thn (h3 pins s2 σ H2 _ I2 tk q2) fun u3 s3 ⟨x3, H3, I3, r3, q3⟩ => ?_)
  exact thn (hr pos pins s3 σ H3 _ I3 q3) fun us s4 ⟨xs, H4, I4, r4, q4⟩ => ⟨x1 :: x2 :: x3 :: xs, H4, I4, .cons r1 (.cons r2 (.cons r3 r4)), q4⟩
theorem str_nil {i : Str} (h : (i.length == 0) = true) : i = ⟨#[]⟩ := by
  obtain ⟨c⟩ := i
  have : c.size = 0 := by simpa [Str.length] using h
  rw [Array.eq_empty_of_size_eq_zero this]
theorem pe_addt {a : Expr} {ta : TE} {z : Str} {j : Nat} {p pos : Pos} (ha : PE X a ta) : PEt X (.BinOp a .Add (.Constant (.str z) j p) pos) (tOp cAdd ta (tC (.str z))) := by
  intro pins s σ H Q I h
  refine wpAny_BinOp (thn (ha pins s σ H _ I h) fun v s1 ⟨x, H1, I1, r1, q1⟩ => ?_)
  refine Calls.Constant_str ?_
  have q1 : cAdd x (.str z) H1 Q := q1
  cases x with
  | str i =>
    obtain ⟨t, rfl⟩ := r1
    have q2 : i.length + z.length ≤ sizeLine ∧ Q (.str (i ++ z)) H1 := q1
    refine P.add_str ?_
    by_cases hx : (i.length == 0) = true
    · rw [if_pos hx]
      refine ⟨Nat.succ_ne_zero _, .str (i ++ z), H1, I1.tok _, ⟨s1.toks, ?_⟩, q2.2⟩
      have e0 : (⟨#[]⟩ : Str) ++ z = z := by show (⟨#[] ++ z.cps⟩ : Str) = z; rw [Array.empty_append]
      rw [str_nil hx, e0]
    · rw [if_neg hx]
      by_cases hz : (z.length == 0) = true
      · rw [if_pos hz]
        refine ⟨Nat.succ_ne_zero _, .str (i ++ z), H1, I1.tok _, ⟨t, ?_⟩, q2.2⟩
        have e0 : i ++ (⟨#[]⟩ : Str) = i := by show (⟨i.cps ++ #[]⟩ : Str) = i; rw [Array.append_empty]
        rw [str_nil hz, e0]
      · rw [if_neg hz]
        simp only [Made.post]
        refine ⟨?_, Nat.succ_ne_zero _, .str (i ++ z), H1, I1.tok _, ⟨_, rfl⟩, q2.2⟩
        show (i.cps ++ z.cps).size ≤ _
        rw [Array.size_append]; exact q2.1
  | _ => exact (show False from q1).elim
def tRepl (i : Nat) (y z : Str) : TE := fun σ H Q => vB σ[i]? fun v => ∃ t, v = .str t ∧ t.length + z.length ≤ 1000000 ∧ (repl1 t y z).length ≤ sizeLine ∧ Q (.str (repl1 t y z)) H
theorem pe_repl {i : Nat} {x : Str} {y z : Str} {j1 j2 j3 : Nat} {p p1 p2 p3 apos cpos : Pos} (hN : X.N[i]? = some x) (hv : Vis X.env.scope x) (hyz : (y == z) = false) (hy : (y.length == 0) = false) (hd : (x == ("__debug__" : Str)) = false := by decide) (hcd : (x == ("__classdict__" : Str)) = false := by decide)
    (hbase : attributeBase (.Name x p) "replace" X.env (eval (.Name x p) X.env) = eval (.Name x p) X.env := by rfl)
    (hfew : ((backTo cpos (starEach [.Constant (.str y) j1 p1, .Constant (.str z) j2 p2, .Constant (.int 1) j3 p3] X.env)).all (fun x => !x.1) && (backToKw cpos (keywordEach [] X.env)).all (fun x => x.1.isSome)
      && decide (([.Constant (.str y) j1 p1, .Constant (.str z) j2 p2, .Constant (.int 1) j3 p3] : List Expr).length + ([] : List Keyword).length + (if ([] : List Keyword).isEmpty then 0 else 1) < 30)) = true := by rfl)
    (hline : (apos.endLine == cpos.line) = true := by rfl) (hs : starEach [.Constant (.str y) j1 p1, .Constant (.str z) j2 p2, .Constant (.int 1) j3 p3] X.env = [(false, eval (.Constant (.str y) j1 p1) X.env), (false, eval (.Constant (.str z) j2 p2) X.env), (false, eval (.Constant (.int 1) j3 p3) X.env)] := by rfl) :
    PE0 X (.Call (.Attribute (.Name x p) "replace" apos) [.Constant (.str y) j1 p1, .Constant (.str z) j2 p2, .Constant (.int 1) j3 p3] [] cpos) (tRepl i y z) := by
  intro pins s σ H Q I tk h
  obtain ⟨v, e, t, rfl, hl, hr, q⟩ := vB_ex h
  obtain ⟨m, hn, hL⟩ := I.loc
  obtain ⟨u, r, l⟩ := hL i x _ hN e hv
  obtain ⟨tt, rfl⟩ := r
  refine wpAny_Call_method_late hbase hfew hline rfl ?_
  have fin : MethodOn X.prog X.w X.A "replace" cpos (.str t tt) (backTo cpos (starEach [.Constant (.str y) j1 p1, .Constant (.str z) j2 p2, .Constant (.int 1) j3 p3] X.env)) (EP X pins σ Q) X.xe s := by
    refine ⟨"str", "str.replace", F.plainAttrs_str, F.slot_str_replace, F.type_str_replace, typeIs_str s t tt, (fun _ e => by cases e), ?_⟩
    rw [hs]
    refine Calls.callWith_builtin rfl (Calls.evalArgs_plain ?_)
    show wpAny _ _ (spliced [(false, eval (.Constant (.str y) j1 p1) X.env), (false, eval (.Constant (.str z) j2 p2) X.env), (false, eval (.Constant (.int 1) j3 p3) X.env)]) _ _ s
    refine Calls.spliced_cons (Calls.Constant_str (k := j1) (pos := p1) ?_)
    refine Calls.spliced_cons (Calls.Constant_str (k := j2) (pos := p2) ?_)
    refine Calls.spliced_cons (wpAny_Constant_int (pos := p3) ?_)
    refine Calls.spliced_nil ?_
    exact repl_run tk (Nat.succ_ne_zero _) (Nat.ne_of_lt (Nat.lt_succ_self _)) hyz hy hl hr fun t' k' => ⟨.str _, H, I.tok _, ⟨_, rfl⟩, q⟩
  rcases l with ⟨hk, hm⟩ | ⟨hk, c, hc, hcell⟩
  · exact wpAny_Name (wpAny_loadName_local I.ok.kind hk hn hm fin) hd
  · rcases hk with hk | hk
    · exact wpAny_Name (wpAny_loadName_cell I.ok.kind hk hc hcell fin) hd
    · exact wpAny_Name (wpAny_loadName_free I.ok.kind hk hc hcell fin hcd) hd
end
end L2
set_option Elab.async false
set_option linter.all false
set_option maxRecDepth 100000
namespace L2
open PySem PySem.Spec PyProof.Rows
local macro_rules | `(tactic| walk_at "w") => `(tactic| (first | simp only [w_seq, w_make, w_inG, w_lenset, w_revL, w_int2B, w_int2I, w_max, w_isN, w_notN, w_pow, if_true, if_false, Bool.false_eq_true, decide_true, decide_false, w_lrng1, w_lrng2, w_ifE, w_compR2, w_scompR2, w_forRD, w_forE, w_compE, w_scompE, w_intB, w_intI, w_bitlen, w_shr, w_isi_ii, w_isi_ib, w_isi_bb, w_isi_bi, w_isi_ss, w_isi_bs, w_isi_is, w_iteT, w_iteF, w_negE, w_bitI, w_str, Bool.not_true, Bool.not_false, w_next, w_asg, w_gname, w_var0, w_varS, w_c, w_op, w_ret, w_retN, w_drop, w_test, w_b, w_not, w_and, w_or, w_notV, w_andV, w_orV, w_nil, w_cons, w_cb, w_call, w_tup, w_lst, w_bm, w_bm0, w_true, w_dnew, w_dput, w_forL, w_forR1, w_forR2, w_compL, w_compR1, w_scompL, w_scompR1, w_add, w_sub, w_mul, w_div, w_mod, w_cmp, w_eqI, w_neI, w_eqB, w_neB, w_abs, w_min, w_sl, w_part, w_nopart, w_gsub, w_un, w_forS, w_compS, w_scompS, w_eqS, w_neS, w_lenS, w_addS, w_find,
  List.getElem?_cons_zero, List.getElem?_cons_succ, Option.some.injEq, exists_eq_left', exists_eq_left, List.set_cons_zero, List.set_cons_succ, bnd_some, V.int.injEq, V.bl.injEq, V.ref.injEq, V.str.injEq, List.nil_append, List.cons_append] | dsimp only | skip))
def os71 (a : EA) : List Addr := [a.NoFilling, a.NoRule, a.NoRow, a.BadThought]
def PE71 (K : PySem.W.Frag) (H : Hp) (E : XK) : Prop := ∀ C H', Glb K "NoText" C → Same H H' → E (.ref C) none H'
theorem PE71.same {K : PySem.W.Frag} {H H' : Hp} {E : XK} (h : PE71 K H E) (s : Same H H') : PE71 K H' E := fun C H2 g s2 => h C H2 g (s.trans s2)
def Asc (t : List Nat) : Prop := ∀ c ∈ t, c < 128
theorem inV_nons : ∀ os : List (Option Nat), inV .non (os.map nV) = decide (none ∈ os)
  | [] => by simp [inV]
  | o :: r => by
    have ih := inV_nons r
    unfold inV at ih ⊢
    rw [List.map_cons, List.any_cons, ih]
    cases o with
    | none => simp [nV]; exact .inl rfl
    | some n =>
      have : eqV (nV (some n)) .non = false := rfl
      rw [this]
      simp
theorem flat_nons : ∀ os : List (Option Nat), (os.map nV).all flatV = true
  | [] => rfl
  | o :: r => by
    rw [List.map_cons, List.all_cons, flat_nons r]
    cases o <;> rfl
theorem w_inNonV {K : PySem.W.Frag} {H : Hp} {Q : VK} {p : Addr} {os : List (Option Nat)} (h : H p = some (.lst (os.map nV))) : cIn K false .non (.ref p) H Q = Q (.bl (decide (none ∈ os))) H := by
  unfold cIn; dsimp only; rw [h]; dsimp only [unD, unS, bnd]
  rw [inV_nons, flat_nons]
  simp [flatV]
theorem nV_some : ∀ {ws : List (List Nat)}, none ∉ ws.map numW → (ws.map numW).map nV = natV (ws.filterMap numW)
  | [], _ => rfl
  | w :: r, h => by
    have h' : none ∉ r.map numW := fun e => h (by rw [List.map_cons]; exact List.mem_cons_of_mem _ e)
    have ih := nV_some h'
    cases e : numW w with
    | none => exact absurd (by rw [List.map_cons, e]; exact List.mem_cons_self) h
    | some n => rw [List.map_cons, List.map_cons, ih, List.filterMap_cons, e]; rfl
def sp_refuse_no_text71 (K : PySem.W.Frag) : Sp := fun vs H Q _ => ∃ t : Str, vs = [.str t] ∧ Q .non H
theorem sl_refuse_no_text71 {K : PySem.W.Frag} {vs : List V} {H : Hp} {Q : VK} {E : XK} (h : sp_refuse_no_text71 K vs H Q E) : vs.length = 1 := by
  obtain ⟨_, rfl, _⟩ := h; rfl
def rd_refuse_no_text71 (K : PySem.W.Frag) (a : EA) (E : XK) : TS :=
  (tIfS (tNot (tB (tCB kIsi (tCons (tVar 0) (tCons (tC (.ty "str")) tNil))))) (tRaise E a.NoText (tCons (tC (.str (tx [111, 110, 108, 121, 32, 97, 32, 116, 101, 120, 116, 32, 105, 115, 32, 114, 101, 97, 100]))) tNil)) tNext)
def sp_read_numbers71 (K : PySem.W.Frag) : Sp := fun vs H Q E => ∃ (W : Addr) (ws : List (List Nat)), vs = [.ref W] ∧ H W = some (.lst ((ws.map tx).map V.str)) ∧ ws.length ≤ 800 ∧ (∀ w ∈ ws, WdOk w) ∧
  (∀ ns, numsM ws = some ns → ∀ l H', Same H H' → H l = none → H' l = some (.lst (natV ns)) → Q (.ref l) H') ∧ (numsM ws = none → PE71 K H E)
theorem sl_read_numbers71 {K : PySem.W.Frag} {vs : List V} {H : Hp} {Q : VK} {E : XK} (h : sp_read_numbers71 K vs H Q E) : vs.length = 1 := by
  obtain ⟨_, _, rfl, _⟩ := h; rfl
def rd_read_numbers71 (K : PySem.W.Frag) (a : EA) (E : XK) : TS :=
  (tSeq (sComp 1 [none, none] (iList K (tVar 0)) (gName 1) tTrue (tCall (sp_number_in18 K) [] E0 (tCons (tVar 1) tNil)))
    (tSeq (tIfS (tTest (tOp (cIn K false) (tC .non) (tVar 1))) (tRaise E a.NoText (tCons (tC (.str (tx [97, 32, 110, 117, 109, 98, 101, 114, 32, 104, 97, 115, 32, 111, 110, 101, 32, 116, 111, 32, 110, 105, 110, 101, 32, 102, 105, 103, 117, 114, 101, 115, 44, 32, 119, 105, 116, 104, 111, 117, 116, 32, 110, 111, 117, 103, 104, 116, 115, 32, 97, 104, 101, 97, 100]))) tNil)) tNext)
    (tRet (tVar 1))))
def sp_thought_texts71 (K : PySem.W.Frag) : Sp := fun vs H Q E => ∃ t : List Nat, vs = [.str (tx t)] ∧ t.length ≤ 800 ∧ Asc t ∧
  (((pcsOf t).foldl tt9 ([], [], 0)).2.1 = [] → ∀ U H', Same H H' → H U = none → H' U = some (.lst ((((pcsOf t).foldl tt9 ([], [], 0)).1.map tx).map V.str)) → Q (.ref U) H') ∧ (((pcsOf t).foldl tt9 ([], [], 0)).2.1 ≠ [] → PE71 K H E)
theorem sl_thought_texts71 {K : PySem.W.Frag} {vs : List V} {H : Hp} {Q : VK} {E : XK} (h : sp_thought_texts71 K vs H Q E) : vs.length = 1 := by
  obtain ⟨_, rfl, _⟩ := h; rfl
def rd_thought_texts71_t4 (K : PySem.W.Frag) (a : EA) (E : XK) : TS :=
  (tSeq (tIfS (tTest (tOp (cNe K) (tVar 2) (tLst tNil))) (tRaise E a.NoText (tCons (tC (.str (tx [116, 104, 101, 32, 98, 114, 97, 99, 107, 101, 116, 115, 32, 111, 102, 32, 116, 104, 101, 32, 98, 111, 111, 107, 32, 100, 111, 32, 110, 111, 116, 32, 99, 108, 111, 115, 101]))) tNil)) tNext)
    (tRet (tVar 1)))
def rd_thought_texts71 (K : PySem.W.Frag) (a : EA) (E : XK) : TS :=
  (tSeq (tAsg (tLst tNil) (gName 1))
    (tSeq (tAsg (tLst tNil) (gName 2))
    (tSeq (tAsg (tC (.int 0)) (gName 3))
    (tSeq (tFor (iList K (tBM K "str" kSplit (tVar 0) (tCons (tC (.str (tx [59, 32]))) tNil))) (gName 4)
    (tSeq (tDrop (tBM K "list" kAppend (tVar 2) (tCons (tVar 4) tNil)))
    (tSeq (tAsg (tOp cSub (tOp cAdd (tVar 3) (tBM K "str" kCountS (tVar 4) (tCons (tC (.str (tx [40]))) tNil))) (tBM K "str" kCountS (tVar 4) (tCons (tC (.str (tx [41]))) tNil))) (gName 3))
    (tIfS (tTest (tOp (cEq K) (tVar 3) (tC (.int 0)))) (tSeq (tDrop (tBM K "list" kAppend (tVar 1) (tCons (tBM K "str" kJoin (tC (.str (tx [59, 32]))) (tCons (tVar 2) tNil)) tNil)))
    (tAsg (tLst tNil) (gName 2))) tNext))))
    (rd_thought_texts71_t4 K a E)))))
def sp_read_plain71 (K : PySem.W.Frag) : Sp := fun vs H Q E => ∃ t : List Nat, vs = [.str (tx t)] ∧ t.length ≤ 400 ∧ Asc t ∧
  (∀ x, plM t = some x → ∀ r H', Same H H' → IsI (DF H) (fun _ _ => False) H' r x → Q (.ref r) H') ∧ (plM t = none → PE71 K H E)
theorem sl_read_plain71 {K : PySem.W.Frag} {vs : List V} {H : Hp} {Q : VK} {E : XK} (h : sp_read_plain71 K vs H Q E) : vs.length = 1 := by
  obtain ⟨_, rfl, _⟩ := h; rfl
def rd_read_plain71_t2 (K : PySem.W.Frag) (a : EA) (E : XK) : TS :=
  (tSeq (tAsg (tCall (sp_read_numbers71 K) [] E (tCons (tSl cSl2 (tVar 1) (tPart (tC (.int 1))) tNoPart) tNil)) (gName 2))
    (tRet (tTup (tCons (tOp cIx (tVar 1) (tC (.int 0))) (tCons (tOp cIx (tVar 2) (tC (.int 0))) (tCons (tOp cIx (tVar 2) (tC (.int 1))) (tCons (tOp cIx (tVar 2) (tC (.int 2))) (tCons (tSl cSl2 (tVar 2) (tPart (tC (.int 3))) tNoPart) tNil))))))))
def rd_read_plain71 (K : PySem.W.Frag) (a : EA) (E : XK) : TS :=
  (tSeq (tAsg (tBM K "str" kSplit (tVar 0) (tCons (tC (.str (tx [32]))) tNil)) (gName 1))
    (tSeq (tIfS (tOr (tB (tInG gt_KINDS true (tOp cIx (tVar 1) (tC (.int 0))))) (tTest (tOp (cCmp fun i j => decide (i < j)) (tCB kLen (tCons (tVar 1) tNil)) (tC (.int 4))))) (tRaise E a.NoText (tCons (tC (.str (tx [97, 32, 116, 104, 111, 117, 103, 104, 116, 32, 104, 97, 115, 32, 97, 32, 107, 105, 110, 100, 44, 32, 97, 32, 114, 117, 108, 101, 44, 32, 97, 32, 99, 101, 108, 108, 32, 97, 110, 100, 32, 97, 32, 115, 105, 103, 110]))) tNil)) tNext)
    (rd_read_plain71_t2 K a E)))
theorem cat_pcs (t : List Nat) : catS [59, 32] (pcsOf t) = t ∧ pcsOf t ≠ [] ∧ Txt.split (tx t) (tx [59, 32]) = (pcsOf t).map tx := by
  have h1 := StrLaws.join_split (tx t) (tx [59, 32])
  have e : Txt.split (tx t) (tx [59, 32]) = (pcsOf t).map tx := (tx_unS9 _).symm
  rw [e, joinS_tx] at h1
  refine ⟨tx_inj h1, fun h => ?_, e⟩
  rw [h] at e
  exact split_ne _ _ e
theorem w_neNil {K : PySem.W.Frag} {H : Hp} {Q : VK} {G p : Addr} {h : List (List Nat)} (hG : H G = some (.lst ((h.map tx).map V.str))) (hp : H p = some (.lst [])) (ha : ∀ r ∈ h, Asc r) (q : Q (.bl (!decide (h = []))) H) : cNe K (.ref G) (.ref p) H Q := by
  have dv : DVs K H ((h.map tx).map V.str) ((h.map tx).map PyData.str) := DVs.of (by simp) fun i x d hx hd => by
    rw [List.getElem?_map] at hx hd
    cases e : (h.map tx)[i]? with
    | none => rw [e] at hx; cases hx
    | some y => rw [e] at hx hd; cases hx; cases hd; exact .str _
  refine ⟨_, _, .lst (SqL.of hG) dv, .lst (SqL.of hp) .nil, ?_, by decide, ?_⟩
  · have g : GoodD 1 (.list ((h.map tx).map PyData.str)) := GoodD.list fun d hd => by
      obtain ⟨y, hy, rfl⟩ := List.mem_map.mp hd
      obtain ⟨r, hr, rfl⟩ := List.mem_map.mp hy
      refine GoodD.str ?_
      show PyData.strOk (tx r) = true
      unfold PyData.strOk
      rw [Array.all_eq_true]
      intro i hi
      have hi2 : i < r.length := by simpa [tx] using hi
      have h3 := ha r hr _ (List.getElem_mem hi2)
      refine decide_eq_true ?_
      show r.toArray[i] < 1114112
      rw [List.getElem_toArray]
      omega
    exact g.shaped (by decide)
  · cases h with
    | nil => exact q
    | cons r t => exact q
section
variable {o1 : List Addr} {K : PySem.W.Frag} {a : EA} {vs : List V} {H : Hp} {Q : VK} {E : XK} (RT : Ref1 K a "NoText" a.NoText o1)
include RT
theorem rk_refuse_no_text71 (h : sp_refuse_no_text71 K vs H Q E) : rd_refuse_no_text71 K a E { nx := fun _ H' => Q .non H', rt := Q } (start ["text"] vs) H := by
  obtain ⟨t, rfl, q⟩ := h
  show rd_refuse_no_text71 K a E _ [some (.str t)] H
  unfold rd_refuse_no_text71
  rw [w_if]
  walk_at "w"
  exact q
theorem rk_read_numbers71 (h : sp_read_numbers71 K vs H Q E) : rd_read_numbers71 K a E { nx := fun _ H' => Q .non H', rt := Q } (start ["words", "numbers"] vs) H := by
  obtain ⟨W, ws, rfl, hW, hl, hw, q1, q2⟩ := h
  show rd_read_numbers71 K a E _ [some (.ref W), none] H
  unfold rd_read_numbers71
  walk_at "w"
  refine ⟨⟨_, SqL.of hW⟩, ?_⟩
  refine compV_list (xs := (ws.map tx).map V.str) (fun _ => true) (fun i => nV (numW (ws.getD i []))) (by simp; omega) (SqL.of hW) ?_ ?_ ?_
  · intro i x H1 R hx s1 k1
    exact k1 _ (Same.refl _)
  · intro i x H1 Q1 hx hb s1 k1
    rw [List.getElem?_map, List.getElem?_map] at hx
    cases e : ws[i]? with
    | none => rw [e] at hx; cases hx
    | some y =>
      rw [e] at hx
      cases hx
      show tCall _ _ _ _ [none, some (.str (tx y))] H1 Q1
      walk_at "w"
      have eg : ws.getD i [] = y := by rw [List.getD, e]; rfl
      rw [eg] at k1
      exact ⟨y, rfl, hw y (List.mem_of_getElem? e), k1⟩
  · intro l H1 hl1 s1 el
    have el2 : H1 l = some (.lst ((ws.map numW).map nV)) := by
      rw [el, filter_tt, List.length_map, List.length_map, List.map_map]
      congr 2
      refine List.ext_getElem? fun i => ?_
      rw [List.getElem?_map, List.getElem?_map]
      by_cases h : i < ws.length
      · rw [List.getElem?_range h, List.getElem?_eq_getElem h]
        simp [List.getD, h]
      · rw [List.getElem?_eq_none (by simpa using h), List.getElem?_eq_none (by omega)]; rfl
    walk_at "w"
    rw [w_if]
    walk_at "w"
    rw [w_inNonV el2]
    by_cases hb : none ∈ ws.map numW
    · rw [decide_eq_true hb]
      refine ⟨true, rfl, iteT ?_⟩
      rw [w_raise]
      walk_at "w"
      exact ⟨len_le (by show (1 : Nat) ≤ 1000; decide), q2 (by unfold numsM; rw [if_pos hb]) _ _ RT.g s1⟩
    · rw [decide_eq_false hb]
      refine ⟨false, rfl, iteF ?_⟩
      walk_at "w"
      exact q1 _ (by unfold numsM; rw [if_neg hb]) l H1 s1 hl1 (by rw [el2, nV_some hb])
theorem rk_thought_texts71_t4 {H0 : Hp} {t : List Nat} {L : Addr} {P f h : List (List Nat)} {u : Int} {i : Nat} {σ : St} (T : TT70 H0 H t L P i (f, h, u) σ) (ha : ∀ r ∈ h, Asc r) (q : h = [] → ∀ U H', H0 U = none → Same H0 H' → H' U = some (.lst ((f.map tx).map V.str)) → Q (.ref U) H') (qe : h ≠ [] → PE71 K H0 E) :
    rd_thought_texts71_t4 K a E { nx := fun _ H' => Q .non H', rt := Q } σ H := by
  obtain ⟨F, G, v, rfl, hF, hG, ne, nl, nl2, eF, eG, eL, s⟩ := T.ex
  unfold rd_thought_texts71_t4
  rw [w_seq, w_if]
  walk_at "w"
  refine ⟨by show 0 ≤ sizeLine; omega, fun p hp => ?_⟩
  have sp := (Same.refl H).laid (o := .lst []) hp
  refine w_neNil (sp _ _ eG) upd_same ha ?_
  refine ⟨_, rfl, ?_⟩
  by_cases hh : h = []
  · rw [decide_eq_true hh]
    refine iteF ?_
    exact q hh F _ hF (s.trans sp) (sp _ _ eF)
  · rw [decide_eq_false hh]
    refine iteT ?_
    rw [w_raise]
    walk_at "w"
    exact ⟨len_le (by show (1 : Nat) ≤ 1000; decide), qe hh _ _ RT.g (s.trans sp)⟩
omit RT in
theorem tt_asc {P : List (List Nat)} (hP : ∀ r ∈ P, Asc r) (i : Nat) : ∀ r ∈ ((P.take i).foldl tt9 ([], [], 0)).2.1, Asc r := by
  have key : ∀ (P : List (List Nat)) (s : List (List Nat) × List (List Nat) × Int), (∀ r ∈ P, Asc r) → (∀ r ∈ s.2.1, Asc r) → ∀ r ∈ (P.foldl tt9 s).2.1, Asc r := by
    intro P
    induction P with
    | nil => exact fun s _ h => h
    | cons p t ih =>
      intro s hp hs
      rw [List.foldl_cons]
      refine ih _ (fun r hr => hp r (List.mem_cons_of_mem _ hr)) ?_
      unfold tt9
      split
      · exact fun r hr => by cases hr
      · intro r hr
        rcases List.mem_append.mp hr with hr | hr
        · exact hs r hr
        · rw [List.mem_singleton.mp hr]; exact hp p List.mem_cons_self
  exact key _ _ (fun r hr => hP r (List.mem_of_mem_take hr)) fun r hr => by cases hr
omit RT in
theorem pc_asc {t : List Nat} (h : Asc t) : ∀ r ∈ pcsOf t, Asc r := fun r hr c hc => by
  refine h c ?_
  rw [← (cat_pcs t).1]
  have : ∀ {P : List (List Nat)}, r ∈ P → c ∈ catS [59, 32] P := by
    intro P
    induction P with
    | nil => intro h; cases h
    | cons x P ih =>
      intro hr
      cases P with
      | nil => rw [List.mem_singleton.mp hr] at hc; exact hc
      | cons y P =>
        show c ∈ x ++ ([59, 32] ++ catS [59, 32] (y :: P))
        rcases List.mem_cons.mp hr with rfl | hr
        · exact List.mem_append_left _ hc
        · exact List.mem_append_right _ (List.mem_append_right _ (ih hr))
  exact this hr
theorem rk_thought_texts71 (h : sp_thought_texts71 K vs H Q E) : rd_thought_texts71 K a E { nx := fun _ H' => Q .non H', rt := Q } (start ["text", "found", "held", "unclosed", "piece"] vs) H := by
  obtain ⟨t, rfl, hl, asc, q, qe⟩ := h
  have z := z70
  obtain ⟨ec, ne, hsp⟩ := cat_pcs t
  have hl : t.length ≤ 900000 := by omega
  have hpa := pc_asc asc
  have hpl := pcs_len (L := pcsOf t)
  rw [ec] at hpl
  generalize hP : pcsOf t = P at *
  show rd_thought_texts71 K a E _ [some (.str (tx t)), none, none, none, none] H
  unfold rd_thought_texts71
  walk_at "w"
  refine ⟨by show 0 ≤ sizeLine; omega, fun F hF => ?_⟩
  refine ⟨by show 0 ≤ sizeLine; omega, fun G hG => ?_⟩
  walk_at "w"
  refine ⟨w_tyS, ?_⟩
  rw [w_split, hsp]
  refine ⟨rfl, by rw [tx_len]; omega, by rw [List.length_map]; omega, fun L hL => ?_⟩
  have hGF : F ≠ G := fun e => by subst e; rw [upd_same] at hG; cases hG
  have hGL : G ≠ L := fun e => by subst e; rw [upd_same] at hL; cases hL
  have eF2 : upd (upd H F (.lst [])) G (.lst []) F = some (.lst []) := by rw [upd_ne hGF, upd_same]
  have hFL : F ≠ L := fun e => by subst e; rw [eF2] at hL; cases hL
  have hG0 : H G = none := by rw [upd_ne (Ne.symm hGF)] at hG; exact hG
  have s0 : Same H (upd (upd (upd H F (.lst [])) G (.lst [])) L (.lst ((P.map tx).map V.str))) := (((Same.refl H).laid hF).laid hG).laid hL
  have eL : (upd (upd (upd H F (.lst [])) G (.lst [])) L (.lst ((P.map tx).map V.str))) L = some (.lst ((P.map tx).map V.str)) := upd_same
  refine ⟨L, rfl, ⟨_, SqL.of eL⟩, ?_⟩
  refine for_list (xs := (P.map tx).map V.str) (fun i σ H' => TT70 H H' t L P i ((P.take i).foldl tt9 ([], [], 0)) σ) ⟨⟨F, G, none, rfl, hF, hG0, hGF, hFL, hGL, by rw [upd_ne hFL]; exact eF2, by rw [upd_ne hGL, upd_same]; rfl, eL, s0⟩, by simp, ⟨[], rfl⟩⟩ (fun i σ H' _ h => by obtain ⟨_, _, _, _, _, _, _, _, _, _, _, e, _⟩ := h.ex; exact SqL.of e) ?_ ?_
  · rintro i x σ H1 hx T
    rw [List.getElem?_map, List.getElem?_map] at hx
    cases e : P[i]? with
    | none => rw [e] at hx; cases hx
    | some p =>
      rw [e] at hx
      cases hx
      have hi : i < P.length := (List.getElem?_eq_some_iff.mp e).1
      have et : P.take (i + 1) = P.take i ++ [p] := by rw [List.take_succ, e]; rfl
      rw [et, List.foldl_append]
      generalize (P.take i).foldl tt9 ([], [], 0) = s at *
      obtain ⟨f, h, u⟩ := s
      obtain ⟨F, G, v, rfl, hF, hG, nFG, nFL, nGL, eF, eG, eL, s1⟩ := T.ex
      obtain ⟨A, eA⟩ := T.mid
      have bd := T.bd
      simp only at eF eG eA bd
      have hjl : (catS [59, 32] (h ++ [p])).length ≤ 900000 := by
        refine Nat.le_trans ?_ hl
        rw [← ec, ← List.take_append_drop (i + 1) P, et, eA, List.append_assoc, List.append_assoc]
        exact Nat.le_trans (catS_left (B := P.drop (i + 1))) (by rw [List.append_assoc]; exact catS_right)
      walk_at "w"
      refine ⟨tyV_list eG, ?_⟩
      rw [w_append eG]
      refine ⟨by rw [List.length_map, List.length_map]; omega, ?_⟩
      have eG' : upd H1 G (.lst ((h.map tx).map V.str ++ [V.str (tx p)])) G = some (.lst (((h ++ [p]).map tx).map V.str)) := by rw [upd_same]; simp
      have eF' : upd H1 G (.lst ((h.map tx).map V.str ++ [V.str (tx p)])) F = some (.lst ((f.map tx).map V.str)) := by rw [upd_ne nFG]; exact eF
      have eL' : upd H1 G (.lst ((h.map tx).map V.str ++ [V.str (tx p)])) L = some (.lst ((P.map tx).map V.str)) := by rw [upd_ne (Ne.symm nGL)]; exact eL
      have s2 : Same H (upd H1 G (.lst ((h.map tx).map V.str ++ [V.str (tx p)]))) := s1.own hG
      generalize upd H1 G (.lst ((h.map tx).map V.str ++ [V.str (tx p)])) = H2 at *
      walk_at "w"
      refine ⟨w_tyS, w_tyS, ?_⟩
      rw [w_cntS, w_sub, count_tx, count_tx, show u + (p.count 40 : Int) - (p.count 41 : Int) = u + cnt9 p by unfold cnt9; omega]
      rw [w_if]
      walk_at "w"
      have efl : List.foldl tt9 (f, h, u) [p] = tt9 (f, h, u) p := rfl
      rw [efl]
      by_cases hz : u + cnt9 p = 0
      · have e9 : tt9 (f, h, u) p = (f ++ [catS [59, 32] (h ++ [p])], [], 0) := by unfold tt9; rw [if_pos hz]
        rw [decide_eq_true hz, e9]
        refine iteT ?_
        refine ⟨tyV_list eF', w_tyS, ?_⟩
        refine w_join70 eG' (by show _ + 2 ≤ _; omega) ?_
        rw [w_append eF']
        refine ⟨by rw [List.length_map, List.length_map]; omega, ?_⟩
        have eF3 : upd H2 F (.lst ((f.map tx).map V.str ++ [V.str (tx (catS [59, 32] (h ++ [p])))])) F = some (.lst (((f ++ [catS [59, 32] (h ++ [p])]).map tx).map V.str)) := by rw [upd_same]; simp
        have eL3 : upd H2 F (.lst ((f.map tx).map V.str ++ [V.str (tx (catS [59, 32] (h ++ [p])))])) L = some (.lst ((P.map tx).map V.str)) := by rw [upd_ne (Ne.symm nFL)]; exact eL'
        have s3 : Same H (upd H2 F (.lst ((f.map tx).map V.str ++ [V.str (tx (catS [59, 32] (h ++ [p])))]))) := s2.own hF
        generalize upd H2 F (.lst ((f.map tx).map V.str ++ [V.str (tx (catS [59, 32] (h ++ [p])))])) = H3 at *
        walk_at "w"
        refine ⟨by show 0 ≤ sizeLine; omega, fun G2 hG2 => ?_⟩
        have n1 : F ≠ G2 := fun e => by subst e; rw [eF3] at hG2; cases hG2
        have n2 : G2 ≠ L := fun e => by subst e; rw [eL3] at hG2; cases hG2
        have hG20 : H G2 = none := by
          cases e0 : H G2 with
          | none => rfl
          | some u9 => rw [s3 _ _ e0] at hG2; cases hG2
        exact ⟨⟨F, G2, some (.str (tx p)), by rw [hz], hF, hG20, n1, nFL, n2, by rw [upd_ne n1]; exact eF3, by rw [upd_same]; rfl, by rw [upd_ne (Ne.symm n2)]; exact eL3, s3.laid hG2⟩, by simp; omega, ⟨P.take (i + 1), by simp⟩⟩
      · have e9 : tt9 (f, h, u) p = (f, h ++ [p], u + cnt9 p) := by unfold tt9; rw [if_neg hz]
        rw [decide_eq_false hz, e9]
        refine iteF ?_
        exact ⟨⟨F, G, some (.str (tx p)), rfl, hF, hG, nFG, nFL, nGL, eF', eG', eL', s2⟩, by simp; omega, ⟨A, by rw [et, eA]; simp⟩⟩
  · rintro σ H1 T
    rw [List.length_map, List.length_map] at T
    have ha := tt_asc hpa P.length
    rw [List.take_length] at T ha
    generalize hs : P.foldl tt9 ([], [], 0) = s at *
    obtain ⟨f, h, u⟩ := s
    exact rk_thought_texts71_t4 RT T ha (fun hh U H' hU s' e' => q hh U H' s' hU e') qe
end
theorem wds_ok {t : List Nat} (hl : t.length ≤ 400) (ha : Asc t) : ∀ w ∈ wdsOf t, WdOk w := by
  obtain ⟨h1, h2, h3⟩ := wdsOf_ex t
  intro w hw
  have key : ∀ {rows : List (List Nat)}, w ∈ rows → w.length ≤ (catL 32 rows).length ∧ ∀ c ∈ w, c ∈ catL 32 rows := by
    intro rows
    induction rows with
    | nil => intro h; cases h
    | cons x r ih =>
      intro h
      cases r with
      | nil => rw [List.mem_singleton.mp h]; exact ⟨Nat.le_refl _, fun c hc => hc⟩
      | cons y r =>
        have e : catL 32 (x :: y :: r) = x ++ 32 :: catL 32 (y :: r) := rfl
        rw [e]
        rcases List.mem_cons.mp h with rfl | h
        · exact ⟨by rw [List.length_append]; omega, fun c hc => List.mem_append_left _ hc⟩
        · obtain ⟨i1, i2⟩ := ih h
          exact ⟨by rw [List.length_append, List.length_cons]; omega, fun c hc => List.mem_append_right _ (List.mem_cons_of_mem _ (i2 c hc))⟩
  obtain ⟨k1, k2⟩ := key hw
  rw [h3] at k1 k2
  exact ⟨by omega, fun c hc => ha c (k2 c hc)⟩
theorem wds_len {t : List Nat} : (wdsOf t).length ≤ t.length + 1 := by
  obtain ⟨h1, h2, h3⟩ := wdsOf_ex t
  have key : ∀ {rows : List (List Nat)}, rows.length ≤ (catL 32 rows).length + 1 := by
    intro rows
    induction rows with
    | nil => simp
    | cons x r ih =>
      cases r with
      | nil => simp
      | cons y r =>
        have e : catL 32 (x :: y :: r) = x ++ 32 :: catL 32 (y :: r) := rfl
        rw [e]
        simp only [List.length_append, List.length_cons] at ih ⊢
        omega
  have := key (rows := wdsOf t)
  rw [h3] at this
  exact this
theorem numsM_len {ws : List (List Nat)} {ns : List Nat} (h : numsM ws = some ns) : ns.length = ws.length := by
  unfold numsM at h
  split at h
  · cases h
  · rename_i hn
    cases h
    have : (ws.map numW).map nV = natV (ws.filterMap numW) := nV_some hn
    have := congrArg List.length this
    simpa using this.symm
theorem kw_of {w : List Nat} (h : tx w ∈ gt_KINDS) : w ∈ KW := by
  have e : gt_KINDS = KW.map tx := rfl
  rw [e] at h
  obtain ⟨v, hv, e2⟩ := List.mem_map.mp h
  rw [← tx_inj e2]; exact hv
section
variable {o1 : List Addr} {K : PySem.W.Frag} {a : EA} {vs : List V} {H : Hp} {Q : VK} {E : XK} (RT : Ref1 K a "NoText" a.NoText o1)
include RT
theorem rk_read_plain71 (h : sp_read_plain71 K vs H Q E) : rd_read_plain71 K a E { nx := fun _ H' => Q .non H', rt := Q } (start ["text", "words", "numbers"] vs) H := by
  obtain ⟨t, rfl, hl, asc, q, qe⟩ := h
  have z := z70
  have hw := wds_ok hl asc
  have hwl := wds_len (t := t)
  have hsp : Txt.split (tx t) (tx [32]) = (wdsOf t).map tx := (tx_unS9 _).symm
  obtain ⟨hne, _, _⟩ := wdsOf_ex t
  show rd_read_plain71 K a E _ [some (.str (tx t)), none, none] H
  unfold rd_read_plain71
  walk_at "w"
  refine ⟨w_tyS, ?_⟩
  rw [w_split, hsp]
  refine ⟨rfl, by rw [tx_len]; omega, by rw [List.length_map]; omega, fun W hW => ?_⟩
  have s1 : Same H (upd H W (.lst (((wdsOf t).map tx).map V.str))) := (Same.refl H).laid hW
  have eW : upd H W (.lst (((wdsOf t).map tx).map V.str)) W = some (.lst (((wdsOf t).map tx).map V.str)) := upd_same
  generalize upd H W (.lst (((wdsOf t).map tx).map V.str)) = H1 at *
  unfold plM at q qe
  generalize wdsOf t = ws at *
  obtain ⟨w, r, rfl⟩ : ∃ w r, ws = w :: r := by
    cases ws with
    | nil => exact absurd rfl hne
    | cons w r => exact ⟨w, r, rfl⟩
  have q : ∀ x, (if w ∈ KW ∧ 4 ≤ (w :: r).length then (match numsM r with | some (a :: b :: c :: m) => some (Th7.pl w a b c m) | _ => none) else none) = some x → ∀ r H', Same H H' → IsI (DF H) (fun _ _ => False) H' r x → Q (.ref r) H' := q
  have qe : (if w ∈ KW ∧ 4 ≤ (w :: r).length then (match numsM r with | some (a :: b :: c :: m) => some (Th7.pl w a b c m) | _ => none) else none) = none → PE71 K H E := qe
  rw [w_if]
  walk_at "w"
  refine ixL eW (atI_nat (j := 0) rfl) ⟨tx w, rfl, ?_⟩
  by_cases hk : w ∈ KW
  · rw [kw_inG w hk]
    walk_at "w"
    rw [w_len eW]
    walk_at "w"
    by_cases h4 : 4 ≤ (w :: r).length
    · rw [decide_eq_false (by simp at h4 ⊢; omega)]
      refine iteF ?_
      rw [if_pos ⟨hk, h4⟩] at q qe
      unfold rd_read_plain71_t2
      walk_at "w"
      refine sl_tail eW fun p hp => ?_
      have s2 : Same H1 (upd H1 p (.lst ((r.map tx).map V.str))) := (Same.refl H1).laid hp
      have ep : upd H1 p (.lst ((r.map tx).map V.str)) p = some (.lst ((r.map tx).map V.str)) := upd_same
      generalize upd H1 p (.lst ((r.map tx).map V.str)) = H2 at *
      refine ⟨p, r, rfl, ep, by simp at hwl; omega, fun w' hw' => hw w' (List.mem_cons_of_mem _ hw'), fun ns hns N H3 s3 hN eN => ?_, fun hno => ?_⟩
      · have hlen := numsM_len hns
        obtain ⟨x0, x1, x2, m, rfl⟩ : ∃ x0 x1 x2 m, ns = x0 :: x1 :: x2 :: m := by
          match ns, hlen with
          | [], hlen => simp at h4 hlen; omega
          | [_], hlen => simp at h4 hlen; omega
          | [_, _], hlen => simp at h4 hlen; omega
          | x0 :: x1 :: x2 :: m, _ => exact ⟨x0, x1, x2, m, rfl⟩
        rw [hns] at q
        have s13 := s1.trans (s2.trans s3)
        walk_at "w"
        refine ixL (s3 _ _ (s2 _ _ eW)) (atI_nat (j := 0) rfl) ?_
        refine ixL eN (atI_nat (j := 0) rfl) ?_
        refine ixL eN (atI_nat (j := 1) rfl) ?_
        refine ixL eN (atI_nat (j := 2) rfl) ?_
        refine w_slL eN fun M hM => ?_
        have hM0 : H M = none := none_of_same s13 hM
        have eM : upd H3 M (.lst (cutV (natV (x0 :: x1 :: x2 :: m)) (some 3) none)) M = some (.lst (natV m)) := by rw [upd_same]; exact congrArg (fun l => some (HO.lst l)) cut3
        have s4 := (s13).laid (o := .lst (cutV (natV (x0 :: x1 :: x2 :: m)) (some 3) none)) hM
        generalize upd H3 M (.lst (cutV (natV (x0 :: x1 :: x2 :: m)) (some 3) none)) = H4 at *
        walk_at "w"
        refine ⟨by show 5 ≤ sizeLine; omega, fun r hr => ?_⟩
        have hr0 : H r = none := none_of_same s4 hr
        refine q _ rfl r _ (s4.laid hr) ⟨hr0, M, hM0, by rw [upd_same]; rfl, ?_⟩
        show upd _ _ _ M = _
        rw [upd_ne (fun e => by subst e; rw [eM] at hr; cases hr)]
        exact eM
      · rw [hno] at qe
        exact (qe rfl).same (s1.trans s2)
    · rw [decide_eq_true (by simp at h4 ⊢; omega)]
      refine iteT ?_
      rw [w_raise]
      walk_at "w"
      rw [if_neg (fun h => h4 h.2)] at qe
      exact ⟨len_le (by show (1 : Nat) ≤ 1000; decide), qe rfl _ _ RT.g s1⟩
  · rw [decide_eq_false (fun e => hk (kw_of e))]
    walk_at "w"
    rw [w_raise]
    walk_at "w"
    rw [if_neg (fun h => hk h.1)] at qe
    exact ⟨len_le (by show (1 : Nat) ≤ 1000; decide), qe rfl _ _ RT.g s1⟩
end
def sp_read_inner71 (K : PySem.W.Frag) (n : Nat) : Sp := fun vs H Q E => ∃ (k : Nat) (t : List Nat) (d : Int), n = k + 1 ∧ vs = [.str (tx t), .int d] ∧ t.length ≤ 800 ∧ Asc t ∧ (∀ g ∈ ((pcsOf t).foldl tt9 ([], [], 0)).1, g.length ≤ 400) ∧ d + n = 18 ∧
  (∀ l, inM k t = some l → ∀ U H', Same H H' → IsU k (DF H) H' U l → Q (.ref U) H') ∧ (inM k t = none → PE71 K H E)
def sp_read_supposing71 (K : PySem.W.Frag) (n : Nat) : Sp := fun vs H Q E => ∃ (k : Nat) (t : List Nat) (d : Int), n = k + 1 ∧ vs = [.str (tx t), .int d] ∧ t.length ≤ 400 ∧ Asc t ∧ d + n = 17 ∧
  (∀ x, suM (inM k) t = some x → ∀ r H', Same H H' → IsJ k (DF H) H' r x → Q (.ref r) H') ∧ (suM (inM k) t = none → PE71 K H E)
def sp_read_thought71 (K : PySem.W.Frag) (n : Nat) : Sp := fun vs H Q E => ∃ (k : Nat) (t : List Nat) (d : Int), n = k + 1 ∧ vs = [.str (tx t), .int d] ∧ t.length ≤ 400 ∧ Asc t ∧ d + n = 17 ∧
  (∀ x, thM (inM k) t = some x → ∀ r H', Same H H' → IsJ k (DF H) H' r x → Q (.ref r) H') ∧ (thM (inM k) t = none → PE71 K H E)
theorem sl_read_inner71 {K : PySem.W.Frag} {n : Nat} {vs : List V} {H : Hp} {Q : VK} {E : XK} (h : sp_read_inner71 K n vs H Q E) : vs.length = 2 := by
  obtain ⟨_, _, _, _, rfl, _⟩ := h; rfl
theorem sl_read_supposing71 {K : PySem.W.Frag} {n : Nat} {vs : List V} {H : Hp} {Q : VK} {E : XK} (h : sp_read_supposing71 K n vs H Q E) : vs.length = 2 := by
  obtain ⟨_, _, _, _, rfl, _⟩ := h; rfl
theorem sl_read_thought71 {K : PySem.W.Frag} {n : Nat} {vs : List V} {H : Hp} {Q : VK} {E : XK} (h : sp_read_thought71 K n vs H Q E) : vs.length = 2 := by
  obtain ⟨_, _, _, _, rfl, _⟩ := h; rfl
theorem z0_read_inner71 {K : PySem.W.Frag} {vs : List V} {H : Hp} {Q : VK} {E : XK} (h : sp_read_inner71 K 0 vs H Q E) : False := by
  obtain ⟨_, _, _, e, _⟩ := h; cases e
def rd_read_supposing71_t2 (K : PySem.W.Frag) (a : EA) (E : XK) (n : Nat) : TS :=
  (tSeq (tIfS (tOr (tTest (tOp (cNe K) (tCB kLen (tCons (tVar 3) tNil)) (tC (.int 4)))) (tNot (tB (tBM K "str" kEnds (tOp cIx (tVar 2) (tC (.int 2))) (tCons (tC (.str (tx [41]))) tNil))))) (tRaise E a.NoText (tCons (tC (.str (tx [97, 32, 115, 117, 112, 112, 111, 115, 105, 110, 103, 32, 104, 97, 115, 32, 97, 32, 114, 117, 108, 101, 44, 32, 97, 32, 99, 101, 108, 108, 44, 32, 97, 32, 115, 105, 103, 110, 32, 97, 110, 100, 32, 97, 32, 98, 111, 111, 107, 32, 105, 110, 32, 98, 114, 97, 99, 107, 101, 116, 115]))) tNil)) tNext)
    (tSeq (tAsg (tCall (sp_read_numbers71 K) [] E (tCons (tSl cSl2 (tVar 3) (tPart (tC (.int 1))) tNoPart) tNil)) (gName 4))
    (tRet (tTup (tCons (tC (.str (tx [115, 117, 112, 112, 111, 115, 101]))) (tCons (tOp cIx (tVar 4) (tC (.int 0))) (tCons (tOp cIx (tVar 4) (tC (.int 1))) (tCons (tOp cIx (tVar 4) (tC (.int 2))) (tCons (tCall (sp_read_inner71 K n) [] E (tCons (tSl cSl2 (tOp cIx (tVar 2) (tC (.int 2))) tNoPart (tPart (tUn (rU fun i => .int (-i)) (tC (.int 1))))) (tCons (tOp cAdd (tVar 1) (tC (.int 1))) tNil))) tNil)))))))))
def rd_read_supposing71 (K : PySem.W.Frag) (a : EA) (E : XK) (n : Nat) : TS :=
  (tSeq (tAsg (tBM K "str" kPart (tVar 0) (tCons (tC (.str (tx [32, 40]))) tNil)) (gName 2))
    (tSeq (tAsg (tBM K "str" kSplit (tOp cIx (tVar 2) (tC (.int 0))) (tCons (tC (.str (tx [32]))) tNil)) (gName 3))
    (rd_read_supposing71_t2 K a E n)))
def rd_read_thought71 (K : PySem.W.Frag) (E : XK) (n : Nat) : TS :=
  (tSeq (tIfS (tB (tBM K "str" kStarts (tVar 0) (tCons (tOp cAdd (tC (.str (tx [115, 117, 112, 112, 111, 115, 101]))) (tC (.str (tx [32])))) tNil))) (tRet (tCall (sp_read_supposing71 K n) [] E (tCons (tVar 0) (tCons (tVar 1) tNil)))) tNext)
    (tRet (tCall (sp_read_plain71 K) [] E (tCons (tVar 0) tNil))))
def rd_read_inner71 (K : PySem.W.Frag) (a : EA) (E : XK) (n : Nat) : TS :=
  (tSeq (tIfS (tTest (tOp (cCmp fun i j => decide (j < i)) (tVar 1) (tC (.int 16)))) (tRaise E a.NoText (tCons (tC (.str (tx [97, 116, 32, 109, 111, 115, 116, 32, 115, 105, 120, 116, 101, 101, 110, 32, 98, 111, 111, 107, 115, 32, 108, 105, 101, 32, 105, 110, 32, 111, 110, 101, 32, 97, 110, 111, 116, 104, 101, 114]))) tNil)) tNext)
    (tSeq (tIfS (tTest (tOp (cEq K) (tVar 0) (tC (.str (tx []))))) (tRet (tLst tNil)) tNext)
    (tRet (tComp [none, none, some 1] (iList K (tCall (sp_thought_texts71 K) [] E (tCons (tVar 0) tNil))) (gName 1) tTrue (tCall (sp_read_thought71 K n) [] E (tCons (tVar 1) (tCons (tVar 2) tNil)))))))
theorem sub_of_append {x y z : List Nat} {t : List Nat} (h : x ++ (y ++ z) = t) (ha : Asc t) : Asc x ∧ Asc z ∧ x.length ≤ t.length ∧ z.length ≤ t.length := by
  subst h
  refine ⟨fun c hc => ha c (List.mem_append_left _ hc), fun c hc => ha c (List.mem_append_right _ (List.mem_append_right _ hc)), ?_, ?_⟩ <;> simp <;> omega
theorem part_sub {t : List Nat} (ha : Asc t) : Asc (p0 t) ∧ Asc (p2 t) ∧ (p0 t).length ≤ t.length ∧ (p2 t).length ≤ t.length := by
  have h := StrLaws.partition_sum (tx t) (tx [32, 40])
  have e : (p0 t) ++ ((Txt.partition (tx t) (tx [32, 40])).2.1.cps.toList ++ p2 t) = t := by
    have h' := congrArg (fun s : Str => s.cps.toList) h
    have e2 : ∀ x y : Str, (x ++ y).cps.toList = x.cps.toList ++ y.cps.toList := fun x y => by
      show (x.cps ++ y.cps).toList = _
      rw [Array.toList_append]
    simp only [e2] at h'
    rw [List.append_assoc] at h'
    exact h'
  exact sub_of_append e ha
theorem grp_le {P : List (List Nat)} : ∀ g ∈ (P.foldl tt9 ([], [], 0)).1, g.length ≤ (catS [59, 32] P).length := by
  have key : ∀ (R A : List (List Nat)) (s : List (List Nat) × List (List Nat) × Int) (B : List (List Nat)), A = B ++ s.2.1 → (∀ g ∈ s.1, g.length ≤ (catS [59, 32] (A ++ R)).length) → ∀ g ∈ (R.foldl tt9 s).1, g.length ≤ (catS [59, 32] (A ++ R)).length := by
    intro R
    induction R with
    | nil => exact fun A s B _ h => h
    | cons p t ih =>
      intro A s B hA hs
      rw [List.foldl_cons, show A ++ p :: t = (A ++ [p]) ++ t by simp]
      rw [show A ++ p :: t = (A ++ [p]) ++ t by simp] at hs
      have hle : (catS [59, 32] (s.2.1 ++ [p])).length ≤ (catS [59, 32] ((A ++ [p]) ++ t)).length := by
        refine Nat.le_trans ?_ catS_left
        rw [hA, List.append_assoc]
        exact catS_right
      by_cases h0 : s.2.2 + cnt9 p = 0
      · have e : tt9 s p = (s.1 ++ [catS [59, 32] (s.2.1 ++ [p])], [], 0) := by unfold tt9; rw [if_pos h0]
        rw [e]
        refine ih (A ++ [p]) _ (A ++ [p]) (by simp) fun g hg => ?_
        rcases List.mem_append.mp hg with hg | hg
        · exact hs g hg
        · rw [List.mem_singleton.mp hg]; exact hle
      · have e : tt9 s p = (s.1, s.2.1 ++ [p], s.2.2 + cnt9 p) := by unfold tt9; rw [if_neg h0]
        rw [e]
        exact ih (A ++ [p]) _ B (by rw [hA]; simp) hs
  have := key P [] ([], [], 0) [] rfl (fun g hg => by cases hg)
  rw [List.nil_append] at this
  exact this
theorem grp_asc {P : List (List Nat)} (hP : ∀ r ∈ P, Asc r) : ∀ g ∈ (P.foldl tt9 ([], [], 0)).1, Asc g := by
  have cat : ∀ {R : List (List Nat)}, (∀ r ∈ R, Asc r) → Asc (catS [59, 32] R) := by
    intro R
    induction R with
    | nil => exact fun _ c hc => by cases hc
    | cons x R ih =>
      intro h
      cases R with
      | nil => exact h x List.mem_cons_self
      | cons y R =>
        intro c hc
        rcases List.mem_append.mp (show c ∈ x ++ ([59, 32] ++ catS [59, 32] (y :: R)) from hc) with hc | hc
        · exact h x List.mem_cons_self c hc
        · rcases List.mem_append.mp hc with hc | hc
          · have : c = 59 ∨ c = 32 := by simpa using hc
            omega
          · exact ih (fun r hr => h r (List.mem_cons_of_mem _ hr)) c hc
  have key : ∀ (R : List (List Nat)) (s : List (List Nat) × List (List Nat) × Int), (∀ r ∈ R, Asc r) → (∀ r ∈ s.2.1, Asc r) → (∀ g ∈ s.1, Asc g) → ∀ g ∈ (R.foldl tt9 s).1, Asc g := by
    intro R
    induction R with
    | nil => exact fun s _ _ h => h
    | cons p t ih =>
      intro s hR h1 h2
      rw [List.foldl_cons]
      have hp := hR p List.mem_cons_self
      have hh : ∀ r ∈ s.2.1 ++ [p], Asc r := fun r hr => by
        rcases List.mem_append.mp hr with hr | hr
        · exact h1 r hr
        · rw [List.mem_singleton.mp hr]; exact hp
      by_cases h0 : s.2.2 + cnt9 p = 0
      · have e : tt9 s p = (s.1 ++ [catS [59, 32] (s.2.1 ++ [p])], [], 0) := by unfold tt9; rw [if_pos h0]
        rw [e]
        refine ih _ (fun r hr => hR r (List.mem_cons_of_mem _ hr)) (fun r hr => by cases hr) fun g hg => ?_
        rcases List.mem_append.mp hg with hg | hg
        · exact h2 g hg
        · rw [List.mem_singleton.mp hg]; exact cat hh
      · have e : tt9 s p = (s.1, s.2.1 ++ [p], s.2.2 + cnt9 p) := by unfold tt9; rw [if_neg h0]
        rw [e]
        exact ih _ (fun r hr => hR r (List.mem_cons_of_mem _ hr)) hh h2
  exact key P _ hP (fun r hr => by cases hr) (fun g hg => by cases hg)
theorem last_ends {t : List Nat} : Txt.endswith (tx t) (tx [41]) = decide (t.getLast? = some 41) := by
  cases e : t.getLast? with
  | none =>
    have : t = [] := by simpa using e
    subst this
    rfl
  | some c =>
    obtain ⟨u, rfl⟩ := List.getLast?_eq_some_iff.mp e
    by_cases h : c = 41
    · subst h; rw [ends_tx]; rfl
    · rw [decide_eq_false (fun z => h (by injection z))]
      have a := at_iff (x := u ++ [c]) (s := [41]) (k := u.length)
      cases k : Txt.endswith (tx (u ++ [c])) (tx [41]) with
      | false => rfl
      | true =>
        exfalso
        rw [Txt.endswith, Bool.and_eq_true, decide_eq_true_eq] at k
        have : StrLaws.At (tx (u ++ [c])) (tx [41]) (tx (u ++ [c])).length u.length := by
          unfold StrLaws.At
          refine ⟨by rw [tx_len, tx_len]; simp, ?_⟩
          have k2 := k.2
          rw [tx_len, tx_len, List.length_append] at k2
          exact k2
        have := (a.mp this).2
        rw [List.drop_left] at this
        simp at this
        exact h this
section
variable {o1 : List Addr} {K : PySem.W.Frag} {a : EA} {vs : List V} {H : Hp} {Q : VK} {E : XK} (RT : Ref1 K a "NoText" a.NoText o1)
include RT
theorem rk_read_supposing71_t2 {n k : Nat} {H0 : Hp} {t : List Nat} {d : Int} {P W : Addr} (hn : n = k + 1) (s0 : Same H0 H) (hl : t.length ≤ 400) (asc : Asc t) (hd : d + n = 17) (eP : H P = some (.tup [.str (tx (p0 t)), .str (Txt.partition (tx t) (tx [32, 40])).2.1, .str (tx (p2 t))])) (eW : H W = some (.lst (((wdsOf (p0 t)).map tx).map V.str)))
    (q : ∀ x, suM (inM k) t = some x → ∀ r H', Same H0 H' → IsJ k (DF H0) H' r x → Q (.ref r) H') (qe : suM (inM k) t = none → PE71 K H0 E) :
    rd_read_supposing71_t2 K a E n { nx := fun _ H' => Q .non H', rt := Q } [some (.str (tx t)), some (.int d), some (.ref P), some (.ref W), none] H := by
  have z := z70
  obtain ⟨a0, a2, l0, l2⟩ := part_sub asc
  have hw := wds_ok (show (p0 t).length ≤ 400 by omega) a0
  obtain ⟨hne, _, _⟩ := wdsOf_ex (p0 t)
  unfold suM at q qe
  generalize wdsOf (p0 t) = ws at *
  unfold rd_read_supposing71_t2
  rw [w_seq, w_if]
  walk_at "w"
  rw [w_len eW]
  walk_at "w"
  rw [List.length_map, List.length_map]
  by_cases h4 : ws.length = 4
  · rw [decide_eq_true (show ((ws.length : Nat) : Int) = 4 by omega)]
    refine iteF ?_
    refine ixT eP rfl ?_
    walk_at "w"
    refine ⟨w_tyS, ?_⟩
    rw [w_ends, last_ends]
    by_cases he : (p2 t).getLast? = some 41
    · rw [decide_eq_true he]
      refine ⟨true, rfl, ?_⟩
      walk_at "w"
      rw [if_pos ⟨h4, he⟩] at q qe
      obtain ⟨w, r, rfl⟩ : ∃ w r, ws = w :: r := by
        cases ws with
        | nil => exact absurd rfl hne
        | cons w r => exact ⟨w, r, rfl⟩
      have q : ∀ x, (match numsM r with | some [a, b, c] => (inM k (p2 t).dropLast).map (Th7.su a b c) | _ => none) = some x → ∀ r H', Same H0 H' → IsJ k (DF H0) H' r x → Q (.ref r) H' := q
      have qe : (match numsM r with | some [a, b, c] => (inM k (p2 t).dropLast).map (Th7.su a b c) | _ => none) = none → PE71 K H0 E := qe
      refine sl_tail eW fun p hp => ?_
      have s2 : Same H (upd H p (.lst ((r.map tx).map V.str))) := (Same.refl H).laid hp
      have ep : upd H p (.lst ((r.map tx).map V.str)) p = some (.lst ((r.map tx).map V.str)) := upd_same
      generalize upd H p (.lst ((r.map tx).map V.str)) = H2 at *
      refine ⟨p, r, rfl, ep, by simp at h4; omega, fun w' hw' => hw w' (List.mem_cons_of_mem _ hw'), fun ns hns N H3 s3 hN eN => ?_, fun hno => ?_⟩
      · have hlen := numsM_len hns
        obtain ⟨x0, x1, x2, rfl⟩ : ∃ x0 x1 x2, ns = [x0, x1, x2] := by
          match ns, hlen with
          | [], hlen => simp at h4 hlen; omega
          | [_], hlen => simp at h4 hlen; omega
          | [_, _], hlen => simp at h4 hlen; omega
          | [x0, x1, x2], _ => exact ⟨x0, x1, x2, rfl⟩
          | _ :: _ :: _ :: _ :: _, hlen => simp at h4 hlen; omega
        rw [hns] at q qe
        have s03 := s0.trans (s2.trans s3)
        have eP3 := s3 _ _ (s2 _ _ eP)
        walk_at "w"
        refine ixL eN rfl ?_
        refine ixL eN rfl ?_
        refine ixL eN rfl ?_
        refine ixT eP3 rfl ?_
        walk_at "w"
        obtain ⟨u, eu⟩ := List.getLast?_eq_some_iff.mp he
        rw [eu] at q qe a2 l2 ⊢
        rw [List.dropLast_concat] at q qe
        rw [w_slS, cut_last]
        rw [List.length_append] at l2
        have hul : u.length ≤ 400 := by omega
        have hua : Asc u := fun c hc => a2 c (List.mem_append_left _ hc)
        refine ⟨by rw [tx_len, List.length_append]; show _ + 1 ≤ _; omega, ?_⟩
        refine ⟨k, u, d + 1, hn, rfl, by omega, hua, fun g hg => ?_, by omega, fun l hin U H4 s4 hU => ?_, fun hin => ?_⟩
        · have := grp_le g hg
          rw [(cat_pcs u).1] at this
          omega
        · have s04 := s03.trans s4
          have hB := hU.b
          walk_at "w"
          refine ⟨by show 5 ≤ sizeLine; omega, fun r hr => ?_⟩
          have dF : ∀ b, DF H3 b → DF H0 b := fun b h => none_of_same s03 h
          have hB0 : IsB k (DF H0) (upd H4 r (.tup [.str (tx [115, 117, 112, 112, 111, 115, 101]), .int (x0 : Nat), .int (x1 : Nat), .int (x2 : Nat), .ref U])) U l := hB.fr (fun b h _ => dF b h) fun b u _ e => ((Same.refl H4).laid hr) _ _ e
          have dU : DF H0 U := by
            match k, hU with
            | k + 1, hU => exact dF _ hU.1
          rw [hin] at q
          exact q _ rfl r _ (s04.laid hr) ⟨none_of_same s04 hr, U, dU, by rw [upd_same]; rfl, hB0⟩
        · rw [hin] at qe
          exact (qe rfl).same s03
      · rw [hno] at qe
        exact (qe rfl).same (s0.trans s2)
    · rw [decide_eq_false he]
      refine ⟨false, rfl, ?_⟩
      walk_at "w"
      rw [w_raise]
      walk_at "w"
      rw [if_neg (fun h => he h.2)] at qe
      exact ⟨len_le (by show (1 : Nat) ≤ 1000; decide), qe rfl _ _ RT.g s0⟩
  · rw [decide_eq_false (show ¬ ((ws.length : Nat) : Int) = 4 by omega)]
    refine iteT ?_
    rw [w_raise]
    walk_at "w"
    rw [if_neg (fun h => h4 h.1)] at qe
    exact ⟨len_le (by show (1 : Nat) ≤ 1000; decide), qe rfl _ _ RT.g s0⟩
theorem rk_read_supposing71 {n : Nat} (h : sp_read_supposing71 K n vs H Q E) : rd_read_supposing71 K a E n { nx := fun _ H' => Q .non H', rt := Q } (start ["text", "depth", "parts", "words", "numbers"] vs) H := by
  obtain ⟨k, t, d, hn, rfl, hl, asc, hd, q, qe⟩ := h
  have z := z70
  obtain ⟨a0, a2, l0, l2⟩ := part_sub asc
  have hsp : Txt.split (tx (p0 t)) (tx [32]) = (wdsOf (p0 t)).map tx := (tx_unS9 _).symm
  have hwl := wds_len (t := p0 t)
  have e0 : (Txt.partition (tx t) (tx [32, 40])).1 = tx (p0 t) := (tx_of _).symm
  have e2 : (Txt.partition (tx t) (tx [32, 40])).2.2 = tx (p2 t) := (tx_of _).symm
  show rd_read_supposing71 K a E n _ [some (.str (tx t)), some (.int d), none, none, none] H
  unfold rd_read_supposing71
  walk_at "w"
  refine ⟨w_tyS, ?_⟩
  rw [w_part9, e0, e2]
  refine ⟨rfl, by rw [tx_len]; omega, fun P hP => ?_⟩
  refine ixT upd_same rfl ?_
  walk_at "w"
  refine ⟨w_tyS, ?_⟩
  rw [w_split, hsp]
  refine ⟨rfl, by rw [tx_len]; omega, by rw [List.length_map]; omega, fun W hW => ?_⟩
  exact rk_read_supposing71_t2 RT hn (((Same.refl H).laid hP).laid hW) hl asc hd (((Same.refl _).laid hW) _ _ upd_same) upd_same q qe
end
theorem rk_read_thought71 {K : PySem.W.Frag} {vs : List V} {H : Hp} {Q : VK} {E : XK} {n : Nat} (h : sp_read_thought71 K n vs H Q E) : rd_read_thought71 K E n { nx := fun _ H' => Q .non H', rt := Q } (start ["text", "depth"] vs) H := by
  obtain ⟨k, t, d, hn, rfl, hl, asc, hd, q, qe⟩ := h
  have z := z70
  show rd_read_thought71 K E n _ [some (.str (tx t)), some (.int d)] H
  unfold rd_read_thought71
  rw [w_seq, w_if]
  walk_at "w"
  refine ⟨w_tyS, by rw [tx_len, tx_len]; show 7 + 1 ≤ sizeLine; omega, ?_⟩
  rw [tx_app, w_starts, start_tx]
  refine ⟨_, rfl, ?_⟩
  unfold thM at q qe
  by_cases h8 : t.take 8 = supW ++ [32]
  · rw [if_pos h8] at q qe
    have e8 : decide (t.take ([115, 117, 112, 112, 111, 115, 101] ++ [32] : List Nat).length = ([115, 117, 112, 112, 111, 115, 101] ++ [32] : List Nat)) = true := decide_eq_true h8
    rw [e8]
    exact iteT ⟨k, t, d, hn, rfl, hl, asc, hd, q, qe⟩
  · rw [if_neg h8] at q qe
    have e8 : decide (t.take ([115, 117, 112, 112, 111, 115, 101] ++ [32] : List Nat).length = ([115, 117, 112, 112, 111, 115, 101] ++ [32] : List Nat)) = false := decide_eq_false h8
    rw [e8]
    exact iteF ⟨t, rfl, hl, asc, fun x hx r H' s j => q x hx r H' s (IsI.up (fun _ _ z => z.elim) j), qe⟩
theorem compGX_list {K : PySem.W.Frag} {a : Addr} {k : Nat} {te : TE} {fin : Addr → Hp → Prop} {σ0 : St} {H1 : Hp} {xs : List V} (n0 : Nat) (hn0 : n0 < xs.length) (hn : xs.length ≤ 900) (hq : SqL K H1 a xs)
    (he : ∀ (i : Nat) (x : V) (H : Hp) (Q : VK), xs[i]? = some x → i < n0 → Same H1 H → (∀ r H', Same H H' → Q (.ref r) H') → te (σ0.set k (some x)) H Q)
    (hb : ∀ (x : V) (H : Hp) (Q : VK), xs[n0]? = some x → Same H1 H → te (σ0.set k (some x)) H Q) :
    CompR (Itl K a) (gName k) tTrue te fin σ0 H1 := by
  refine comp_list (xs := xs) (fun l i σ H => i ≤ n0 ∧ (σ = σ0 ∨ ∃ cv, σ = σ0.set k cv) ∧ Same H1 H ∧ ∃ rs : List Addr, H l = some (.lst (rs.map V.ref)) ∧ rs.length = i) (fun l hl => ⟨Nat.zero_le _, .inl rfl, (Same.refl H1).laid hl, [], by rw [upd_same]; rfl, rfl⟩) (fun l i σ H _ _ p => p.2.2.1.seq hq) ?_ (fun l σ H hl ⟨h0, _⟩ => by omega)
  rintro l i y σ H hl hy ⟨h0, hσ, s1, rs, el, en⟩
  have hi : i < xs.length := (List.getElem?_eq_some_iff.mp hy).1
  rw [w_gname]
  have e : σ.set k (some y) = σ0.set k (some y) := by
    rcases hσ with rfl | ⟨cv, rfl⟩
    · rfl
    · exact List.set_set ..
  rw [e, w_true, if_pos rfl]
  by_cases h : i < n0
  · refine he i y H _ hy h s1 fun r H3 s3 => ⟨_, s3 _ _ el, ?_, h, .inr ⟨_, rfl⟩, (s1.trans s3).own hl, rs ++ [r], ?_, ?_⟩
    · rw [List.length_map, en]; exact small1000 (by omega)
    · rw [upd_same]; simp
    · simp [en]
  · have : i = n0 := by omega
    subst this
    exact hb y H _ hy s1
theorem mapM_some {f : List Nat → Option Th7} : ∀ {ts : List (List Nat)} {l : List Th7}, ts.mapM f = some l → l.length = ts.length ∧ ∀ (i : Nat) (t : List Nat) (x : Th7), ts[i]? = some t → l[i]? = some x → f t = some x
  | [], l, h => by
    have : l = [] := by simpa using h.symm
    subst this
    exact ⟨rfl, fun i t x h => by cases h⟩
  | t :: r, l, h => by
    rw [List.mapM_cons] at h
    cases e : f t with
    | none => rw [e] at h; cases h
    | some x =>
      rw [e] at h
      cases e2 : r.mapM f with
      | none => rw [e2] at h; cases h
      | some l2 =>
        rw [e2] at h
        have : l = x :: l2 := by injection h with h; exact h.symm
        subst this
        obtain ⟨h1, h2⟩ := mapM_some e2
        refine ⟨by simp [h1], fun i t' x' ht hx => ?_⟩
        cases i with
        | zero => cases ht; cases hx; exact e
        | succ i => exact h2 i t' x' ht hx
theorem mapM_none {f : List Nat → Option Th7} : ∀ {ts : List (List Nat)}, ts.mapM f = none → ∃ n0 t0, ts[n0]? = some t0 ∧ f t0 = none ∧ ∀ (i : Nat) (t : List Nat), i < n0 → ts[i]? = some t → ∃ x, f t = some x
  | [], h => by cases h
  | t :: r, h => by
    rw [List.mapM_cons] at h
    cases e : f t with
    | none => exact ⟨0, t, rfl, e, fun i t' hi => by omega⟩
    | some x =>
      rw [e] at h
      cases e2 : r.mapM f with
      | some l2 => rw [e2] at h; cases h
      | none =>
        obtain ⟨n0, t0, h1, h2, h3⟩ := mapM_none e2
        refine ⟨n0 + 1, t0, h1, h2, fun i t' hi ht => ?_⟩
        cases i with
        | zero => cases ht; exact ⟨x, e⟩
        | succ i => exact h3 i t' (by omega) ht
theorem grp_len {P : List (List Nat)} : (P.foldl tt9 ([], [], 0)).1.length ≤ P.length := by
  have key : ∀ (R : List (List Nat)) (s : List (List Nat) × List (List Nat) × Int), (R.foldl tt9 s).1.length ≤ s.1.length + R.length := by
    intro R
    induction R with
    | nil => exact fun s => Nat.le_refl _
    | cons p t ih =>
      intro s
      rw [List.foldl_cons]
      refine Nat.le_trans (ih _) ?_
      unfold tt9
      split <;> simp <;> omega
  have := key P ([], [], 0)
  simpa using this
section
variable {o1 : List Addr} {K : PySem.W.Frag} {a : EA} {vs : List V} {H : Hp} {Q : VK} {E : XK} (RT : Ref1 K a "NoText" a.NoText o1)
include RT
theorem rk_read_inner71 {n : Nat} (h : sp_read_inner71 K (n + 1) vs H Q E) : rd_read_inner71 K a E n { nx := fun _ H' => Q .non H', rt := Q } (start ["text", "depth"] vs) H := by
  obtain ⟨k, t, d, hk, rfl, hl, asc, hg, hd, q, qe⟩ := h
  have z := z70
  have hkn : k = n := by omega
  subst hkn
  show rd_read_inner71 K a E k _ [some (.str (tx t)), some (.int d)] H
  unfold rd_read_inner71
  rw [w_seq, w_if]
  walk_at "w"
  match k, hd, q, qe with
  | 0, hd, q, qe =>
    rw [decide_eq_true (show (16 : Int) < d by omega)]
    refine iteT ?_
    rw [w_raise]
    walk_at "w"
    exact ⟨len_le (by show (1 : Nat) ≤ 1000; decide), qe rfl _ _ RT.g (Same.refl H)⟩
  | j + 1, hd, q, qe =>
    rw [decide_eq_false (show ¬ (16 : Int) < d by omega)]
    refine iteF ?_
    rw [w_if]
    walk_at "w"
    rw [nil_tx]
    have eI : inM (j + 1) t = if t = [] then some [] else if ((pcsOf t).foldl tt9 ([], [], 0)).2.1 = [] then ((pcsOf t).foldl tt9 ([], [], 0)).1.mapM (thM (inM j)) else none := rfl
    rw [eI] at q qe
    by_cases h0 : t = []
    · rw [if_pos h0] at q
      rw [decide_eq_true h0]
      refine iteT ⟨by show 0 ≤ sizeLine; omega, fun p hp => ?_⟩
      exact q [] rfl p _ ((Same.refl H).laid hp) ⟨hp, [], by rw [upd_same]; rfl, rfl, fun i r x h => by cases h⟩
    · rw [if_neg h0] at q qe
      rw [decide_eq_false h0]
      have hga := grp_asc (pc_asc asc)
      have hgl := grp_len (P := pcsOf t)
      have hpl := pcs_len (L := pcsOf t)
      rw [(cat_pcs t).1] at hpl
      refine iteF ⟨t, rfl, hl, asc, fun hh S H1 s1 hS eS => ?_, fun hh => ?_⟩
      · rw [if_pos hh] at q qe
        generalize ((pcsOf t).foldl tt9 ([], [], 0)).1 = ts at *
        refine ⟨S, rfl, ⟨_, SqL.of eS⟩, ?_⟩
        cases em : ts.mapM (thM (inM j)) with
        | some l =>
          obtain ⟨ll, km⟩ := mapM_some em
          refine compG_list (xs := (ts.map tx).map V.str) (fun i D H r => ∃ x, l[i]? = some x ∧ IsJ j D H r x) (fun i D D' H H' v d f ⟨x, hx, j⟩ => ⟨x, hx, IsJ.fr d f j⟩) (by simp; omega) (SqL.of eS) ?_ ?_
          · intro i y H2 Q2 hy s2 k2
            rw [List.getElem?_map, List.getElem?_map] at hy
            cases e : ts[i]? with
            | none => rw [e] at hy; cases hy
            | some u =>
              rw [e] at hy
              cases hy
              have hu := List.mem_of_getElem? e
              have hi : i < l.length := by rw [ll]; exact (List.getElem?_eq_some_iff.mp e).1
              have ex : l[i]? = some l[i] := List.getElem?_eq_getElem hi
              have hth := km i u _ e ex
              show tCall _ _ _ _ [none, some (.str (tx u)), some (.int d)] H2 Q2
              walk_at "w"
              refine ⟨j, u, d, rfl, rfl, hg u hu, hga u hu, by omega, fun x hx r H3 s3 jj => ?_, fun hno => ?_⟩
              · rw [hth] at hx
                cases hx
                exact k2 r H3 s3 ⟨_, ex, jj⟩
              · rw [hth] at hno; cases hno
          · intro U rs H2 hU s2 eU el k2
            refine q l em U H2 (s1.trans s2) ⟨none_of_same s1 hU, rs, eU, by rw [el]; simp [ll], fun i r x hr hx => ?_⟩
            obtain ⟨y, hy, jj⟩ := k2 i r hr
            rw [hx] at hy
            cases hy
            exact IsJ.fr (fun b h _ => ⟨none_of_same s1 h.1, h.2⟩) (fun b u _ e => e) jj
        | none =>
          have qe := qe em
          obtain ⟨n0, t0, e0, f0, hbef⟩ := mapM_none em
          have hn0 : n0 < ((ts.map tx).map V.str).length := by rw [List.length_map, List.length_map]; exact (List.getElem?_eq_some_iff.mp e0).1
          refine compGX_list n0 hn0 (by simp; omega) (SqL.of eS) ?_ ?_
          · intro i y H2 Q2 hy hi s2 k2
            rw [List.getElem?_map, List.getElem?_map] at hy
            cases e : ts[i]? with
            | none => rw [e] at hy; cases hy
            | some u =>
              rw [e] at hy
              cases hy
              have hu := List.mem_of_getElem? e
              obtain ⟨x, hth⟩ := hbef i u hi e
              show tCall _ _ _ _ [none, some (.str (tx u)), some (.int d)] H2 Q2
              walk_at "w"
              refine ⟨j, u, d, rfl, rfl, hg u hu, hga u hu, by omega, fun x hx r H3 s3 jj => k2 r H3 s3, fun hno => ?_⟩
              rw [hth] at hno; cases hno
          · intro y H2 Q2 hy s2
            rw [List.getElem?_map, List.getElem?_map, e0] at hy
            cases hy
            have hu := List.mem_of_getElem? e0
            show tCall _ _ _ _ [none, some (.str (tx t0)), some (.int d)] H2 Q2
            walk_at "w"
            refine ⟨j, t0, d, rfl, rfl, hg t0 hu, hga t0 hu, by omega, fun x hx r H3 s3 jj => ?_, fun hno => qe.same (s1.trans s2)⟩
            rw [f0] at hx; cases hx
      · rw [if_neg hh] at qe
        exact qe rfl
end
def sp_read_book71 (K : PySem.W.Frag) : Sp := fun vs H Q E => ∃ t : List Nat, vs = [.str (tx t)] ∧ t.length ≤ 800 ∧ Asc t ∧ (∀ g ∈ ((pcsOf t).foldl tt9 ([], [], 0)).1, g.length ≤ 400) ∧
  (∀ l, inM 16 t = some l → ∀ U H', Same H H' → IsT 15 (DF H) H' U l → Q (.ref U) H') ∧ (inM 16 t = none → PE71 K H E)
theorem sl_read_book71 {K : PySem.W.Frag} {vs : List V} {H : Hp} {Q : VK} {E : XK} (h : sp_read_book71 K vs H Q E) : vs.length = 1 := by
  obtain ⟨_, rfl, _⟩ := h; rfl
def rd_read_book71 (K : PySem.W.Frag) (E : XK) : TS :=
  (tSeq (tDrop (tCall (sp_refuse_no_text71 K) [] E (tCons (tVar 0) tNil)))
    (tRet (tCall (sp_read_inner71 K 17) [] E (tCons (tVar 0) (tCons (tC (.int 1)) tNil)))))
theorem rk_read_book71 {K : PySem.W.Frag} {vs : List V} {H : Hp} {Q : VK} {E : XK} (h : sp_read_book71 K vs H Q E) : rd_read_book71 K E { nx := fun _ H' => Q .non H', rt := Q } (start ["text"] vs) H := by
  obtain ⟨t, rfl, hl, asc, hg, q, qe⟩ := h
  show rd_read_book71 K E _ [some (.str (tx t))] H
  unfold rd_read_book71
  walk_at "w"
  refine ⟨_, rfl, ?_⟩
  walk_at "w"
  exact ⟨16, t, 1, rfl, rfl, hl, asc, hg, by decide, q, qe⟩
def sp__law_refused71 (K : PySem.W.Frag) : Sp := fun vs H Q _ => ∃ t : List Nat, vs = [.str (tx t)] ∧ t.length ≤ 800 ∧ Asc t ∧ (∀ g ∈ ((pcsOf t).foldl tt9 ([], [], 0)).1, g.length ≤ 400) ∧ inM 16 t = none ∧ ∀ H', Same H H' → Q (.bl true) H'
def rd__law_refused71_t2 (K : PySem.W.Frag) (a : EA) : TS :=
  (tSeq (tIfS (tOr (tB (tCB (kIsX K) (tCons (tVar 1) (tCons (tC (.ref a.NoRule)) tNil)))) (tOr (tB (tCB (kIsX K) (tCons (tVar 1) (tCons (tC (.ref a.NoFilling)) tNil)))) (tB (tCB (kIsX K) (tCons (tVar 1) (tCons (tC (.ref a.NoRow)) tNil)))))) (tRet (tC (.bl false))) tNext)
    (tRet (tAndV (tCB (kIsX K) (tCons (tVar 1) (tCons (tC (.ref a.NoText)) tNil))) (tAndV (tCB (kIsX K) (tCons (tVar 1) (tCons (tC (.ty "ValueError")) tNil))) (tNotV (tCB (kIsX K) (tCons (tVar 1) (tCons (tC (.ref a.BadThought)) tNil))))))))
def rd__law_refused71 (K : PySem.W.Frag) (a : EA) : TS :=
  (tSeq (tAsg (tC .non) (gName 1))
    (tSeq (tTryE K (sp_read_book71 K) (tCons (tVar 0) tNil) (.ref a.ClueError) 2 (tAsg (tVar 2) (gName 1)))
    (rd__law_refused71_t2 K a)))
theorem rk__law_refused71_t2 {K : PySem.W.Frag} {a : EA} {H : Hp} {Q : VK} {x : Addr} {v0 v2 : Option V} (RT : Ref1 K a "NoText" a.NoText (os71 a)) (hx : H x = some (.ext (XO x a.NoText))) (q : Q (.bl true) H) :
    rd__law_refused71_t2 K a { nx := fun _ H' => Q .non H', rt := Q } [v0, some (.ref x), v2] H := by
  unfold rd__law_refused71_t2
  rw [w_seq, w_if]
  walk_at "w"
  refine w_isX RT.xis hx (RT.no a.NoRule (by simp [os71])) ?_
  refine ⟨false, rfl, iteF ?_⟩
  refine w_isX RT.xis hx (RT.no a.NoFilling (by simp [os71])) ?_
  refine ⟨false, rfl, iteF ?_⟩
  refine w_isX RT.xis hx (RT.no a.NoRow (by simp [os71])) ?_
  refine ⟨false, rfl, iteF ?_⟩
  refine w_isX RT.xis hx kit_self ?_
  refine ⟨true, rfl, iteT ?_⟩
  refine w_isXt RT.xis hx RT.ve ?_
  refine ⟨true, rfl, iteT ?_⟩
  refine w_isX RT.xis hx (RT.no a.BadThought (by simp [os71])) ?_
  exact ⟨false, rfl, q⟩
theorem rk__law_refused71 {K : PySem.W.Frag} {a : EA} {vs : List V} {H : Hp} {Q : VK} {E : XK} (RT : Ref1 K a "NoText" a.NoText (os71 a)) (h : sp__law_refused71 K vs H Q E) : rd__law_refused71 K a { nx := fun _ H' => Q .non H', rt := Q } (start ["_law_text", "_law_caught", "e"] vs) H := by
  obtain ⟨t, rfl, hl, asc, hg, hno, q⟩ := h
  show rd__law_refused71 K a _ [some (.str (tx t)), none, none] H
  unfold rd__law_refused71
  rw [w_seq, w_asg, w_c, w_gname]
  dsimp only [List.set_cons_succ, List.set_cons_zero]
  rw [w_seq]
  refine ⟨fun v _ H' => v = .ref a.NoText ∧ Same H H', ?_, ?_⟩
  · walk_at "w"
    refine ⟨t, rfl, hl, asc, hg, ?_, ?_⟩
    · intro l hin
      rw [hno] at hin
      cases hin
    · intro _ C H' g s
      exact ⟨by rw [g.eq RT.g], s⟩
  · intro C H2 h
    obtain ⟨e, s⟩ := h
    cases e
    refine ⟨RT.ex, fun x hx => ?_⟩
    walk_at "w"
    exact rk__law_refused71_t2 RT upd_same (q _ (s.laid hx))
theorem IsB.cop : ∀ {n : Nat} {H : Hp} {t : Addr} {bk : List Th7}, IsB n DT H t bk → ∃ rs : List Addr, H t = some (.lst (rs.map V.ref)) ∧ ∀ M H', Same H H' → H' M = some (.lst (rs.map V.ref)) → IsB n DT H' M bk
  | 0, _, _, _, h => h.elim
  | n + 1, H, t, bk, ⟨_, rs, e, el, k⟩ => ⟨rs, e, fun M H' s eM => ⟨trivial, rs, eM, el, fun i r x hr hx => IsJ.same (k i r x hr hx) s⟩⟩
def num70 (c : Int) : Nat := ([c % 10, c % 100, c % 1000000000, 999999999].getD (c / 1000000000 % 4).toNat 0).toNat
theorem num70_lt {c : Int} : num70 c < 1000000000 := by
  unfold num70
  have h : (c / 1000000000 % 4).toNat < 4 := by omega
  generalize (c / 1000000000 % 4).toNat = i at *
  match i, h with
  | 0, _ => show (c % 10).toNat < _; omega
  | 1, _ => show (c % 100).toNat < _; omega
  | 2, _ => show (c % 1000000000).toNat < _; omega
  | 3, _ => show (999999999 : Int).toNat < _; decide
def sp__law_number70 (K : PySem.W.Frag) : Sp := fun vs H Q _ => ∃ c : Int, vs = [.int c] ∧ 0 ≤ c ∧ ∀ H', Same H H' → Q (.int (num70 c : Nat)) H'
def rd__law_number70 (K : PySem.W.Frag) : TS :=
  (tRet (tOp cIx (tLst (tCons (tOp cMod (tVar 0) (tC (.int 10))) (tCons (tOp cMod (tVar 0) (tC (.int 100))) (tCons (tOp cMod (tVar 0) (tC (.int 1000000000))) (tCons (tC (.int 999999999)) tNil))))) (tOp cMod (tOp cDiv (tVar 0) (tC (.int 1000000000))) (tC (.int 4)))))
theorem rk__law_number70 {K : PySem.W.Frag} {vs : List V} {H : Hp} {Q : VK} {E : XK} (h : sp__law_number70 K vs H Q E) : rd__law_number70 K { nx := fun _ H' => Q .non H', rt := Q } (start ["_law_cell"] vs) H := by
  obtain ⟨c, rfl, c0, q⟩ := h
  have z := z70
  show rd__law_number70 K _ [some (.int c)] H
  unfold rd__law_number70
  walk_at "w"
  refine ⟨by decide, by decide, by decide, by show 4 ≤ sizeLine; omega, fun p hp => ?_⟩
  refine ⟨by unfold CDiv; omega, by decide, ?_⟩
  have q1 := q _ ((Same.refl H).laid (o := .lst [.int (c % 10), .int (c % 100), .int (c % 1000000000), .int 999999999]) hp)
  refine ixL upd_same (v := .int (num70 c : Nat)) ?_ q1
  have e : (c / 1000000000 % 4) = (((c / 1000000000 % 4).toNat : Nat) : Int) := by omega
  rw [e]
  unfold num70
  have h : (c / 1000000000 % 4).toNat < 4 := by omega
  generalize (c / 1000000000 % 4).toNat = i at *
  match i, h with
  | 0, _ => show some (V.int (c % 10)) = some (V.int ((c % 10).toNat : Nat)); rw [Int.toNat_of_nonneg (by omega)]
  | 1, _ => show some (V.int (c % 100)) = some (V.int ((c % 100).toNat : Nat)); rw [Int.toNat_of_nonneg (by omega)]
  | 2, _ => show some (V.int (c % 1000000000)) = some (V.int ((c % 1000000000).toNat : Nat)); rw [Int.toNat_of_nonneg (by omega)]
  | 3, _ => rfl
def W12 : List (List Nat) := KW ++ [supW]
theorem w12_at (i : Nat) (h : i < 12) : ∃ w, W12[i]? = some w ∧ (w = supW ∨ w ∈ KW) := by
  have t : ∀ i, i < 12 → (W12.getD i [] = supW ∨ W12.getD i [] ∈ KW) := by decide
  exact ⟨W12.getD i [], by rw [List.getD, List.getElem?_eq_getElem (show i < W12.length from h)]; rfl, t i h⟩
theorem len_pl {w : List Nat} {a b c : Nat} {m : List Nat} {T : List Th7 → List Nat} {P : List Th7 → Prop} (o : OkI P (.pl w a b c m)) : (txI T (.pl w a b c m)).length ≤ 77 := by
  have hns : ∀ y ∈ a :: b :: c :: m, y < 1000000000 := fun y hy => by
    simp at hy
    rcases hy with rfl | rfl | rfl | hy
    · exact o.2.1
    · exact o.2.2.1
    · exact o.2.2.2.1
    · exact o.2.2.2.2.2 y hy
  show (catL 32 (w :: (a :: b :: c :: m).map nC)).length ≤ 77
  rw [cat_tl, List.length_append]
  have h1 := tlN_len hns
  have h2 : w.length ≤ 7 := kw_len _ (List.mem_cons_of_mem _ o.1)
  have h3 := o.2.2.2.2.1
  simp at h1
  omega
theorem len_su {a b c : Nat} {bk : List Th7} {T : List Th7 → List Nat} (ha : a < 1000000000) (hb : b < 1000000000) (hc : c < 1000000000) : (txI T (.su a b c bk)).length ≤ 40 + (T bk).length := by
  show (catL 32 (supW :: [a, b, c].map nC) ++ ([32, 40] ++ (T bk ++ [41]))).length ≤ _
  rw [cat_tl]
  have h1 := tlN_len (ns := [a, b, c]) fun y hy => by simp at hy; rcases hy with rfl | rfl | rfl <;> assumption
  simp only [List.length_append, List.length_cons, List.length_nil] at h1 ⊢
  have h2 : supW.length = 7 := rfl
  omega
theorem list_choose {P : Nat → Addr → Th7 → Prop} : ∀ {rs : List Addr}, (∀ (i : Nat) (r : Addr), rs[i]? = some r → ∃ x, P i r x) → ∃ l : List Th7, l.length = rs.length ∧ ∀ (i : Nat) (r : Addr) (x : Th7), rs[i]? = some r → l[i]? = some x → P i r x := by
  intro rs
  induction rs generalizing P with
  | nil => exact fun _ => ⟨[], rfl, fun i r x h => by cases h⟩
  | cons r rs ih =>
    intro h
    obtain ⟨x, hx⟩ := h 0 r rfl
    obtain ⟨l, hl, k⟩ := ih (P := fun i r x => P (i + 1) r x) fun i r' h' => h (i + 1) r' h'
    refine ⟨x :: l, by simp [hl], fun i r' x' h1 h2 => ?_⟩
    cases i with
    | zero => cases h1; cases h2; exact hx
    | succ i => exact k i r' x' h1 h2
theorem plM_num {ws : List (List Nat)} (hne : ws ≠ []) (hf : ∀ r ∈ ws, 32 ∉ r) (h : none ∈ ws.tail.map numW) : plM (catL 32 ws) = none := by
  unfold plM
  rw [wdsOf_eq hne hf]
  split
  · have : numsM ws.tail = none := by unfold numsM; rw [if_pos h]
    rw [this]
  · rfl
theorem plM_head {w r : List Nat} (hw : 32 ∉ w) (h : w ∉ KW) : plM (w ++ 32 :: r) = none := by
  obtain ⟨h1, h2, h3⟩ := wdsOf_ex r
  have e : w ++ 32 :: r = catL 32 (w :: wdsOf r) := by
    cases e9 : wdsOf r with
    | nil => exact absurd e9 h1
    | cons x y => show _ = w ++ 32 :: catL 32 (x :: y); rw [← e9, h3]
  unfold plM
  rw [e, wdsOf_eq (by simp) (fun z hz => by rcases List.mem_cons.mp hz with rfl | hz; exact hw; exact h2 z hz)]
  rw [if_neg (fun z => h z.1)]
theorem plM_short {ws : List (List Nat)} (hne : ws ≠ []) (hf : ∀ r ∈ ws, 32 ∉ r) (h : ws.length < 4) : plM (catL 32 ws) = none := by
  unfold plM
  rw [wdsOf_eq hne hf, if_neg (fun z => by have := z.2; omega)]
theorem numW_bad {w : List Nat} {c : Nat} (hc : c ∈ w) (h : ¬ (48 ≤ c ∧ c ≤ 57)) : numW w = none := by
  unfold numW
  split
  · rfl
  · rw [if_neg]
    intro k
    have := List.all_eq_true.mp k c hc
    unfold digB at this
    simp at this
    exact h this
theorem numW_nil : numW [] = none := rfl
theorem numW_0 {n : Nat} : numW (48 :: nC n) = none := by
  unfold numW
  rw [if_pos]
  unfold badH
  have : (48 :: nC n : List Nat) ≠ [48] := fun e => by injection e with _ e; exact nC_ne e
  simp [this]
theorem numW_long {w : List Nat} (h : 9 < w.length) : numW w = none := by
  unfold numW
  rw [if_pos]
  unfold badH
  simp [h]
theorem p2_none {t : List Nat} (h : ∀ k : Nat, t[k]? = some 32 → t[k + 1]? ≠ some 40) : p2 t = [] := by
  unfold p2
  rcases partition_whole (tx t) (tx [32, 40]) with ⟨e, _⟩ | ⟨i, e, a, _⟩
  · rw [e]; rfl
  · have h1 := at_mark (c := 32) (j := 0) rfl a
    have h2 := at_mark (c := 40) (j := 1) rfl a
    exact absurd h2 (h i h1)
theorem suM_open {R : List Nat → Option (List Th7)} {t : List Nat} (h : (p2 t).getLast? ≠ some 41) : suM R t = none := by
  unfold suM; rw [if_neg (fun z => h z.2)]
theorem suM_words {R : List Nat → Option (List Th7)} {t : List Nat} (h : (wdsOf (p0 t)).length ≠ 4) : suM R t = none := by
  unfold suM; rw [if_neg (fun z => h z.1)]
theorem suM_in {R : List Nat → Option (List Th7)} {a b c : Nat} {u : List Nat} (ha : a < 1000000000) (hb : b < 1000000000) (hc : c < 1000000000) : suM R (catL 32 [supW, nC a, nC b, nC c] ++ ([32, 40] ++ (u ++ [41]))) = (R u).map (.su a b c) := by
  unfold suM
  rw [p0_su sup_hd_low.1, p2_su sup_hd_low.1, show catL 32 [supW, nC a, nC b, nC c] = catL 32 (supW :: [a, b, c].map nC) from rfl, wdsOf_eq (by simp) (ws_free sup_low.2.1), if_pos ⟨rfl, by simp⟩]
  show (match numsM ([a, b, c].map nC) with | some [a, b, c] => (R (u ++ [41]).dropLast).map (Th7.su a b c) | _ => none) = _
  rw [numsM_nC (fun y hy => by simp at hy; rcases hy with rfl | rfl | rfl <;> assumption), List.dropLast_concat]
theorem thM_pl {R : List Nat → Option (List Th7)} {t : List Nat} (h : t.take 8 ≠ supW ++ [32]) : thM R t = plM t := by unfold thM; rw [if_neg h]
theorem thM_su {R : List Nat → Option (List Th7)} {t : List Nat} (h : t.take 8 = supW ++ [32]) : thM R t = suM R t := by unfold thM; rw [if_pos h]
theorem inM_one {n : Nat} {t : List Nat} (h0 : t ≠ []) (hf : Fr9 t) (hc : cnt9 t = 0) : inM (n + 1) t = (thM (inM n) t).map fun x => [x] := by
  have e : pcsOf t = [t] := pcsOf_eq (rows := [t]) (by simp) (fun r hr => by rw [List.mem_singleton.mp hr]; exact hf)
  have e2 : [t].foldl tt9 ([], [], 0) = ([t], [], 0) := by
    show tt9 ([], [], 0) t = _
    unfold tt9
    rw [if_pos (show (0 : Int) + cnt9 t = 0 by omega)]
    rfl
  show (if t = [] then some [] else if ((pcsOf t).foldl tt9 ([], [], 0)).2.1 = [] then ((pcsOf t).foldl tt9 ([], [], 0)).1.mapM (thM (inM n)) else none) = _
  rw [if_neg h0, e, e2, if_pos rfl]
  show [t].mapM (thM (inM n)) = _
  rw [List.mapM_cons]
  cases thM (inM n) t <;> rfl
structure Ln71 (L : List Nat) : Prop where
  len : L.length ≤ 80
  asc : Asc L
  semi : 59 ∉ L
  cnt : cnt9 L = 0
  cas : (∃ (w : List Nat) (a b c : Nat) (m : List Nat), L = catL 32 (w :: (a :: b :: c :: m).map nC) ∧ w ∈ KW ∧ a < 1000000000 ∧ b < 1000000000 ∧ c < 1000000000 ∧ ∀ x ∈ m, x < 1000000000) ∨
    (∃ (a b c : Nat) (u : List Nat), L = catL 32 [supW, nC a, nC b, nC c] ++ ([32, 40] ++ (u ++ [41])) ∧ a < 1000000000 ∧ b < 1000000000 ∧ c < 1000000000)
theorem kw_take {w t : List Nat} (h : w ∈ KW) : (w ++ 32 :: t).take 8 ≠ supW ++ [32] := of_decide_eq_false (kw_start h t)
theorem pl_tl {w : List Nat} {a b c : Nat} {m s : List Nat} (h : w ∈ KW) : (catL 32 (w :: (a :: b :: c :: m).map nC) ++ s).take 8 ≠ supW ++ [32] := by
  have e : catL 32 (w :: (a :: b :: c :: m).map nC) ++ s = w ++ 32 :: (catL 32 ((a :: b :: c :: m).map nC) ++ s) := by show (w ++ 32 :: catL 32 ((a :: b :: c :: m).map nC)) ++ s = _; simp
  rw [e]; exact kw_take h
theorem su_tk {a b c : Nat} {s : List Nat} : (catL 32 [supW, nC a, nC b, nC c] ++ s).take 8 = supW ++ [32] := of_decide_eq_true (su_start a b c s)
theorem catL_tail {ws : List (List Nat)} {w s : List Nat} : catL 32 (ws ++ [w]) ++ s = catL 32 (ws ++ [w ++ s]) := by
  cases ws with
  | nil => rfl
  | cons x r => rw [catL_snoc 32 (x :: r) w (by simp), catL_snoc 32 (x :: r) (w ++ s) (by simp)]; simp
theorem tailA {L : List Nat} (l : Ln71 L) {R : List Nat → Option (List Th7)} {s : Nat} (h1 : ¬ (48 ≤ s ∧ s ≤ 57)) (h2 : s ≠ 32) (h3 : s ≠ 41) : thM R (L ++ [s]) = none := by
  rcases l.cas with ⟨w, a, b, c, m, rfl, hw, _⟩ | ⟨a, b, c, u, rfl, _⟩
  · rw [thM_pl (pl_tl hw)]
    have hne : (a :: b :: c :: m) ≠ [] := by simp
    obtain ⟨ns, y, e⟩ : ∃ ns y, a :: b :: c :: m = ns ++ [y] := ⟨(a :: b :: c :: m).dropLast, (a :: b :: c :: m).getLast hne, (List.dropLast_concat_getLast hne).symm⟩
    rw [e, List.map_append, ← List.cons_append, List.map_singleton, catL_tail]
    refine plM_num (by simp) (fun r hr => ?_) ?_
    · rcases List.mem_append.mp hr with hr | hr
      · exact ws_free (kw_low hw).2.1 r hr
      · rw [List.mem_singleton.mp hr]
        intro k
        rcases List.mem_append.mp k with k | k
        · exact nC_not (by decide) k
        · exact h2 (List.mem_singleton.mp k).symm
    · rw [List.cons_append, List.tail_cons, List.map_append]
      exact List.mem_append_right _ (by rw [List.map_singleton, numW_bad (List.mem_append_right _ List.mem_cons_self) h1]; exact List.mem_cons_self)
  · rw [List.append_assoc, thM_su su_tk]
    refine suM_open ?_
    rw [List.append_assoc, p2_su sup_hd_low.1]
    simp [h3]
theorem tailB {L : List Nat} (l : Ln71 L) {R : List Nat → Option (List Th7)} {w' : List Nat} (h1 : numW w' = none) (h2 : 32 ∉ w') (h3 : (32 :: w').getLast? ≠ some 41) : thM R (L ++ 32 :: w') = none := by
  rcases l.cas with ⟨w, a, b, c, m, rfl, hw, _⟩ | ⟨a, b, c, u, rfl, _⟩
  · rw [thM_pl (pl_tl hw), ← catL_snoc 32 _ w' (by simp)]
    refine plM_num (by simp) (fun r hr => ?_) ?_
    · rcases List.mem_append.mp hr with hr | hr
      · exact ws_free (kw_low hw).2.1 r hr
      · rw [List.mem_singleton.mp hr]; exact h2
    · rw [List.cons_append, List.tail_cons, List.map_append]
      exact List.mem_append_right _ (by rw [List.map_singleton, h1]; exact List.mem_cons_self)
  · rw [List.append_assoc, thM_su su_tk]
    refine suM_open ?_
    rw [List.append_assoc, p2_su sup_hd_low.1, List.getLast?_append]
    intro k
    cases e : (32 :: w').getLast? with
    | none => simp at e
    | some y => rw [e] at k h3; exact h3 k
theorem Ln71.hd {L : List Nat} (l : Ln71 L) : ∃ (w : List Nat) (a b : Nat) (r : List Nat), L = w ++ 32 :: (nC a ++ 32 :: (nC b ++ 32 :: r)) ∧ (w = supW ∨ w ∈ KW) ∧ a < 1000000000 ∧ b < 1000000000 := by
  rcases l.cas with ⟨w, a, b, c, m, rfl, hw, ha, hb, _⟩ | ⟨a, b, c, u, rfl, ha, hb, _⟩
  · exact ⟨w, a, b, catL 32 (nC c :: m.map nC), rfl, .inr hw, ha, hb⟩
  · exact ⟨supW, a, b, nC c ++ ([32, 40] ++ (u ++ [41])), by show (supW ++ 32 :: (nC a ++ 32 :: (nC b ++ 32 :: nC c))) ++ _ = _; simp, .inl rfl, ha, hb⟩
def BadT (L b : List Nat) : Prop := b.length ≤ 400 ∧ Asc b ∧ ((Fr9 b ∧ cnt9 b = 0 ∧ thM (inM 15) b = none) ∨ (Fr9 b ∧ cnt9 b ≠ 0) ∨ b = L ++ [59, 32])
structure Od (o : List Nat) : Prop where
  no : numW o = none
  fr : 32 ∉ o
  asc : Asc o
  low : LowS o
  len : o.length ≤ 12
def hd71 (c : Nat) : List Nat := catL 32 [supW, nC 0, nC c, nC 2]
def on71 (o : List Nat) : List Nat := catL 32 [[111, 110, 108, 121], nC 1, o, nC 3, nC 4]
def wy71 (o : List Nat) : List Nat := catL 32 [[119, 97, 121, 115], o, nC 1, nC 2]
theorem Asc.app {x y : List Nat} (h : Asc x) (k : Asc y) : Asc (x ++ y) := fun c hc => by
  rcases List.mem_append.mp hc with hc | hc
  · exact h c hc
  · exact k c hc
theorem Asc.cons {c : Nat} {x : List Nat} (h : c < 128) (k : Asc x) : Asc (c :: x) := fun d hd => by
  rcases List.mem_cons.mp hd with rfl | hd
  · exact h
  · exact k d hd
theorem Asc.cat {ws : List (List Nat)} (h : ∀ w ∈ ws, Asc w) : Asc (catL 32 ws) := by
  induction ws with
  | nil => exact fun c hc => by cases hc
  | cons x r ih =>
    cases r with
    | nil => exact h x List.mem_cons_self
    | cons y r => exact Asc.app (h x List.mem_cons_self) (Asc.cons (by decide) (ih fun w hw => h w (List.mem_cons_of_mem _ hw)))
theorem nC_asc {n : Nat} : Asc (nC n) := fun c hc => by have := nC_dig c hc; omega
theorem kw_asc : ∀ w ∈ supW :: KW, Asc w := by unfold Asc; decide
theorem Fr9_end {X : List Nat} (h : 59 ∉ X) {Y : List Nat} (hY : Y = [] ∨ ∃ c r, Y = c :: r ∧ c ≠ 32 ∧ 59 ∉ Y) : Fr9 (X ++ 59 :: Y) := fun k h1 h2 => by
  by_cases hk : k < X.length
  · rw [List.getElem?_append_left hk] at h1
    exact h (List.mem_of_getElem? h1)
  · by_cases hk2 : k = X.length
    · subst hk2
      rw [List.getElem?_append_right (by omega), show X.length + 1 - X.length = 1 by omega] at h2
      rcases hY with rfl | ⟨c, r, rfl, hc, _⟩
      · cases h2
      · have : c = 32 := by simpa using h2
        exact hc this
    · rw [List.getElem?_append_right (by omega)] at h1
      obtain ⟨j, hj⟩ : ∃ j, k - X.length = j + 1 := ⟨k - X.length - 1, by omega⟩
      rw [hj] at h1
      have h3 : Y[j]? = some 59 := h1
      rcases hY with rfl | ⟨c, r, rfl, _, hn⟩
      · cases h3
      · exact hn (List.mem_of_getElem? h3)
theorem hd_low71 {c : Nat} : LowS (hd71 c) := sup_hd_low
theorem hd_asc {c : Nat} : Asc (hd71 c) := Asc.cat fun w hw => by
  simp at hw
  rcases hw with rfl | rfl | rfl | rfl
  · exact kw_asc _ List.mem_cons_self
  all_goals exact nC_asc
theorem hd_len {c : Nat} (h : c < 1000000000) : (hd71 c).length ≤ 37 := by
  have e : hd71 c = supW ++ tlN [0, c, 2] := cat_tl (w := supW) (ns := [0, c, 2])
  have := tlN_len (ns := [0, c, 2]) fun y hy => by simp at hy; rcases hy with rfl | rfl | rfl <;> omega
  have h7 : supW.length = 7 := rfl
  have h3 : [0, c, 2].length = 3 := rfl
  rw [h3] at this
  rw [e, List.length_append]
  omega
theorem on_low {o : List Nat} (h : Od o) : LowS (on71 o) := LowS.cat fun r hr => by
  simp at hr
  rcases hr with rfl | rfl | rfl | rfl | rfl
  · decide
  · exact nC_low
  · exact h.low
  · exact nC_low
  · exact nC_low
theorem wy_low {o : List Nat} (h : Od o) : LowS (wy71 o) := LowS.cat fun r hr => by
  simp at hr
  rcases hr with rfl | rfl | rfl | rfl
  · decide
  · exact h.low
  · exact nC_low
  · exact nC_low
theorem on_none {o : List Nat} (h : Od o) {R : List Nat → Option (List Th7)} : thM R (on71 o) = none := by
  rw [thM_pl (by intro e; have := congrArg List.head? e; revert this; show some 111 = some 115 → False; decide)]
  refine plM_num (by simp) (fun r hr => ?_) ?_
  · simp at hr
    rcases hr with rfl | rfl | rfl | rfl | rfl
    · decide
    · exact nC_not (by decide)
    · exact h.fr
    · exact nC_not (by decide)
    · exact nC_not (by decide)
  · simp [h.no]
theorem wy_none {o : List Nat} (h : Od o) {R : List Nat → Option (List Th7)} : thM R (wy71 o) = none := by
  rw [thM_pl (by intro e; have := congrArg List.head? e; revert this; show some 119 = some 115 → False; decide)]
  refine plM_num (by simp) (fun r hr => ?_) ?_
  · simp at hr
    rcases hr with rfl | rfl | rfl | rfl
    · decide
    · exact h.fr
    · exact nC_not (by decide)
    · exact nC_not (by decide)
  · simp [h.no]
theorem lowFr {b : List Nat} (h : LowS b) : Fr9 b ∧ cnt9 b = 0 := ⟨free_Fr9 h.2.2, cnt9_low h⟩
theorem kw_heads : ∀ w ∈ supW :: KW, 120 :: w ∉ KW ∧ 40 :: w ∉ KW ∧ w.map upC ∉ KW ∧ (w.map upC).head? ≠ some 115 ∧ w.map upC ≠ [] ∧ 32 ∉ w.map upC := by decide
theorem up_cnt (l : List Nat) : cnt9 (l.map upC) = cnt9 l ∧ (59 ∉ l → 59 ∉ l.map upC) ∧ (Asc l → Asc (l.map upC)) := by
  have k : ∀ c d : Nat, d < 65 → (upC c = d ↔ c = d) := fun c d hd => by unfold upC; split <;> omega
  refine ⟨?_, fun h hm => ?_, fun h c hc => ?_⟩
  · unfold cnt9
    have e : ∀ d, d < 65 → (l.map upC).count d = l.count d := fun d hd => by
      induction l with
      | nil => rfl
      | cons x r ih =>
        rw [List.map_cons, List.count_cons, List.count_cons, ih]
        by_cases hx : x = d
        · have : upC x = d := (k x d hd).mpr hx
          simp [hx, this]
          rw [hx] at this
          simp [this]
        · have : ¬ upC x = d := fun z => hx ((k x d hd).mp z)
          simp [hx, this]
    rw [e 40 (by decide), e 41 (by decide)]
  · obtain ⟨x, hx, e⟩ := List.mem_map.mp hm
    rw [(k x 59 (by decide)).mp e] at hx
    exact h hx
  · obtain ⟨x, hx, rfl⟩ := List.mem_map.mp hc
    exact upC_lt (h x hx)
theorem thM_c {R : List Nat → Option (List Th7)} {c : Nat} {r : List Nat} (h : c ≠ 115) : thM R (c :: r) = plM (c :: r) := thM_pl fun e => by
  have := congrArg List.head? e
  have : some c = some 115 := this
  exact h (by injection this)
def dp71 (c : Nat) : Nat → List Nat
  | 0 => []
  | k + 1 => hd71 c ++ ([32, 40] ++ (dp71 c k ++ [41]))
theorem dp_low {c : Nat} : ∀ k, cnt9 (dp71 c k) = 0 ∧ 59 ∉ dp71 c k ∧ Asc (dp71 c k)
  | 0 => ⟨rfl, (fun h => by cases h), (fun c hc => by cases hc)⟩
  | k + 1 => by
    obtain ⟨h1, h2, h3⟩ := dp_low (c := c) k
    refine ⟨?_, ?_, ?_⟩
    · show cnt9 (hd71 c ++ ([32, 40] ++ (dp71 c k ++ [41]))) = 0
      rw [cnt9_app, cnt9_app, cnt9_app, cnt9_low hd_low71, h1]; decide
    · intro e
      rcases List.mem_append.mp e with e | e
      · exact hd_low71.2.2 e
      · rcases List.mem_append.mp e with e | e
        · revert e; decide
        · rcases List.mem_append.mp e with e | e
          · exact h2 e
          · revert e; decide
    · exact hd_asc.app (Asc.app (by unfold Asc; decide) (h3.app (by unfold Asc; decide)))
theorem dp_len {c : Nat} (h : c < 100) : ∀ k, (dp71 c k).length ≤ 18 * k
  | 0 => Nat.le_refl _
  | k + 1 => by
    have ih := dp_len h k
    have hl : (hd71 c).length ≤ 14 := by
      have e : hd71 c = supW ++ tlN [0, c, 2] := cat_tl (w := supW) (ns := [0, c, 2])
      have e2 : tlN [0, c, 2] = [32] ++ nC 0 ++ ([32] ++ nC c) ++ ([32] ++ nC 2) := by simp [tlN]
      have hc : (nC c).length ≤ 2 := by
        unfold nC; rw [List.length_map]
        exact (Nat.length_toDigits_le_iff (by decide) (by decide)).mpr h
      rw [e, e2, nC_len1 (n := 0) (by decide), nC_len1 (n := 2) (by decide)]
      simp only [List.length_append, List.length_cons, List.length_nil]
      have : supW.length = 7 := rfl
      omega
    show (hd71 c ++ ([32, 40] ++ (dp71 c k ++ [41]))).length ≤ _
    simp only [List.length_append, List.length_cons, List.length_nil]
    omega
theorem dp_none {c : Nat} (h : c < 1000000000) : ∀ n, inM n (dp71 c n) = none
  | 0 => rfl
  | n + 1 => by
    have ih := dp_none h n
    obtain ⟨h1, h2, h3⟩ := dp_low (c := c) (n + 1)
    rw [inM_one (by show hd71 c ++ ([32, 40] ++ (dp71 c n ++ [41])) ≠ []; simp) (free_Fr9 h2) h1]
    have e : thM (inM n) (dp71 c (n + 1)) = none := by
      show thM (inM n) (catL 32 [supW, nC 0, nC c, nC 2] ++ ([32, 40] ++ (dp71 c n ++ [41]))) = none
      rw [thM_su su_tk, suM_in (by decide) h (by decide), ih]; rfl
    rw [e]; rfl
section
variable {L : List Nat} (l : Ln71 L)
include l
theorem t0 : BadT L (32 :: L) := by
  refine ⟨by have := l.len; simp; omega, Asc.cons (by decide) l.asc, .inl ⟨free_Fr9 ?_, ?_, ?_⟩⟩
  · intro e; rcases List.mem_cons.mp e with e | e
    · cases e
    · exact l.semi e
  · rw [show 32 :: L = [32] ++ L from rfl, cnt9_app, l.cnt]; decide
  · rw [thM_c (by decide)]; exact plM_head (w := []) (by decide) (by decide)
theorem tBB {w' : List Nat} (h1 : numW w' = none) (h2 : 32 ∉ w') (h3 : (32 :: w').getLast? ≠ some 41) (h4 : w' = [] ∨ w' = [59]) : BadT L (L ++ 32 :: w') := by
  have hl := l.len
  rcases h4 with rfl | rfl
  · refine ⟨by simp; omega, l.asc.app (by unfold Asc; decide), .inl ⟨free_Fr9 fun e => ?_, by rw [cnt9_app, l.cnt]; decide, tailB l h1 h2 h3⟩⟩
    rcases List.mem_append.mp e with e | e
    · exact l.semi e
    · revert e; decide
  · refine ⟨by simp; omega, l.asc.app (by unfold Asc; decide), .inl ⟨?_, by rw [cnt9_app, l.cnt]; decide, tailB l h1 h2 h3⟩⟩
    rw [show L ++ [32, 59] = (L ++ [32]) ++ 59 :: [] by simp]
    refine Fr9_end (fun e => ?_) (.inl rfl)
    rcases List.mem_append.mp e with e | e
    · exact l.semi e
    · revert e; decide
theorem t1 : BadT L (L ++ [32]) := tBB l rfl (by decide) (by decide) (.inl rfl)
theorem t21 : BadT L (L ++ [32, 59]) := tBB l (numW_bad (c := 59) (by decide) (by decide)) (by decide) (by decide) (.inr rfl)
theorem t3 : BadT L (L ++ [10]) := by
  refine ⟨by have := l.len; simp; omega, l.asc.app (by unfold Asc; decide), .inl ⟨free_Fr9 fun e => ?_, by rw [cnt9_app, l.cnt]; decide, tailA l (by decide) (by decide) (by decide)⟩⟩
  rcases List.mem_append.mp e with e | e
  · exact l.semi e
  · revert e; decide
theorem t19 : BadT L (L ++ [59]) := by
  refine ⟨by have := l.len; simp; omega, l.asc.app (by unfold Asc; decide), .inl ⟨Fr9_end l.semi (.inl rfl), by rw [cnt9_app, l.cnt]; decide, tailA l (by decide) (by decide) (by decide)⟩⟩
theorem t4 : BadT L (120 :: L) := by
  obtain ⟨w, a, b, r, e, hw, _⟩ := l.hd
  have hk := kw_heads w (by rcases hw with rfl | hw; exact List.mem_cons_self; exact List.mem_cons_of_mem _ hw)
  have h32 : 32 ∉ w := by rcases hw with rfl | hw; exact sup_low.2.1; exact (kw_low hw).2.1
  refine ⟨by have := l.len; simp; omega, Asc.cons (by decide) l.asc, .inl ⟨free_Fr9 ?_, ?_, ?_⟩⟩
  · intro e; rcases List.mem_cons.mp e with e | e
    · cases e
    · exact l.semi e
  · rw [show 120 :: L = [120] ++ L from rfl, cnt9_app, l.cnt]; decide
  · rw [thM_c (by decide), e]
    exact plM_head (w := 120 :: w) (fun z => by rcases List.mem_cons.mp z with z | z; cases z; exact h32 z) hk.1
theorem t9 : BadT L ([40] ++ L ++ [41]) := by
  obtain ⟨w, a, b, r, e, hw, _⟩ := l.hd
  have hk := kw_heads w (by rcases hw with rfl | hw; exact List.mem_cons_self; exact List.mem_cons_of_mem _ hw)
  have h32 : 32 ∉ w := by rcases hw with rfl | hw; exact sup_low.2.1; exact (kw_low hw).2.1
  refine ⟨by have := l.len; simp; omega, Asc.app (Asc.cons (by decide) l.asc) (by unfold Asc; decide), .inl ⟨free_Fr9 ?_, ?_, ?_⟩⟩
  · intro e
    rcases List.mem_append.mp e with e | e
    · rcases List.mem_append.mp e with e | e
      · revert e; decide
      · exact l.semi e
    · revert e; decide
  · rw [cnt9_app, cnt9_app, l.cnt]; decide
  · rw [show [40] ++ L ++ [41] = 40 :: (L ++ [41]) from rfl, thM_c (by decide), e]
    have := plM_head (w := 40 :: w) (r := (nC a ++ 32 :: (nC b ++ 32 :: r)) ++ [41]) (fun z => by rcases List.mem_cons.mp z with z | z; cases z; exact h32 z) hk.2.1
    rw [← this]
    congr 1
    simp
theorem t5 : BadT L (L.map upC) := by
  obtain ⟨w, a, b, r, e, hw, _⟩ := l.hd
  have hk := kw_heads w (by rcases hw with rfl | hw; exact List.mem_cons_self; exact List.mem_cons_of_mem _ hw)
  obtain ⟨u1, u2, u3⟩ := up_cnt L
  refine ⟨by have := l.len; rw [List.length_map]; omega, u3 l.asc, .inl ⟨free_Fr9 (u2 l.semi), by rw [u1, l.cnt], ?_⟩⟩
  have e2 : L.map upC = w.map upC ++ 32 :: (nC a ++ 32 :: (nC b ++ 32 :: r)).map upC := by rw [e, List.map_append]; rfl
  rw [e2, thM_pl]
  · exact plM_head hk.2.2.2.2.2 hk.2.2.1
  · intro z
    have h0 := congrArg List.head? z
    cases e3 : w.map upC with
    | nil => exact hk.2.2.2.2.1 e3
    | cons x y =>
      rw [e3] at h0
      have : some x = some 115 := h0
      have h4 := hk.2.2.2.1
      rw [e3] at h4
      exact h4 this
theorem t10 : BadT L (L ++ [41]) := by
  refine ⟨by have := l.len; simp; omega, l.asc.app (by unfold Asc; decide), .inr (.inl ⟨free_Fr9 fun e => ?_, by rw [cnt9_app, l.cnt]; decide⟩)⟩
  rcases List.mem_append.mp e with e | e
  · exact l.semi e
  · revert e; decide
theorem t11 : BadT L (L ++ [32, 40]) := by
  refine ⟨by have := l.len; simp; omega, l.asc.app (by unfold Asc; decide), .inr (.inl ⟨free_Fr9 fun e => ?_, by rw [cnt9_app, l.cnt]; decide⟩)⟩
  rcases List.mem_append.mp e with e | e
  · exact l.semi e
  · revert e; decide
theorem t20 : BadT L (L ++ [59, 32]) := ⟨by have := l.len; simp; omega, l.asc.app (by unfold Asc; decide), .inr (.inr rfl)⟩
theorem t2 {w r : List Nat} (e : L = w ++ 32 :: r) (hw : 32 ∉ w) : BadT L (w ++ 32 :: 32 :: r) := by
  have hl := l.len
  have hc := l.cnt
  have ha := l.asc
  have hs := l.semi
  have h1 : (w ++ 32 :: 32 :: r).length ≤ 400 := by rw [e] at hl; simp at hl ⊢; omega
  have h2 : Asc (w ++ 32 :: 32 :: r) := by
    rw [e] at ha
    exact Asc.app (fun c hc => ha c (List.mem_append_left _ hc)) (Asc.cons (by decide) fun c hc => ha c (List.mem_append_right _ hc))
  have h3 : 59 ∉ w ++ 32 :: 32 :: r := fun z => by
    rw [e] at hs
    rcases List.mem_append.mp z with z | z
    · exact hs (List.mem_append_left _ z)
    · rcases List.mem_cons.mp z with z | z
      · cases z
      · exact hs (List.mem_append_right _ z)
  have h4 : cnt9 (w ++ 32 :: 32 :: r) = 0 := by
    rw [e, show w ++ 32 :: r = w ++ ([32] ++ r) from rfl, cnt9_app, cnt9_app] at hc
    rw [show w ++ 32 :: 32 :: r = w ++ ([32, 32] ++ r) from rfl, cnt9_app, cnt9_app]
    have : cnt9 [32, 32] = cnt9 [32] := by decide
    rw [this]; exact hc
  refine ⟨h1, h2, .inl ⟨free_Fr9 h3, h4, ?_⟩⟩
  have cutw : ∀ {w' r' : List Nat}, 32 ∉ w' → w ++ 32 :: r = w' ++ 32 :: r' → w = w' ∧ r = r' := fun hw' z => cut_inj hw hw' z
  rcases l.cas with ⟨v, a, b, c, m, e2, hv, _⟩ | ⟨a, b, c, u, e2, _⟩
  · have e3 : w ++ 32 :: r = v ++ 32 :: catL 32 ((a :: b :: c :: m).map nC) := by rw [← e, e2]; rfl
    obtain ⟨rfl, rfl⟩ := cutw (kw_low hv).2.1 e3
    rw [thM_pl (kw_take hv)]
    have e4 : w ++ 32 :: 32 :: catL 32 ((a :: b :: c :: m).map nC) = catL 32 (w :: [] :: (a :: b :: c :: m).map nC) := rfl
    rw [e4]
    refine plM_num (by simp) (fun z hz => ?_) ?_
    · rcases List.mem_cons.mp hz with rfl | hz
      · exact hw
      · rcases List.mem_cons.mp hz with rfl | hz
        · decide
        · obtain ⟨y, _, rfl⟩ := List.mem_map.mp hz
          exact nC_not (by decide)
    · simp [numW_nil]
  · have e3 : w ++ 32 :: r = supW ++ 32 :: (catL 32 [nC a, nC b, nC c] ++ ([32, 40] ++ (u ++ [41]))) := by rw [← e, e2]; show (supW ++ 32 :: catL 32 [nC a, nC b, nC c]) ++ _ = _; simp
    obtain ⟨rfl, rfl⟩ := cutw sup_low.2.1 e3
    have e4 : supW ++ 32 :: 32 :: (catL 32 [nC a, nC b, nC c] ++ ([32, 40] ++ (u ++ [41]))) = catL 32 (supW :: [] :: [a, b, c].map nC) ++ ([32, 40] ++ (u ++ [41])) := by
      show _ = (supW ++ 32 :: ([] ++ 32 :: catL 32 [nC a, nC b, nC c])) ++ _
      simp
    rw [thM_su (by rfl), e4]
    refine suM_words ?_
    have hlow : LowS (catL 32 (supW :: [] :: [a, b, c].map nC)) := LowS.cat fun z hz => by
      rcases List.mem_cons.mp hz with rfl | hz
      · exact sup_low.1
      · rcases List.mem_cons.mp hz with rfl | hz
        · decide
        · obtain ⟨y, _, rfl⟩ := List.mem_map.mp hz
          exact nC_low
    rw [p0_su hlow.1, wdsOf_eq (by simp) (fun z hz => by
      rcases List.mem_cons.mp hz with rfl | hz
      · exact sup_low.2.1
      · rcases List.mem_cons.mp hz with rfl | hz
        · decide
        · obtain ⟨y, _, rfl⟩ := List.mem_map.mp hz
          exact nC_not (by decide))]
    show 5 ≠ 4
    decide
theorem t7 {w r : List Nat} {a b : Nat} (e : L = w ++ 32 :: (nC a ++ 32 :: (nC b ++ 32 :: r))) (hw : w = supW ∨ w ∈ KW) : BadT L (catL 32 [w, nC a, nC b]) := by
  have hwm : w ∈ supW :: KW := by rcases hw with rfl | hw; exact List.mem_cons_self; exact List.mem_cons_of_mem _ hw
  have hlow : LowS (catL 32 [w, nC a, nC b]) := LowS.cat fun z hz => by
    simp at hz
    rcases hz with rfl | rfl | rfl
    · exact (KW_low _ hwm).1
    · exact nC_low
    · exact nC_low
  have hfr : ∀ z ∈ [w, nC a, nC b], 32 ∉ z := fun z hz => by
    simp at hz
    rcases hz with rfl | rfl | rfl
    · exact (KW_low _ hwm).2.1
    · exact nC_not (by decide)
    · exact nC_not (by decide)
  refine ⟨?_, Asc.cat fun z hz => ?_, .inl ⟨(lowFr hlow).1, (lowFr hlow).2, ?_⟩⟩
  · have hl := l.len
    rw [e] at hl
    show (w ++ 32 :: (nC a ++ 32 :: nC b)).length ≤ _
    simp at hl ⊢
    omega
  · simp at hz
    rcases hz with rfl | rfl | rfl
    · exact kw_asc _ hwm
    · exact nC_asc
    · exact nC_asc
  · rcases hw with rfl | hw
    · rw [thM_su (by rfl)]
      refine suM_open ?_
      rw [p2_none fun k _ h => hlow.1 (List.mem_of_getElem? h)]
      decide
    · have e8 : (catL 32 [w, nC a, nC b]).take 8 ≠ supW ++ [32] := kw_take (t := catL 32 [nC a, nC b]) hw
      rw [thM_pl e8]
      exact plM_short (by simp) hfr (by show 3 < 4; decide)
omit l in
theorem low_bad {b : List Nat} (hb : b.length ≤ 400) (ha : Asc b) (h : LowS b) (n : thM (inM 15) b = none) : BadT L b := ⟨hb, ha, .inl ⟨(lowFr h).1, (lowFr h).2, n⟩⟩
omit l in
theorem on_asc {o : List Nat} (h : Od o) : Asc (on71 o) := Asc.cat fun z hz => by
  simp at hz
  rcases hz with rfl | rfl | rfl | rfl | rfl
  · unfold Asc; decide
  · exact nC_asc
  · exact h.asc
  · exact nC_asc
  · exact nC_asc
omit l in
theorem wy_asc {o : List Nat} (h : Od o) : Asc (wy71 o) := Asc.cat fun z hz => by
  simp at hz
  rcases hz with rfl | rfl | rfl | rfl
  · unfold Asc; decide
  · exact h.asc
  · exact nC_asc
  · exact nC_asc
omit l in
theorem on_len {o : List Nat} (h : Od o) : (on71 o).length ≤ 60 := by
  have := h.len
  show ([111, 110, 108, 121] ++ 32 :: (nC 1 ++ 32 :: (o ++ 32 :: (nC 3 ++ 32 :: nC 4)))).length ≤ _
  rw [nC_len1 (n := 1) (by decide), nC_len1 (n := 3) (by decide), nC_len1 (n := 4) (by decide)]
  simp
  omega
omit l in
theorem wy_len {o : List Nat} (h : Od o) : (wy71 o).length ≤ 60 := by
  have := h.len
  show ([119, 97, 121, 115] ++ 32 :: (o ++ 32 :: (nC 1 ++ 32 :: nC 2))).length ≤ _
  rw [nC_len1 (n := 1) (by decide), nC_len1 (n := 2) (by decide)]
  simp
  omega
omit l in
theorem t6 {o : List Nat} (h : Od o) : BadT L (on71 o) := low_bad (by have := on_len h; omega) (on_asc h) (on_low h) (on_none h)
omit l in
theorem t22 {o : List Nat} (h : Od o) : BadT L (wy71 o) := low_bad (by have := wy_len h; omega) (wy_asc h) (wy_low h) (wy_none h)
omit l in
theorem t8 : BadT L [111, 110, 108, 121, 32, 49, 32, 50, 32, 51, 32, 52, 32, 40, 41] := by
  refine ⟨by decide, by unfold Asc; decide, .inl ⟨free_Fr9 (by decide), by decide, ?_⟩⟩
  rw [thM_c (by decide)]
  exact plM_num (ws := [[111, 110, 108, 121], [49], [50], [51], [52], [40, 41]]) (by simp) (by decide) (by decide)
omit l in
theorem t12 {c : Nat} (hc : c < 1000000000) : BadT L (hd71 c) := by
  refine low_bad (by have := hd_len hc; omega) hd_asc hd_low71 ?_
  have e : (hd71 c).take 8 = supW ++ [32] := by have := su_tk (a := 0) (b := c) (c := 2) (s := []); rw [List.append_nil] at this; exact this
  rw [thM_su e]
  refine suM_open ?_
  rw [p2_none fun k _ h => hd_low71.1 (List.mem_of_getElem? h)]
  decide
omit l in
theorem t13 {c : Nat} (hc : c < 1000000000) : BadT L (hd71 c ++ [40, 41]) := by
  have hl := hd_len hc
  refine ⟨by simp; omega, hd_asc.app (by unfold Asc; decide), .inl ⟨free_Fr9 fun e => ?_, by rw [cnt9_app, cnt9_low hd_low71]; decide, ?_⟩⟩
  · rcases List.mem_append.mp e with e | e
    · exact hd_low71.2.2 e
    · revert e; decide
  · have e8 : (hd71 c ++ [40, 41]).take 8 = supW ++ [32] := su_tk
    rw [thM_su e8]
    refine suM_open ?_
    obtain ⟨X, eX⟩ : ∃ X, hd71 c = X ++ [50] := ⟨supW ++ 32 :: (nC 0 ++ 32 :: (nC c ++ [32])), by
      show supW ++ 32 :: (nC 0 ++ 32 :: (nC c ++ 32 :: nC 2)) = _
      rw [nC_len1 (n := 2) (by decide)]; simp⟩
    rw [p2_none]
    · decide
    · intro k h1 h2
      have hlen : (hd71 c).length = X.length + 1 := by rw [eX]; simp
      by_cases hk : k + 1 < (hd71 c).length
      · rw [List.getElem?_append_left hk] at h2
        exact hd_low71.1 (List.mem_of_getElem? h2)
      · by_cases hk2 : k + 1 = (hd71 c).length
        · rw [List.getElem?_append_left (by omega), eX, List.getElem?_append_right (by omega), show k - X.length = 0 by omega] at h1
          cases h1
        · rw [List.getElem?_append_right (by omega)] at h2
          obtain ⟨j, hj⟩ : ∃ j, k + 1 - (hd71 c).length = j + 1 := ⟨k - (hd71 c).length, by omega⟩
          rw [hj] at h2
          cases j with
          | zero => cases h2
          | succ j => cases h2
omit l in
theorem t14 : BadT L [115, 117, 112, 112, 111, 115, 101, 32, 48, 32, 49, 32, 40, 41] := by
  refine ⟨by decide, by unfold Asc; decide, .inl ⟨free_Fr9 (by decide), by decide, ?_⟩⟩
  rw [thM_su (by decide)]
  refine suM_words ?_
  have e : ([115, 117, 112, 112, 111, 115, 101, 32, 48, 32, 49, 32, 40, 41] : List Nat) = catL 32 [supW, [48], [49]] ++ ([32, 40] ++ [41]) := rfl
  rw [e, p0_su (by decide), wdsOf_eq (by simp) (by decide)]
  decide
omit l in
theorem t15 : BadT L [115, 117, 112, 112, 111, 115, 101, 32, 48, 32, 49, 32, 50, 32, 51, 32, 40, 41] := by
  refine ⟨by decide, by unfold Asc; decide, .inl ⟨free_Fr9 (by decide), by decide, ?_⟩⟩
  rw [thM_su (by decide)]
  refine suM_words ?_
  have e : ([115, 117, 112, 112, 111, 115, 101, 32, 48, 32, 49, 32, 50, 32, 51, 32, 40, 41] : List Nat) = catL 32 [supW, [48], [49], [50], [51]] ++ ([32, 40] ++ [41]) := rfl
  rw [e, p0_su (by decide), wdsOf_eq (by simp) (by decide)]
  decide
omit l in
theorem inn_none {u : List Nat} (h0 : u ≠ []) (hf : Fr9 u) (hc : cnt9 u = 0) (hn : thM (inM 14) u = none) {c : Nat} (h9 : c < 1000000000) : thM (inM 15) (hd71 c ++ ([32, 40] ++ (u ++ [41]))) = none := by
  show thM (inM 15) (catL 32 [supW, nC 0, nC c, nC 2] ++ ([32, 40] ++ (u ++ [41]))) = none
  rw [thM_su su_tk, suM_in (by decide) h9 (by decide), inM_one h0 hf hc, hn]; rfl
omit l in
theorem t16 {c : Nat} (hc : c < 1000000000) {o : List Nat} (h : Od o) : BadT L (hd71 c ++ ([32, 40] ++ (on71 o ++ [41]))) := by
  have hl := hd_len hc
  have ol := on_len h
  refine ⟨by simp; omega, hd_asc.app (Asc.app (by unfold Asc; decide) ((on_asc h).app (by unfold Asc; decide))), .inl ⟨free_Fr9 fun e => ?_, ?_, ?_⟩⟩
  · rcases List.mem_append.mp e with e | e
    · exact hd_low71.2.2 e
    · rcases List.mem_append.mp e with e | e
      · revert e; decide
      · rcases List.mem_append.mp e with e | e
        · exact (on_low h).2.2 e
        · revert e; decide
  · rw [cnt9_app, cnt9_app, cnt9_app, cnt9_low hd_low71, cnt9_low (on_low h)]; decide
  · exact inn_none (by show [111, 110, 108, 121] ++ 32 :: _ ≠ []; simp) (lowFr (on_low h)).1 (lowFr (on_low h)).2 (on_none h) hc
omit l in
theorem t17 {c : Nat} (hc : c < 100) : BadT L (dp71 c 16) := by
  obtain ⟨h1, h2, h3⟩ := dp_low (c := c) 16
  refine ⟨by have := dp_len hc 16; omega, h3, .inl ⟨free_Fr9 h2, h1, ?_⟩⟩
  show thM (inM 15) (catL 32 [supW, nC 0, nC c, nC 2] ++ ([32, 40] ++ (dp71 c 15 ++ [41]))) = none
  rw [thM_su su_tk, suM_in (by decide) (by omega) (by decide), dp_none (by omega) 15]; rfl
omit l in
theorem t18 : BadT L [] := by
  refine ⟨by decide, (fun c hc => by cases hc), .inl ⟨(fun k h => by cases h), rfl, ?_⟩⟩
  rw [thM_pl (by decide)]
  exact plM_short (ws := [[]]) (by simp) (by decide) (by decide)
omit l in
theorem t23 {c : Nat} (hc : c < 1000000000) : BadT L (hd71 c ++ [32, 40, 119, 97, 121, 115, 32, 48, 32, 49, 32, 50, 59, 41]) := by
  have hl := hd_len hc
  have e : hd71 c ++ [32, 40, 119, 97, 121, 115, 32, 48, 32, 49, 32, 50, 59, 41] = hd71 c ++ ([32, 40] ++ ([119, 97, 121, 115, 32, 48, 32, 49, 32, 50, 59] ++ [41])) := rfl
  refine ⟨by simp; omega, hd_asc.app (by unfold Asc; decide), .inl ⟨?_, by rw [cnt9_app, cnt9_low hd_low71]; decide, ?_⟩⟩
  · rw [show hd71 c ++ [32, 40, 119, 97, 121, 115, 32, 48, 32, 49, 32, 50, 59, 41] = (hd71 c ++ [32, 40, 119, 97, 121, 115, 32, 48, 32, 49, 32, 50]) ++ 59 :: [41] by simp]
    refine Fr9_end (fun z => ?_) (.inr ⟨41, [], rfl, by decide, by decide⟩)
    rcases List.mem_append.mp z with z | z
    · exact hd_low71.2.2 z
    · revert z; decide
  · rw [e]
    refine inn_none (by decide) (Fr9_end (X := [119, 97, 121, 115, 32, 48, 32, 49, 32, 50]) (Y := []) (by decide) (.inl rfl)) (by decide) ?_ hc
    show thM (inM 14) [119, 97, 121, 115, 32, 48, 32, 49, 32, 50, 59] = none
    rw [thM_c (by decide)]
    exact plM_num (ws := [[119, 97, 121, 115], [48], [49], [50, 59]]) (by simp) (by decide) (by decide)
end
theorem od_of {n : Nat} (h : n < 1000000000) : Od (48 :: nC n) ∧ Od (nC (1000000000 + n)) ∧ Od (45 :: nC n) ∧ Od (nC n ++ [97]) ∧ Od [] := by
  have l9 := nC_len h
  have low : ∀ {c : Nat}, c ≠ 40 → c ≠ 41 → c ≠ 59 → LowS (c :: nC n) := fun h1 h2 h3 => ⟨fun e => by rcases List.mem_cons.mp e with e | e; exact h1 e.symm; exact nC_low.1 e, fun e => by rcases List.mem_cons.mp e with e | e; exact h2 e.symm; exact nC_low.2.1 e, fun e => by rcases List.mem_cons.mp e with e | e; exact h3 e.symm; exact nC_low.2.2 e⟩
  have lowe : LowS (nC n ++ [97]) := ⟨fun e => by rcases List.mem_append.mp e with e | e; exact nC_low.1 e; revert e; decide, fun e => by rcases List.mem_append.mp e with e | e; exact nC_low.2.1 e; revert e; decide, fun e => by rcases List.mem_append.mp e with e | e; exact nC_low.2.2 e; revert e; decide⟩
  have f32 : 32 ∉ nC n := nC_not (by decide)
  refine ⟨⟨numW_0, ?_, Asc.cons (by decide) nC_asc, low (by decide) (by decide) (by decide), by simp; omega⟩, ⟨numW_long ?_, nC_not (by decide), nC_asc, nC_low, ?_⟩, ⟨numW_bad (c := 45) List.mem_cons_self (by decide), ?_, Asc.cons (by decide) nC_asc, low (by decide) (by decide) (by decide), by simp; omega⟩, ⟨numW_bad (c := 97) (List.mem_append_right _ List.mem_cons_self) (by decide), ?_, nC_asc.app (by unfold Asc; decide), lowe, by simp; omega⟩, ⟨rfl, by decide, (fun c hc => by cases hc), by decide, by decide⟩⟩
  · intro e; rcases List.mem_cons.mp e with e | e
    · cases e
    · exact f32 e
  · have hi := Nat.length_toDigits_le_iff (b := 10) (n := 1000000000 + n) (k := 9) (by decide) (by decide)
    have : ¬ (Nat.toDigits 10 (1000000000 + n)).length ≤ 9 := fun z => absurd (hi.mp z) (by show ¬ 1000000000 + n < 10 ^ 9; omega)
    unfold nC; rw [List.length_map]; omega
  · have := (Nat.length_toDigits_le_iff (b := 10) (n := 1000000000 + n) (k := 12) (by decide) (by decide)).mpr (by show 1000000000 + n < 10 ^ 12; omega)
    unfold nC; rw [List.length_map]; exact this
  · intro e; rcases List.mem_cons.mp e with e | e
    · cases e
    · exact f32 e
  · intro e; rcases List.mem_append.mp e with e | e
    · exact f32 e
    · revert e; decide
theorem n_log12 {n : Nat} (h : n < 1000000000000) : ((n : Int)).natAbs.log2 < 1920 := by
  rw [Int.natAbs_natCast]
  by_cases h0 : n = 0
  · rw [h0]; decide
  · rw [Nat.log2_lt h0]
    exact Nat.lt_of_lt_of_le h (by decide +kernel)
def sp__law_odd_number71 (K : PySem.W.Frag) : Sp := fun vs H Q _ => ∃ c : Int, vs = [.int c] ∧ 0 ≤ c ∧ ∀ o H', Od o → Same H H' → Q (.str (tx o)) H'
def rd__law_odd_number71 (K : PySem.W.Frag) : TS :=
  (tSeq (tAsg (tCall (sp__law_number70 K) [] E0 (tCons (tOp cDiv (tVar 0) (tC (.int 5))) tNil)) (gName 1))
    (tRet (tOp cIx (tLst (tCons (tOp cAdd (tC (.str (tx [48]))) (tCB kStr (tCons (tVar 1) tNil))) (tCons (tCB kStr (tCons (tOp cAdd (tC (.int 1000000000)) (tVar 1)) tNil)) (tCons (tOp cAdd (tC (.str (tx [45]))) (tCB kStr (tCons (tVar 1) tNil))) (tCons (tOp cAdd (tCB kStr (tCons (tVar 1) tNil)) (tC (.str (tx [97])))) (tCons (tC (.str (tx []))) tNil)))))) (tOp cMod (tVar 0) (tC (.int 5))))))
theorem rk__law_odd_number71 {K : PySem.W.Frag} {vs : List V} {H : Hp} {Q : VK} {E : XK} (h : sp__law_odd_number71 K vs H Q E) : rd__law_odd_number71 K { nx := fun _ H' => Q .non H', rt := Q } (start ["_law_cell", "_law_number_here"] vs) H := by
  obtain ⟨c, rfl, c0, q⟩ := h
  have z := z70
  show rd__law_odd_number71 K _ [some (.int c), none] H
  unfold rd__law_odd_number71
  walk_at "w"
  refine ⟨by unfold CDiv; omega, _, rfl, by omega, fun H1 s1 => ?_⟩
  have hn := num70_lt (c := c / 5)
  generalize num70 (c / 5) = n at *
  obtain ⟨o0, o1, o2, o3, o4⟩ := od_of hn
  have hl := nC_len hn
  walk_at "w"
  rw [show (1000000000 + (n : Int)) = ((1000000000 + n : Nat) : Int) by omega, nC_str, nC_str, tx_app, tx_app, tx_app]
  refine ⟨n_log hn, by rw [tx_len, tx_len]; show 1 + _ ≤ _; omega, n_log12 (by omega), n_log hn, by rw [tx_len, tx_len]; show 1 + _ ≤ _; omega, n_log hn, by rw [tx_len, tx_len]; show _ + 1 ≤ _; omega, by show 5 ≤ sizeLine; omega, fun p hp => ⟨by decide, ?_⟩⟩
  have s2 := s1.laid (o := .lst [.str (tx ([48] ++ nC n)), .str (tx (nC (1000000000 + n))), .str (tx ([45] ++ nC n)), .str (tx (nC n ++ [97])), .str (tx [])]) hp
  have e : c % 5 = (((c % 5).toNat : Nat) : Int) := by omega
  rw [e]
  have h5 : (c % 5).toNat < 5 := by omega
  generalize (c % 5).toNat = i at *
  match i, h5 with
  | 0, _ => exact ixL upd_same rfl (q _ _ o0 s2)
  | 1, _ => exact ixL upd_same rfl (q _ _ o1 s2)
  | 2, _ => exact ixL upd_same rfl (q _ _ o2 s2)
  | 3, _ => exact ixL upd_same rfl (q _ _ o3 s2)
  | 4, _ => exact ixL upd_same rfl (q _ _ o4 s2)
def sp__law_bent71 (K : PySem.W.Frag) : Sp := fun vs H Q _ => ∃ (L : List Nat) (c : Int), vs = [.str (tx L), .int c] ∧ Ln71 L ∧ 0 ≤ c ∧ ∀ b H', BadT L b → Same H H' → Q (.str (tx b)) H'
def rd__law_bent71_t10 (K : PySem.W.Frag) : TS :=
  (tRet (tOp cIx (tVar 7) (tOp cMod (tVar 1) (tC (.int 24)))))
def rd__law_bent71_t9 (K : PySem.W.Frag) : TS :=
  (tSeq (tAsg (tOp cAdd (tVar 7) (tLst (tCons (tOp cAdd (tOp cAdd (tC (.str (tx [119, 97, 121, 115, 32]))) (tCall (sp__law_odd_number71 K) [] E0 (tCons (tOp cDiv (tVar 1) (tC (.int 24))) tNil))) (tC (.str (tx [32, 49, 32, 50])))) (tCons (tOp cAdd (tVar 2) (tC (.str (tx [32, 40, 119, 97, 121, 115, 32, 48, 32, 49, 32, 50, 59, 41])))) tNil)))) (gName 7))
    (rd__law_bent71_t10 K))
def rd__law_bent71_t8 (K : PySem.W.Frag) : TS :=
  (tSeq (tAsg (tOp cAdd (tVar 7) (tLst (tCons (tOp cAdd (tVar 0) (tC (.str (tx [59])))) (tCons (tOp cAdd (tVar 0) (tC (.str (tx [59, 32])))) (tCons (tOp cAdd (tVar 0) (tC (.str (tx [32, 59])))) tNil))))) (gName 7))
    (rd__law_bent71_t9 K))
def rd__law_bent71_t7 (K : PySem.W.Frag) : TS :=
  (tSeq (tAsg (tOp cAdd (tVar 7) (tLst (tCons (tC (.str (tx [115, 117, 112, 112, 111, 115, 101, 32, 48, 32, 49, 32, 40, 41]))) (tCons (tC (.str (tx [115, 117, 112, 112, 111, 115, 101, 32, 48, 32, 49, 32, 50, 32, 51, 32, 40, 41]))) (tCons (tOp cAdd (tOp cAdd (tOp cAdd (tVar 2) (tC (.str (tx [32, 40])))) (tVar 6)) (tC (.str (tx [41])))) (tCons (tOp cAdd (tVar 3) (tOp cRep (tC (.str (tx [41]))) (tC (.int 16)))) (tCons (tC (.str (tx []))) tNil))))))) (gName 7))
    (rd__law_bent71_t8 K))
def rd__law_bent71_t6 (K : PySem.W.Frag) : TS :=
  (tSeq (tAsg (tOp cAdd (tVar 7) (tLst (tCons (tBM K "str" kJoin (tC (.str (tx [32]))) (tCons (tSl cSl2 (tVar 5) tNoPart (tPart (tC (.int 3)))) tNil)) (tCons (tC (.str (tx [111, 110, 108, 121, 32, 49, 32, 50, 32, 51, 32, 52, 32, 40, 41]))) (tCons (tOp cAdd (tOp cAdd (tC (.str (tx [40]))) (tVar 0)) (tC (.str (tx [41])))) (tCons (tOp cAdd (tVar 0) (tC (.str (tx [41])))) (tCons (tOp cAdd (tVar 0) (tC (.str (tx [32, 40])))) (tCons (tVar 2) (tCons (tOp cAdd (tVar 2) (tC (.str (tx [40, 41])))) tNil))))))))) (gName 7))
    (rd__law_bent71_t7 K))
def rd__law_bent71_t5 (K : PySem.W.Frag) : TS :=
  (tSeq (tAsg (tLst (tCons (tOp cAdd (tC (.str (tx [32]))) (tVar 0)) (tCons (tOp cAdd (tVar 0) (tC (.str (tx [32])))) (tCons (tRepl 0 (tx [32]) (tx [32, 32])) (tCons (tOp cAdd (tVar 0) (tC (.str (tx [10])))) (tCons (tOp cAdd (tC (.str (tx [120]))) (tVar 0)) (tCons (tBM0 K "str" kUpper (tVar 0)) (tCons (tVar 6) tNil)))))))) (gName 7))
    (rd__law_bent71_t6 K))
def rd__law_bent71_t3 (K : PySem.W.Frag) : TS :=
  (tSeq (tAsg (tBM K "str" kSplit (tVar 0) (tCons (tC (.str (tx [32]))) tNil)) (gName 5))
    (tSeq (tAsg (tOp cAdd (tOp cAdd (tC (.str (tx [111, 110, 108, 121, 32, 49, 32]))) (tCall (sp__law_odd_number71 K) [] E0 (tCons (tOp cDiv (tVar 1) (tC (.int 24))) tNil))) (tC (.str (tx [32, 51, 32, 52])))) (gName 6))
    (rd__law_bent71_t5 K)))
def rd__law_bent71 (K : PySem.W.Frag) : TS :=
  (tSeq (tAsg (tOp cAdd (tOp cAdd (tC (.str (tx [115, 117, 112, 112, 111, 115, 101, 32, 48, 32]))) (tCB kStr (tCons (tOp cMod (tOp cDiv (tVar 1) (tC (.int 24))) (tC (.int 100))) tNil))) (tC (.str (tx [32, 50])))) (gName 2))
    (tSeq (tAsg (tOp cAdd (tVar 2) (tC (.str (tx [32, 40])))) (gName 3))
    (tSeq (tFor (iRng1 (tCons (tC (.int 15)) tNil)) (gName 4)
    (tAsg (tOp cAdd (tOp cAdd (tVar 3) (tVar 2)) (tC (.str (tx [32, 40])))) (gName 3)))
    (rd__law_bent71_t3 K))))
theorem cut03 {x y u : V} {r : List V} : cutV (x :: y :: u :: r) none (some 3) = [x, y, u] := by
  unfold cutV
  have e1 : HT.sIx (x :: y :: u :: r).length 0 none = 0 := rfl
  have e2 : HT.sIx (x :: y :: u :: r).length (x :: y :: u :: r).length (some 3) = 3 := by
    show HT.sIx (r.length + 3) (r.length + 3) (some 3) = 3
    simp [HT.sIx]
    try omega
  rw [e1, e2]
  rfl
theorem on_eq {o : List Nat} : [111, 110, 108, 121, 32, 49, 32] ++ o ++ [32, 51, 32, 52] = on71 o := by
  show _ = [111, 110, 108, 121] ++ 32 :: (nC 1 ++ 32 :: (o ++ 32 :: (nC 3 ++ 32 :: nC 4)))
  rw [nC_len1 (n := 1) (by decide), nC_len1 (n := 3) (by decide), nC_len1 (n := 4) (by decide)]
  simp
theorem wy_eq {o : List Nat} : [119, 97, 121, 115, 32] ++ o ++ [32, 49, 32, 50] = wy71 o := by
  show _ = [119, 97, 121, 115] ++ 32 :: (o ++ 32 :: (nC 1 ++ 32 :: nC 2))
  rw [nC_len1 (n := 1) (by decide), nC_len1 (n := 2) (by decide)]
  simp
theorem hd_eq {c : Nat} : [115, 117, 112, 112, 111, 115, 101, 32, 48, 32] ++ nC c ++ [32, 50] = hd71 c := by
  show _ = supW ++ 32 :: (nC 0 ++ 32 :: (nC c ++ 32 :: nC 2))
  rw [nC_len1 (n := 0) (by decide), nC_len1 (n := 2) (by decide)]
  simp [supW]
def pre71 (h : List Nat) (k : Nat) : List Nat := (List.replicate k (h ++ [32, 40])).flatten
theorem pre_r {h : List Nat} {k : Nat} : pre71 h (k + 1) = pre71 h k ++ h ++ [32, 40] := by
  unfold pre71
  rw [List.replicate_succ', List.flatten_append]
  simp
theorem pre_l {h : List Nat} {k : Nat} : pre71 h (k + 1) = h ++ ([32, 40] ++ pre71 h k) := by
  unfold pre71
  rw [List.replicate_succ, List.flatten_cons]
  simp
theorem dp_pre {c : Nat} : ∀ k, dp71 c k = pre71 (hd71 c) k ++ List.replicate k 41
  | 0 => rfl
  | k + 1 => by
    show hd71 c ++ ([32, 40] ++ (dp71 c k ++ [41])) = _
    rw [dp_pre k, pre_l, List.replicate_succ']
    simp
theorem pre_len {h : List Nat} (hh : h.length ≤ 37) : ∀ k, (pre71 h k).length ≤ 39 * k
  | 0 => Nat.le_refl _
  | k + 1 => by
    have := pre_len hh k
    rw [pre_r]
    simp only [List.length_append, List.length_cons, List.length_nil]
    omega
theorem repl1_tx {w r : List Nat} (hw : 32 ∉ w) : repl1 (tx (w ++ 32 :: r)) (tx [32]) (tx [32, 32]) = tx (w ++ 32 :: 32 :: r) := by
  have at0 : StrLaws.At (tx (w ++ 32 :: r)) (tx [32]) (tx (w ++ 32 :: r)).length w.length := at_iff.mpr ⟨by simp, by rw [List.drop_left]; rfl⟩
  have ho : Builtin.Str.occurrences (tx (w ++ 32 :: r)) (tx [32]) 0 (tx (w ++ 32 :: r)).length 1 = [w.length] := by
    have hlen := StrLaws.occ_length_le (tx (w ++ 32 :: r)) (tx [32]) 0 (tx (w ++ 32 :: r)).length 1
    rcases StrLaws.occ_head (tx (w ++ 32 :: r)) (tx [32]) 1 (by decide) with ⟨_, k⟩ | ⟨i, s, e, a, k⟩
    · exact absurd at0 (k _)
    · rw [e] at hlen
      have hs : s = [] := by cases s with
        | nil => rfl
        | cons x y => simp at hlen
      subst hs
      rw [e]
      congr 1
      rcases Nat.lt_trichotomy i w.length with z | z | z
      · have m := at_mark (c := 32) (j := 0) rfl a
        rw [Nat.add_zero, List.getElem?_append_left z] at m
        exact absurd (List.mem_of_getElem? m) hw
      · exact z
      · exact absurd at0 (k _ z)
  unfold repl1
  rw [ho, if_neg (by simp), StrLaws.partsBetween_eq]
  show Builtin.Str.glued (tx [32, 32]) [Builtin.Str.strSub (tx (w ++ 32 :: r)) 0 w.length, Builtin.Str.strSub (tx (w ++ 32 :: r)) (w.length + (tx [32]).length) (tx (w ++ 32 :: r)).length] = _
  rw [sub_tx, sub_tx]
  show tx _ ++ tx [32, 32] ++ tx _ = _
  rw [tx_app, tx_app]
  congr 1
  rw [tx_len, tx_len]
  simp
  rw [List.take_of_length_le (by omega)]
def Bs71 (H : Hp) (S : Addr) (L : List Nat) (k : Nat) : Prop := ∃ bs : List (List Nat), H S = some (.lst ((bs.map tx).map V.str)) ∧ bs.length = k ∧ ∀ b ∈ bs, BadT L b
theorem Bs71.add {H : Hp} {Q : VK} {S p : Addr} {L : List Nat} {k : Nat} (B : Bs71 H S L k) (hk : k ≤ 30) {cs : List (List Nat)} (ec : H p = some (.lst ((cs.map tx).map V.str))) (hc : ∀ b ∈ cs, BadT L b) (hl : cs.length ≤ 30) (q : ∀ N H', Same H H' → Bs71 H' N L (k + cs.length) → Q (.ref N) H') : cAdd (.ref S) (.ref p) H Q := by
  obtain ⟨bs, eb, lb, hb⟩ := B
  refine w_cat eb ec (by simp; omega) fun N hN => ?_
  refine q N _ ((Same.refl H).laid hN) ⟨bs ++ cs, by rw [upd_same]; simp, by simp [lb], fun b hm => ?_⟩
  rcases List.mem_append.mp hm with hm | hm
  · exact hb b hm
  · exact hc b hm
theorem rk__law_bent71_t10 {K : PySem.W.Frag} {H : Hp} {Q : VK} {L : List Nat} {c : Int} {S : Addr} {v0 v2 v3 v4 v5 v6 : Option V} (c0 : 0 ≤ c) (B : Bs71 H S L 24) (q : ∀ b, BadT L b → Q (.str (tx b)) H) : rd__law_bent71_t10 K { nx := fun _ H' => Q .non H', rt := Q } [v0, some (.int c), v2, v3, v4, v5, v6, some (.ref S)] H := by
  obtain ⟨bs, eb, lb, hb⟩ := B
  unfold rd__law_bent71_t10
  walk_at "w"
  refine ⟨by decide, ?_⟩
  obtain ⟨i, ei, hi⟩ : ∃ i : Nat, c % 24 = (i : Int) ∧ i < bs.length := ⟨(c % 24).toNat, by omega, by omega⟩
  rw [ei]
  refine ixL (v := .str (tx bs[i])) eb (atI_nat ?_) (q _ (hb _ (List.getElem_mem hi)))
  rw [List.getElem?_map, List.getElem?_map, List.getElem?_eq_getElem hi]
  rfl
section
variable {K : PySem.W.Frag} {H : Hp} {Q : VK} {L o : List Nat} {c : Int} {cc : Nat} {W S : Addr} {v4 : Option V} (l : Ln71 L) (c0 : 0 ≤ c) (h1 : cc < 100) (oo : Od o) (q : ∀ b H', BadT L b → Same H H' → Q (.str (tx b)) H')
include l c0 h1 oo q
theorem rk__law_bent71_t9 (B : Bs71 H S L 22) : rd__law_bent71_t9 K { nx := fun _ H' => Q .non H', rt := Q } [some (.str (tx L)), some (.int c), some (.str (tx (hd71 cc))), some (.str (tx (pre71 (hd71 cc) 16))), v4, some (.ref W), some (.str (tx (on71 o))), some (.ref S)] H := by
  have z := z70
  have hh := hd_len (c := cc) (by omega)
  unfold rd__law_bent71_t9
  walk_at "w"
  refine ⟨by unfold CDiv; omega, _, rfl, by omega, fun o2 H1 od2 s1 => ?_⟩
  have wl := wy_len od2
  walk_at "w"
  rw [tx_app, tx_app, tx_app, wy_eq]
  refine ⟨by rw [tx_len, tx_len]; have := od2.len; show 5 + _ ≤ _; omega, by rw [tx_len, tx_len, List.length_append]; have := od2.len; show 5 + _ + 4 ≤ _; omega, by rw [tx_len, tx_len]; show _ + 14 ≤ _; omega, by show 2 ≤ sizeLine; omega, fun p hp => ?_⟩
  have s2 := (Same.refl H1).laid (o := .lst [.str (tx (wy71 o2)), .str (tx (hd71 cc ++ [32, 40, 119, 97, 121, 115, 32, 48, 32, 49, 32, 50, 59, 41]))]) hp
  have B2 : Bs71 (upd H1 p (.lst [.str (tx (wy71 o2)), .str (tx (hd71 cc ++ [32, 40, 119, 97, 121, 115, 32, 48, 32, 49, 32, 50, 59, 41]))])) S L 22 := by obtain ⟨bs, eb, r⟩ := B; exact ⟨bs, s2 _ _ (s1 _ _ eb), r⟩
  refine B2.add (by decide) (cs := [wy71 o2, hd71 cc ++ [32, 40, 119, 97, 121, 115, 32, 48, 32, 49, 32, 50, 59, 41]]) upd_same (fun b hb => ?_) (by show 2 ≤ 30; decide) fun N H3 s3 B3 => ?_
  · simp at hb
    rcases hb with rfl | rfl
    · exact t22 od2
    · exact t23 (by omega)
  · exact rk__law_bent71_t10 c0 B3 fun b hb => q b _ hb (s1.trans (s2.trans s3))
theorem rk__law_bent71_t8 (B : Bs71 H S L 19) : rd__law_bent71_t8 K { nx := fun _ H' => Q .non H', rt := Q } [some (.str (tx L)), some (.int c), some (.str (tx (hd71 cc))), some (.str (tx (pre71 (hd71 cc) 16))), v4, some (.ref W), some (.str (tx (on71 o))), some (.ref S)] H := by
  have z := z70
  have hl := l.len
  unfold rd__law_bent71_t8
  walk_at "w"
  rw [tx_app, tx_app, tx_app]
  refine ⟨by rw [tx_len, tx_len]; show _ + 1 ≤ _; omega, by rw [tx_len, tx_len]; show _ + 2 ≤ _; omega, by rw [tx_len, tx_len]; show _ + 2 ≤ _; omega, by show 3 ≤ sizeLine; omega, fun p hp => ?_⟩
  have s2 := (Same.refl H).laid (o := .lst [.str (tx (L ++ [59])), .str (tx (L ++ [59, 32])), .str (tx (L ++ [32, 59]))]) hp
  have B2 : Bs71 (upd H p (.lst [.str (tx (L ++ [59])), .str (tx (L ++ [59, 32])), .str (tx (L ++ [32, 59]))])) S L 19 := by obtain ⟨bs, eb, r⟩ := B; exact ⟨bs, s2 _ _ eb, r⟩
  refine B2.add (by decide) (cs := [L ++ [59], L ++ [59, 32], L ++ [32, 59]]) upd_same (fun b hb => ?_) (by show 3 ≤ 30; decide) fun N H3 s3 B3 => ?_
  · rcases List.mem_cons.mp hb with rfl | hb
    · exact t19 l
    rcases List.mem_cons.mp hb with rfl | hb
    · exact t20 l
    rw [List.mem_singleton.mp hb]; exact t21 l
  · exact rk__law_bent71_t9 l c0 h1 oo (fun b H' hb s' => q b H' hb ((s2.trans s3).trans s')) B3
theorem rk__law_bent71_t7 (B : Bs71 H S L 14) : rd__law_bent71_t7 K { nx := fun _ H' => Q .non H', rt := Q } [some (.str (tx L)), some (.int c), some (.str (tx (hd71 cc))), some (.str (tx (pre71 (hd71 cc) 16))), v4, some (.ref W), some (.str (tx (on71 o))), some (.ref S)] H := by
  have z := z70
  have hh := hd_len (c := cc) (by omega)
  have ol := on_len oo
  have pl := pre_len hh 16
  unfold rd__law_bent71_t7
  walk_at "w"
  rw [tx_app, tx_app, tx_app, w_rep, show Txt.mul (tx [41]) 16 = tx (List.replicate 16 41) by decide]
  refine ⟨by rw [tx_len, tx_len]; show _ + 2 ≤ _; omega, by rw [tx_len, tx_len, List.length_append]; show _ + 2 + _ ≤ _; omega, by rw [tx_len, tx_len, List.length_append, List.length_append]; show _ + 2 + _ + 1 ≤ _; omega, ⟨by decide, fun _ _ => by decide, fun _ _ => by decide⟩, ?_⟩
  walk_at "w"
  rw [tx_app, ← dp_pre]
  refine ⟨by rw [tx_len, tx_len]; show _ + 16 ≤ _; omega, by show 5 ≤ sizeLine; omega, fun p hp => ?_⟩
  have e16 : hd71 cc ++ [32, 40] ++ on71 o ++ [41] = hd71 cc ++ ([32, 40] ++ (on71 o ++ [41])) := by simp
  have s2 := (Same.refl H).laid (o := .lst [.str (tx [115, 117, 112, 112, 111, 115, 101, 32, 48, 32, 49, 32, 40, 41]), .str (tx [115, 117, 112, 112, 111, 115, 101, 32, 48, 32, 49, 32, 50, 32, 51, 32, 40, 41]), .str (tx (hd71 cc ++ [32, 40] ++ on71 o ++ [41])), .str (tx (dp71 cc 16)), .str (tx [])]) hp
  have B2 : Bs71 (upd H p (.lst [.str (tx [115, 117, 112, 112, 111, 115, 101, 32, 48, 32, 49, 32, 40, 41]), .str (tx [115, 117, 112, 112, 111, 115, 101, 32, 48, 32, 49, 32, 50, 32, 51, 32, 40, 41]), .str (tx (hd71 cc ++ [32, 40] ++ on71 o ++ [41])), .str (tx (dp71 cc 16)), .str (tx [])])) S L 14 := by obtain ⟨bs, eb, r⟩ := B; exact ⟨bs, s2 _ _ eb, r⟩
  refine B2.add (by decide) (cs := [[115, 117, 112, 112, 111, 115, 101, 32, 48, 32, 49, 32, 40, 41], [115, 117, 112, 112, 111, 115, 101, 32, 48, 32, 49, 32, 50, 32, 51, 32, 40, 41], hd71 cc ++ [32, 40] ++ on71 o ++ [41], dp71 cc 16, []]) upd_same (fun b hb => ?_) (by show 5 ≤ 30; decide) fun N H3 s3 B3 => ?_
  · rcases List.mem_cons.mp hb with rfl | hb
    · exact t14
    rcases List.mem_cons.mp hb with rfl | hb
    · exact t15
    rcases List.mem_cons.mp hb with rfl | hb
    · rw [e16]; exact t16 (by omega) oo
    rcases List.mem_cons.mp hb with rfl | hb
    · exact t17 h1
    rw [List.mem_singleton.mp hb]; exact t18
  · exact rk__law_bent71_t8 l c0 h1 oo (fun b H' hb s' => q b H' hb ((s2.trans s3).trans s')) B3
theorem rk__law_bent71_t6 (B : Bs71 H S L 7) (eW : H W = some (.lst (((wdsOf L).map tx).map V.str))) : rd__law_bent71_t6 K { nx := fun _ H' => Q .non H', rt := Q } [some (.str (tx L)), some (.int c), some (.str (tx (hd71 cc))), some (.str (tx (pre71 (hd71 cc) 16))), v4, some (.ref W), some (.str (tx (on71 o))), some (.ref S)] H := by
  have z := z70
  have hh := hd_len (c := cc) (by omega)
  have hl := l.len
  obtain ⟨w, a, b, r, e, hw, ha, hb⟩ := l.hd
  have hw32 : 32 ∉ w := by rcases hw with rfl | hw; exact sup_low.2.1; exact (kw_low hw).2.1
  obtain ⟨r1, r2, r3⟩ := wdsOf_ex r
  have ewd : wdsOf L = w :: nC a :: nC b :: wdsOf r := by
    have e2 : L = catL 32 (w :: nC a :: nC b :: wdsOf r) := by
      rw [e]
      cases e9 : wdsOf r with
      | nil => exact absurd e9 r1
      | cons x y => show _ = w ++ 32 :: (nC a ++ 32 :: (nC b ++ 32 :: catL 32 (x :: y))); rw [← e9, r3]
    rw [e2]
    exact wdsOf_eq (by simp) fun y hy => by
      rcases List.mem_cons.mp hy with rfl | hy
      · exact hw32
      rcases List.mem_cons.mp hy with rfl | hy
      · exact nC_not (by decide)
      rcases List.mem_cons.mp hy with rfl | hy
      · exact nC_not (by decide)
      exact r2 y hy
  unfold rd__law_bent71_t6
  walk_at "w"
  refine ⟨w_tyS, w_slL eW fun I hI => ?_⟩
  have ecut : cutV (((wdsOf L).map tx).map V.str) none (some 3) = (([w, nC a, nC b].map tx).map V.str) := by
    rw [ewd]; exact cut03
  rw [ecut]
  have b7 := t7 l e hw
  have s1 := (Same.refl H).laid (o := .lst (([w, nC a, nC b].map tx).map V.str)) hI
  have eI : upd H I (.lst (([w, nC a, nC b].map tx).map V.str)) I = some (.lst (([w, nC a, nC b].map tx).map V.str)) := upd_same
  generalize upd H I (.lst (([w, nC a, nC b].map tx).map V.str)) = H1 at *
  rw [catL_S] at b7
  refine w_join70 (rows := [w, nC a, nC b]) eI (by have := b7.1; show _ + 1 ≤ _; omega) ?_
  rw [tx_app, tx_app, tx_app, tx_app, tx_app]
  refine ⟨by rw [tx_len, tx_len]; show 1 + _ ≤ _; omega, by rw [tx_len, tx_len, List.length_append]; show 1 + _ + 1 ≤ _; omega, by rw [tx_len, tx_len]; show _ + 1 ≤ _; omega, by rw [tx_len, tx_len]; show _ + 2 ≤ _; omega, by rw [tx_len, tx_len]; show _ + 2 ≤ _; omega, by show 7 ≤ sizeLine; omega, fun p hp => ?_⟩
  have s2 := (Same.refl H1).laid (o := .lst [.str (tx (catS [32] [w, nC a, nC b])), .str (tx [111, 110, 108, 121, 32, 49, 32, 50, 32, 51, 32, 52, 32, 40, 41]), .str (tx ([40] ++ L ++ [41])), .str (tx (L ++ [41])), .str (tx (L ++ [32, 40])), .str (tx (hd71 cc)), .str (tx (hd71 cc ++ [40, 41]))]) hp
  have B2 : Bs71 (upd H1 p (.lst [.str (tx (catS [32] [w, nC a, nC b])), .str (tx [111, 110, 108, 121, 32, 49, 32, 50, 32, 51, 32, 52, 32, 40, 41]), .str (tx ([40] ++ L ++ [41])), .str (tx (L ++ [41])), .str (tx (L ++ [32, 40])), .str (tx (hd71 cc)), .str (tx (hd71 cc ++ [40, 41]))])) S L 7 := by obtain ⟨bs, eb, r⟩ := B; exact ⟨bs, s2 _ _ (s1 _ _ eb), r⟩
  refine B2.add (by decide) (cs := [catS [32] [w, nC a, nC b], [111, 110, 108, 121, 32, 49, 32, 50, 32, 51, 32, 52, 32, 40, 41], [40] ++ L ++ [41], L ++ [41], L ++ [32, 40], hd71 cc, hd71 cc ++ [40, 41]]) upd_same (fun b hb => ?_) (by show 7 ≤ 30; decide) fun N H3 s3 B3 => ?_
  · rcases List.mem_cons.mp hb with rfl | hb
    · exact b7
    rcases List.mem_cons.mp hb with rfl | hb
    · exact t8
    rcases List.mem_cons.mp hb with rfl | hb
    · exact t9 l
    rcases List.mem_cons.mp hb with rfl | hb
    · exact t10 l
    rcases List.mem_cons.mp hb with rfl | hb
    · exact t11 l
    rcases List.mem_cons.mp hb with rfl | hb
    · exact t12 (by omega)
    rw [List.mem_singleton.mp hb]; exact t13 (by omega)
  · exact rk__law_bent71_t7 l c0 h1 oo (fun b H' hb s' => q b H' hb ((s1.trans (s2.trans s3)).trans s')) B3
theorem rk__law_bent71_t5 (eW : H W = some (.lst (((wdsOf L).map tx).map V.str))) : rd__law_bent71_t5 K { nx := fun _ H' => Q .non H', rt := Q } [some (.str (tx L)), some (.int c), some (.str (tx (hd71 cc))), some (.str (tx (pre71 (hd71 cc) 16))), v4, some (.ref W), some (.str (tx (on71 o))), none] H := by
  have z := z70
  have hl := l.len
  obtain ⟨w, a, b, r, e, hw, ha, hb⟩ := l.hd
  have hw32 : 32 ∉ w := by rcases hw with rfl | hw; exact sup_low.2.1; exact (kw_low hw).2.1
  have er : repl1 (tx L) (tx [32]) (tx [32, 32]) = tx (w ++ 32 :: 32 :: (nC a ++ 32 :: (nC b ++ 32 :: r))) := by rw [e]; exact repl1_tx hw32
  have b2 := t2 l e hw32
  unfold rd__law_bent71_t5
  walk_at "w"
  refine ⟨by rw [tx_len, tx_len]; show 1 + _ ≤ _; omega, by rw [tx_len, tx_len]; show _ + 1 ≤ _; omega, ?_⟩
  refine ⟨tx L, rfl, by rw [tx_len, tx_len]; show _ + 2 ≤ _; omega, by rw [er, tx_len]; have := b2.1; omega, ?_⟩
  rw [er]
  refine ⟨by rw [tx_len, tx_len]; show _ + 1 ≤ _; omega, by rw [tx_len, tx_len]; show 1 + _ ≤ _; omega, w_tyS, w_upper (by omega) l.asc ?_⟩
  walk_at "w"
  rw [tx_app, tx_app, tx_app, tx_app]
  refine ⟨by show 7 ≤ sizeLine; omega, fun p hp => ?_⟩
  have s1 := (Same.refl H).laid (o := .lst [.str (tx ([32] ++ L)), .str (tx (L ++ [32])), .str (tx (w ++ 32 :: 32 :: (nC a ++ 32 :: (nC b ++ 32 :: r)))), .str (tx (L ++ [10])), .str (tx ([120] ++ L)), .str (tx (L.map upC)), .str (tx (on71 o))]) hp
  refine rk__law_bent71_t6 l c0 h1 oo (fun b H' hb s' => q b H' hb (s1.trans s')) ⟨[[32] ++ L, L ++ [32], w ++ 32 :: 32 :: (nC a ++ 32 :: (nC b ++ 32 :: r)), L ++ [10], [120] ++ L, L.map upC, on71 o], upd_same, rfl, fun b hb => ?_⟩ (s1 _ _ eW)
  rcases List.mem_cons.mp hb with rfl | hb
  · exact t0 l
  rcases List.mem_cons.mp hb with rfl | hb
  · exact t1 l
  rcases List.mem_cons.mp hb with rfl | hb
  · exact b2
  rcases List.mem_cons.mp hb with rfl | hb
  · exact t3 l
  rcases List.mem_cons.mp hb with rfl | hb
  · exact t4 l
  rcases List.mem_cons.mp hb with rfl | hb
  · exact t5 l
  rw [List.mem_singleton.mp hb]; exact t6 oo
end
theorem rk__law_bent71 {K : PySem.W.Frag} {vs : List V} {H : Hp} {Q : VK} {E : XK} (h : sp__law_bent71 K vs H Q E) : rd__law_bent71 K { nx := fun _ H' => Q .non H', rt := Q } (start ["_law_line_here", "_law_cell", "_law_head", "_law_deep", "_law_k", "_law_words", "_law_odd", "_law_some"] vs) H := by
  obtain ⟨L, c, rfl, l, c0, q⟩ := h
  have z := z70
  have hl := l.len
  show rd__law_bent71 K _ [some (.str (tx L)), some (.int c), none, none, none, none, none, none] H
  unfold rd__law_bent71
  walk_at "w"
  obtain ⟨cc, ecc, hcc⟩ : ∃ cc : Nat, c / 24 % 100 = (cc : Int) ∧ cc < 100 := ⟨(c / 24 % 100).toNat, by omega, by omega⟩
  rw [ecc, nC_str, tx_app, tx_app, hd_eq, tx_app]
  have hh := hd_len (c := cc) (by omega)
  have ncl := nC_len (n := cc) (by omega)
  refine ⟨by unfold CDiv; omega, by decide, n_log (by omega), by rw [tx_len, tx_len]; show 10 + _ ≤ _; omega, by rw [tx_len, tx_len, List.length_append]; show 10 + _ + 2 ≤ _; omega, by rw [tx_len, tx_len]; show _ + 2 ≤ _; omega, _, rfl, by decide, by decide, ?_⟩
  refine for_range (n := 15) (fun i σ H' => H' = H ∧ ∃ v4, σ = [some (.str (tx L)), some (.int c), some (.str (tx (hd71 cc))), some (.str (tx (pre71 (hd71 cc) (i + 1)))), v4, none, none, none]) ⟨rfl, none, by rw [pre_r]; rfl⟩ ?_ ?_
  · rintro i σ H1 hi ⟨rfl, v4, rfl⟩
    rw [w_gname]
    walk_at "w"
    have pl := pre_len hh (i + 1)
    rw [tx_app, tx_app]
    refine ⟨by rw [tx_len, tx_len]; omega, by rw [tx_len, tx_len, List.length_append]; show _ + _ + 2 ≤ _; omega, trivial, _, by rw [pre_r (k := i + 1)]⟩
  · rintro σ H1 ⟨rfl, v4, rfl⟩
    unfold rd__law_bent71_t3
    walk_at "w"
    have hsp : Txt.split (tx L) (tx [32]) = (wdsOf L).map tx := (tx_unS9 _).symm
    have hwl := wds_len (t := L)
    refine ⟨w_tyS, ?_⟩
    rw [w_split, hsp]
    refine ⟨rfl, by rw [tx_len]; omega, by rw [List.length_map]; omega, fun W hW => ?_⟩
    have s1 := (Same.refl H1).laid (o := .lst (((wdsOf L).map tx).map V.str)) hW
    walk_at "w"
    refine ⟨by unfold CDiv; omega, _, rfl, by omega, fun o H2 oo s2 => ?_⟩
    have ol := oo.len
    walk_at "w"
    rw [tx_app, tx_app, on_eq]
    refine ⟨by rw [tx_len, tx_len]; show 7 + _ ≤ _; omega, by rw [tx_len, tx_len, List.length_append]; show 7 + _ + 4 ≤ _; omega, ?_⟩
    exact rk__law_bent71_t5 l c0 hcc oo (fun b H' hb s' => q b H' hb (s1.trans (s2.trans s'))) (s2 _ _ upd_same)
def sp__law_line71 (K : PySem.W.Frag) (n : Nat) : Sp := fun vs H Q _ => ∃ (k : Nat) (r : Addr) (x : Th7), n = k + 1 ∧ vs = [.ref r] ∧ IsJ k DT H r x ∧ OkI (OkB k) x ∧ (txI (txB k) x).length ≤ 900000 ∧ ∀ H', Same H H' → Q (.str (tx (txI (txB k) x))) H'
theorem sl__law_line71 {K : PySem.W.Frag} {n : Nat} {vs : List V} {H : Hp} {Q : VK} {E : XK} (h : sp__law_line71 K n vs H Q E) : vs.length = 1 := by
  obtain ⟨_, _, _, _, rfl, _⟩ := h; rfl
theorem z0__law_line71 {K : PySem.W.Frag} {vs : List V} {H : Hp} {Q : VK} {E : XK} (h : sp__law_line71 K 0 vs H Q E) : False := by
  obtain ⟨_, _, _, e, _⟩ := h; cases e
def rd__law_line71_t2 (K : PySem.W.Frag) (n : Nat) : TS :=
  (tSeq (tIfS (tTest (tOp (cEq K) (tOp cIx (tVar 0) (tC (.int 0))) (tC (.str (tx [115, 117, 112, 112, 111, 115, 101]))))) (tRet (tOp cAdd (tOp cAdd (tOp cAdd (tVar 1) (tC (.str (tx [32, 40])))) (tBM K "str" kJoin (tC (.str (tx [59, 32]))) (tCons (tComp [none, none] (iList K (tOp cIx (tVar 0) (tC (.int 4)))) (gName 1) tTrue (tCall (sp__law_line71 K n) [] E0 (tCons (tVar 1) tNil))) tNil))) (tC (.str (tx [41]))))) tNext)
    (tSeq (tFor (iList K (tOp cIx (tVar 0) (tC (.int 4)))) (gName 2)
    (tAsg (tOp cAdd (tOp cAdd (tVar 1) (tC (.str (tx [32])))) (tCB kStr (tCons (tVar 2) tNil))) (gName 1)))
    (tRet (tVar 1))))
def rd__law_line71 (K : PySem.W.Frag) (n : Nat) : TS :=
  (tSeq (tAsg (tOp cIx (tVar 0) (tC (.int 0))) (gName 1))
    (tSeq (tFor (iTup K (tSl (rSlT K) (tVar 0) (tPart (tC (.int 1))) (tPart (tC (.int 4))))) (gName 2)
    (tAsg (tOp cAdd (tOp cAdd (tVar 1) (tC (.str (tx [32])))) (tCB kStr (tCons (tVar 2) tNil))) (gName 1)))
    (rd__law_line71_t2 K n)))
theorem lines71 {K : PySem.W.Frag} {m : Nat} {H : Hp} {p : Addr} {l : List Th7} {fin : Addr → Hp → Prop} (hp : IsB (m + 1) DT H p l) (o : OkB (m + 1) l) (hl : (txB (m + 1) l).length ≤ 900000)
    (hd : ∀ U H', H U = none → Same H H' → H' U = some (.lst (((l.map (txI (txB m))).map tx).map V.str)) → fin U H') : CompR (Itl K p) (gName 1) tTrue (tCall (sp__law_line71 K (m + 1)) [] E0 (tCons (tVar 1) tNil)) fin [none, none] H := by
  obtain ⟨_, rs, ep, er, k⟩ := hp
  refine compV_list (xs := rs.map V.ref) (fun _ => true) (fun i => .str (tx ((l.map (txI (txB m))).getD i []))) (by rw [List.length_map, er]; exact o.1) (SqL.of ep) ?_ ?_ ?_
  · intro i x H1 R hx s1 k1
    exact k1 _ (Same.refl _)
  · intro i x H1 Q1 hx hb s1 k1
    rw [List.getElem?_map] at hx
    cases e : rs[i]? with
    | none => rw [e] at hx; cases hx
    | some r =>
      rw [e] at hx
      cases hx
      have hi : i < l.length := by rw [← er]; exact (List.getElem?_eq_some_iff.mp e).1
      have ex : l[i]? = some l[i] := List.getElem?_eq_getElem hi
      show tCall _ _ _ _ [none, some (.ref r)] H1 Q1
      walk_at "w"
      have eg : (l.map (txI (txB m))).getD i [] = txI (txB m) l[i] := by rw [List.getD, List.getElem?_map, ex]; rfl
      rw [eg] at k1
      refine ⟨m, r, l[i], rfl, rfl, IsJ.same (k i r _ e ex) s1, o.2 _ (List.getElem_mem hi), ?_, k1⟩
      exact Nat.le_trans (catS_le (List.mem_map_of_mem (List.getElem_mem hi))) hl
  · intro U H1 hl1 s1 el
    have el2 : H1 U = some (.lst (((l.map (txI (txB m))).map tx).map V.str)) := by
      rw [el, filter_tt, List.length_map, er]
      congr 2
      refine List.ext_getElem? fun i => ?_
      rw [List.getElem?_map, List.getElem?_map, List.getElem?_map, List.getElem?_map]
      by_cases h : i < l.length
      · rw [List.getElem?_range h, List.getElem?_eq_getElem h]
        simp [List.getD, h]
      · rw [List.getElem?_eq_none (by simpa using h), List.getElem?_eq_none (by omega)]; rfl
    exact hd U H1 hl1 s1 el2
theorem rk__law_line71_t2 {K : PySem.W.Frag} {n : Nat} {H : Hp} {Q : VK} {r : Addr} {x : Th7} {v : Option V} (j : IsJ n DT H r x) (o : OkI (OkB n) x) (hl : (txI (txB n) x).length ≤ 900000) (q : ∀ H', Same H H' → Q (.str (tx (txI (txB n) x))) H') :
    rd__law_line71_t2 K n { nx := fun _ H' => Q .non H', rt := Q } [some (.ref r), some (.str (tx (x.w ++ tlN [x.a, x.b, x.c]))), v] H := by
  obtain ⟨_, t, _, er, et⟩ := j
  have z := z70
  unfold rd__law_line71_t2
  rw [w_seq, w_if]
  walk_at "w"
  refine ixT er rfl ?_
  walk_at "w"
  cases x with
  | pl w a b c m =>
    have e0 : decide (tx (Th7.pl w a b c m).w = tx [115, 117, 112, 112, 111, 115, 101]) = false := kw_sup w o.1
    have hl' : (catL 32 (w :: (a :: b :: c :: m).map nC)).length ≤ 900000 := hl
    have q' : ∀ H', Same H H' → Q (.str (tx (catL 32 (w :: (a :: b :: c :: m).map nC)))) H' := q
    have hw : w.length ≤ 7 := w_len7 o
    rw [e0]
    refine iteF ?_
    refine ixT er rfl ?_
    have et' : H t = some (.lst (natV m)) := et
    refine ⟨t, rfl, ⟨_, SqL.of et'⟩, ?_⟩
    refine for_list (xs := natV m) (fun i σ H' => (∃ v, σ = [some (.ref r), some (.str (tx (w ++ tlN (a :: b :: c :: m.take i)))), v]) ∧ Same H H') ⟨⟨_, rfl⟩, Same.refl H⟩ (fun i σ H' _ h => h.2.seq (SqL.of et')) ?_ ?_
    · rintro i y σ H1 hy ⟨⟨v, rfl⟩, s1⟩
      rw [List.getElem?_map] at hy
      cases e : m[i]? with
      | none => rw [e] at hy; cases hy
      | some k =>
        rw [e] at hy
        cases hy
        have em : m.take (i + 1) = m.take i ++ [k] := by rw [List.take_succ, e]; rfl
        have hk := o.2.2.2.2.2 k (List.mem_of_getElem? e)
        have hk2 := nC_len hk
        have h4 := o.2.2.2.2.1
        have ht := tlN_len (ns := a :: b :: c :: m.take i) fun y hy => by
          simp at hy
          rcases hy with rfl | rfl | rfl | hy
          · exact o.2.1
          · exact o.2.2.1
          · exact o.2.2.2.1
          · exact o.2.2.2.2.2 y (List.mem_of_mem_take hy)
        have ht2 : (tlN (a :: b :: c :: m.take i)).length ≤ 70 := by simp at ht; omega
        walk_at "w"
        rw [nC_str, tx_app, tx_app]
        refine ⟨by rw [tx_len, tx_len, List.length_append]; show _ + 1 ≤ _; omega, n_log hk, by rw [tx_len, tx_len, List.length_append, List.length_append]; show _ + 1 + _ ≤ _; omega, ⟨some (.int (k : Int)), ?_⟩, s1⟩
        rw [em, show a :: b :: c :: (m.take i ++ [k]) = (a :: b :: c :: m.take i) ++ [k] from rfl, tlN_snoc]
        simp
    · rintro σ H1 ⟨⟨v, rfl⟩, s1⟩
      rw [List.length_map, List.take_length]
      walk_at "w"
      rw [cat_tl] at q'
      exact q' _ s1
  | su a b c bk =>
    have e0 : decide (tx (Th7.su a b c bk).w = tx [115, 117, 112, 112, 111, 115, 101]) = true := sup_sup
    have hl' : (catL 32 (supW :: [a, b, c].map nC) ++ ([32, 40] ++ (txB n bk ++ [41]))).length ≤ 900000 := hl
    have q' : ∀ H', Same H H' → Q (.str (tx (catL 32 (supW :: [a, b, c].map nC) ++ ([32, 40] ++ (txB n bk ++ [41]))))) H' := q
    rw [cat_tl] at hl' q'
    have hl2 : (supW ++ tlN [a, b, c]).length + (2 + ((txB n bk).length + 1)) ≤ 900000 := by
      simp only [List.length_append, List.length_cons, List.length_nil] at hl' ⊢
      omega
    rw [e0]
    refine iteT ?_
    show _ ∧ _
    rw [tx_app]
    refine ⟨by rw [tx_len, tx_len]; show (supW ++ tlN [a, b, c]).length + 2 ≤ _; omega, w_tyS, ixT er rfl ?_⟩
    have et' : IsB n DT H t bk := et
    match n, o, et', q', hl2 with
    | 0, o, _, _, _ => exact o.2.2.2.elim
    | m + 1, o, et', q', hl2 =>
      obtain ⟨rs, ers, _⟩ := IsB.cop et'
      refine ⟨t, rfl, ⟨_, SqL.of ers⟩, ?_⟩
      refine lines71 et' o.2.2.2 (by omega) fun U H1 hU s1 eU => ?_
      have hcat : (catS [59, 32] (bk.map (txI (txB m)))).length ≤ 900000 := by show (txB (m + 1) bk).length ≤ _; omega
      walk_at "w"
      refine w_join70 eU (by show _ + 2 ≤ _; omega) ?_
      show _ ∧ _
      rw [show catS [59, 32] (bk.map (txI (txB m))) = txB (m + 1) bk from rfl, tx_app]
      refine ⟨by rw [tx_len, tx_len, List.length_append]; show (supW ++ tlN [a, b, c]).length + 2 + _ ≤ _; omega, ?_⟩
      walk_at "w"
      rw [tx_app]
      refine ⟨by rw [tx_len, tx_len, List.length_append, List.length_append]; show (supW ++ tlN [a, b, c]).length + 2 + _ + 1 ≤ _; omega, ?_⟩
      have e9 : (Th7.su a b c bk).w ++ tlN [(Th7.su a b c bk).a, (Th7.su a b c bk).b, (Th7.su a b c bk).c] ++ [32, 40] ++ txB (m + 1) bk ++ [41] = supW ++ tlN [a, b, c] ++ ([32, 40] ++ (txB (m + 1) bk ++ [41])) := by
        show supW ++ tlN [a, b, c] ++ [32, 40] ++ txB (m + 1) bk ++ [41] = _
        simp
      rw [e9]
      exact q' _ s1
theorem rk__law_line71 {K : PySem.W.Frag} {n : Nat} {vs : List V} {H : Hp} {Q : VK} {E : XK} (h : sp__law_line71 K (n + 1) vs H Q E) : rd__law_line71 K n { nx := fun _ H' => Q .non H', rt := Q } (start ["_law_thought_here", "_law_line_here", "_law_number_here"] vs) H := by
  obtain ⟨k, r, x, hk, rfl, j, o, hl, q⟩ := h
  have hkn : k = n := by omega
  subst hkn
  obtain ⟨_, t, _, er, et⟩ := id j
  obtain ⟨na, nb, nc⟩ := o.ns
  have hw := w_len7 o
  have z := z70
  show rd__law_line71 K k _ [some (.ref r), none, none] H
  unfold rd__law_line71
  walk_at "w"
  refine ixT er rfl ?_
  walk_at "w"
  rw [w_forT70]
  walk_at "w"
  refine ⟨r, _, rfl, SqT.of er, by show ¬(HT.sIx 5 0 (some 1) = 0 ∧ HT.sIx 5 5 (some 4) = 5); decide, fun p hp => ?_⟩
  have e1 : upd H p (.tup (cutV [V.str (tx x.w), .int (x.a : Nat), .int (x.b : Nat), .int (x.c : Nat), .ref t] (some 1) (some 4))) p = some (.tup (natV [x.a, x.b, x.c])) := by rw [upd_same]; rfl
  have s1 := (Same.refl H).laid (o := .tup (cutV [V.str (tx x.w), .int (x.a : Nat), .int (x.b : Nat), .int (x.c : Nat), .ref t] (some 1) (some 4))) hp
  generalize upd H p (.tup (cutV [V.str (tx x.w), .int (x.a : Nat), .int (x.b : Nat), .int (x.c : Nat), .ref t] (some 1) (some 4))) = H1 at *
  refine ⟨p, rfl, ⟨_, SqT.of e1⟩, ?_⟩
  have hns : ∀ y ∈ [x.a, x.b, x.c], y < 1000000000 := fun y hy => by simp at hy; rcases hy with rfl | rfl | rfl <;> assumption
  refine for_tup (xs := natV [x.a, x.b, x.c]) (fun i σ H' => (∃ v, σ = [some (.ref r), some (.str (tx (x.w ++ tlN ([x.a, x.b, x.c].take i)))), v]) ∧ Same H1 H') ⟨⟨_, by show _ = [some (V.ref r), some (V.str (tx (x.w ++ []))), none]; rw [List.append_nil]⟩, Same.refl H1⟩ (fun i σ H' _ h => SqT.of (h.2 _ _ e1)) ?_ ?_
  · rintro i y σ H2 hy ⟨⟨v, rfl⟩, s2⟩
    rw [List.getElem?_map] at hy
    cases e : [x.a, x.b, x.c][i]? with
    | none => rw [e] at hy; cases hy
    | some k =>
      rw [e] at hy
      cases hy
      have em : [x.a, x.b, x.c].take (i + 1) = [x.a, x.b, x.c].take i ++ [k] := by rw [List.take_succ, e]; rfl
      have hk := hns k (List.mem_of_getElem? e)
      have hk2 := nC_len hk
      have ht := tlN_len (ns := [x.a, x.b, x.c].take i) fun y hy => hns y (List.mem_of_mem_take hy)
      have ht2 : (tlN ([x.a, x.b, x.c].take i)).length ≤ 30 := by rw [List.length_take] at ht; simp at ht; omega
      walk_at "w"
      rw [nC_str, tx_app, tx_app]
      refine ⟨by rw [tx_len, tx_len, List.length_append]; show _ + 1 ≤ _; omega, n_log hk, by rw [tx_len, tx_len, List.length_append, List.length_append]; show _ + 1 + _ ≤ _; omega, ⟨some (.int (k : Int)), ?_⟩, s2⟩
      rw [em, tlN_snoc]
      simp
  · rintro σ H2 ⟨⟨v, rfl⟩, s2⟩
    have s12 := s1.trans s2
    exact rk__law_line71_t2 (IsJ.same j s12) o hl fun H' s' => q _ (s12.trans s')
def sp__law_thought71 (K : PySem.W.Frag) : Sp := fun vs H Q _ => ∃ (a : Addr) (ns : List Int) (at_ : Int), vs = [.ref a, .int at_] ∧ SqL K H a (ns.map V.int) ∧ ns.length ≤ 63 ∧ 0 ≤ at_ ∧ at_ ≤ 1000 ∧
  ∀ r x H', Same H H' → IsJ 1 (DF H) H' r x → OkI (OkB 1) x → Ln71 (txI (txB 1) x) → Q (.ref r) H'
def rd__law_thought71_t4 (K : PySem.W.Frag) : TS :=
  (tSeq (tIfS (tTest (tOp (cEq K) (tVar 4) (tC (.str (tx [115, 117, 112, 112, 111, 115, 101]))))) (tSeq (tAsg (tSl cSl2 (tLst (tCons (tTup (tCons (tC (.str (tx [119, 97, 121, 115]))) (tCons (tOp cIx (tVar 5) (tC (.int 3))) (tCons (tOp cIx (tVar 5) (tC (.int 4))) (tCons (tOp cIx (tVar 5) (tC (.int 5))) (tCons (tLst tNil) tNil)))))) tNil)) tNoPart (tPart (tOp cMod (tOp cDiv (tVar 2) (tC (.int 12))) (tC (.int 2))))) (gName 6))
    (tRet (tTup (tCons (tVar 4) (tCons (tOp cIx (tVar 5) (tC (.int 0))) (tCons (tOp cIx (tVar 5) (tC (.int 1))) (tCons (tOp cIx (tVar 5) (tC (.int 2))) (tCons (tVar 6) tNil)))))))) tNext)
    (tRet (tTup (tCons (tVar 4) (tCons (tOp cIx (tVar 5) (tC (.int 0))) (tCons (tOp cIx (tVar 5) (tC (.int 1))) (tCons (tOp cIx (tVar 5) (tC (.int 2))) (tCons (tSl cSl2 (tVar 5) (tPart (tC (.int 3))) (tPart (tOp cAdd (tC (.int 3)) (tOp cMod (tOp cDiv (tVar 2) (tC (.int 12))) (tC (.int 4)))))) tNil))))))))
def rd__law_thought71_t3 (K : PySem.W.Frag) : TS :=
  (tSeq (sComp 5 [none, none, some 1, some 0] (iRng1 (tCons (tC (.int 6)) tNil)) (gName 1) tTrue (tCall (sp__law_number70 K) [] E0 (tCons (tCall (sp__law_cell_at K) [] E0 (tCons (tVar 3) (tCons (tOp cAdd (tOp cAdd (tVar 2) (tOp cMul (tC (.int 7)) (tVar 1))) (tC (.int 1))) tNil))) tNil)))
    (rd__law_thought71_t4 K))
def rd__law_thought71 (K : PySem.W.Frag) : TS :=
  (tSeq (tAsg (tCall (sp__law_cell_at K) [] E0 (tCons (tVar 0) (tCons (tVar 1) tNil))) (gName 2))
    (tSeq (tAsg (tLst (tCons (tC (.str (tx [99, 108, 117, 101]))) (tCons (tC (.str (tx [111, 110, 108, 121]))) (tCons (tC (.str (tx [112, 108, 97, 99, 101]))) (tCons (tC (.str (tx [99, 111, 117, 110, 116]))) (tCons (tC (.str (tx [115, 116, 101, 112]))) (tCons (tC (.str (tx [115, 117, 109]))) (tCons (tC (.str (tx [115, 113, 117, 97, 114, 101]))) (tCons (tC (.str (tx [114, 101, 97, 99, 104]))) (tCons (tC (.str (tx [116, 117, 114, 110]))) (tCons (tC (.str (tx [112, 97, 105, 114]))) (tCons (tC (.str (tx [119, 97, 121, 115]))) (tCons (tC (.str (tx [115, 117, 112, 112, 111, 115, 101]))) tNil))))))))))))) (gName 3))
    (tSeq (tAsg (tOp cIx (tVar 3) (tOp cMod (tVar 2) (tC (.int 12)))) (gName 4))
    (rd__law_thought71_t3 K))))
theorem ln_pl {w : List Nat} {a b c : Nat} {m : List Nat} (o : OkI (OkB 1) (.pl w a b c m)) : Ln71 (txI (txB 1) (.pl w a b c m)) := by
  have hns : ∀ y ∈ a :: b :: c :: m, y < 1000000000 := fun y hy => by
    simp at hy
    rcases hy with rfl | rfl | rfl | hy
    · exact o.2.1
    · exact o.2.2.1
    · exact o.2.2.2.1
    · exact o.2.2.2.2.2 y hy
  have low : LowS (txI (txB 1) (.pl w a b c m)) := hd_low (ns := a :: b :: c :: m) (kw_low o.1).1
  refine ⟨by have := len_pl (T := txB 1) o; omega, Asc.cat fun z hz => ?_, low.2.2, cnt9_low low, .inl ⟨w, a, b, c, m, rfl, o.1, o.2.1, o.2.2.1, o.2.2.2.1, o.2.2.2.2.2⟩⟩
  rcases List.mem_cons.mp hz with rfl | hz
  · exact kw_asc _ (List.mem_cons_of_mem _ o.1)
  · obtain ⟨y, _, rfl⟩ := List.mem_map.mp hz
    exact nC_asc
theorem ln_su {a b c : Nat} {bk : List Th7} (ha : a < 1000000000) (hb : b < 1000000000) (hc : c < 1000000000) (h : bk = [] ∨ ∃ x y z, bk = [.pl [119, 97, 121, 115] x y z []] ∧ x < 1000000000 ∧ y < 1000000000 ∧ z < 1000000000) : Ln71 (txI (txB 1) (.su a b c bk)) := by
  have hu : (txB 1 bk).length ≤ 40 ∧ Asc (txB 1 bk) ∧ 59 ∉ txB 1 bk ∧ cnt9 (txB 1 bk) = 0 := by
    rcases h with rfl | ⟨x, y, z, rfl, hx, hy, hz⟩
    · exact ⟨by decide, (fun c hc => by cases hc), (fun h => by cases h), rfl⟩
    · have e : txB 1 [.pl [119, 97, 121, 115] x y z []] = catL 32 ([119, 97, 121, 115] :: [x, y, z].map nC) := rfl
      have low : LowS (catL 32 ([119, 97, 121, 115] :: [x, y, z].map nC)) := hd_low (by decide)
      rw [e]
      refine ⟨?_, Asc.cat fun u hu => ?_, low.2.2, cnt9_low low⟩
      · rw [cat_tl, List.length_append]
        have := tlN_len (ns := [x, y, z]) fun u hu => by simp at hu; rcases hu with rfl | rfl | rfl <;> assumption
        have h3 : [x, y, z].length = 3 := rfl
        rw [h3] at this
        show 4 + _ ≤ _
        omega
      · rcases List.mem_cons.mp hu with rfl | hu
        · unfold Asc; decide
        · obtain ⟨v, _, rfl⟩ := List.mem_map.mp hu
          exact nC_asc
  obtain ⟨u1, u2, u3, u4⟩ := hu
  have hl := len_su (bk := bk) (T := txB 1) ha hb hc
  refine ⟨by omega, ?_, ?_, ?_, .inr ⟨a, b, c, txB 1 bk, rfl, ha, hb, hc⟩⟩
  · show Asc (catL 32 [supW, nC a, nC b, nC c] ++ ([32, 40] ++ (txB 1 bk ++ [41])))
    refine Asc.app (Asc.cat fun z hz => ?_) (Asc.app (by unfold Asc; decide) (u2.app (by unfold Asc; decide)))
    simp at hz
    rcases hz with rfl | rfl | rfl | rfl
    · exact kw_asc _ List.mem_cons_self
    all_goals exact nC_asc
  · show 59 ∉ catL 32 [supW, nC a, nC b, nC c] ++ ([32, 40] ++ (txB 1 bk ++ [41]))
    intro e
    rcases List.mem_append.mp e with e | e
    · exact sup_hd_low.2.2 e
    · rcases List.mem_append.mp e with e | e
      · revert e; decide
      · rcases List.mem_append.mp e with e | e
        · exact u3 e
        · revert e; decide
  · show cnt9 (catL 32 [supW, nC a, nC b, nC c] ++ ([32, 40] ++ (txB 1 bk ++ [41]))) = 0
    rw [cnt9_app, cnt9_app, cnt9_app, cnt9_low sup_hd_low, u4]; decide
theorem cutN6 {m : List Nat} {j : Int} (hm : m.length = 6) : ∃ m', cutV (natV m) (some 3) (some (3 + j)) = natV m' ∧ m'.length ≤ 4 ∧ ∀ x ∈ m', x ∈ m := by
  refine ⟨(m.drop (HT.sIx 6 0 (some 3))).take (HT.sIx 6 6 (some (3 + j)) - HT.sIx 6 0 (some 3)), ?_, ?_, fun x hx => List.mem_of_mem_drop (List.mem_of_mem_take hx)⟩
  · unfold cutV
    rw [List.length_map, hm]
    unfold natV
    rw [List.map_take, List.map_drop]
  · rw [List.length_take, List.length_drop, hm]
    have : HT.sIx 6 0 (some 3) = 3 := by decide
    omega
theorem rk__law_thought71_t4 {K : PySem.W.Frag} {H0 H : Hp} {Q : VK} {A N : Addr} {cl : Int} {w : List Nat} {m : List Nat} {v0 v1 : Option V} (s0 : Same H0 H) (c0 : 0 ≤ cl) (hw : w = supW ∨ w ∈ KW) (eN : H N = some (.lst (natV m))) (hm : m.length = 6) (hm9 : ∀ x ∈ m, x < 1000000000)
    (q : ∀ r x H', Same H0 H' → IsJ 1 (DF H0) H' r x → OkI (OkB 1) x → Ln71 (txI (txB 1) x) → Q (.ref r) H') :
    rd__law_thought71_t4 K { nx := fun _ H' => Q .non H', rt := Q } [v0, v1, some (.int cl), some (.ref A), some (.str (tx w)), some (.ref N), none] H := by
  have z := z70
  obtain ⟨x0, x1, x2, x3, x4, x5, rfl⟩ : ∃ x0 x1 x2 x3 x4 x5, m = [x0, x1, x2, x3, x4, x5] := by
    match m, hm with
    | [x0, x1, x2, x3, x4, x5], _ => exact ⟨x0, x1, x2, x3, x4, x5, rfl⟩
  have h0 := hm9 x0 (by simp)
  have h1 := hm9 x1 (by simp)
  have h2 := hm9 x2 (by simp)
  have h3 := hm9 x3 (by simp)
  have h4 := hm9 x4 (by simp)
  have h5 := hm9 x5 (by simp)
  unfold rd__law_thought71_t4
  rw [w_seq, w_if]
  walk_at "w"
  rcases hw with rfl | hw
  · rw [sup_sup]
    refine iteT ?_
    refine ixL eN rfl (ixL eN rfl (ixL eN rfl ?_))
    refine ⟨by show 0 ≤ sizeLine; omega, fun M hM => ⟨by show 5 ≤ sizeLine; omega, fun t ht => ⟨by show 1 ≤ sizeLine; omega, fun W hW => ?_⟩⟩⟩
    refine ⟨by unfold CDiv; omega, by decide, ?_⟩
    have sM := (Same.refl H).laid (o := .lst []) hM
    have st := (Same.refl (upd H M (.lst []))).laid (o := .tup [V.str (tx [119, 97, 121, 115]), (fun k : Nat => V.int (k : Int)) x3, (fun k : Nat => V.int (k : Int)) x4, (fun k : Nat => V.int (k : Int)) x5, V.ref M]) ht
    have sW := (Same.refl (upd (upd H M (.lst [])) t (.tup [V.str (tx [119, 97, 121, 115]), (fun k : Nat => V.int (k : Int)) x3, (fun k : Nat => V.int (k : Int)) x4, (fun k : Nat => V.int (k : Int)) x5, V.ref M]))).laid (o := .lst [.ref t]) hW
    have eM : (upd H M (.lst [])) M = some (.lst (natV [])) := upd_same
    have et : (upd (upd H M (.lst [])) t (.tup [V.str (tx [119, 97, 121, 115]), (fun k : Nat => V.int (k : Int)) x3, (fun k : Nat => V.int (k : Int)) x4, (fun k : Nat => V.int (k : Int)) x5, V.ref M])) t = some (.tup [V.str (tx [119, 97, 121, 115]), V.int (x3 : Nat), V.int (x4 : Nat), V.int (x5 : Nat), V.ref M]) := upd_same
    have fM : H0 M = none := none_of_same s0 hM
    have ft : H0 t = none := none_of_same (s0.trans sM) ht
    generalize upd (upd H M (.lst [])) t (.tup [V.str (tx [119, 97, 121, 115]), (fun k : Nat => V.int (k : Int)) x3, (fun k : Nat => V.int (k : Int)) x4, (fun k : Nat => V.int (k : Int)) x5, V.ref M]) = H2 at *
    generalize upd H M (.lst []) = H1 at *
    refine w_slL upd_same fun I hI => ?_
    have hcut : ∃ (rI : List Addr) (bk : List Th7), cutV [V.ref t] none (some (cl / 12 % 2)) = rI.map V.ref ∧ ((rI = [] ∧ bk = []) ∨ (rI = [t] ∧ bk = [.pl [119, 97, 121, 115] x3 x4 x5 []])) := by
      rcases (show cl / 12 % 2 = 0 ∨ cl / 12 % 2 = 1 by omega) with e | e
      · rw [e]; exact ⟨[], [], rfl, .inl ⟨rfl, rfl⟩⟩
      · rw [e]; exact ⟨[t], [.pl [119, 97, 121, 115] x3 x4 x5 []], rfl, .inr ⟨rfl, rfl⟩⟩
    obtain ⟨rI, bk, ec, hI2⟩ := hcut
    rw [ec]
    have sI := (Same.refl (upd H2 W (.lst [.ref t]))).laid (o := .lst (rI.map V.ref)) hI
    have eI : upd (upd H2 W (.lst [.ref t])) I (.lst (rI.map V.ref)) I = some (.lst (rI.map V.ref)) := upd_same
    have s24 : Same H2 (upd (upd H2 W (.lst [.ref t])) I (.lst (rI.map V.ref))) := sW.trans sI
    have fI : H0 I = none := none_of_same (((s0.trans sM).trans st).trans sW) hI
    generalize upd (upd H2 W (.lst [.ref t])) I (.lst (rI.map V.ref)) = H4 at *
    have s4 : Same H H4 := (sM.trans st).trans s24
    have eN4 := s4 _ _ eN
    refine ixL eN4 rfl (ixL eN4 rfl (ixL eN4 rfl ⟨by show 5 ≤ sizeLine; omega, fun p hp => ?_⟩))
    have s5 := (Same.refl H4).laid (o := .tup [.str (tx supW), V.int (x0 : Nat), V.int (x1 : Nat), V.int (x2 : Nat), .ref I]) hp
    have bok : OkB 1 bk := by
      rcases hI2 with ⟨rfl, rfl⟩ | ⟨rfl, rfl⟩
      · exact ⟨by decide, fun x hx => by cases hx⟩
      · exact ⟨by show 1 ≤ 900; decide, fun x hx => by rw [List.mem_singleton.mp hx]; exact ⟨by decide, h3, h4, h5, by decide, fun y hy => by cases hy⟩⟩
    have jt : IsJ 0 (DF H0) (upd H4 p (.tup [.str (tx supW), V.int (x0 : Nat), V.int (x1 : Nat), V.int (x2 : Nat), .ref I])) t (.pl [119, 97, 121, 115] x3 x4 x5 []) := ⟨ft, M, fM, s5 _ _ (s24 _ _ et), s5 _ _ (s24 _ _ (st _ _ eM))⟩
    refine q p (.su x0 x1 x2 bk) _ ((s0.trans s4).trans s5) ⟨none_of_same (s0.trans s4) hp, I, fI, by rw [upd_same]; rfl, fI, rI, s5 _ _ eI, ?_, fun i r x hr hx => ?_⟩ ⟨h0, h1, h2, bok⟩ (ln_su h0 h1 h2 ?_)
    · rcases hI2 with ⟨rfl, rfl⟩ | ⟨rfl, rfl⟩ <;> rfl
    · rcases hI2 with ⟨rfl, rfl⟩ | ⟨rfl, rfl⟩
      · cases hr
      · cases i with
        | zero => cases hr; cases hx; exact jt
        | succ i => cases hr
    · rcases hI2 with ⟨rfl, rfl⟩ | ⟨rfl, rfl⟩
      · exact .inl rfl
      · exact .inr ⟨x3, x4, x5, rfl, h3, h4, h5⟩
  · rw [kw_sup w hw]
    refine iteF ?_
    refine ixL eN rfl (ixL eN rfl (ixL eN rfl ?_))
    obtain ⟨m2, em, l4, hm2⟩ := cutN6 (j := cl / 12 % 4) hm
    refine ⟨by unfold CDiv; omega, by decide, w_slL eN fun M hM => ?_⟩
    rw [em]
    refine ⟨by show 5 ≤ sizeLine; omega, fun r hr => ?_⟩
    have s1 := s0.laid (o := .lst (natV m2)) hM
    have hMr : M ≠ r := fun e => by subst e; rw [upd_same] at hr; cases hr
    have ok : OkI (OkB 1) (.pl w x0 x1 x2 m2) := ⟨hw, h0, h1, h2, l4, fun x hx => hm9 x (hm2 x hx)⟩
    refine q r (.pl w x0 x1 x2 m2) _ (s1.laid hr) ⟨none_of_same s1 hr, M, none_of_same s0 hM, by rw [upd_same]; rfl, by show upd _ _ _ M = _; rw [upd_ne hMr, upd_same]⟩ ok (ln_pl ok)
theorem rk__law_thought71_t3 {K : PySem.W.Frag} {H0 H : Hp} {Q : VK} {a A : Addr} {ns : List Int} {at_ cl : Int} {w : List Nat} (s0 : Same H0 H) (hS : SqL K H0 a (ns.map V.int)) (hn : ns.length ≤ 63) (a0 : 0 ≤ at_) (a1 : at_ ≤ 1000) (c0 : 0 ≤ cl) (hw : w = supW ∨ w ∈ KW)
    (q : ∀ r x H', Same H0 H' → IsJ 1 (DF H0) H' r x → OkI (OkB 1) x → Ln71 (txI (txB 1) x) → Q (.ref r) H') :
    rd__law_thought71_t3 K { nx := fun _ H' => Q .non H', rt := Q } [some (.ref a), some (.int at_), some (.int cl), some (.ref A), some (.str (tx w)), none, none] H := by
  unfold rd__law_thought71_t3
  walk_at "w"
  refine ⟨_, rfl, by decide, by decide, ?_⟩
  refine compV_range (n := 6) (fun _ => true) (fun i => .int (num70 (lawCA ns (at_ + 7 * (0 + (i : Int)) + 1)) : Nat)) (by decide) (fun i H R hi s k => k _ (Same.refl _)) ?_ ?_
  · intro i H1 Q1 hi hb s1 k
    show tCall _ _ _ _ [none, some (.int (0 + (i : Int))), some (.int at_), some (.ref a)] H1 Q1
    walk_at "w"
    refine ⟨.inl ⟨by decide, by decide⟩, a, ns, _, rfl, (s0.trans s1).seq hS, hn, by omega, by omega, ?_⟩
    exact ⟨_, rfl, lawCA_nn _ _, k⟩
  · intro U H1 hU s1 eU
    have eU2 : H1 U = some (.lst (natV ((List.range 6).map fun (i : Nat) => num70 (lawCA ns (at_ + 7 * (0 + (i : Int)) + 1))))) := by
      rw [eU, filter_tt]
      unfold natV
      rw [List.map_map]
      rfl
    exact rk__law_thought71_t4 (s0.trans s1) c0 hw eU2 (by simp) (fun x hx => by obtain ⟨i, _, rfl⟩ := List.mem_map.mp hx; exact num70_lt) q
theorem rk__law_thought71 {K : PySem.W.Frag} {vs : List V} {H : Hp} {Q : VK} {E : XK} (h : sp__law_thought71 K vs H Q E) : rd__law_thought71 K { nx := fun _ H' => Q .non H', rt := Q } (start ["_law_script", "_law_at", "_law_cell", "_law_words", "_law_word", "_law_numbers", "_law_inner"] vs) H := by
  obtain ⟨a, ns, at_, rfl, hS, hn, a0, a1, q⟩ := h
  have z := z70
  have c0 := lawCA_nn ns at_
  show rd__law_thought71 K _ [some (.ref a), some (.int at_), none, none, none, none, none] H
  unfold rd__law_thought71
  rw [w_seq, w_asg]
  walk_at "w"
  refine ⟨a, ns, at_, rfl, hS, hn, a0, by omega, ?_⟩
  walk_at "w"
  refine ⟨by show 12 ≤ sizeLine; omega, fun A hA => ?_⟩
  have sA := (Same.refl H).laid (o := .lst ((W12.map tx).map V.str)) hA
  have eA : upd H A (.lst ((W12.map tx).map V.str)) A = some (.lst ((W12.map tx).map V.str)) := upd_same
  generalize lawCA ns at_ = cl at *
  obtain ⟨w, ew, hw⟩ := w12_at (cl % 12).toNat (by omega)
  show _ ∧ _
  refine ⟨by decide, ?_⟩
  refine ixL (v := .str (tx w)) eA ?_ ?_
  · rw [show cl % 12 = (((cl % 12).toNat : Nat) : Int) by omega]
    refine atI_nat ?_
    rw [List.getElem?_map, List.getElem?_map, ew]; rfl
  · exact rk__law_thought71_t3 sA hS hn a0 a1 c0 hw q
theorem foldA : ∀ {P f : List (List Nat)}, (∀ p ∈ P, cnt9 p = 0) → P.foldl tt9 (f, [], 0) = (f ++ P, [], 0)
  | [], f, _ => by simp
  | p :: r, f, h => by
    have e : tt9 (f, [], 0) p = (f ++ [p], [], 0) := by
      unfold tt9
      rw [if_pos (show (0 : Int) + cnt9 p = 0 by rw [h p List.mem_cons_self]; rfl)]
      rfl
    rw [List.foldl_cons, e, foldA fun x hx => h x (List.mem_cons_of_mem _ hx)]
    simp
theorem foldC : ∀ {P f h : List (List Nat)} {u : Int}, u ≠ 0 → (∀ p ∈ P, cnt9 p = 0) → P.foldl tt9 (f, h, u) = (f, h ++ P, u)
  | [], f, h, u, _, _ => by simp
  | p :: r, f, h, u, hu, hz => by
    have e : tt9 (f, h, u) p = (f, h ++ [p], u) := by
      unfold tt9
      have h0 := hz p List.mem_cons_self
      rw [if_neg (show ¬ u + cnt9 p = 0 by omega), h0]
      simp
    rw [List.foldl_cons, e, foldC hu fun x hx => hz x (List.mem_cons_of_mem _ hx)]
    simp
theorem mapM_bad {f : List Nat → Option Th7} {p : List Nat} : ∀ {ts : List (List Nat)}, p ∈ ts → f p = none → ts.mapM f = none
  | t :: r, h, hp => by
    rw [List.mapM_cons]
    rcases List.mem_cons.mp h with rfl | h
    · rw [hp]; rfl
    · rw [mapM_bad h hp]
      cases f t <;> rfl
structure Ref71 (T : List Nat) : Prop where
  len : T.length ≤ 800
  asc : Asc T
  grp : ∀ g ∈ ((pcsOf T).foldl tt9 ([], [], 0)).1, g.length ≤ 400
  no : inM 16 T = none
theorem catS_asc {P : List (List Nat)} (h : ∀ p ∈ P, Asc p) : Asc (catS [59, 32] P) := by
  induction P with
  | nil => exact fun c hc => by cases hc
  | cons x r ih =>
    cases r with
    | nil => exact h x List.mem_cons_self
    | cons y r => exact Asc.app (h x List.mem_cons_self) (Asc.app (by unfold Asc; decide) (ih fun p hp => h p (List.mem_cons_of_mem _ hp)))
theorem refA {P : List (List Nat)} (hne : P ≠ []) (hf : ∀ p ∈ P, Fr9 p) (ha : ∀ p ∈ P, Asc p) (hl : ∀ p ∈ P, p.length ≤ 400) (ht : (catS [59, 32] P).length ≤ 800) (h0 : catS [59, 32] P ≠ []) (hc : ∀ p ∈ P, cnt9 p = 0) {b : List Nat} (hb : b ∈ P) (hn : thM (inM 15) b = none) : Ref71 (catS [59, 32] P) := by
  have e : pcsOf (catS [59, 32] P) = P := pcsOf_eq hne hf
  have e2 : P.foldl tt9 ([], [], 0) = (P, [], 0) := by have := foldA (f := []) hc; rw [List.nil_append] at this; exact this
  refine ⟨ht, catS_asc ha, ?_, ?_⟩
  · rw [e, e2]; exact hl
  · show (if catS [59, 32] P = [] then some [] else if ((pcsOf (catS [59, 32] P)).foldl tt9 ([], [], 0)).2.1 = [] then ((pcsOf (catS [59, 32] P)).foldl tt9 ([], [], 0)).1.mapM (thM (inM 15)) else none) = none
    rw [if_neg h0, e, e2, if_pos rfl]
    exact mapM_bad hb hn
theorem refB {A C : List (List Nat)} {b : List Nat} (hf : ∀ p ∈ A ++ b :: C, Fr9 p) (ha : ∀ p ∈ A ++ b :: C, Asc p) (hl : ∀ p ∈ A ++ b :: C, p.length ≤ 400) (ht : (catS [59, 32] (A ++ b :: C)).length ≤ 800) (h0 : catS [59, 32] (A ++ b :: C) ≠ []) (hA : ∀ p ∈ A, cnt9 p = 0) (hC : ∀ p ∈ C, cnt9 p = 0) (hb : cnt9 b ≠ 0) : Ref71 (catS [59, 32] (A ++ b :: C)) := by
  have e : pcsOf (catS [59, 32] (A ++ b :: C)) = A ++ b :: C := pcsOf_eq (by simp) hf
  have e2 : (A ++ b :: C).foldl tt9 ([], [], 0) = (A, [b] ++ C, cnt9 b) := by
    rw [List.foldl_append, foldA hA, List.nil_append, List.foldl_cons]
    have e3 : tt9 (A, [], 0) b = (A, [b], cnt9 b) := by
      unfold tt9
      rw [if_neg (show ¬ (0 : Int) + cnt9 b = 0 by omega)]
      simp
    rw [e3, foldC hb hC]
  refine ⟨ht, catS_asc ha, ?_, ?_⟩
  · rw [e, e2]; exact fun g hg => hl g (List.mem_append_left _ hg)
  · show (if catS [59, 32] (A ++ b :: C) = [] then some [] else if ((pcsOf (catS [59, 32] (A ++ b :: C))).foldl tt9 ([], [], 0)).2.1 = [] then ((pcsOf (catS [59, 32] (A ++ b :: C))).foldl tt9 ([], [], 0)).1.mapM (thM (inM 15)) else none) = none
    rw [if_neg h0, e, e2, if_neg (by simp)]
theorem catS_ne2 {A C : List (List Nat)} {b : List Nat} (h : b ≠ [] ∨ A ≠ [] ∨ C ≠ []) : catS [59, 32] (A ++ b :: C) ≠ [] := by
  intro e
  have hle : ∀ p ∈ A ++ b :: C, p.length ≤ (catS [59, 32] (A ++ b :: C)).length := fun p hp => catS_le hp
  have hp := pcs_len (L := A ++ b :: C)
  rw [e] at hp hle
  rcases h with h | h | h
  · have := hle b (by simp)
    simp at this
    exact h this
  · cases A with
    | nil => exact h rfl
    | cons x r => simp at hp
  · cases C with
    | nil => exact h rfl
    | cons x r => simp at hp; omega
theorem catS_len3 {s : List Nat} {A B : List (List Nat)} : (catS s (A ++ B)).length ≤ (catS s A).length + s.length + (catS s B).length := by
  by_cases ha : A = []
  · subst ha; rw [List.nil_append]; omega
  by_cases hb : B = []
  · subst hb; rw [List.append_nil]; omega
  · rw [catS_app ha hb, List.length_append, List.length_append]; omega
theorem ref71 {A C : List (List Nat)} {L b : List Nat} (hL : Ln71 L) (hA : ∀ p ∈ A, Ln71 p) (hC : ∀ p ∈ C, Ln71 p) (hn : A.length + C.length ≤ 4) (hb : BadT L b) (h0 : b ≠ [] ∨ A ≠ [] ∨ C ≠ []) : Ref71 (catS [59, 32] (A ++ b :: C)) := by
  obtain ⟨bl, basc, hcase⟩ := hb
  have hac : ∀ p, p ∈ A ∨ p ∈ C → Ln71 p := fun p h => h.elim (hA p) (hC p)
  have lenB : ∀ (x : List Nat), x.length ≤ 400 → (catS [59, 32] (A ++ x :: C)).length ≤ 800 := fun x hx => by
    have h1 := catS_len3 (s := [59, 32]) (A := A) (B := x :: C)
    have h2 := catS_len3 (s := [59, 32]) (A := [x]) (B := C)
    have h3 := catS_len (s := [59, 32]) (b := 80) (rs := A) fun p hp => (hA p hp).len
    have h4 := catS_len (s := [59, 32]) (b := 80) (rs := C) fun p hp => (hC p hp).len
    have e1 : [x] ++ C = x :: C := rfl
    have e2 : (catS [59, 32] [x]).length = x.length := rfl
    have e3 : ([59, 32] : List Nat).length = 2 := rfl
    rw [e1, e2, e3] at h2
    rw [e3] at h1 h3 h4
    omega
  have inAC : ∀ {x p : List Nat}, p ∈ A ++ x :: C → p = x ∨ Ln71 p := fun {x p} hp => by
    rcases List.mem_append.mp hp with hp | hp
    · exact .inr (hA p hp)
    · rcases List.mem_cons.mp hp with hp | hp
      · exact .inl hp
      · exact .inr (hC p hp)
  rcases hcase with ⟨c1, c2, c3⟩ | ⟨c1, c2⟩ | rfl
  · refine refA (by simp) (fun p hp => ?_) (fun p hp => ?_) (fun p hp => ?_) (lenB b bl) (catS_ne2 h0) (fun p hp => ?_) (b := b) (by simp) c3
    · rcases inAC hp with rfl | l
      · exact c1
      · exact free_Fr9 l.semi
    · rcases inAC hp with rfl | l
      · exact basc
      · exact l.asc
    · rcases inAC hp with rfl | l
      · exact bl
      · have := l.len; omega
    · rcases inAC hp with rfl | l
      · exact c2
      · exact l.cnt
  · refine refB (fun p hp => ?_) (fun p hp => ?_) (fun p hp => ?_) (lenB b bl) (catS_ne2 h0) (fun p hp => (hA p hp).cnt) (fun p hp => (hC p hp).cnt) c2
    · rcases inAC hp with rfl | l
      · exact c1
      · exact free_Fr9 l.semi
    · rcases inAC hp with rfl | l
      · exact basc
      · exact l.asc
    · rcases inAC hp with rfl | l
      · exact bl
      · have := l.len; omega
  · have e : catS [59, 32] (A ++ (L ++ [59, 32]) :: C) = catS [59, 32] ((A ++ [L]) ++ [] :: C) := by
      have e1 : catS [59, 32] ((L ++ [59, 32]) :: C) = catS [59, 32] (L :: [] :: C) := by
        cases C with
        | nil => show L ++ [59, 32] = L ++ ([59, 32] ++ []); simp
        | cons y t => show (L ++ [59, 32]) ++ ([59, 32] ++ catS [59, 32] (y :: t)) = L ++ ([59, 32] ++ ([] ++ ([59, 32] ++ catS [59, 32] (y :: t)))); simp
      cases A with
      | nil => exact e1
      | cons x r =>
        rw [List.append_assoc, catS_app (A := x :: r) (B := (L ++ [59, 32]) :: C) (by simp) (by simp), catS_app (A := x :: r) (B := [L] ++ [] :: C) (by simp) (by simp), e1]
        rfl
    have hlen := lenB _ bl
    rw [e] at hlen ⊢
    have inA : ∀ {p : List Nat}, p ∈ (A ++ [L]) ++ [] :: C → p = [] ∨ Ln71 p := fun {p} hp => by
      rcases List.mem_append.mp hp with hp | hp
      · rcases List.mem_append.mp hp with hp | hp
        · exact .inr (hA p hp)
        · rw [List.mem_singleton.mp hp]; exact .inr hL
      · rcases List.mem_cons.mp hp with hp | hp
        · exact .inl hp
        · exact .inr (hC p hp)
    have t18' := t18 (L := L)
    obtain ⟨_, _, h18⟩ := t18'
    have hn18 : thM (inM 15) [] = none := by
      rcases h18 with h | h | h
      · exact h.2.2
      · exact absurd rfl h.2
      · simp at h
    refine refA (by simp) (fun p hp => ?_) (fun p hp => ?_) (fun p hp => ?_) hlen (catS_ne2 (.inr (.inl (by simp)))) (fun p hp => ?_) (b := []) (by simp) hn18
    · rcases inA hp with rfl | l
      · exact fun k h => by cases h
      · exact free_Fr9 l.semi
    · rcases inA hp with rfl | l
      · exact fun c hc => by cases hc
      · exact l.asc
    · rcases inA hp with rfl | l
      · decide
      · have := l.len; omega
    · rcases inA hp with rfl | l
      · rfl
      · exact l.cnt
theorem ref71e : Ref71 (catS [59, 32] [[], []]) := by
  have t18' := t18 (L := [])
  obtain ⟨_, _, h18⟩ := t18'
  have hn18 : thM (inM 15) [] = none := by
    rcases h18 with h | h | h
    · exact h.2.2
    · exact absurd rfl h.2
    · simp at h
  exact refA (by simp) (fun p hp k h => by simp at hp; subst hp; cases h) (fun p hp c hc => by simp at hp; subst hp; cases hc) (fun p hp => by simp at hp; subst hp; decide) (by decide) (by decide) (fun p hp => by simp at hp; subst hp; rfl) (b := []) (by simp) hn18
theorem IsB.le {n m : Nat} {D : Addr → Prop} {H : Hp} {p : Addr} {l : List Th7} (h : IsB n D H p l) (k : n ≤ m) : IsB m D H p l := by
  induction m with
  | zero => have : n = 0 := by omega
            subst this; exact h
  | succ m ih => by_cases e : n = m + 1
                 · subst e; exact h
                 · exact IsB.up (ih (by omega))
def sp_law (K : PySem.W.Frag) : Sp := fun vs H Q _ => ∃ (a : Addr) (ns : List Int), vs = [.ref a] ∧ SqL K H a (ns.map V.int) ∧ ns.length ≤ 63 ∧ ∀ H', Q (.bl true) H'
def sp_law0 (K : PySem.W.Frag) : Sp := sp_law K
def lb71 (K : PySem.W.Frag) : TS :=
  (tSeq (tAsg (tOp cMod (tOp cDiv (tVar 5) (tC (.int 24))) (tCB kLen (tCons (tVar 3) tNil))) (gName 6))
    (tSeq (tAsg (tCB kList (tCons (tVar 3) tNil)) (gName 7))
    (tSeq (tAsg (tCall (sp__law_bent71 K) [] E0 (tCons (tOp cIx (tVar 3) (tVar 6)) (tCons (tVar 5) tNil))) (gSub (tVar 7) (tVar 6) cPut))
    (tSeq (tIfS (tAnd (tTest (tOp (cEq K) (tCB kLen (tCons (tVar 3) tNil)) (tC (.int 1)))) (tTest (tOp (cEq K) (tOp cIx (tVar 7) (tC (.int 0))) (tC (.str (tx [])))))) (tDrop (tBM K "list" kAppend (tVar 7) (tCons (tC (.str (tx []))) tNil))) tNext)
    (tIfS (tNot (tB (tCall (sp__law_refused71 K) [] E0 (tCons (tBM K "str" kJoin (tC (.str (tx [59, 32]))) (tCons (tVar 7) tNil)) tNil)))) (tRet (tC (.bl false))) tNext)))))
def rd_law_t5 (K : PySem.W.Frag) : TS :=
  (tRet (tOp (cEq K) (tCall (sp_read_book71 K) [] E0 (tCons (tVar 4) tNil)) (tVar 2)))
def rd_law_t3 (K : PySem.W.Frag) : TS :=
  (tSeq (tIfS (tTest (tOp (cNe K) (tCall (sp_read_book71 K) [] E0 (tCons (tVar 4) tNil)) (tVar 2))) (tRet (tC (.bl false))) tNext)
    (tSeq (tFor (iRng1 (tCons (tOp cAdd (tC (.int 2)) (tCB kMin (tCons (tCB (kLenS K) (tCons (tVar 0) tNil)) (tCons (tC (.int 22)) tNil)))) tNil)) (gName 1)
    (tSeq (tAsg (tCall (sp__law_cell_at K) [] E0 (tCons (tVar 0) (tCons (tOp cAdd (tC (.int 60)) (tVar 1)) tNil))) (gName 5))
    (lb71 K)))
    (rd_law_t5 K)))
def rd_law_t1 (K : PySem.W.Frag) : TS :=
  (tSeq (sComp 3 [none, none] (iList K (tVar 2)) (gName 1) tTrue (tCall (sp__law_line71 K 2) [] E0 (tCons (tVar 1) tNil)))
    (tSeq (tAsg (tBM K "str" kJoin (tC (.str (tx [59, 32]))) (tCons (tVar 3) tNil)) (gName 4))
    (rd_law_t3 K)))
def rd_law (K : PySem.W.Frag) : TS :=
  (tSeq (sComp 2 [none, none, some 0] (iRng1 (tCons (tOp cAdd (tC (.int 1)) (tOp cMod (tCall (sp__law_cell_at K) [] E0 (tCons (tVar 0) (tCons (tC (.int 0)) tNil))) (tC (.int 5)))) tNil)) (gName 1) tTrue (tCall (sp__law_thought71 K) [] E0 (tCons (tVar 2) (tCons (tOp cAdd (tOp cMul (tC (.int 10)) (tVar 1)) (tC (.int 1))) tNil))))
    (rd_law_t1 K))
structure Law71 (H : Hp) (B LL : Addr) (l : List Th7) : Prop where
  book : IsB 2 DT H B l
  ok : OkB 2 l
  ne : l ≠ []
  n5 : l.length ≤ 5
  ln : ∀ x ∈ l, Ln71 (txI (txB 1) x)
  lines : H LL = some (.lst (((l.map (txI (txB 1))).map tx).map V.str))
theorem Law71.same {H H' : Hp} {B LL : Addr} {l : List Th7} (h : Law71 H B LL l) (s : Same H H') : Law71 H' B LL l := ⟨h.book.same s, h.ok, h.ne, h.n5, h.ln, s _ _ h.lines⟩
theorem txt71 {l : List Th7} (n5 : l.length ≤ 5) (ln : ∀ x ∈ l, Ln71 (txI (txB 1) x)) (ok : OkB 2 l) (ne : l ≠ []) : (txB 2 l).length ≤ 800 ∧ Asc (txB 2 l) ∧ (∀ g ∈ ((pcsOf (txB 2 l)).foldl tt9 ([], [], 0)).1, g.length ≤ 400) ∧ inM 16 (txB 2 l) = some l := by
  have hl : ∀ p ∈ l.map (txI (txB 1)), Ln71 p := fun p hp => by obtain ⟨x, hx, rfl⟩ := List.mem_map.mp hp; exact ln x hx
  have hb := catS_len (s := [59, 32]) (b := 80) (rs := l.map (txI (txB 1))) fun p hp => (hl p hp).len
  have e3 : ([59, 32] : List Nat).length = 2 := rfl
  rw [e3, List.length_map] at hb
  have e : pcsOf (txB 2 l) = l.map (txI (txB 1)) := pcsOf_eq (rows := l.map (txI (txB 1))) (by simpa using ne) fun p hp => free_Fr9 (hl p hp).semi
  have ef : (l.map (txI (txB 1))).foldl tt9 ([], [], 0) = (l.map (txI (txB 1)), [], 0) := by have := foldA (f := []) fun p hp => (hl p hp).cnt; rw [List.nil_append] at this; exact this
  refine ⟨?_, catS_asc fun p hp => (hl p hp).asc, ?_, ?_⟩
  · show (catS [59, 32] (l.map (txI (txB 1)))).length ≤ _; omega
  · rw [e, ef]; exact fun g hg => by have := (hl g hg).len; omega
  · rw [← txB_le ok (show 2 ≤ 16 by decide)]; exact inM_tx (ok.le (by decide))
theorem rk_law_t5 {K : PySem.W.Frag} {H : Hp} {Q : VK} {B LL : Addr} {l : List Th7} {v0 v1 v5 v6 v7 : Option V} (W : Law71 H B LL l) (q : ∀ H', Q (.bl true) H') :
    rd_law_t5 K { nx := fun _ H' => Q .non H', rt := Q } [v0, v1, some (.ref B), some (.ref LL), some (.str (tx (txB 2 l))), v5, v6, v7] H := by
  obtain ⟨h1, h2, h3, h4⟩ := txt71 W.n5 W.ln W.ok W.ne
  unfold rd_law_t5
  walk_at "w"
  refine ⟨txB 2 l, rfl, h1, h2, h3, fun l' hl U H1 s1 hU => ?_, fun hno => ?_⟩
  · rw [h4] at hl
    cases hl
    exact w_eqB70 (W.ok.le (by decide)) (by decide) hU.b ((W.book.le (by decide)).same s1) (q _)
  · rw [h4] at hno; cases hno
theorem rk_lb71 {K : PySem.W.Frag} {H : Hp} {D : Ends} {B LL : Addr} {l : List Th7} {c : Int} {v0 v1 v4 v6 v7 : Option V} (W : Law71 H B LL l) (c0 : 0 ≤ c) (q : ∀ v6 v7 H', Same H H' → D.nx [v0, v1, some (.ref B), some (.ref LL), v4, some (.int c), v6, v7] H') :
    lb71 K D [v0, v1, some (.ref B), some (.ref LL), v4, some (.int c), v6, v7] H := by
  have z := z70
  have n5 := W.n5
  have hpos : 0 < l.length := List.length_pos_iff.mpr W.ne
  unfold lb71
  rw [w_seq, w_asg]
  walk_at "w"
  refine ⟨by unfold CDiv; omega, ?_⟩
  rw [w_len W.lines]
  walk_at "w"
  rw [List.length_map, List.length_map, List.length_map]
  refine ⟨by omega, ?_⟩
  obtain ⟨i, ei, hi⟩ : ∃ i : Nat, c / 24 % (l.length : Int) = (i : Int) ∧ i < l.length := by
    have h1 := Int.emod_nonneg (c / 24) (show (l.length : Int) ≠ 0 by omega)
    have h2 := Int.emod_lt_of_pos (c / 24) (show (0 : Int) < (l.length : Int) by omega)
    exact ⟨(c / 24 % (l.length : Int)).toNat, by omega, by omega⟩
  rw [ei]
  refine w_list W.lines fun P hP => ?_
  have s1 := (Same.refl H).laid (o := .lst (((l.map (txI (txB 1))).map tx).map V.str)) hP
  have eP : upd H P (.lst (((l.map (txI (txB 1))).map tx).map V.str)) P = some (.lst (((l.map (txI (txB 1))).map tx).map V.str)) := upd_same
  generalize upd H P (.lst (((l.map (txI (txB 1))).map tx).map V.str)) = H1 at *
  have W1 := W.same s1
  walk_at "w"
  have hix : l[i]? = some l[i] := List.getElem?_eq_getElem hi
  have hLn := W.ln _ (List.getElem_mem hi)
  refine ixL (v := .str (tx (txI (txB 1) l[i]))) W1.lines (atI_nat (by rw [List.getElem?_map, List.getElem?_map, List.getElem?_map, hix]; rfl)) ?_
  refine ⟨_, c, rfl, hLn, c0, fun b H2 hb s2 => ?_⟩
  walk_at "w"
  refine w_put (s2 _ _ eP) (by omega) (by simp; omega) ?_
  have eset : ((((l.map (txI (txB 1))).map tx).map V.str).set ((i : Int)).toNat (V.str (tx b))) = ((((l.map (txI (txB 1))).set i b).map tx).map V.str) := by
    rw [Int.toNat_natCast, List.map_set, List.map_set]
  rw [eset]
  have e3 : upd H2 P (.lst ((((l.map (txI (txB 1))).set i b).map tx).map V.str)) P = some (.lst ((((l.map (txI (txB 1))).set i b).map tx).map V.str)) := upd_same
  have s3 : Same H (upd H2 P (.lst ((((l.map (txI (txB 1))).set i b).map tx).map V.str))) := (s1.trans s2).own hP
  generalize upd H2 P (.lst ((((l.map (txI (txB 1))).set i b).map tx).map V.str)) = H3 at *
  have W3 := W.same s3
  -- the end of a turn: the text is refused
  have fin : ∀ (R : List (List Nat)) (H4 : Hp), Same H H4 → H4 P = some (.lst ((R.map tx).map V.str)) → Ref71 (catS [59, 32] R) →
      tIfS (tNot (tB (tCall (sp__law_refused71 K) [] E0 (tCons (tBM K "str" kJoin (tC (.str (tx [59, 32]))) (tCons (tVar 7) tNil)) tNil)))) (tRet (tC (.bl false))) tNext D [v0, v1, some (.ref B), some (.ref LL), v4, some (.int c), some (.int (i : Int)), some (.ref P)] H4 := by
    intro R H4 s4 e4 rf
    rw [w_if]
    walk_at "w"
    refine ⟨w_tyS, w_join70 e4 (by have := rf.len; show _ + 2 ≤ _; omega) ?_⟩
    refine ⟨_, rfl, rf.len, rf.asc, rf.grp, rf.no, fun H5 s5 => ⟨true, rfl, ?_⟩⟩
    walk_at "w"
    exact q _ _ _ (s4.trans s5)
  have hset : (l.map (txI (txB 1))).set i b = (l.map (txI (txB 1))).take i ++ b :: (l.map (txI (txB 1))).drop (i + 1) := by
    rw [List.set_eq_take_append_cons_drop, if_pos (by rw [List.length_map]; exact hi)]
  have hlnA : ∀ p ∈ (l.map (txI (txB 1))).take i, Ln71 p := fun p hp => by
    obtain ⟨x, hx, rfl⟩ := List.mem_map.mp (List.mem_of_mem_take hp)
    exact W.ln x hx
  have hlnC : ∀ p ∈ (l.map (txI (txB 1))).drop (i + 1), Ln71 p := fun p hp => by
    obtain ⟨x, hx, rfl⟩ := List.mem_map.mp (List.mem_of_mem_drop hp)
    exact W.ln x hx
  have hnn : ((l.map (txI (txB 1))).take i).length + ((l.map (txI (txB 1))).drop (i + 1)).length ≤ 4 := by
    rw [List.length_take, List.length_drop, List.length_map]; omega
  have good : (b ≠ [] ∨ l.length ≠ 1) → Ref71 (catS [59, 32] ((l.map (txI (txB 1))).set i b)) := fun h => by
    rw [hset]
    refine ref71 hLn hlnA hlnC hnn hb ?_
    rcases h with h | h
    · exact .inl h
    · by_cases h2 : i = 0
      · refine .inr (.inr fun e => ?_)
        have := congrArg List.length e
        rw [List.length_drop, List.length_map, List.length_nil] at this
        omega
      · refine .inr (.inl fun e => ?_)
        have := congrArg List.length e
        rw [List.length_take, List.length_map, List.length_nil] at this
        omega
  rw [w_if]
  walk_at "w"
  rw [w_len W3.lines]
  walk_at "w"
  rw [List.length_map, List.length_map, List.length_map]
  by_cases h1 : l.length = 1
  · rw [decide_eq_true (show ((l.length : Nat) : Int) = 1 by omega)]
    refine iteT ?_
    have hi0 : i = 0 := by omega
    subst hi0
    have e1 : (l.map (txI (txB 1))).set 0 b = [b] := by
      match l, h1 with
      | [x], _ => rfl
    rw [e1] at e3 good
    refine ixL e3 rfl ?_
    rw [w_eqS, nil_tx]
    refine ⟨_, rfl, ?_⟩
    by_cases hb0 : b = []
    · subst hb0
      rw [decide_eq_true rfl]
      refine iteT ?_
      refine ⟨tyV_list e3, ?_⟩
      rw [w_append e3]
      refine ⟨by show 1 < sizeLine; omega, ?_⟩
      exact fin [[], []] _ (s3.own hP) (by rw [upd_same]; rfl) ref71e
    · rw [decide_eq_false hb0]
      exact iteF (fin [b] _ s3 e3 (good (.inl hb0)))
  · rw [decide_eq_false (show ¬ ((l.length : Nat) : Int) = 1 by omega)]
    exact iteF (fin _ _ s3 e3 (good (.inr h1)))
theorem rk_law_t3 {K : PySem.W.Frag} {H : Hp} {Q : VK} {a B LL : Addr} {ns : List Int} {l : List Th7} {v1 v5 v6 v7 : Option V} (hS : SqL K H a (ns.map V.int)) (hn : ns.length ≤ 63) (W : Law71 H B LL l) (q : ∀ H', Q (.bl true) H') :
    rd_law_t3 K { nx := fun _ H' => Q .non H', rt := Q } [some (.ref a), v1, some (.ref B), some (.ref LL), some (.str (tx (txB 2 l))), v5, v6, v7] H := by
  obtain ⟨h1, h2, h3, h4⟩ := txt71 W.n5 W.ln W.ok W.ne
  unfold rd_law_t3
  rw [w_seq, w_if]
  walk_at "w"
  refine ⟨txB 2 l, rfl, h1, h2, h3, fun l' hl U H1 s1 hU => ?_, fun hno => ?_⟩
  · rw [h4] at hl
    cases hl
    walk_at "w"
    refine w_neB70 (W.ok.le (by decide)) (by decide) hU.b ((W.book.le (by decide)).same s1) ⟨false, rfl, iteF ?_⟩
    refine ⟨a, _, rfl, .inl (s1.seq hS), ?_⟩
    walk_at "w"
    rw [List.length_map]
    refine ⟨_, rfl, by omega, by omega, ?_⟩
    obtain ⟨jj, ejj, hjj⟩ : ∃ jj : Nat, (2 + if (22 : Int) < (ns.length : Int) then 22 else (ns.length : Int)).toNat = jj ∧ jj ≤ 70 := ⟨_, rfl, by split <;> omega⟩
    rw [ejj]
    refine for_range (n := jj) (fun i σ H' => (∃ v1 v5 v6 v7, σ = [some (.ref a), v1, some (.ref B), some (.ref LL), some (.str (tx (txB 2 l))), v5, v6, v7]) ∧ Same H1 H') ⟨⟨_, _, _, _, rfl⟩, Same.refl H1⟩ ?_ ?_
    · rintro i σ H2 hi ⟨⟨v1, v5, v6, v7, rfl⟩, s2⟩
      rw [w_gname]
      have s12 := s1.trans s2
      walk_at "w"
      refine ⟨a, ns, _, rfl, s12.seq hS, hn, by omega, by omega, ?_⟩
      have c0 := lawCA_nn ns (60 + (0 + (i : Int)))
      generalize lawCA ns (60 + (0 + (i : Int))) = c at *
      walk_at "w"
      exact rk_lb71 (W.same s12) c0 fun v6 v7 H3 s3 => ⟨⟨_, _, _, _, rfl⟩, s2.trans s3⟩
    · rintro σ H2 ⟨⟨v1, v5, v6, v7, rfl⟩, s2⟩
      exact rk_law_t5 (W.same (s1.trans s2)) q
  · rw [h4] at hno; cases hno
theorem rk_law {K : PySem.W.Frag} {vs : List V} {H : Hp} {Q : VK} {E : XK} (h : sp_law K vs H Q E) : rd_law K { nx := fun _ H' => Q .non H', rt := Q } (start ["_law_script", "_law_k", "_law_book", "_law_lines", "_law_text", "_law_cell", "_law_at", "_law_bent_here"] vs) H := by
  obtain ⟨a, ns, rfl, hS, hn, q⟩ := h
  have z := z70
  show rd_law K _ [some (.ref a), none, none, none, none, none, none, none] H
  unfold rd_law
  walk_at "w"
  refine ⟨a, ns, 0, rfl, hS, hn, by decide, by decide, ?_⟩
  have c0 := lawCA_nn ns 0
  generalize lawCA ns 0 = cl at *
  walk_at "w"
  refine ⟨by decide, _, rfl, by omega, by omega, ?_⟩
  obtain ⟨j, ej, hj1, hj5⟩ : ∃ j : Nat, (1 + cl % 5).toNat = j ∧ 1 ≤ j ∧ j ≤ 5 := ⟨_, rfl, by omega, by omega⟩
  rw [ej]
  refine compG_range (fun i D H r => ∃ x, IsJ 1 D H r x ∧ OkI (OkB 1) x ∧ Ln71 (txI (txB 1) x)) (fun i D D' H H' v d f ⟨x, jx, ox, lx⟩ => ⟨x, IsJ.fr d f jx, ox, lx⟩) (by omega) ?_ ?_
  · intro i H1 Q1 hi s1 k
    show tCall _ _ _ _ [none, some (.int (0 + (i : Int))), some (.ref a)] H1 Q1
    walk_at "w"
    refine ⟨.inl ⟨by decide, by decide⟩, a, ns, _, rfl, s1.seq hS, hn, by omega, by omega, fun r x H2 s2 jx ox lx => k r H2 s2 ⟨x, jx, ox, lx⟩⟩
  · intro U rs H1 hU s1 eU el k
    obtain ⟨l, ll, kl⟩ := list_choose k
    have all : ∀ x ∈ l, OkI (OkB 1) x ∧ Ln71 (txI (txB 1) x) := fun x hx => by
      obtain ⟨i, hi, rfl⟩ := List.getElem_of_mem hx
      have hi2 : i < rs.length := by omega
      exact (kl i rs[i] l[i] (List.getElem?_eq_getElem hi2) (List.getElem?_eq_getElem hi)).2
    have hB : IsB 2 DT H1 U l := ⟨trivial, rs, eU, by omega, fun i r x hr hx => IsJ.top (kl i r x hr hx).1⟩
    have ok : OkB 2 l := ⟨by omega, fun x hx => (all x hx).1⟩
    have ne : l ≠ [] := fun e => by subst e; simp at ll; omega
    obtain ⟨t1, _⟩ := txt71 (l := l) (by omega) (fun x hx => (all x hx).2) ok ne
    show rd_law_t1 K _ [some (.ref a), none, some (.ref U), none, none, none, none, none] H1
    unfold rd_law_t1
    walk_at "w"
    refine ⟨⟨_, SqL.of eU⟩, ?_⟩
    refine lines71 hB ok (show (txB 2 l).length ≤ 900000 by omega) fun V H2 hV s2 eV => ?_
    walk_at "w"
    refine ⟨w_tyS, w_join70 eV (by show (txB 2 l).length + 2 ≤ _; omega) ?_⟩
    exact rk_law_t3 ((s1.trans s2).seq hS) hn ⟨hB.same s2, ok, ne, by omega, fun x hx => (all x hx).2, eV⟩ q
end L2
set_option Elab.async false
set_option linter.all false
set_option maxRecDepth 100000
namespace L2
open PySem PySem.Spec PyProof.Rows
section
variable {M : Model} {A : Around} {E : Value → Shared → Prop} {s : Shared}
theorem leave_any {base : Heap} {env : Env} {outer : List Env} {L x : Addr} {c a0 fl : Value} {Q : Unit → Shared → Prop} (hA : A.frames = some (env :: outer)) (hf : env.frame = some L)
    (g1 : base.StaysIn s.heap) (g2 : base.get? x = none) (g3 : s.heap.FunFrames base (env :: outer)) (g4 : s.heap.TracedAtW base x c a0 fl)
    (k : ∀ h', Heap.FlyingW base outer x c a0 h' → s.heap.UpToSlots h' → Q () { s with heap := h' }) : wpAny M A (leaving env (.ref x)) Q E s := by
  by_cases q : (fl == rawInt L) = true
  · have q' : fl = rawInt L := eq_of_beq q
    subst q'
    unfold leaving
    refine wpAny_bind (wpAny_noteFrame_againW hf g4 (wpAny_landsW (L := L) ⟨g1, g2, g3, g4⟩ fun h' F up => ?_))
    exact k h' ⟨F.1, F.2.1, F.2.2.1.2.2, F.2.2.2⟩ up
  · obtain ⟨ox, us, T, oT, ws, e1, ⟨e2, e3⟩, e4, e5, e6, e7, e8, e9, e10⟩ := g4
    subst e2
    have sz3 : 3 < ws.size := (Array.getElem?_eq_some_iff.mp e10).1
    have oth : ∀ b, b ≠ T → (s.heap.update T (Obj.mapFields (·.setIfInBounds 3 Value.none))).get? b = s.heap.get? b := fun b hb => Heap.get?_update_other _ _ fun z => hb z.symm
    have nT : ∀ b o, s.heap.get? b = some o → (∀ vs, o.data ≠ .fields vs) → b ≠ T := fun b o hb d z => by
      subst z
      rw [e8] at hb; cases hb
      exact d ws e9
    unfold leaving noteFrame
    simp only [hf]
    refine wpAny_bind (wpAny_bind (wpAny_field e1 e4 e5 ?_))
    rw [if_pos (by simp)]
    refine wpAny_bind (wpAny_field e8 e9 e10 ?_)
    rw [if_neg q]
    refine wpAny_bind (wpAny_setField e8 e9 sz3 ?_)
    refine wpAny_newEntryW hA (g3.of_keeps fun b o hb d => ⟨o, (oth b (nT b o hb d)).trans hb, rfl⟩) hf ((oth x fun z => e7 z.symm).trans e1) (fun b o hb => (oth b fun z => ?_).trans (g1 b o hb)) g2 e4 (Array.getElem?_eq_some_iff.mp e5).1 e3 fun h' W => ?_
    · rw [z, e6] at hb; cases hb
    · obtain ⟨w1, w2, w3, w4⟩ := W
      exact k h' ⟨w1, g2, w2.2.2, w3⟩ fun b o hb d => w4 b o ((oth b (nT b o hb d)).trans hb) d
end
theorem fly_all {P : Program} {w : World} {env : Env} {outer : List Env} {H₀ H' : Hp} {s₀ s' : Shared} {x T' C L : Addr} {h' : Heap} {fx ex : List Addr}
    (hos : s'.os = s₀.os) (hbare : AllBare s'.gens) (hL : env.frame = some L) (nL : s₀.heap.get? L = none)
    (U : Un (frs (env :: outer)) fx H₀ H' s₀.heap s'.heap) (hfx : ∀ b ∈ fx, s₀.heap.get? b = none) (frH : ∀ b ∈ frs (env :: outer), H' b = none) (ok : HOk P w H' s'.heap)
    (exn : ∀ b ∈ ex, s₀.heap.get? b = none ∧ H' b = none)
    (keepAll : ∀ b o, s'.heap.get? b = some o → b ∉ frs (env :: outer) → b ∉ ex → h'.get? b = some o)
    (slots : ∀ b o, s'.heap.get? b = some o → b ∈ frs (env :: outer) → ∃ sl, h'.get? b = some { o with slots := sl })
    (nx : s₀.heap.get? x = none) (fx' : H' x = none) (nT : s₀.heap.get? T' = none) (fT : H' T' = none) (tr : Tr h' x T' C .none) : Fly P w outer H₀ s₀ x T' C H' { s' with heap := h' } := by
  have sub : ∀ b, b ∈ frs outer → b ∈ frs (env :: outer) := fun b hb => by
    unfold frs at hb ⊢
    rw [List.filterMap_cons, hL]
    exact List.mem_cons_of_mem _ hb
  have isL : ∀ b, b ∈ frs (env :: outer) → b = L ∨ b ∈ frs outer := fun b hb => by
    unfold frs at hb ⊢
    rw [List.filterMap_cons, hL] at hb
    exact List.mem_cons.mp hb
  have nfx : ∀ b o, s₀.heap.get? b = some o → b ∉ fx := fun b o e z => by rw [hfx b z] at e; cases e
  have nex : ∀ b o, s₀.heap.get? b = some o → b ∉ ex := fun b o e z => by rw [(exn b z).1] at e; cases e
  have there : ∀ b o, s₀.heap.get? b = some o → ∃ o', h'.get? b = some o' := fun b o e => by
    obtain ⟨o1, e1⟩ := U.there b o e (nfx b o e)
    by_cases hb : b ∈ frs (env :: outer)
    · obtain ⟨sl, e2⟩ := slots b o1 e1 hb
      exact ⟨_, e2⟩
    · exact ⟨o1, keepAll b o1 e1 hb (nex b o e)⟩
  refine ⟨hos, hbare, ⟨fun b o e n hb _ => ?_, fun b o e n hb _ => ?_, fun b o e n _ => U.free b o e n (nfx b o e), fun b o e _ => there b o e, U.tups, U.frzs, U.tbls⟩, ?_, fx', fT, nx, nT, tr⟩
  · have nb : b ∉ frs (env :: outer) := fun z => by
      rcases isL b z with z | z
      · rw [z, nL] at e; cases e
      · exact hb z
    exact keepAll b o (U.keep b o e n nb (nfx b o e)) nb (nex b o e)
  · obtain ⟨sl, e1⟩ := U.slot b o e n (sub b hb) (nfx b o e)
    obtain ⟨sl2, e2⟩ := slots b _ e1 (sub b hb)
    exact ⟨sl2, e2⟩
  · intro a o e
    refine (ok a o e).stay (fun b u hb q => ?_) (fun _ q => q) fun _ _ q => q
    have hb' : H' b ≠ none := by
      rcases hb with rfl | hb
      · rw [e]; simp
      · rw [hb]; simp
    exact keepAll b u q (fun z => hb' (frH b z)) fun z => hb' (exn b z).2
theorem funs_hid' {h h1 base : Heap} {as : List Addr} : ∀ {l : List Env}, h.FunFrames base l → (∀ b ∈ frs l, b ∈ as ∧ ∀ o, h.get? b = some o → b ∈ frs l → ∃ sl, h1.get? b = some { o with slots := sl } ∧ ∀ vs, o.data ≠ .fields vs) → h1.FunFrames (PySem.W.hideAll h as) l := by
  intro l
  induction l with
  | nil => intro _ _; trivial
  | cons env r ih =>
    rintro ⟨hk, ⟨L, o, hf, _, ho, hd⟩, hr⟩ hin
    have hL : L ∈ frs (env :: r) := by unfold frs; rw [List.filterMap_cons, hf]; exact List.mem_cons_self
    have hsub : ∀ b ∈ frs r, b ∈ frs (env :: r) := fun b hb => by unfold frs at hb ⊢; rw [List.filterMap_cons, hf]; exact List.mem_cons_of_mem _ hb
    obtain ⟨sl, e1, d1⟩ := (hin L hL).2 o ho hL
    exact ⟨hk, ⟨L, _, hf, PySem.W.hideAll_none as (hin L hL).1, e1, d1⟩, ih hr fun b hb => ⟨(hin b (hsub b hb)).1, fun o e _ => (hin b (hsub b hb)).2 o e (hsub b hb)⟩⟩
theorem blk_frame {scope : Scope} {cl : List (Str × Addr)} {C : Addr} {env : Env} : (blkEnv scope cl C env).frame = env.frame := rfl
theorem note_frame {e : Value} {env env' : Env} (h : env'.frame = env.frame) : noteFrame e env' = noteFrame e env := by
  unfold noteFrame PySem.frameOf
  rw [h]
section
variable {P : Program} {w : World} {K : PySem.W.Frag} {mg : Str → Option Value} {base : Heap} {N : List Str} {qual : Str} {scope : Scope} {f : Addr} {cd : Value} {A : Around} {outer : List Env} {s₀ : Shared} {H₀ : Hp} {E : XK}
theorem xe_blk {E' : XK} {Nb : List Str} {sc : Scope} {cl : List (Str × Addr)} {s2 : Shared} {H2 : Hp} {fp : List Addr} (himp : ∀ c d H, E' c d H → E c d H) :
    Passes (CX1 P w) (blkCx (cx1 P w K mg base N qual scope f cd A outer s₀ H₀ E) Nb sc cl s2 H2 fp) E' := by
  rintro pins σ H s e s' I ⟨x, T, C, H', rfl, F, q⟩ ⟨pins2, σ2, I2, f2⟩
  have fra : (A.deeper (envOfC qual scope s₀.heap.objs.size f cd)).frames = some (envOfC qual scope s₀.heap.objs.size f cd :: outer) := I2.ok.frames
  have hfr : (envOfC qual scope s₀.heap.objs.size f cd).frame = some s₀.heap.objs.size := rfl
  obtain ⟨m, ⟨ob, es, ep, lo, ld, lr⟩, _⟩ := I.loc
  have lfree : H (s2.heap.objs.size + 1) = none := I.free
  have lo : s.heap.get? (s2.heap.objs.size + 1) = some ob := lo
  have Ub : Un (frs (envOfC qual scope s₀.heap.objs.size f cd :: outer)) fp H2 H s2.heap s.heap := I.base
  have fr2 : ∀ b ∈ frs (envOfC qual scope s₀.heap.objs.size f cd :: outer), ∃ o, s2.heap.get? b = some o ∧ ∀ vs, o.data ≠ .fields vs := fun b hb => (I2.stack.mem hb).2
  have fr1 : ∀ b ∈ frs (envOfC qual scope s₀.heap.objs.size f cd :: outer), ∃ o, s.heap.get? b = some o ∧ ∀ vs, o.data ≠ .fields vs := fun b hb => (I.stack.mem hb).2
  have stk : ∀ b ∈ frs (envOfC qual scope s₀.heap.objs.size f cd :: outer), H b = none := I.stkFree
  have ff : s'.heap.FunFrames base (envOfC qual scope s₀.heap.objs.size f cd :: outer) := funs_un I.stack (fun b hb => ⟨hb, stk b hb⟩) F.un
  have sz2 : s₀.heap.objs.size ≤ s2.heap.objs.size := I2.sz
  have hfx : ∀ b ∈ fp, s₀.heap.get? b = none := fun b hb => by
    rcases (f2 b hb).2.2.2.1 with z | z
    · exact absurd (show b ∈ ([] : List Addr) from z) (by simp)
    · exact Heap.get?_none_of_le z
  have U0 : Un (frs (envOfC qual scope s₀.heap.objs.size f cd :: outer)) fp H₀ H s₀.heap s.heap :=
    (Un.mono (show Un (frs outer) [] H₀ H2 s₀.heap s2.heap from I2.base) (fun b hb => by unfold frs at hb ⊢; rw [List.filterMap_cons, hfr]; exact List.mem_cons_of_mem _ hb) fun b z => absurd z (by simp)).trans Ub
  have U : Un (frs (envOfC qual scope s₀.heap.objs.size f cd :: outer)) fp H₀ H' s₀.heap s'.heap := U0.trans (F.un.mono (fun _ hb => hb) fun b z => absurd z (by simp))
  have new0 : ∀ b, s.heap.get? b = none → s₀.heap.get? b = none := fun b hb => by
    cases z : s₀.heap.get? b with
    | none => rfl
    | some o =>
      obtain ⟨o1, e1⟩ := U0.there b o z fun y => by rw [hfx b y] at z; cases z
      rw [hb] at e1; cases e1
  have frH : ∀ b ∈ frs (envOfC qual scope s₀.heap.objs.size f cd :: outer), H' b = none := fun b hb => by
    obtain ⟨o, e1, _⟩ := fr1 b hb
    exact F.un.free b o e1 (stk b hb) (by simp)
  have lnf : (s2.heap.objs.size + 1) ∉ frs (envOfC qual scope s₀.heap.objs.size f cd :: outer) := fun z => by
    obtain ⟨o, e1, _⟩ := fr2 _ z
    exact absurd (Heap.lt_size e1) (Nat.not_lt.mpr (Nat.le_succ _))
  have lo' : s'.heap.get? (s2.heap.objs.size + 1) = some ob := F.un.keep _ _ lo lfree lnf (by simp)
  have lnd : ∀ vs, ob.data ≠ .fields vs := fun vs z => by rw [ld] at z; cases z
  have exn : ∀ b ∈ [x, T, s2.heap.objs.size + 1], s₀.heap.get? b = none ∧ H' b = none := fun b hb => by
    simp only [List.mem_cons, List.not_mem_nil, or_false] at hb
    rcases hb with rfl | rfl | rfl
    · exact ⟨new0 _ F.nx, F.fx⟩
    · exact ⟨new0 _ F.nT, F.fT⟩
    · exact ⟨Heap.get?_none_of_le (Nat.le_trans sz2 (Nat.le_succ _)), F.un.free _ _ lo lfree (by simp)⟩
  obtain ⟨oe, vs, oT, ts, a0, he, hc, h0, hd, h1, hTx, hT, hdT, h3⟩ := F.tr
  have fl : Heap.FlyingW (PySem.W.hideAll s'.heap (frs (envOfC qual scope s₀.heap.objs.size f cd :: outer) ++ [x, T, s2.heap.objs.size + 1])) (envOfC qual scope s₀.heap.objs.size f cd :: outer) x (.ref C) a0 s'.heap :=
    ⟨fun b o e => PySem.W.of_hideAll _ e, PySem.W.hideAll_none _ (by simp), funs_hid ff fun b hb => List.mem_append_left _ hb, oe, vs, T, oT, ts, he, ⟨hc, h0⟩, hd, h1, PySem.W.hideAll_none _ (by simp), hTx, hT, hdT, h3⟩
  show wpAny (model P w) (A.deeper (envOfC qual scope s₀.heap.objs.size f cd)) (noteFrame (.ref x) (blkEnv sc cl (s2.heap.objs.size + 1) (envOfC qual scope s₀.heap.objs.size f cd))) _ _ s'
  rw [note_frame blk_frame]
  refine wpAny_looks_onW fra hfr fl fun h4 held up4 => ?_
  obtain ⟨sl4, l4⟩ := up4 _ _ lo' lnd
  refine ⟨m, ⟨_, es, ep, l4, ld, lr⟩, fun h' sb cenv _ => ?_⟩
  obtain ⟨k1, k2, k3, oe', vs', T', oT', ts', b1, b2, b3, b4, b5, b6, b7, b8, b9⟩ := held
  have nLx : x ≠ s2.heap.objs.size + 1 := fun z => by
    rw [z, l4] at b1; cases b1
    exact lnd _ b3
  have nLT : T' ≠ s2.heap.objs.size + 1 := fun z => by
    rw [z, l4] at b7; cases b7
    exact lnd _ b8
  have c1 : h'.get? x = some oe' := (sb.2 x nLx).trans b1
  have c7 : h'.get? T' = some oT' := (sb.2 T' nLT).trans b7
  have sz3 : 3 < ts'.size := (Array.getElem?_eq_some_iff.mp b9).1
  have oth : ∀ (v : Value) b, b ≠ T' → (h'.update T' (Obj.mapFields (·.setIfInBounds 3 v))).get? b = h'.get? b := fun v b hb => Heap.get?_update_other _ _ fun z => hb z.symm
  have fin : ∀ v : Value, (cx1 P w K mg base N qual scope f cd A outer s₀ H₀ E).xe (.ref x) { s' with heap := h'.update T' (Obj.mapFields (·.setIfInBounds 3 v)) } := fun v => by
    have t7 : (h'.update T' (Obj.mapFields (·.setIfInBounds 3 v))).get? T' = some (Obj.mapFields (·.setIfInBounds 3 v) oT') := Heap.get?_update_self _ c7 (Obj.isFreed_of_fields (Obj.data_mapFields b8 _))
    have t1 : (h'.update T' (Obj.mapFields (·.setIfInBounds 3 v))).get? x = some oe' := (oth v x fun z => b6 z.symm).trans c1
    have hid : ∀ b o, (PySem.W.hideAll s'.heap (frs (envOfC qual scope s₀.heap.objs.size f cd :: outer) ++ [x, T, s2.heap.objs.size + 1])).get? b = some o → b ≠ T' ∧ b ≠ s2.heap.objs.size + 1 := fun b o e => ⟨(fun z => by rw [z, b5] at e; cases e), (fun z => by rw [z, PySem.W.hideAll_none _ (by simp)] at e; cases e)⟩
    have slot5 : ∀ b o, s'.heap.get? b = some o → b ∈ frs (envOfC qual scope s₀.heap.objs.size f cd :: outer) → ∃ sl, (h'.update T' (Obj.mapFields (·.setIfInBounds 3 v))).get? b = some { o with slots := sl } ∧ ∀ vs, o.data ≠ .fields vs := fun b o e hb => by
      obtain ⟨o1, e1, d1⟩ := fr1 b hb
      obtain ⟨sl1, e2⟩ := F.un.slot b o1 e1 (stk b hb) hb (by simp)
      rw [e] at e2; cases e2
      obtain ⟨sl, e4⟩ := up4 b _ e d1
      refine ⟨sl, ?_, d1⟩
      rw [oth v b fun z => by rw [z, b7] at e4; cases e4; exact d1 _ b8, sb.2 b fun z => lnf (z ▸ hb)]
      exact e4
    show wpAny (model P w) (A.deeper (envOfC qual scope s₀.heap.objs.size f cd)) (leaving (envOfC qual scope s₀.heap.objs.size f cd) (.ref x)) _ _ _
    refine leave_any (base := PySem.W.hideAll s'.heap (frs (envOfC qual scope s₀.heap.objs.size f cd :: outer) ++ [x, T, s2.heap.objs.size + 1])) (c := .ref C) (a0 := a0) (fl := v) fra hfr (fun b o e => ?_) k2 (funs_hid' ff fun b hb => ⟨List.mem_append_left _ hb, slot5 b⟩) ⟨oe', vs', T', _, _, t1, b2, b3, b4, b5, b6, t7, Obj.data_mapFields b8 _, by simp [sz3]⟩ fun h6 fl6 up6 => ?_
    · rw [oth v b (hid b o e).1, sb.2 b (hid b o e).2]
      exact k1 b o e
    · obtain ⟨g1, g2, g3, oe6, vs6, T6, oT6, ts6, d1, d2, d3, d4, d5, d6, d7, d8, d9⟩ := fl6
      have slot6 : ∀ b o, s'.heap.get? b = some o → b ∈ frs (envOfC qual scope s₀.heap.objs.size f cd :: outer) → ∃ sl, h6.get? b = some { o with slots := sl } := fun b o e hb => by
        obtain ⟨sl, e5, d5⟩ := slot5 b o e hb
        obtain ⟨sl6, e6⟩ := up6 b _ e5 d5
        exact ⟨sl6, e6⟩
      have T6s : ∀ o, s'.heap.get? T6 = some o → T6 ∈ [x, T, s2.heap.objs.size + 1] := fun o e => by
        by_cases z : T6 ∈ frs (envOfC qual scope s₀.heap.objs.size f cd :: outer) ++ [x, T, s2.heap.objs.size + 1]
        · rcases List.mem_append.mp z with z | z
          · obtain ⟨sl, e5, d5⟩ := slot5 T6 o e z
            obtain ⟨sl6, e6⟩ := slot6 T6 o e z
            rw [d7] at e6; cases e6
            exact absurd d8 (d5 _)
          · exact z
        · rw [PySem.W.hideAll_get _ e z] at d5; cases d5
      refine ⟨x, T6, C, H', rfl, fly_all (s' := s') (env := envOfC qual scope s₀.heap.objs.size f cd) (fx := fp) (ex := [x, T, s2.heap.objs.size + 1]) (F.os.trans (I.os.trans I2.os)) F.bare hfr (Heap.get?_none_of_le (Nat.le_refl _)) U hfx frH F.hok exn
        (fun b o e hb hx => g1 b o (PySem.W.hideAll_get _ e fun z => (List.mem_append.mp z).elim hb hx)) slot6 (new0 _ F.nx) F.fx ?_ ?_ ⟨oe6, vs6, oT6, ts6, a0, d1, d2.1, d2.2, d3, d4, d6, d7, d8, d9⟩, himp _ _ _ q⟩
      · cases z : s'.heap.get? T6 with
        | some o => exact (exn _ (T6s o z)).1
        | none =>
          cases y : s₀.heap.get? T6 with
          | none => rfl
          | some o =>
            obtain ⟨o1, e1⟩ := U.there T6 o y fun u => by rw [hfx _ u] at y; cases y
            rw [z] at e1; cases e1
      · cases z : H' T6 with
        | none => rfl
        | some o =>
          obtain ⟨u, e1⟩ := (F.hok T6 o z).ob
          rw [(exn _ (T6s u e1)).2] at z; cases z
  unfold PySem.passOn
  refine wpAny_bind (wpAny_field (s := { s' with heap := h' }) c1 b3 b4 ?_)
  rw [if_neg (by simp)]
  refine wpAny_bind ?_
  unfold setFlight
  refine wpAny_bind (wpAny_field (s := { s' with heap := h' }) c1 b3 b4 ?_)
  rw [if_pos (by simp)]
  exact wpAny_setField (s := { s' with heap := h' }) c7 b8 sz3 (wpAny_throw (fin _))
end
end L2
set_option Elab.async false
set_option linter.all false
set_option maxRecDepth 100000
namespace L2
open PySem PySem.Spec PyProof.Rows
end L2
set_option Elab.async false
set_option linter.all false
set_option maxRecDepth 100000
namespace L2
open PySem PySem.Spec PyProof.Rows
section
variable {X : Cx} {e : Expr} {es rs : List Expr} {te : TE} {t : TA}
theorem pa_consC {c : Const} {k} {p : Pos} (ha : PE X (.Constant c k p) te) (hr : PA X es t) : PA X (.Constant c k p :: es) (tCons te t) := pa_cons ha hr
end
end L2
set_option Elab.async false
set_option linter.all false
set_option maxRecDepth 100000
namespace L2
open PySem PySem.Spec PyProof.Rows
structure Z5 where
  P : Program
  w : World
  K : PySem.W.Frag
  mg : Str → Option Value
  base : Heap
structure Bt3 (Z : Z5) : Prop extends Bt2 Z.mg where
  ns : ∀ {x : Str} {v : Value}, PySem.W.nsIn Z.K mainGlobals x = some (some v) → Z.mg x = some v
def Nn (K : PySem.W.Frag) (b : Str) : Prop := PySem.W.nsIn K mainGlobals b = some none
def Zn (K : PySem.W.Frag) : Prop := Nn K "len" ∧ Nn K "abs" ∧ Nn K "min" ∧ Nn K "max" ∧ Nn K "sorted" ∧ Nn K "any" ∧ Nn K "isinstance" ∧ Nn K "list" ∧ Nn K "int" ∧ Nn K "bool" ∧ Nn K "str" ∧ Nn K "tuple" ∧ Nn K "reversed" ∧ Nn K "set" ∧ Nn K "range" ∧ Nn K "zip" ∧ Nn K "all" ∧ Nn K "sum" ∧ Nn K "enumerate"
theorem bt3_of {Z : Z5} {h : Heap} (X : Z.K.In h) (G : h.Ns mainGlobals Z.mg) (z : Zn Z.K) : Bt3 Z := by
  obtain ⟨a, b, c, d, e, f, g, i, j, k, l, m, n, o, p, q, r, s, t⟩ := z
  have N : ∀ {b : Str}, Nn Z.K b → Z.mg b = none := fun h => PySem.W.mg_none_of X G h
  exact ⟨⟨⟨N a, N b, N c, N d, N e, N f, N g, N i, N j, N k, N l, N m, N n, N o, N p, N q⟩, N r, N s, N t⟩, fun h => PySem.W.mg_of X G h⟩
structure De (K : PySem.W.Frag) (x : Str) (st : Stmt) : Prop where
  ex : ∃ (f : Addr) (fd : FuncData), PySem.W.nsIn K mainGlobals x = some (some (.ref f)) ∧ Fun K x x st f fd
section
variable {Z : Z5} {K : PySem.W.Frag} {x1 x2 x3 x4 x5 x6 x7 x8 f : Addr} {m : Str} {v : Option Value}
variable {N ps : List Str} {k k' : Nat} {sp sp' : Sp} {t : TS} {x qual : Str} {st : Stmt}
abbrev Hb (Z : Z5) (N : List Str) (qual : Str) (st : Stmt) (f : Addr) (k : Nat) (t : TS) : Prop := ∀ {cdv : Value} {A : Around} {outer : List Env} {s : Shared} {H : Hp} {E : XK}, Room k (A.deeper (envOfC qual (defScope st) s.heap.objs.size f cdv)) → (A.deeper (envOfC qual (defScope st) s.heap.objs.size f cdv)).units + 64 < cLine → N.Nodup → PSs (cxOf CX0 Z.P Z.w Z.K Z.mg Z.base N qual (defScope st) f cdv A outer s H E).nox (defBody st) t
abbrev Rk (N : List Str) (sp : Sp) (t : TS) : Prop := ∀ {vs H Q E}, sp vs H Q E → t { nx := fun _ H' => Q .non H', rt := Q } (start N vs) H
abbrev Ln (ps : List Str) (sp : Sp) : Prop := ∀ {vs H Q E}, sp vs H Q E → vs.length = ps.length
abbrev Bd (x qual : Str) (st : Stmt) (ps : List Str) : Prop := ∀ (kV doc pm : Value) (an : Option Addr) (cdv ct : Value) (us : List Value), us.length = ps.length → bindArgs (PySem.W.fnOf x qual (defArgs st) (defBody st) (defScope st) .none kV doc pm an cdv ct) ⟨us, []⟩ = pure (ps.zip us)
theorem okf {f : Addr} {fd : FuncData} (F : Fun Z.K x qual st f fd) (S : FnScope N ps (defScope st)) (rk : Rk N sp t) (hb : Hb Z N qual st f k t) (len : Ln ps sp) : FnOk Z.P Z.w Z.K Z.mg Z.base CX0 (k + 1) f fd ps sp := F.ok S (fun _ _ _ _ h => len h) fun cdv A outer s H vs Q E hr h => ⟨t, hb hr hr.units S.nd, rk h⟩
local macro_rules | `(tactic| walk_at "l") => `(tactic| (intro vs H Q E h; (repeat obtain ⟨_, h⟩ := h); subst_vars; rfl))
theorem cut1 {α : Type} {us : List α} {n : Nat} (e : us.length = n + 1) : ∃ u t, t.length = n ∧ us = u :: t := by
  cases us with
  | nil => cases e
  | cons u t => exact ⟨u, t, Nat.succ.inj e, rfl⟩
theorem bd1 {a0 : Str} (h : ∀ kV doc pm an cdv ct u0, bindArgs (PySem.W.fnOf x qual (defArgs st) (defBody st) (defScope st) .none kV doc pm an cdv ct) ⟨[u0], []⟩ = pure ([a0].zip [u0]) := by intros; rfl) : Bd x qual st [a0] := by
  intro _ _ _ _ _ _ _ e; (iterate 1 (obtain ⟨_, _, f, rfl⟩ := cut1 e; clear e; have e := f; clear f)); cases List.eq_nil_of_length_eq_zero e; exact h ..
theorem bd2 {a0 a1 : Str} (h : ∀ kV doc pm an cdv ct u0 u1, bindArgs (PySem.W.fnOf x qual (defArgs st) (defBody st) (defScope st) .none kV doc pm an cdv ct) ⟨[u0, u1], []⟩ = pure ([a0, a1].zip [u0, u1]) := by intros; rfl) : Bd x qual st [a0, a1] := by
  intro _ _ _ _ _ _ _ e; (iterate 2 (obtain ⟨_, _, f, rfl⟩ := cut1 e; clear e; have e := f; clear f)); cases List.eq_nil_of_length_eq_zero e; exact h ..
local macro_rules | `(tactic| ac_rfl) => `(tactic| exact ⟨rfl, rfl, rfl, by decide +kernel, rfl, by decide +kernel, by decide +kernel⟩)
theorem okc (B : Bt3 Z) (D : De Z.K x st) (rk : Rk N sp t) (b : Bd x x st ps) (hb : ∀ {f}, Hb Z N x st f k t) (S : FnScope N ps (defScope st) := by ac_rfl) (len : Ln ps sp := by walk_at "l") : Cal Z.P Z.w Z.K Z.mg Z.base (k + 1) x ps sp :=
  let ⟨f, fd, a, F⟩ := D.ex
  ⟨f, fd, okf F S rk hb len, B.ns a, F.kp, F.binds b⟩
theorem De.of {K : PySem.W.Frag} {f : Addr} {fd : FuncData} (a : PySem.W.nsIn K mainGlobals x = some (some (.ref f))) (F : Fun K x x st f fd) : De K x st := ⟨f, fd, a, F⟩
structure GT0 (K : PySem.W.Frag) (x : Str) (ws : List Str) : Prop where
  ex : ∃ (p : Addr) (o : Obj) (its : Array Value) (n : Nat), PySem.W.nsIn K mainGlobals x = some (some (.ref p)) ∧ K.lookup p = some o ∧ o.cls = .type "tuple" ∧ o.data = .seq its n ∧ its.size ≤ sizeLine ∧ Vals (ws.map V.str) its.toList
theorem GT0.mk' {K : PySem.W.Frag} {ws : List Str} {p : Addr} {o : Obj} {its : Array Value} {n : Nat} (a : PySem.W.nsIn K mainGlobals x = some (some (.ref p))) (b : K.lookup p = some o) (c : o.cls = .type "tuple") (d : o.data = .seq its n) (e : its.size ≤ sizeLine) (v : Vals (ws.map V.str) its.toList) : GT0 K x ws := ⟨p, o, its, n, a, b, c, d, e, v⟩
theorem GT0.of {ws : List Str} (g : GT0 Z.K x ws) (B : Bt3 Z) : GTup Z.K Z.mg x ws := let ⟨p, o, i, n, a, r⟩ := g.ex; ⟨p, o, i, n, B.ns a, r⟩
end
section
variable {X : Cx} {a b e : Expr} {ta tb te : TE} {pos pos' p : Pos} {x : Str} {es : List Expr} {t : TA} {ps : List Str} {sp : Sp} {k n : Nat}
theorem kcal (C : Cal X.prog X.w X.K X.mg X.base k x ps sp) (hr : Room n X.A) (ha : PA X (e :: es) t) (hk : k ≤ n := by decide) (hg : Gl X x := by exact rfl) (hdb : (x == ("__debug__" : Str)) = false := by decide) (he : starEach (e :: es) X.env = (false, eval e X.env) :: starEach es X.env := by rfl) (hpl : (backTo pos (starEach es X.env)).any (·.1) = false := by rfl) : PE X (.Call (.Name x p) (e :: es) [] pos) (tCall sp [] E0 t) := pe_cal C hr hk hg ha hdb he hpl
theorem kix (hu : X.A.units + 64 < cLine) (ha : PE X a ta) (hb : PE X b tb) (hs : PlainIx b := by exact fun _ _ => rfl) : PE X (.Subscript a b pos) (tOp cIx ta tb) := pe_ix (ix_c hu) ha hb hs
theorem kset (i : Nat) (hN : X.N.Nodup) (he : PE X e te) (hi : X.N[i]? = some x := by exact rfl) (hx : Loc X.env.scope x := by exact Or.inl rfl) (hs : swapsWith e (some (.Name x pos')) pos.line X.env = pure false := by rfl) (hf : X.fn x = true ∨ X.env.scope.names.lookup x = some .local := by first | exact .inl rfl | exact .inr rfl | assumption) : PS X (.Assign [.Name x pos'] e pos) (tAsg te (gName i)) := ps_set hN hi hx he hs hf
end
end L2
set_option Elab.async false
set_option linter.all false
set_option maxRecDepth 100000
namespace L2
open PySem PySem.Spec PyProof.Rows
section
variable {Z : Z5} {ps : List Str} {k k' : Nat} {sp : Sp} {x : Str} {st : Stmt}
theorem Cal.up (C : Cal Z.P Z.w Z.K Z.mg Z.base k x ps sp) (h : k ≤ k') : Cal Z.P Z.w Z.K Z.mg Z.base k' x ps sp :=
  let ⟨f, fd, F, a, b, c⟩ := C.ex
  ⟨f, fd, F.mono h, a, b, c⟩
theorem Cal1.up (C : Cal1 Z.P Z.w Z.K Z.mg Z.base k x ps sp) (h : k ≤ k') : Cal1 Z.P Z.w Z.K Z.mg Z.base k' x ps sp :=
  let ⟨f, fd, F, a, b, c⟩ := C.ex
  ⟨f, fd, F.mono h, a, b, c⟩
theorem calF1 (B : Bt3 Z) (D : De Z.K x st) (b : Bd x x st ps) (h : ∀ {vs H Q E}, sp vs H Q E → False) : Cal1 Z.P Z.w Z.K Z.mg Z.base k x ps sp :=
  let ⟨f, fd, a, F⟩ := D.ex
  ⟨f, fd, ⟨fun _ _ _ _ q => (h q).elim, fun _ _ _ _ _ _ _ _ _ _ _ _ _ q => (h q).elim⟩, B.ns a, F.kp, F.binds b⟩
theorem calF (B : Bt3 Z) (D : De Z.K x st) (b : Bd x x st ps) (h : ∀ {vs H Q E}, sp vs H Q E → False) : Cal Z.P Z.w Z.K Z.mg Z.base k x ps sp :=
  let ⟨f, fd, a, F⟩ := D.ex
  ⟨f, fd, ⟨fun _ _ _ _ q => (h q).elim, fun _ _ _ _ _ _ _ _ _ _ _ _ _ q => (h q).elim⟩, B.ns a, F.kp, F.binds b⟩
end
section
variable {X : Cx} {e : Expr} {pos p : Pos} {x : Str} {es : List Expr} {t : TA} {ps : List Str} {sp : Sp} {k n : Nat}
theorem kcaO (C : Cal X.prog X.w X.K X.mg X.base k x ps sp) (hr : Room n X.A) (ha : PA X (e :: es) t) (hk : k ≤ n := by omega) (hg : Gl X x := by exact rfl) (hdb : (x == ("__debug__" : Str)) = false := by decide) (he : starEach (e :: es) X.env = (false, eval e X.env) :: starEach es X.env := by rfl) (hpl : (backTo pos (starEach es X.env)).any (·.1) = false := by rfl) : PE X (.Call (.Name x p) (e :: es) [] pos) (tCall sp [] E0 t) := pe_cal C hr hk hg ha hdb he hpl
end
end L2
set_option Elab.async false
set_option linter.all false
set_option maxRecDepth 100000
namespace L2
open PySem PySem.Spec PyProof.Rows
local macro_rules | `(tactic| walk_at "l") => `(tactic| (intro vs H Q E h; (repeat obtain ⟨_, h⟩ := h); subst_vars; rfl))
local macro_rules | `(tactic| ac_rfl) => `(tactic| exact ⟨rfl, rfl, rfl, by decide +kernel, rfl, by decide +kernel, by decide +kernel⟩)
structure ErrMx (mg : Str → Option Value) (a : EA) : Prop where
  ClueError : mg "ClueError" = some (.ref a.ClueError)
  NoFilling : mg "NoFilling" = some (.ref a.NoFilling)
  NoRule : mg "NoRule" = some (.ref a.NoRule)
  NoText : mg "NoText" = some (.ref a.NoText)
  NoRow : mg "NoRow" = some (.ref a.NoRow)
  BadThought : mg "BadThought" = some (.ref a.BadThought)
def top (i : Nat) : Stmt := PySem.Challenge.pw_cluemaker_k71_texts_of_books_refused.main.body.getD i (.Pass ⟨0, 0, 0, 0⟩)
abbrev c_number_in (Z : Z5) : Prop := Cal Z.P Z.w Z.K Z.mg Z.base 1 "number_in" ["word"] (sp_number_in18 Z.K)
abbrev c_refuse_no_text (Z : Z5) : Prop := Cal1 Z.P Z.w Z.K Z.mg Z.base 1 "refuse_no_text" ["text"] (sp_refuse_no_text71 Z.K)
abbrev c_thought_texts (Z : Z5) : Prop := Cal1 Z.P Z.w Z.K Z.mg Z.base 1 "thought_texts" ["text"] (sp_thought_texts71 Z.K)
abbrev c__law_cell_at (Z : Z5) : Prop := Cal Z.P Z.w Z.K Z.mg Z.base 1 "_law_cell_at" ["_law_script", "_law_k"] (sp__law_cell_at Z.K)
abbrev c__law_number (Z : Z5) : Prop := Cal Z.P Z.w Z.K Z.mg Z.base 1 "_law_number" ["_law_cell"] (sp__law_number70 Z.K)
abbrev c_read_numbers (Z : Z5) : Prop := Cal1 Z.P Z.w Z.K Z.mg Z.base 2 "read_numbers" ["words"] (sp_read_numbers71 Z.K)
abbrev c__law_thought (Z : Z5) : Prop := Cal Z.P Z.w Z.K Z.mg Z.base 2 "_law_thought" ["_law_script", "_law_at"] (sp__law_thought71 Z.K)
abbrev c__law_line (Z : Z5) (n : Nat) : Prop := Cal Z.P Z.w Z.K Z.mg Z.base (1 * n + 0) "_law_line" ["_law_thought_here"] (sp__law_line71 Z.K n)
abbrev c__law_odd_number (Z : Z5) : Prop := Cal Z.P Z.w Z.K Z.mg Z.base 2 "_law_odd_number" ["_law_cell"] (sp__law_odd_number71 Z.K)
abbrev c_read_plain (Z : Z5) : Prop := Cal1 Z.P Z.w Z.K Z.mg Z.base 3 "read_plain" ["text"] (sp_read_plain71 Z.K)
abbrev c__law_bent (Z : Z5) : Prop := Cal Z.P Z.w Z.K Z.mg Z.base 3 "_law_bent" ["_law_line_here", "_law_cell"] (sp__law_bent71 Z.K)
abbrev c_read_supposing (Z : Z5) (n : Nat) : Prop := Cal1 Z.P Z.w Z.K Z.mg Z.base (3 * n + 4) "read_supposing" ["text", "depth"] (sp_read_supposing71 Z.K n)
abbrev c_read_thought (Z : Z5) (n : Nat) : Prop := Cal1 Z.P Z.w Z.K Z.mg Z.base (3 * n + 5) "read_thought" ["text", "depth"] (sp_read_thought71 Z.K n)
abbrev c_read_inner (Z : Z5) (n : Nat) : Prop := Cal1 Z.P Z.w Z.K Z.mg Z.base (3 * n + 3) "read_inner" ["text", "depth"] (sp_read_inner71 Z.K n)
abbrev c_read_book (Z : Z5) : Prop := Cal1 Z.P Z.w Z.K Z.mg Z.base 55 "read_book" ["text"] (sp_read_book71 Z.K)
abbrev c__law_refused (Z : Z5) : Prop := Cal Z.P Z.w Z.K Z.mg Z.base 56 "_law_refused" ["_law_text"] (sp__law_refused71 Z.K)
section
variable {Z : Z5} (Bz : Bt3 Z)
include Bz
set_option maxHeartbeats 4000000
abbrev s_number_in : Stmt := top 12
theorem fn_number_in {t_FIGURES : Tok} (C_FIGURES : Z.mg "FIGURES" = some (.str (tx [48, 49, 50, 51, 52, 53, 54, 55, 56, 57]) t_FIGURES)) {t_MOST_FIGURES : Tok} (C_MOST_FIGURES : Z.mg "MOST_FIGURES" = some (.int 9 t_MOST_FIGURES)) (D : De Z.K "number_in" s_number_in) : c_number_in Z := okc Bz D rk_number_in18 bd1 fun hr hu nd => (pss_cons (ps_if (PW.pt (pw_or (pt_cmpR (op_cEq hu) (pv 0) pe_str (nomark _)) (pw_or (pt_cmpR op_cGt (pe_callB call_kLen rfl Bz.len_ bt_len (pa_cons (pv 0) pa_nil)) (pe_glob rfl C_MOST_FIGURES ⟨t_MOST_FIGURES, rfl⟩) (nomark _)) (pw_or1 (PW.pt (pw_and (pt_cmpR (op_cEq hu) (kix hu (pv 0) pe_int) pe_str (nomark _)) (pw_and1 (pt_cmpR (op_cNe hu) (pv 0) pe_str (nomark _))))))))) (pss_one (ps_ret pe_non)) pss_nil)
      (pss_cons (ps_if (pt_not (pt_val (pe_callB (call_kAll rfl) rfl Bz.all_ bt_all (pa_cons (pe_comp (ix := [none, none]) [".0", "figure"] (blk_ok2 rfl (by decide +kernel) rfl rfl rfl) rfl (pi_str (pv 0)) (fun cl s H fp => (pg_name (i := 1) (show ([".0", "figure"] : List Str).Nodup by decide +kernel) rfl (Or.inl rfl))) (fun cl s H fp => pts_nil) (fun cl s H fp => (pe_cmpR (op_cIn hu) (pv 1) (pe_glob rfl C_FIGURES ⟨t_FIGURES, rfl⟩) (by with_unfolding_all rfl)))) pa_nil)))) (pss_one (ps_ret pe_non)) pss_nil)
      (pss_one (ps_ret (pe_callTy call_kInt4 rfl Bz.int_ bt_int (pa_cons (pv 0) pa_nil))))))
abbrev s_refuse_no_text : Stmt := top 16
theorem fn_refuse_no_text {a : EA} (EM : ErrMx Z.mg a) (R_NoText : Ref1 Z.K a "NoText" a.NoText (os71 a)) (D : De Z.K "refuse_no_text" s_refuse_no_text) : c_refuse_no_text Z := by
  obtain ⟨f, fd, a0, F⟩ := D.ex
  have sc : FnScope ["text"] ["text"] (defScope s_refuse_no_text) := by ac_rfl
  refine ⟨f, fd, F.ok1 sc (fun vs H Q E h => sl_refuse_no_text71 h) (fun cdv A outer s H vs Q E hr h => ?_), Bz.ns a0, F.kp, F.binds bd1⟩
  have hu := hr.units
  have nd := sc.nd
  refine ⟨rd_refuse_no_text71 Z.K a E, ?_, rk_refuse_no_text71 R_NoText h⟩
  exact (pss_one (ps_if (pt_not (pt_val (pe_callB call_kIsi rfl Bz.isinstance_ bt_isinstance (pa_cons (pv 0) (pa_cons (pe_bltn (v := .ty "str") rfl Bz.str_ bt_str rfl) pa_nil))))) (pss_one (ps_raise R_NoText.xc rfl EM.NoText (pa_cons pe_str pa_nil))) pss_nil))
abbrev s_thought_texts : Stmt := top 18
theorem fn_thought_texts {t_BETWEEN_ROWS : Tok} (C_BETWEEN_ROWS : Z.mg "BETWEEN_ROWS" = some (.str (tx [59, 32]) t_BETWEEN_ROWS)) {a : EA} (EM : ErrMx Z.mg a) (R_NoText : Ref1 Z.K a "NoText" a.NoText (os71 a)) (D : De Z.K "thought_texts" s_thought_texts) : c_thought_texts Z := by
  obtain ⟨f, fd, a0, F⟩ := D.ex
  have sc : FnScope ["text", "found", "held", "unclosed", "piece"] ["text"] (defScope s_thought_texts) := by ac_rfl
  refine ⟨f, fd, F.ok1 sc (fun vs H Q E h => sl_thought_texts71 h) (fun cdv A outer s H vs Q E hr h => ?_), Bz.ns a0, F.kp, F.binds bd1⟩
  have hu := hr.units
  have nd := sc.nd
  refine ⟨rd_thought_texts71 Z.K a E, ?_, rk_thought_texts71 R_NoText h⟩
  exact (pss_cons (kset 1 nd (pe_lst pa_nil))
      (pss_cons (kset 2 nd (pe_lst pa_nil))
      (pss_cons (kset 3 nd pe_int)
      (pss_cons (ps_for PassesOwn.leaving rfl (pi_list (pe_bm PySem.F.plainAttrs_str PySem.F.slot_str_split PySem.F.type_str_split mt_kSplit (pv 0) (pa_cons (pe_glob rfl C_BETWEEN_ROWS ⟨t_BETWEEN_ROWS, rfl⟩) pa_nil))) (pg_name (i := 4) nd rfl (Or.inl rfl))
      (pss_cons (ps_expr (pe_bm PySem.F.plainAttrs_list PySem.F.slot_list_append PySem.F.type_list_append mt_kAppend (pv 2) (pa_cons (pv 4) pa_nil)))
      (pss_cons (kset 3 nd (pe_op op_cSub (pe_op op_cAdd (pv 3) (pe_bm PySem.F.plainAttrs_str PySem.F.slot_str_count PySem.F.type_str_count mt_kCountS (pv 4) (pa_cons pe_str pa_nil))) (pe_bm PySem.F.plainAttrs_str PySem.F.slot_str_count PySem.F.type_str_count mt_kCountS (pv 4) (pa_cons pe_str pa_nil))))
      (pss_one (ps_if (pt_cmpR (op_cEq hu) (pv 3) pe_int (nomark _)) (pss_cons (ps_expr (pe_bm PySem.F.plainAttrs_list PySem.F.slot_list_append PySem.F.type_list_append mt_kAppend (pv 1) (pa_cons (pe_bm PySem.F.plainAttrs_str PySem.F.slot_str_join PySem.F.type_str_join mt_kJoin (pe_glob rfl C_BETWEEN_ROWS ⟨t_BETWEEN_ROWS, rfl⟩) (pa_cons (pv 2) pa_nil)) pa_nil)))
      (pss_one (kset 2 nd (pe_lst pa_nil)))) pss_nil)))))
      (pss_cons (ps_if (pt_cmpR (op_cNe hu) (pv 2) (pe_lst pa_nil) (nomark _)) (pss_one (ps_raise R_NoText.xc rfl EM.NoText (pa_cons pe_str pa_nil))) pss_nil)
      (pss_one (ps_ret (pv 1))))))))
abbrev s__law_cell_at : Stmt := top 25
theorem fn__law_cell_at (D : De Z.K "_law_cell_at" s__law_cell_at) : c__law_cell_at Z := okc Bz D rk__law_cell_at bd2 fun hr hu nd => (pss_cons (ps_if (pt_cmpR (op_cEq hu) (pe_callB call_len_seq rfl Bz.len_ bt_len (pa_cons (pv 0) pa_nil)) pe_int (nomark _)) (pss_one (ps_ret (pe_op op_cMod (pe_op op_cAdd (pe_op op_cMul (pe_op op_cMul (pv 1) (pv 1)) pe_int) (pe_op op_cMul pe_int (pv 1))) pe_int))) pss_nil)
      (pss_cons (kset 2 nd (pe_op op_cMod (pe_ix ix_list (pv 0) (pe_op op_cMod (pv 1) (pe_callB call_len_seq rfl Bz.len_ bt_len (pa_cons (pv 0) pa_nil))) (fun _ _ => rfl)) pe_int))
      (pss_cons (ps_if (pt_cmpR op_cLt (pv 1) (pe_callB call_len_seq rfl Bz.len_ bt_len (pa_cons (pv 0) pa_nil)) (nomark _)) (pss_one (ps_ret (pv 2))) pss_nil)
      (pss_one (ps_ret (pe_op op_cMod (pe_op op_cAdd (pe_op op_cMul (pv 2) pe_int) (pe_op op_cMul (pe_op op_cMul (pv 1) (pv 1)) pe_int)) pe_int))))))
abbrev s__law_number : Stmt := top 26
theorem fn__law_number (D : De Z.K "_law_number" s__law_number) : c__law_number Z := okc Bz D rk__law_number70 bd1 fun hr hu nd => (pss_one (ps_ret (kix hu (pe_lst (pa_cons (pe_op op_cMod (pv 0) pe_int) (pa_cons (pe_op op_cMod (pv 0) pe_int) (pa_cons (pe_op op_cMod (pv 0) pe_int) (pa_cons pe_int pa_nil))))) (pe_op op_cMod (pe_op op_cDiv (pv 0) pe_int) pe_int))))
abbrev s_read_numbers : Stmt := top 17
theorem fn_read_numbers (C_number_in : c_number_in Z) {a : EA} (EM : ErrMx Z.mg a) (R_NoText : Ref1 Z.K a "NoText" a.NoText (os71 a)) (D : De Z.K "read_numbers" s_read_numbers) : c_read_numbers Z := by
  obtain ⟨f, fd, a0, F⟩ := D.ex
  have sc : FnScope ["words", "numbers"] ["words"] (defScope s_read_numbers) := by ac_rfl
  refine ⟨f, fd, F.ok1 sc (fun vs H Q E h => sl_read_numbers71 h) (fun cdv A outer s H vs Q E hr h => ?_), Bz.ns a0, F.kp, F.binds bd1⟩
  have hu := hr.units
  have nd := sc.nd
  refine ⟨rd_read_numbers71 Z.K a E, ?_, rk_read_numbers71 R_NoText h⟩
  exact (pss_cons (ps_comp (k := 1) nd rfl (Or.inl rfl) rfl (ix := [none, none]) [".0", "word"] (blk_ok2 rfl (by decide +kernel) rfl rfl rfl) rfl (pi_list (pv 0)) (fun cl s H fp => (pg_name (i := 1) (show ([".0", "word"] : List Str).Nodup by decide +kernel) rfl (Or.inl rfl))) (fun cl s H fp => pts_nil) (fun cl s H fp => (kcal C_number_in hr (pa_cons (pv 1) pa_nil))))
      (pss_cons (ps_if (pt_cmpR (op_cIn hu) pe_non (pv 1) (by with_unfolding_all rfl)) (pss_one (ps_raise R_NoText.xc rfl EM.NoText (pa_cons pe_str pa_nil))) pss_nil)
      (pss_one (ps_ret (pv 1)))))
abbrev s__law_thought : Stmt := top 27
theorem fn__law_thought (C__law_cell_at : c__law_cell_at Z) (C__law_number : c__law_number Z) (D : De Z.K "_law_thought" s__law_thought) : c__law_thought Z := okc Bz D rk__law_thought71 bd2 fun hr hu nd => by
  refine pss_cons ?_ ?_
  · exact (kset 2 nd (kcal C__law_cell_at hr (pa_cons (pv 0) (pa_cons (pv 1) pa_nil))))
  · refine pss_cons ?_ ?_
    · refine ps_set (i := 3) ?n ?a ?b ?e ?c ?d
      case n => exact nd
      case a => exact rfl
      case b => exact Or.inl rfl
      case d => exact .inl rfl
      case c => rfl
      case e =>
        refine pe_lst ?_
        refine pa_consC pe_str ?_
        refine pa_consC pe_str ?_
        refine pa_consC pe_str ?_
        refine pa_consC pe_str ?_
        refine pa_consC pe_str ?_
        refine pa_consC pe_str ?_
        refine pa_consC pe_str ?_
        refine pa_consC pe_str ?_
        refine pa_consC pe_str ?_
        refine pa_consC pe_str ?_
        refine pa_consC pe_str ?_
        refine pa_consC pe_str ?_
        exact pa_nil
    · refine pss_cons ?_ ?_
      · exact (kset 4 nd (kix hu (pv 3) (pe_op op_cMod (pv 2) pe_int)))
      · refine pss_cons ?_ ?_
        · exact (ps_comp (k := 5) nd rfl (Or.inl rfl) rfl (ix := [none, none, some 1, some 0]) [".0", "_law_k", "_law_at", "_law_script"] (blk_ok2 rfl (by decide +kernel) rfl rfl rfl) rfl (pi_range1 rfl Bz.range_ (pa_cons pe_int pa_nil)) (fun cl s H fp => (pg_name (i := 1) (show ([".0", "_law_k", "_law_at", "_law_script"] : List Str).Nodup by decide +kernel) rfl (Or.inl rfl))) (fun cl s H fp => pts_nil) (fun cl s H fp => (kcal C__law_number hr (pa_cons (kcal C__law_cell_at hr (pa_cons (pv 3) (pa_cons (pe_op op_cAdd (pe_op op_cAdd (pv 2) (pe_op op_cMul pe_int (pv 1))) pe_int) pa_nil))) pa_nil))))
        · refine pss_cons ?_ ?_
          · exact (ps_if (pt_cmpR (op_cEq hu) (pv 4) pe_str (nomark _)) (pss_cons (kset 6 nd (pe_slice sl_c2 (pe_lst (pa_cons (pe_tup (pa_cons pe_str (pa_cons (kix hu (pv 5) pe_int) (pa_cons (kix hu (pv 5) pe_int) (pa_cons (kix hu (pv 5) pe_int) (pa_cons (pe_lst pa_nil) pa_nil)))))) pa_nil)) po_none (po_some (pe_op op_cMod (pe_op op_cDiv (pv 2) pe_int) pe_int)))) (pss_one (ps_ret (pe_tup (pa_cons (pv 4) (pa_cons (kix hu (pv 5) pe_int) (pa_cons (kix hu (pv 5) pe_int) (pa_cons (kix hu (pv 5) pe_int) (pa_cons (pv 6) pa_nil))))))))) pss_nil)
          · refine pss_one ?_
            · refine ps_ret ?_
              · refine pe_tup ?_
                · refine pa_cons ?_ ?_
                  · exact (pv 4)
                  · refine pa_cons ?_ ?_
                    · exact (kix hu (pv 5) pe_int)
                    · refine pa_cons ?_ ?_
                      · exact (kix hu (pv 5) pe_int)
                      · exact (pa_cons (kix hu (pv 5) pe_int) (pa_cons (pe_slice sl_c2 (pv 5) (po_some pe_int) (po_some (pe_op op_cAdd pe_int (pe_op op_cMod (pe_op op_cDiv (pv 2) pe_int) pe_int)))) pa_nil))
abbrev s__law_line : Stmt := top 28
theorem fn__law_line {n : Nat} (C__law_line : c__law_line Z n) (D : De Z.K "_law_line" s__law_line) : Cal Z.P Z.w Z.K Z.mg Z.base (1 * n + 1) "_law_line" ["_law_thought_here"] (sp__law_line71 Z.K (n + 1)) := okc Bz D rk__law_line71 bd1 (len := sl__law_line71) fun hr hu nd => (pss_cons (kset 1 nd (kix hu (pv 0) pe_int))
      (pss_cons (ps_for PassesOwn.never rfl (pi_tup (pe_slice sl_tup (pv 0) (po_some pe_int) (po_some pe_int))) (pg_name (i := 2) nd rfl (Or.inl rfl))
      (pss_one (kset 1 nd (pe_op op_cAdd (pe_op op_cAdd (pv 1) pe_str) (pe_callTy call_kStr rfl Bz.str_ bt_str (pa_cons (pv 2) pa_nil))))))
      (pss_cons (ps_if (pt_cmpR (op_cEq hu) (kix hu (pv 0) pe_int) pe_str (nomark _)) (pss_one (ps_ret (pe_op op_cAdd (pe_op op_cAdd (pe_op op_cAdd (pv 1) pe_str) (pe_bm PySem.F.plainAttrs_str PySem.F.slot_str_join PySem.F.type_str_join mt_kJoin pe_str (pa_cons (pe_comp (ix := [none, none]) [".0", "_law_inner"] (blk_ok2 rfl (by decide +kernel) rfl rfl rfl) rfl (pi_list (kix hu (pv 0) pe_int)) (fun cl s H fp => (pg_name (i := 1) (show ([".0", "_law_inner"] : List Str).Nodup by decide +kernel) rfl (Or.inl rfl))) (fun cl s H fp => pts_nil) (fun cl s H fp => (kcaO C__law_line hr (pa_cons (pv 1) pa_nil)))) pa_nil))) pe_str))) pss_nil)
      (pss_cons (ps_for PassesOwn.never rfl (pi_list (kix hu (pv 0) pe_int)) (pg_name (i := 2) nd rfl (Or.inl rfl))
      (pss_one (kset 1 nd (pe_op op_cAdd (pe_op op_cAdd (pv 1) pe_str) (pe_callTy call_kStr rfl Bz.str_ bt_str (pa_cons (pv 2) pa_nil))))))
      (pss_one (ps_ret (pv 1)))))))
abbrev s__law_odd_number : Stmt := top 29
theorem fn__law_odd_number (C__law_number : c__law_number Z) (D : De Z.K "_law_odd_number" s__law_odd_number) : c__law_odd_number Z := okc Bz D rk__law_odd_number71 bd1 fun hr hu nd => (pss_cons (kset 1 nd (kcal C__law_number hr (pa_cons (pe_op op_cDiv (pv 0) pe_int) pa_nil)))
      (pss_one (ps_ret (kix hu (pe_lst (pa_cons (pe_op op_cAdd pe_str (pe_callTy call_kStr rfl Bz.str_ bt_str (pa_cons (pv 1) pa_nil))) (pa_cons (pe_callTy call_kStr rfl Bz.str_ bt_str (pa_cons (pe_op op_cAdd pe_int (pv 1)) pa_nil)) (pa_cons (pe_op op_cAdd pe_str (pe_callTy call_kStr rfl Bz.str_ bt_str (pa_cons (pv 1) pa_nil))) (pa_cons (pe_op op_cAdd (pe_callTy call_kStr rfl Bz.str_ bt_str (pa_cons (pv 1) pa_nil)) pe_str) (pa_cons pe_str pa_nil)))))) (pe_op op_cMod (pv 0) pe_int)))))
abbrev s_read_plain : Stmt := top 19
theorem fn_read_plain (C_read_numbers : c_read_numbers Z) (G_KINDS : GTup Z.K Z.mg "KINDS" gt_KINDS) {a : EA} (EM : ErrMx Z.mg a) (R_NoText : Ref1 Z.K a "NoText" a.NoText (os71 a)) (D : De Z.K "read_plain" s_read_plain) : c_read_plain Z := by
  obtain ⟨f, fd, a0, F⟩ := D.ex
  have sc : FnScope ["text", "words", "numbers"] ["text"] (defScope s_read_plain) := by ac_rfl
  refine ⟨f, fd, F.ok1 sc (fun vs H Q E h => sl_read_plain71 h) (fun cdv A outer s H vs Q E hr h => ?_), Bz.ns a0, F.kp, F.binds bd1⟩
  have hu := hr.units
  have nd := sc.nd
  refine ⟨rd_read_plain71 Z.K a E, ?_, rk_read_plain71 R_NoText h⟩
  exact (pss_cons (kset 1 nd (pe_bm PySem.F.plainAttrs_str PySem.F.slot_str_split PySem.F.type_str_split mt_kSplit (pv 0) (pa_cons pe_str pa_nil)))
      (pss_cons (ps_if (PW.pt (pw_or (pt_ninG G_KINDS (kix hu (pv 1) pe_int) rfl) (pw_or1 (pt_cmpR op_cLt (pe_callB call_kLen rfl Bz.len_ bt_len (pa_cons (pv 1) pa_nil)) pe_int (nomark _))))) (pss_one (ps_raise R_NoText.xc rfl EM.NoText (pa_cons pe_str pa_nil))) pss_nil)
      (pss_cons (kset 2 nd (pe_cal1 (xe_pass fun _ _ _ z => z) C_read_numbers hr (by decide) rfl (pa_cons (pe_slice sl_c2 (pv 1) (po_some pe_int) po_none) pa_nil)))
      (pss_one (ps_ret (pe_tup (pa_cons (kix hu (pv 1) pe_int) (pa_cons (kix hu (pv 2) pe_int) (pa_cons (kix hu (pv 2) pe_int) (pa_cons (kix hu (pv 2) pe_int) (pa_cons (pe_slice sl_c2 (pv 2) (po_some pe_int) po_none) pa_nil)))))))))))
abbrev s__law_bent : Stmt := top 30
theorem fn__law_bent (C__law_odd_number : c__law_odd_number Z) (D : De Z.K "_law_bent" s__law_bent) : c__law_bent Z := okc Bz D rk__law_bent71 bd2 fun hr hu nd => by
  refine pss_cons ?_ ?_
  · exact (kset 2 nd (pe_op op_cAdd (pe_op op_cAdd pe_str (pe_callTy call_kStr rfl Bz.str_ bt_str (pa_cons (pe_op op_cMod (pe_op op_cDiv (pv 1) pe_int) pe_int) pa_nil))) pe_str))
  · refine pss_cons ?_ ?_
    · exact (kset 3 nd (pe_op op_cAdd (pv 2) pe_str))
    · refine pss_cons ?_ ?_
      · exact (ps_for PassesOwn.never rfl (pi_range1 rfl Bz.range_ (pa_cons pe_int pa_nil)) (pg_name (i := 4) nd rfl (Or.inl rfl)) (pss_one (kset 3 nd (pe_op op_cAdd (pe_op op_cAdd (pv 3) (pv 2)) pe_str))))
      · refine pss_cons ?_ ?_
        · exact (kset 5 nd (pe_bm PySem.F.plainAttrs_str PySem.F.slot_str_split PySem.F.type_str_split mt_kSplit (pv 0) (pa_cons pe_str pa_nil)))
        · refine pss_cons ?_ ?_
          · exact (kset 6 nd (pe_op op_cAdd (pe_op op_cAdd pe_str (kcal C__law_odd_number hr (pa_cons (pe_op op_cDiv (pv 1) pe_int) pa_nil))) pe_str))
          · refine pss_cons ?_ ?_
            · exact (kset 7 nd (pe_lst (pa_t3 (pe_op op_cAdd pe_str (pv 0)) (pe_addt (pv 0)) (pe_repl (i := 0) rfl (Or.inl rfl) rfl rfl) (pa_cons (pe_op op_cAdd (pv 0) pe_str) (pa_cons (pe_op op_cAdd pe_str (pv 0)) (pa_cons (pe_bm0 PySem.F.plainAttrs_str PySem.F.slot_str_upper PySem.F.type_str_upper mt_kUpper (pv 0)) (pa_cons (pv 6) pa_nil)))))))
            · refine pss_cons ?_ ?_
              · exact (kset 7 nd (pe_op op_cAdd (pv 7) (pe_lst (pa_cons (pe_bm PySem.F.plainAttrs_str PySem.F.slot_str_join PySem.F.type_str_join mt_kJoin pe_str (pa_cons (pe_slice sl_c2 (pv 5) po_none (po_some pe_int)) pa_nil)) (pa_cons pe_str (pa_cons (pe_op op_cAdd (pe_op op_cAdd pe_str (pv 0)) pe_str) (pa_cons (pe_op op_cAdd (pv 0) pe_str) (pa_cons (pe_op op_cAdd (pv 0) pe_str) (pa_cons (pv 2) (pa_cons (pe_op op_cAdd (pv 2) pe_str) pa_nil))))))))))
              · refine pss_cons ?_ ?_
                · exact (kset 7 nd (pe_op op_cAdd (pv 7) (pe_lst (pa_cons pe_str (pa_cons pe_str (pa_cons (pe_op op_cAdd (pe_op op_cAdd (pe_op op_cAdd (pv 2) pe_str) (pv 6)) pe_str) (pa_cons (pe_op op_cAdd (pv 3) (pe_op op_cRep pe_str pe_int)) (pa_cons pe_str pa_nil))))))))
                · refine pss_cons ?_ ?_
                  · exact (kset 7 nd (pe_op op_cAdd (pv 7) (pe_lst (pa_cons (pe_op op_cAdd (pv 0) pe_str) (pa_cons (pe_op op_cAdd (pv 0) pe_str) (pa_cons (pe_op op_cAdd (pv 0) pe_str) pa_nil))))))
                  · refine pss_cons ?_ ?_
                    · exact (kset 7 nd (pe_op op_cAdd (pv 7) (pe_lst (pa_cons (pe_op op_cAdd (pe_op op_cAdd pe_str (kcal C__law_odd_number hr (pa_cons (pe_op op_cDiv (pv 1) pe_int) pa_nil))) pe_str) (pa_cons (pe_op op_cAdd (pv 2) pe_str) pa_nil)))))
                    · refine pss_one ?_
                      · exact (ps_ret (kix hu (pv 7) (pe_op op_cMod (pv 1) pe_int)))
abbrev s_read_supposing : Stmt := top 20
theorem fn_read_supposing {n : Nat} (C_read_inner : c_read_inner Z n) (C_read_numbers : c_read_numbers Z) {t_SUPPOSE : Tok} (C_SUPPOSE : Z.mg "SUPPOSE" = some (.str (tx [115, 117, 112, 112, 111, 115, 101]) t_SUPPOSE)) {a : EA} (EM : ErrMx Z.mg a) (R_NoText : Ref1 Z.K a "NoText" a.NoText (os71 a)) (D : De Z.K "read_supposing" s_read_supposing) : c_read_supposing Z n := by
  obtain ⟨f, fd, a0, F⟩ := D.ex
  have sc : FnScope ["text", "depth", "parts", "words", "numbers"] ["text", "depth"] (defScope s_read_supposing) := by ac_rfl
  refine ⟨f, fd, F.ok1 sc (fun vs H Q E h => sl_read_supposing71 h) (fun cdv A outer s H vs Q E hr h => ?_), Bz.ns a0, F.kp, F.binds bd2⟩
  have hu := hr.units
  have nd := sc.nd
  refine ⟨rd_read_supposing71 Z.K a E n, ?_, rk_read_supposing71 R_NoText h⟩
  exact (pss_cons (kset 2 nd (pe_bm PySem.F.plainAttrs_str PySem.F.slot_str_partition PySem.F.type_str_partition mt_kPart (pv 0) (pa_cons pe_str pa_nil)))
      (pss_cons (kset 3 nd (pe_bm PySem.F.plainAttrs_str PySem.F.slot_str_split PySem.F.type_str_split mt_kSplit (kix hu (pv 2) pe_int) (pa_cons pe_str pa_nil)))
      (pss_cons (ps_if (PW.pt (pw_or (pt_cmpR (op_cNe hu) (pe_callB call_kLen rfl Bz.len_ bt_len (pa_cons (pv 3) pa_nil)) pe_int (nomark _)) (pw_or1 (pt_not (pt_val (pe_bm PySem.F.plainAttrs_str PySem.F.slot_str_endswith PySem.F.type_str_endswith mt_kEnds (kix hu (pv 2) pe_int) (pa_cons pe_str pa_nil))))))) (pss_one (ps_raise R_NoText.xc rfl EM.NoText (pa_cons pe_str pa_nil))) pss_nil)
      (pss_cons (kset 4 nd (pe_cal1 (xe_pass fun _ _ _ z => z) C_read_numbers hr (by omega) rfl (pa_cons (pe_slice sl_c2 (pv 3) (po_some pe_int) po_none) pa_nil)))
      (pss_one (ps_ret (pe_tup (pa_cons (pe_glob rfl C_SUPPOSE ⟨t_SUPPOSE, rfl⟩) (pa_cons (kix hu (pv 4) pe_int) (pa_cons (kix hu (pv 4) pe_int) (pa_cons (kix hu (pv 4) pe_int) (pa_cons (pe_cal1 (xe_pass fun _ _ _ z => z) C_read_inner hr (by omega) rfl (pa_cons (pe_slice sl_c2 (kix hu (pv 2) pe_int) po_none (po_some (pe_un un_neg pe_int))) (pa_cons (pe_op op_cAdd (pv 1) pe_int) pa_nil))) pa_nil))))))))))))
abbrev s_read_thought : Stmt := top 21
theorem fn_read_thought {n : Nat} (C_read_plain : c_read_plain Z) (C_read_supposing : c_read_supposing Z n) {t_SUPPOSE : Tok} (C_SUPPOSE : Z.mg "SUPPOSE" = some (.str (tx [115, 117, 112, 112, 111, 115, 101]) t_SUPPOSE)) (D : De Z.K "read_thought" s_read_thought) : c_read_thought Z n := by
  obtain ⟨f, fd, a0, F⟩ := D.ex
  have sc : FnScope ["text", "depth"] ["text", "depth"] (defScope s_read_thought) := by ac_rfl
  refine ⟨f, fd, F.ok1 sc (fun vs H Q E h => sl_read_thought71 h) (fun cdv A outer s H vs Q E hr h => ?_), Bz.ns a0, F.kp, F.binds bd2⟩
  have hu := hr.units
  have nd := sc.nd
  refine ⟨rd_read_thought71 Z.K E n, ?_, rk_read_thought71 h⟩
  exact (pss_cons (ps_if (pt_val (pe_bm PySem.F.plainAttrs_str PySem.F.slot_str_startswith PySem.F.type_str_startswith mt_kStarts (pv 0) (pa_cons (pe_op op_cAdd (pe_glob rfl C_SUPPOSE ⟨t_SUPPOSE, rfl⟩) pe_str) pa_nil))) (pss_one (ps_ret (pe_cal1 (xe_pass fun _ _ _ z => z) C_read_supposing hr (by omega) rfl (pa_cons (pv 0) (pa_cons (pv 1) pa_nil))))) pss_nil)
      (pss_one (ps_ret (pe_cal1 (xe_pass fun _ _ _ z => z) C_read_plain hr (by omega) rfl (pa_cons (pv 0) pa_nil)))))
abbrev s_read_inner : Stmt := top 22
theorem fn_read_inner {n : Nat} (C_read_thought : c_read_thought Z n) (C_thought_texts : c_thought_texts Z) {t_MOST_BOOKS : Tok} (C_MOST_BOOKS : Z.mg "MOST_BOOKS" = some (.int 16 t_MOST_BOOKS)) {a : EA} (EM : ErrMx Z.mg a) (R_NoText : Ref1 Z.K a "NoText" a.NoText (os71 a)) (D : De Z.K "read_inner" s_read_inner) : Cal1 Z.P Z.w Z.K Z.mg Z.base (3 * n + 6) "read_inner" ["text", "depth"] (sp_read_inner71 Z.K (n + 1)) := by
  obtain ⟨f, fd, a0, F⟩ := D.ex
  have sc : FnScope ["text", "depth"] ["text", "depth"] (defScope s_read_inner) := by ac_rfl
  refine ⟨f, fd, F.ok1 sc (fun vs H Q E h => sl_read_inner71 h) (fun cdv A outer s H vs Q E hr h => ?_), Bz.ns a0, F.kp, F.binds bd2⟩
  have hu := hr.units
  have nd := sc.nd
  refine ⟨rd_read_inner71 Z.K a E n, ?_, rk_read_inner71 R_NoText h⟩
  exact (pss_cons (ps_if (pt_cmpR op_cGt (pv 1) (pe_glob rfl C_MOST_BOOKS ⟨t_MOST_BOOKS, rfl⟩) (nomark _)) (pss_one (ps_raise R_NoText.xc rfl EM.NoText (pa_cons pe_str pa_nil))) pss_nil)
      (pss_cons (ps_if (pt_cmpR (op_cEq hu) (pv 0) pe_str (nomark _)) (pss_one (ps_ret (pe_lst pa_nil))) pss_nil)
      (pss_one (ps_ret (pe_comp (ix := [none, none, some 1]) [".0", "part", "depth"] (blk_ok2 rfl (by decide +kernel) rfl rfl rfl) rfl (pi_list (pe_cal1 (xe_pass fun _ _ _ z => z) C_thought_texts hr (by omega) rfl (pa_cons (pv 0) pa_nil))) (fun cl s H fp => (pg_name (i := 1) (show ([".0", "part", "depth"] : List Str).Nodup by decide +kernel) rfl (Or.inl rfl))) (fun cl s H fp => pts_nil) (fun cl s H fp => (pe_cal1 (xe_blk fun _ _ _ z => z) C_read_thought hr (by omega) rfl (pa_cons (pv 1) (pa_cons (pv 2) pa_nil)))))))))
abbrev s_read_book : Stmt := top 23
theorem fn_read_book (C_read_inner : c_read_inner Z 17) (C_refuse_no_text : c_refuse_no_text Z) (D : De Z.K "read_book" s_read_book) : c_read_book Z := by
  obtain ⟨f, fd, a0, F⟩ := D.ex
  have sc : FnScope ["text"] ["text"] (defScope s_read_book) := by ac_rfl
  refine ⟨f, fd, F.ok1 sc (fun vs H Q E h => sl_read_book71 h) (fun cdv A outer s H vs Q E hr h => ?_), Bz.ns a0, F.kp, F.binds bd1⟩
  have hu := hr.units
  have nd := sc.nd
  refine ⟨rd_read_book71 Z.K E, ?_, rk_read_book71 h⟩
  exact (pss_cons (ps_expr (pe_cal1 (xe_pass fun _ _ _ z => z) C_refuse_no_text hr (by decide) rfl (pa_cons (pv 0) pa_nil)))
      (pss_one (ps_ret (pe_cal1 (xe_pass fun _ _ _ z => z) C_read_inner hr (by decide) rfl (pa_cons (pv 0) (pa_cons pe_int pa_nil))))))
abbrev s__law_refused : Stmt := top 31
theorem fn__law_refused (C_read_book : c_read_book Z) {a : EA} (EM : ErrMx Z.mg a) (R_NoText : Ref1 Z.K a "NoText" a.NoText (os71 a)) (BV : Z.mg "ValueError" = none) (D : De Z.K "_law_refused" s__law_refused) : c__law_refused Z := okc Bz D (fun h => rk__law_refused71 R_NoText h) bd1 fun hr hu nd => (pss_cons (kset 1 nd pe_non)
      (pss_cons (ps_trye (i := 2) (fun _ _ z => z) C_read_book hr (by decide) rfl (pa_cons (pv 0) pa_nil) nd rfl rfl rfl EM.ClueError rfl rfl (fun _ => (pss_one (kset 1 nd (pv 2)))))
      (pss_cons (ps_if (PW.pt (pw_or (pt_val (pe_callB call_kIsX rfl Bz.isinstance_ bt_isinstance (pa_cons (pv 1) (pa_cons (pe_glob rfl EM.NoRule rfl) pa_nil)))) (pw_or (pt_val (pe_callB call_kIsX rfl Bz.isinstance_ bt_isinstance (pa_cons (pv 1) (pa_cons (pe_glob rfl EM.NoFilling rfl) pa_nil)))) (pw_or1 (pt_val (pe_callB call_kIsX rfl Bz.isinstance_ bt_isinstance (pa_cons (pv 1) (pa_cons (pe_glob rfl EM.NoRow rfl) pa_nil)))))))) (pss_one (ps_ret pe_bl)) pss_nil)
      (pss_one (ps_ret (pe_and (pe_callB call_kIsX rfl Bz.isinstance_ bt_isinstance (pa_cons (pv 1) (pa_cons (pe_glob rfl EM.NoText rfl) pa_nil))) (pe_and (pe_callB call_kIsX rfl Bz.isinstance_ bt_isinstance (pa_cons (pv 1) (pa_cons (pe_bltn (v := .ty "ValueError") rfl BV bt_ValueError rfl) pa_nil))) (pe_one (pe_not (pe_callB call_kIsX rfl Bz.isinstance_ bt_isinstance (pa_cons (pv 1) (pa_cons (pe_glob rfl EM.BadThought rfl) pa_nil))))))))))))
abbrev s_law : Stmt := top 32
theorem fn_law (C__law_bent : c__law_bent Z) (C__law_cell_at : c__law_cell_at Z) (C__law_line : c__law_line Z 2) (C__law_refused : c__law_refused Z) (C__law_thought : c__law_thought Z) (C_read_book : c_read_book Z) {f : Addr} {fd : FuncData} (F : Fun Z.K "law" "law" s_law f fd) : FnOk Z.P Z.w Z.K Z.mg Z.base CX0 57 f fd ["_law_script"] (sp_law Z.K) := okf F (by ac_rfl) rk_law (fun hr hu nd => (pss_cons (ps_comp (k := 2) nd rfl (Or.inl rfl) rfl (ix := [none, none, some 0]) [".0", "_law_k", "_law_script"] (blk_ok2 rfl (by decide +kernel) rfl rfl rfl) rfl (pi_range1 rfl Bz.range_ (pa_cons (pe_op op_cAdd pe_int (pe_op op_cMod (kcal C__law_cell_at hr (pa_cons (pv 0) (pa_cons pe_int pa_nil))) pe_int)) pa_nil)) (fun cl s H fp => (pg_name (i := 1) (show ([".0", "_law_k", "_law_script"] : List Str).Nodup by decide +kernel) rfl (Or.inl rfl))) (fun cl s H fp => pts_nil) (fun cl s H fp => (kcal C__law_thought hr (pa_cons (pv 2) (pa_cons (pe_op op_cAdd (pe_op op_cMul pe_int (pv 1)) pe_int) pa_nil)))))
      (pss_cons (ps_comp (k := 3) nd rfl (Or.inl rfl) rfl (ix := [none, none]) [".0", "_law_thought_here"] (blk_ok2 rfl (by decide +kernel) rfl rfl rfl) rfl (pi_list (pv 2)) (fun cl s H fp => (pg_name (i := 1) (show ([".0", "_law_thought_here"] : List Str).Nodup by decide +kernel) rfl (Or.inl rfl))) (fun cl s H fp => pts_nil) (fun cl s H fp => (kcal C__law_line hr (pa_cons (pv 1) pa_nil))))
      (pss_cons (kset 4 nd (pe_bm PySem.F.plainAttrs_str PySem.F.slot_str_join PySem.F.type_str_join mt_kJoin pe_str (pa_cons (pv 3) pa_nil)))
      (pss_cons (ps_if (pt_cmpR (op_cNe hu) (pe_cal1 pass1 C_read_book hr (by decide) rfl (pa_cons (pv 4) pa_nil)) (pv 2) (nomark _)) (pss_one (ps_ret pe_bl)) pss_nil)
      (pss_cons (ps_for PassesOwn.never rfl (pi_range1 rfl Bz.range_ (pa_cons (pe_op op_cAdd pe_int (pe_callB (call_kMin rfl) rfl Bz.min_ bt_min (pa_cons (pe_callB call_len_seq rfl Bz.len_ bt_len (pa_cons (pv 0) pa_nil)) (pa_cons pe_int pa_nil)))) pa_nil)) (pg_name (i := 1) nd rfl (Or.inl rfl))
      (pss_cons (kset 5 nd (kcal C__law_cell_at hr (pa_cons (pv 0) (pa_cons (pe_op op_cAdd pe_int (pv 1)) pa_nil))))
      (pss_cons (kset 6 nd (pe_op op_cMod (pe_op op_cDiv (pv 5) pe_int) (pe_callB call_kLen rfl Bz.len_ bt_len (pa_cons (pv 3) pa_nil))))
      (pss_cons (kset 7 nd (pe_callTy call_kList rfl Bz.list_ bt_list (pa_cons (pv 3) pa_nil)))
      (pss_cons (ps_asg (kcal C__law_bent hr (pa_cons (kix hu (pv 3) (pv 6)) (pa_cons (pv 5) pa_nil))) (pg_sub (pv 7) (pv 6) (set_c hu)))
      (pss_cons (ps_if (PW.pt (pw_and (pt_cmpR (op_cEq hu) (pe_callB call_kLen rfl Bz.len_ bt_len (pa_cons (pv 3) pa_nil)) pe_int (nomark _)) (pw_and1 (pt_cmpR (op_cEq hu) (kix hu (pv 7) pe_int) pe_str (nomark _))))) (pss_one (ps_expr (pe_bm PySem.F.plainAttrs_list PySem.F.slot_list_append PySem.F.type_list_append mt_kAppend (pv 7) (pa_cons pe_str pa_nil)))) pss_nil)
      (pss_one (ps_if (pt_not (pt_val (kcal C__law_refused hr (pa_cons (pe_bm PySem.F.plainAttrs_str PySem.F.slot_str_join PySem.F.type_str_join mt_kJoin pe_str (pa_cons (pv 7) pa_nil)) pa_nil)))) (pss_one (ps_ret pe_bl)) pss_nil))))))))
      (pss_one (ps_ret (pe_cmpR (op_cEq hu) (pe_cal1 pass1 C_read_book hr (by decide) rfl (pa_cons (pv 4) pa_nil)) (pv 2) (nomark _)))))))))) (by walk_at "l")
end
set_option maxHeartbeats 40000000 in
theorem all_mk {l : PySem.W.OpenLaw} {w : World} {K : PySem.W.Frag} {h : Heap} {mg : Str → Option Value} {fa : Addr} (X : K.In h) (G : h.Ns mainGlobals mg) (hfa : mg "law" = some (.ref fa)) {tk_BETWEEN_ROWS tk_FIGURES tk_MOST_BOOKS tk_MOST_FIGURES tk_SUPPOSE : Tok} {x_ClueError x_NoFilling x_NoRule x_NoText x_NoRow x_BadThought : Addr} {cE cC0 : Value} {dE dD : Option Addr} {esE : Array DictEntry} {nE : Nat} {sE slD : Array (Option Value)} {ND : Addr} {cdD : ClassData} {nm_NoText q_NoText : Str} {N_NoText : Addr} {bs_NoText : List Value} {hd_NoText : Bool} {sn_NoText : List Str} {sub_NoText : List Value} {ab_NoText : Bool} {col_NoText : Option Bool} {dd_NoText : Option Addr} {k0_NoText k1_NoText k2_NoText k3_NoText k5_NoText : Option Value} {cN_NoText : Value} {dN_NoText : Option Addr} {es_NoText : Array DictEntry} {n_NoText : Nat} {sN_NoText : Array (Option Value)}
    (e_ClueError : PySem.W.nsIn K mainGlobals "ClueError" = some (some (.ref x_ClueError))) (e_NoFilling : PySem.W.nsIn K mainGlobals "NoFilling" = some (some (.ref x_NoFilling))) (e_NoRule : PySem.W.nsIn K mainGlobals "NoRule" = some (some (.ref x_NoRule))) (e_NoText : PySem.W.nsIn K mainGlobals "NoText" = some (some (.ref x_NoText))) (e_NoRow : PySem.W.nsIn K mainGlobals "NoRow" = some (some (.ref x_NoRow))) (e_BadThought : PySem.W.nsIn K mainGlobals "BadThought" = some (some (.ref x_BadThought))) (z_ValueError : PySem.W.nsIn K mainGlobals "ValueError" = some none) (D1 : K.lookup x_ClueError = some ⟨cC0, dD, .cls cdD, slD⟩) (D2 : cdD.ns = ND) (D3 : K.lookup ND = some ⟨cE, dE, .dict esE nE, sE⟩) (D4 : noInitE esE = true) (r1_NoText : K.lookup x_NoText = some (excClassObj nm_NoText q_NoText x_NoText N_NoText bs_NoText (.ref x_ClueError :: VE) hd_NoText sn_NoText sub_NoText ab_NoText col_NoText dd_NoText k0_NoText k1_NoText k2_NoText k3_NoText k5_NoText "ValueError.__new__")) (r2_NoText : K.lookup N_NoText = some ⟨cN_NoText, dN_NoText, .dict es_NoText n_NoText, sN_NoText⟩) (r3_NoText : noInitE es_NoText = true) (f1_NoText : PySem.W.findIn K (.ref x_NoText) "__getattribute__" = some (some (.builtin "BaseException.__getattribute__"))) (f2_NoText : PySem.W.findIn K (.ref x_NoText) "__getattr__" = some none) (f3_NoText : PySem.W.findIn K (.ref x_NoText) "__class__" = some (some (.builtin "object.__class__"))) (f4_NoText : PySem.W.mroIn K x_NoText (.type "object") = some true) (f5_NoText : PySem.W.mroIn K x_NoText (.type "BaseException") = some true) (f6_NoText : PySem.W.kitOne K (.ref x_NoText) (.type "ValueError") = some true) (f7_NoText : PySem.W.exmOne K (.ref x_NoText) (.ref x_ClueError) = some true) (g_NoText_NoFilling : PySem.W.kitOne K (.ref x_NoText) (.ref x_NoFilling) = some false) (g_NoText_NoRule : PySem.W.kitOne K (.ref x_NoText) (.ref x_NoRule) = some false) (g_NoText_NoRow : PySem.W.kitOne K (.ref x_NoText) (.ref x_NoRow) = some false) (g_NoText_BadThought : PySem.W.kitOne K (.ref x_NoText) (.ref x_BadThought) = some false) (Df0 : De K "number_in" s_number_in) (Df1 : De K "refuse_no_text" s_refuse_no_text) (Df2 : De K "thought_texts" s_thought_texts) (Df3 : De K "_law_cell_at" s__law_cell_at) (Df4 : De K "_law_number" s__law_number) (Df5 : De K "read_numbers" s_read_numbers) (Df6 : De K "_law_thought" s__law_thought) (Df7 : De K "_law_line" s__law_line) (Df8 : De K "_law_odd_number" s__law_odd_number) (Df9 : De K "read_plain" s_read_plain) (Df10 : De K "_law_bent" s__law_bent) (Df11 : De K "read_supposing" s_read_supposing) (Df12 : De K "read_thought" s_read_thought) (Df13 : De K "read_inner" s_read_inner) (Df14 : De K "read_book" s_read_book) (Df15 : De K "_law_refused" s__law_refused) (Df16 : De K "law" s_law) (g_KINDS : GT0 K "KINDS" gt_KINDS) (kc_BETWEEN_ROWS : PySem.W.nsIn K mainGlobals "BETWEEN_ROWS" = some (some (.str (tx [59, 32]) tk_BETWEEN_ROWS))) (kc_FIGURES : PySem.W.nsIn K mainGlobals "FIGURES" = some (some (.str (tx [48, 49, 50, 51, 52, 53, 54, 55, 56, 57]) tk_FIGURES))) (kc_MOST_BOOKS : PySem.W.nsIn K mainGlobals "MOST_BOOKS" = some (some (.int 16 tk_MOST_BOOKS))) (kc_MOST_FIGURES : PySem.W.nsIn K mainGlobals "MOST_FIGURES" = some (some (.int 9 tk_MOST_FIGURES))) (kc_SUPPOSE : PySem.W.nsIn K mainGlobals "SUPPOSE" = some (some (.str (tx [115, 117, 112, 112, 111, 115, 101]) tk_SUPPOSE))) (z : Zn K) :
    ∃ fd : FuncData, (∀ (s : Shared) (v : Value), BindsTo s fd ⟨[v], []⟩ [("_law_script", v)]) ∧ ∀ base : Heap, K.In base → base.Ns mainGlobals mg → FnOk l.prog w K mg base CX0 57 fa fd ["_law_script"] (sp_law0 K) := by
  obtain ⟨f, fd, a, F⟩ := Df16.ex
  have e := hfa.symm.trans (PySem.W.mg_of X G a)
  cases e
  obtain ⟨oc, od, kV, doc, pm, an, cdv, ct, osl, rfl, lk, hcd⟩ := F.ex
  refine ⟨PySem.W.fnOf "law" "law" (defArgs s_law) (defBody s_law) (defScope s_law) .none kV doc pm an cdv ct, fun s v => .of_eq rfl, fun base _ _ => ?_⟩
  let Z : Z5 := ⟨l.prog, w, K, mg, base⟩
  have Bz : Bt3 Z := bt3_of X G z
  have C_BETWEEN_ROWS := Bz.ns kc_BETWEEN_ROWS
  have C_FIGURES := Bz.ns kc_FIGURES
  have C_MOST_BOOKS := Bz.ns kc_MOST_BOOKS
  have C_MOST_FIGURES := Bz.ns kc_MOST_FIGURES
  have C_SUPPOSE := Bz.ns kc_SUPPOSE
  have EM : ErrMx Z.mg (⟨x_ClueError, x_ClueError, x_NoFilling, x_NoRule, x_ClueError, x_ClueError, x_ClueError, x_ClueError, x_NoText, x_ClueError, x_NoRow, x_BadThought⟩ : EA) := ⟨Bz.ns e_ClueError, Bz.ns e_NoFilling, Bz.ns e_NoRule, Bz.ns e_NoText, Bz.ns e_NoRow, Bz.ns e_BadThought⟩
  have BV : Z.mg "ValueError" = none := PySem.W.mg_none_of X G z_ValueError
  have R_NoText : Ref1 Z.K (⟨x_ClueError, x_ClueError, x_NoFilling, x_NoRule, x_ClueError, x_ClueError, x_ClueError, x_ClueError, x_NoText, x_ClueError, x_NoRow, x_BadThought⟩ : EA) "NoText" x_NoText (os71 (⟨x_ClueError, x_ClueError, x_NoFilling, x_NoRule, x_ClueError, x_ClueError, x_ClueError, x_ClueError, x_NoText, x_ClueError, x_NoRow, x_BadThought⟩ : EA)) := ⟨e_NoText, xc_of r1_NoText r2_NoText r3_NoText D1 D2 D3 D4, ⟨f1_NoText, f2_NoText, f3_NoText, f4_NoText, f5_NoText⟩, f6_NoText, f7_NoText, (List.forall_mem_cons.mpr ⟨g_NoText_NoFilling, (List.forall_mem_cons.mpr ⟨g_NoText_NoRule, (List.forall_mem_cons.mpr ⟨g_NoText_NoRow, (List.forall_mem_cons.mpr ⟨g_NoText_BadThought, (fun _ z => nomatch z)⟩)⟩)⟩)⟩)⟩
  have G_KINDS := g_KINDS.of Bz
  have C_number_in := fn_number_in Bz C_FIGURES C_MOST_FIGURES Df0
  have C_refuse_no_text := fn_refuse_no_text Bz EM R_NoText Df1
  have C_thought_texts := fn_thought_texts Bz C_BETWEEN_ROWS EM R_NoText Df2
  have C__law_cell_at := fn__law_cell_at Bz Df3
  have C__law_number := fn__law_number Bz Df4
  have C_read_numbers := fn_read_numbers Bz C_number_in EM R_NoText Df5
  have C__law_thought := fn__law_thought Bz C__law_cell_at C__law_number Df6
  have C__law_line : ∀ n, c__law_line Z n := fun n => by
    induction n with
    | zero => exact calF Bz Df7 bd1 z0__law_line71
    | succ n ih =>
      have C__law_line := ih
      exact Cal.up (fn__law_line Bz C__law_line Df7) (by omega)
  have C__law_odd_number := fn__law_odd_number Bz C__law_number Df8
  have C_read_plain := fn_read_plain Bz C_read_numbers G_KINDS EM R_NoText Df9
  have C__law_bent := fn__law_bent Bz C__law_odd_number Df10
  have C_read_inner : ∀ n, c_read_inner Z n := fun n => by
    induction n with
    | zero => exact calF1 Bz Df13 bd2 z0_read_inner71
    | succ n ih =>
      have C_read_inner := ih
      have C_read_supposing := fn_read_supposing Bz C_read_inner C_read_numbers C_SUPPOSE EM R_NoText Df11
      have C_read_thought := fn_read_thought Bz C_read_plain C_read_supposing C_SUPPOSE Df12
      exact Cal1.up (fn_read_inner Bz C_read_thought C_thought_texts C_MOST_BOOKS EM R_NoText Df13) (by omega)
  have C_read_book := fn_read_book Bz (C_read_inner 17) C_refuse_no_text Df14
  have C__law_refused := fn__law_refused Bz C_read_book EM R_NoText BV Df15
  exact fn_law Bz C__law_bent C__law_cell_at (C__law_line 2) C__law_refused C__law_thought C_read_book F
theorem walk {l : PySem.W.OpenLaw} {q : Program} {loose : List Str} {XP : (Str → Option Value) → Heap → Prop} {YP : World → Heap → Prop} {d : DefRec} {K : Params → PySem.W.Frag} (hn : l.most = some 63) (hdf : d.params.defaults = [])
    (hY : ∀ (w : World) (h : Heap), YP w h → (K w.params).In h)
    (F : ∀ (w : World) (mg : Str → Option Value) (fa : Addr) (h : Heap), (K w.params).In h → h.Ns mainGlobals mg → mg d.name = some (.ref fa) →
      ∃ fd : FuncData, (∀ (s : Shared) (u : Value), BindsTo s fd ⟨[u], []⟩ [("_law_script", u)]) ∧ ∀ base : Heap, (K w.params).In base → base.Ns mainGlobals mg → FnOk l.prog w (K w.params) mg base CX0 57 fa fd ["_law_script"] (sp_law0 (K w.params))) :
    PySem.W.WalkO q loose XP YP l.row.toRowW d [] (fun f vs => PySem.call f vs) :=
  L2.walk_of (n := 63) (k := 57) (x := "_law_script") (CX := fun _ => CX0) (sp := fun w => sp_law0 (K w.params)) hn (by decide) hdf ⟨rfl, by decide, by decide⟩ hY F (fun _ _ a ns hl _ hS => ⟨a, ns, rfl, hS, hl, fun _ => rfl⟩) fun _ _ _ _ _ z => z
end L2
set_option Elab.async false
set_option linter.all false
set_option maxRecDepth 100000
open PySem PySem.W PyProof.Rows
set_option maxRecDepth 100000 in
def PySem.W.Fast.tw12380926479030076593 : Unit := ()
def PySem.W.Fast.tw3623701987096989388 : Unit := ()
def PySem.W.Fast.tw3250699328357934100 : Unit := ()
def PySem.W.Fast.tw3817406193328591702 : Unit := ()
def PySem.W.Fast.tw3622306852012828235 : Unit := ()
def PySem.W.Fast.tw8652527322244906317 : Unit := ()
def PySem.W.Fast.tw15392469341156851719 : Unit := ()
def PySem.W.Fast.tw13223396006313326676 : Unit := ()
def PySem.W.Fast.tw16448376200068731296 : Unit := ()
def PySem.W.Fast.tw3808876961884311984 : Unit := ()
def PySem.W.Fast.tw7559426560707416299 : Unit := ()
def PySem.W.Fast.tw3519968747608304050 : Unit := ()
def PySem.W.Fast.tw319354271799928968 : Unit := ()
def PySem.W.Fast.tw17834370476833438282 : Unit := ()
def PySem.W.Fast.tw5748125258727009377 : Unit := ()
def PySem.W.Fast.tw5969609522545565814 : Unit := ()
def PySem.W.Fast.tw7694367521468311907 : Unit := ()
def PySem.W.Fast.tw3701220476522357408 : Unit := ()
def PySem.W.Fast.tw9426345312124457718 : Unit := ()
def PySem.W.Fast.tw2484033292379736216 : Unit := ()
def PySem.W.Fast.tw639696342031340461 : Unit := ()
def PySem.W.Fast.tw5151907354544877769 : Unit := ()
def PySem.W.Fast.tw4141097628044817665 : Unit := ()
def PySem.W.Fast.tw16222177961368561624 : Unit := ()
def PySem.W.Fast.tw13200801455283550233 : Unit := ()
def PySem.W.Fast.tw802164239098850665 : Unit := ()
def PySem.W.Fast.tw9196042042988999094 : Unit := ()
def PySem.W.Fast.tw4247182913866824077 : Unit := ()
def PySem.W.Fast.tw3667855683397587132 : Unit := ()
def PySem.W.Fast.tw13863779376041299962 : Unit := ()
def PySem.W.Fast.tw16447273019293266939 : Unit := ()
def PySem.W.Fast.tw7957230410939530666 : Unit := ()
def PySem.W.Fast.tw6789378717332219038 : Unit := ()
def PySem.W.Fast.tw14667168849644426570 : Unit := ()
def PySem.W.Fast.tw14175575581500448945 : Unit := ()
def PySem.W.Fast.tw9593360751167067565 : Unit := ()
def PySem.W.Fast.tw16272900101054118719 : Unit := ()
def PySem.W.Fast.tw12068405503446829204 : Unit := ()
def PySem.W.Fast.tw15198698863899500444 : Unit := ()
def PySem.W.Fast.tw9762162994570870231 : Unit := ()
def PySem.W.Fast.tw11404536963418791330 : Unit := ()
def PySem.W.Fast.tw10958694889406126227 : Unit := ()
def PySem.W.Fast.tw15573185986227391893 : Unit := ()
def PySem.W.Fast.tw11952319342584316230 : Unit := ()
def PySem.W.Fast.tw5014224108126216761 : Unit := ()
def PySem.W.Fast.tw1255368481971190234 : Unit := ()
def PySem.W.Fast.tw4712887048085091111 : Unit := ()
def PySem.W.Fast.tw6917574337629443090 : Unit := ()
def PySem.W.Fast.tw11285526342710647759 : Unit := ()
def PySem.W.Fast.tw3026377138374922137 : Unit := ()
def PySem.W.Fast.tw14754974427521254311 : Unit := ()
def PySem.W.Fast.tw15070813093720322530 : Unit := ()
def PySem.W.Fast.tw2677781429170527656 : Unit := ()
def PySem.W.Fast.tw9094476792691161881 : Unit := ()
def PySem.W.Fast.tw3016204357718202066 : Unit := ()
def PySem.W.Fast.tw12470965546824780574 : Unit := ()
def PySem.W.Fast.tw17247237480033287433 : Unit := ()
def PySem.W.Fast.tw9075585843515965636 : Unit := ()
def PySem.W.Fast.tw13105785399638079106 : Unit := ()
def PySem.W.Fast.tw13783994613776699831 : Unit := ()
def PySem.W.Fast.tw2433880485642215010 : Unit := ()
def PySem.W.Fast.tw188125200865268843 : Unit := ()
set_option maxHeartbeats 0 in
theorem PySem.Challenge.cw_cluemaker_k71_texts_of_books_refused_holds : PySem.Challenge.rw_cluemaker_k71_texts_of_books_refused.Holds := by
  w_on; o_law; k_head; (case hw => w_witness2)
  k_fill
  refine L2.walk (l := PySem.Challenge.rw_cluemaker_k71_texts_of_books_refused) rfl rfl (fun w h Y => PySem.W.kIn_of Y) ?F
  case F =>
    intro w mg fa h KX G hmg
    refine' L2.all_mk KX G hmg ?e_ClueError ?e_NoFilling ?e_NoRule ?e_NoText ?e_NoRow ?e_BadThought ?z_ValueError ?D1 ?D2 ?D3 ?D4 ?r1_NoText ?r2_NoText ?r3_NoText ?f1_NoText ?f2_NoText ?f3_NoText ?f4_NoText ?f5_NoText ?f6_NoText ?f7_NoText ?g_NoText_NoFilling ?g_NoText_NoRule ?g_NoText_NoRow ?g_NoText_BadThought ?_ ?_ ?_ ?_ ?_ ?_ ?_ ?_ ?_ ?_ ?_ ?_ ?_ ?_ ?_ ?_ ?_ ?_ ?_ ?_ ?_ ?_ ?_ ?_
    (case e_ClueError => k_is)
    (case e_NoFilling => k_is)
    (case e_NoRule => k_is)
    (case e_NoText => k_is)
    (case e_NoRow => k_is)
    (case e_BadThought => k_is)
    (case z_ValueError => k_is)
    (case D1 => k_is)
    (case D2 => exact rfl)
    (case D3 => k_is)
    (case D4 => first | kernel_rfl | exact rfl)
    (case r1_NoText => k_is)
    (case r2_NoText => k_is)
    (case r3_NoText => first | kernel_rfl | exact rfl)
    (case f1_NoText => k_is)
    (case f2_NoText => k_is)
    (case f3_NoText => k_is)
    (case f4_NoText => k_is)
    (case f5_NoText => k_is)
    (case f6_NoText => kit_is)
    (case f7_NoText => kts_exm)
    (case g_NoText_NoFilling => kit_is)
    (case g_NoText_NoRule => kit_is)
    (case g_NoText_NoRow => kit_is)
    (case g_NoText_BadThought => kit_is)
    all_goals first
      | (refine' L2.De.of ?a (L2.fun_mk ?l ?c ?k); (case a => k_is); (case l => k_is); (case c => k_is); case k => k_is)
      | (refine' L2.GT0.mk' ?a ?b ?x ?y ?c ?d; (case a => k_is); (case b => k_is); (case x => rfl); (case y => rfl); (case c => exact Nat.le_of_lt (L2.small1000 (by decide))); (case d => repeat' (first | exact .nil | refine' .cons ⟨_, rfl⟩ ?_)))
      | (unfold L2.Zn; refine' ⟨?_, ?_, ?_, ?_, ?_, ?_, ?_, ?_, ?_, ?_, ?_, ?_, ?_, ?_, ?_, ?_, ?_, ?_, ?_⟩ <;> (unfold L2.Nn; k_is))
      | (unfold L2.Nn; k_is)
      | k_is
      | skip
